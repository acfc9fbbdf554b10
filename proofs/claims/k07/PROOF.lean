import PyProof.Rows.All
import Wide.All
import OpenK.AllK
import Wide.FinOn
import Lean
import PyProof.EqAt
import PyProof.EqKinds
import PyProof.TupleCall
import KE.KLam
import KE.KSortTup
import KE.KMinKey
import OpenK.KOwn
import KE.KIsAll
import PyProof.ExcArgsOwn
import PyProof.ExcAttrAll.ValueError
import KE.KRevIter
import PyProof.WalksEnum
import PyProof.ZipIter
import PyProof.ConsumeWalk
import PyProof.LayNew
import PyProof.ExcClass2
import PyProof.InstStoreFacts
import PySem.Challenge.RW_fewpegs_k07_refused_makings
set_option Elab.async false
set_option linter.all false
set_option maxRecDepth 100000
/-! THE HAND LAYER, for ints, bools, texts, own classes, LISTS and tuples (index, slices, in, append, pop ..), calls, loops. Paste it whole ahead of your own text; what your proof does not reach may be deleted. -/
namespace L2
open PySem PySem.Spec PyProof.Rows

/-- a key: an int or a str -/
abbrev Key := Sum Int Str
def keyIs : Key → Value → Bool
  | .inl k, v => Value.isInt k v
  | .inr x, v => Value.isStrOf x v
def keyH (w : World) : Key → Int
  | .inl k => hashInt k
  | .inr x => hashStr w x
theorem keyIs_shape : ∀ {k : Key} {v : Value}, keyIs k v = true → (∃ i t, k = Sum.inl i ∧ v = Value.int i t) ∨ (∃ x t, k = Sum.inr x ∧ v = Value.str x t)
  | .inl i, v, h => by
    obtain ⟨t, e⟩ := Value.isInt_shape (k := i) (v := v) h
    exact .inl ⟨i, t, rfl, e⟩
  | .inr x, v, h => by
    obtain ⟨t, e⟩ := Value.isStrOf_shape (x := x) (v := v) h
    exact .inr ⟨x, t, rfl, e⟩
theorem key_ll (a b : Int) : decide ((Sum.inl a : Key) = Sum.inl b) = (a == b) := by
  by_cases e : a = b
  · subst e; simp
  · have h : ¬ (Sum.inl a : Key) = Sum.inl b := fun q => e (Sum.inl.inj q)
    rw [decide_eq_false h]
    exact (beq_eq_false_iff_ne.mpr e).symm
theorem key_rr (a b : Str) : decide ((Sum.inr a : Key) = Sum.inr b) = decide (a = b) := by
  by_cases e : a = b
  · subst e; simp
  · have h : ¬ (Sum.inr a : Key) = Sum.inr b := fun q => e (Sum.inr.inj q)
    rw [decide_eq_false h, decide_eq_false e]
theorem key_lr (a : Int) (b : Str) : decide ((Sum.inl a : Key) = Sum.inr b) = false := decide_eq_false (fun q => nomatch q)
theorem key_rl (a : Str) (b : Int) : decide ((Sum.inr a : Key) = Sum.inl b) = false := decide_eq_false (fun q => nomatch q)

def mixKind (prog : Program) (w : World) : PySem.KeyKind prog w Key where
  is := keyIs
  hash := keyH w
  inj := fun v a b ha hb => by
    rcases keyIs_shape ha with ⟨i, t, rfl, rfl⟩ | ⟨x, t, rfl, rfl⟩
    · rcases keyIs_shape hb with ⟨j, u, rfl, e⟩ | ⟨y, u, rfl, e⟩
      · injection e with e1 _; rw [e1]
      · exact nomatch e
    · rcases keyIs_shape hb with ⟨j, u, rfl, e⟩ | ⟨y, u, rfl, e⟩
      · exact nomatch e
      · injection e with e1 _; rw [e1]
  byValue := fun k v h => by
    rcases keyIs_shape h with ⟨i, t, rfl, rfl⟩ | ⟨x, t, rfl, rfl⟩ <;> rfl
  pyHash := fun hv h => by
    rcases keyIs_shape hv with ⟨i, t, rfl, rfl⟩ | ⟨x, t, rfl, rfl⟩
    · exact wpAny_pyHash_int h
    · exact wpAny_pyHash_str h
  eqBool := fun hu hv h => by
    rcases keyIs_shape hu with ⟨i, t, rfl, rfl⟩ | ⟨x, t, rfl, rfl⟩
    · rcases keyIs_shape hv with ⟨j, u, rfl, rfl⟩ | ⟨y, u, rfl, rfl⟩
      · rw [key_ll] at h; exact wpAny_eqBool_int h
      · rw [key_lr] at h; exact SeqAt.EqAt.int_str i t y u _ _ _ _ h
    · rcases keyIs_shape hv with ⟨j, u, rfl, rfl⟩ | ⟨y, u, rfl, rfl⟩
      · rw [key_rl] at h; exact SeqAt.EqAt.str_int x t j u _ _ _ _ h
      · rw [key_rr] at h; exact wpAny_eqBool_str h
  «strs» := fun k x t v h => by
    rcases keyIs_shape h with ⟨i, u, rfl, e⟩ | ⟨y, u, rfl, e⟩
    · exact nomatch e
    · injection e with e1 _
      subst e1
      cases v <;> rfl

end L2

namespace L2
open PySem PySem.Spec PyProof.Rows

/-- a value, without the heap -/
inductive V where
  | non | bl (b : Bool) | int (i : Int) | str (x : Str) | byt (b : Array UInt8) | flt (b : UInt64) | ref (a : Addr) | ty (n : String)
  deriving DecidableEq

def RelV : V → Value → Prop
  | .non, u => u = Value.none
  | .bl b, u => u = Value.bool b
  | .int i, u => ∃ t, u = Value.int i t
  | .str x, u => ∃ t, u = Value.str x t
  | .byt b, u => ∃ t, u = Value.bytes b t
  | .flt b, u => ∃ t, u = Value.float b t
  | .ref a, u => u = Value.ref a
  | .ty n, u => u = Value.type n

abbrev Vals : List V → List Value → Prop := Paired RelV
theorem Vals.length {xs : List V} {us : List Value} (r : Vals xs us) : xs.length = us.length := Paired.length r
theorem Vals.get : ∀ {xs : List V} {us : List Value} {i : Nat} {x : V}, Vals xs us → xs[i]? = some x → ∃ u, us[i]? = some u ∧ RelV x u
  | _, _, _, _, .nil, e => by simp at e
  | _, _, 0, _, .cons r _, e => by simp at e; subst e; exact ⟨_, rfl, r⟩
  | _, _, i + 1, x, .cons _ t, e => by
    obtain ⟨u, h1, h2⟩ := Vals.get (i := i) (x := x) t (by simpa using e)
    exact ⟨u, by simpa using h1, h2⟩
theorem Vals.set {x : V} {u : Value} (r : RelV x u) : ∀ {xs : List V} {us : List Value} (i : Nat), Vals xs us → Vals (xs.set i x) (us.set i u)
  | _, _, _, .nil => .nil
  | _, _, 0, .cons _ t => .cons r t
  | _, _, i + 1, .cons q t => .cons q (Vals.set r i t)
theorem Vals.append : ∀ {xs ys : List V} {us ws : List Value}, Vals xs us → Vals ys ws → Vals (xs ++ ys) (us ++ ws)
  | _, _, _, _, .nil, s => s
  | _, _, _, _, .cons r t, s => .cons r (Vals.append t s)
theorem Vals.take : ∀ {xs : List V} {us : List Value} (n : Nat), Vals xs us → Vals (xs.take n) (us.take n)
  | _, _, 0, _ => .nil
  | _, _, _ + 1, .nil => .nil
  | _, _, n + 1, .cons r t => .cons r (Vals.take n t)
theorem Vals.drop : ∀ {xs : List V} {us : List Value} (n : Nat), Vals xs us → Vals (xs.drop n) (us.drop n)
  | _, _, 0, r => r
  | _, _, _ + 1, .nil => .nil
  | _, _, n + 1, .cons _ t => Vals.drop n t
theorem Vals.none_of : ∀ {xs : List V} {us : List Value} {i : Nat}, Vals xs us → xs[i]? = none → us[i]? = none := fun {xs us i} r e => by
  have h1 := r.length
  have h2 : xs.length ≤ i := List.getElem?_eq_none_iff.mp e
  exact List.getElem?_eq_none_iff.mpr (by omega)

def RelO : Option V → Option Value → Prop
  | some v, some u => RelV v u
  | none, none => True
  | _, _ => False
def KV {κ : Type} : List (κ × V) → List (κ × Value) → Prop := Paired fun (p : κ × V) (q : κ × Value) => p.1 = q.1 ∧ RelV p.2 q.2

/-- a key of a dict (00_mix): an int or a text -/
def kV : Key → V
  | .inl i => .int i
  | .inr x => .str x

/-- what stands at a tracked address -/
inductive HO where
  /-- a list -/
  | lst (xs : List V)
  /-- a tuple (never changes) -/
  | tup (xs : List V)
  /-- a dict whose keys are ints and texts; one whose keys are tuples of ints and texts (the empty one is both) -/
  | dK (kvs : List (Key × V)) | dT (kvs : List (List Key × V))
  /-- a set of ints: its members, its size -/
  | set (S : Int → Bool) (n : Nat)
  /-- an instance of the class at C, its dict at dx, its attributes -/
  | ins (C dx : Addr) (fs : List (Str × V))
  /-- the dict of the instance at x -/
  | own (x : Addr)
  /-- the dict of an exception -/
  | xd (fs : List (Str × V))
  /-- a bound method, f of x -/
  | met (f x : Addr)
  /-- a range object lo, lo + 1, .. below hi -/
  | rng (lo hi : Int)
  /-- a thing that is known to the object (the script; a dict while a loop walks it): read, never written while it is so -/
  | frz (o : Obj) (u : HO)
  /-- a code object's table -/
  | tbl (ps : Array Value)
  /-- any other thing, by what is true of its one object (a def of one's own: SetO a S n := HO.ext fun h => ..) -/
  | ext (φ : Heap → Prop)

abbrev Hp := Addr → Option HO
def upd (H : Hp) (a : Addr) (o : HO) : Hp := fun b => if b = a then some o else H b
theorem upd_same {H : Hp} {a : Addr} {o : HO} : upd H a o a = some o := by unfold upd; rw [if_pos rfl]
theorem upd_ne {H : Hp} {a b : Addr} {o : HO} (h : b ≠ a) : upd H a o b = H b := by unfold upd; rw [if_neg h]
/-- two objects of different content stand apart -/
theorem ne_of {H : Hp} {a b : Addr} {o u : HO} (h : H a = some o) (h' : H b = some u) (d : o ≠ u) : a ≠ b := by
  intro e; subst e; rw [h] at h'; exact d (Option.some.inj h')
theorem ne_of_none {H : Hp} {a b : Addr} {o : HO} (h : H a = some o) (h' : H b = none) : a ≠ b := by
  intro e; subst e; rw [h] at h'; cases h'

section
variable (P : Program) (w : World)
def ObjOk (H : Hp) (h : Heap) (a : Addr) : HO → Prop
  | .lst xs => xs.length ≤ sizeLine ∧ ∃ (its : List Value) (n : Nat), Vals xs its ∧ h.get? a = some { cls := .type "list", data := .seq its.toArray n }
  | .tup xs => xs.length ≤ sizeLine ∧ ∃ its : List Value, Vals xs its ∧ IsTup h a its.toArray
  | .dK kvs => kvs.length ≤ sizeLine ∧ (a == sysModules) = false ∧ ∃ vs, KV kvs vs ∧ h.DictOf (mixKind P w) a vs
  | .dT kvs => kvs.length ≤ sizeLine ∧ (a == sysModules) = false ∧ ∃ xs : List (List Key × Addr × Value),
      Paired (fun (p : List Key × V) (q : List Key × Addr × Value) => p.1 = q.1 ∧ H q.2.1 = some (.tup (p.1.map kV)) ∧ RelV p.2 q.2.2) kvs xs ∧
      ∃ o es ep, h.get? a = some o ∧ o.ExactDict ∧ o.data = .dict es ep ∧ es.toList = xs.map (entryOfKey (tupleKind (mixKind P w))) ∧ (xs.map (·.1)).Nodup
  | .set S n => h.SetOf (intKind P w) a S n
  | .ins C dx fs => H dx = some (.own a) ∧ fs.length ≤ 1000 ∧ dx ≠ a ∧ h.get? a = some (PySem.W.instObj C dx) ∧
      ∃ mA, h.Ns1 dx mA ∧ (∀ f, RelO (fs.lookup f) (mA f)) ∧ PySem.Within mA (fs.map (·.1))
  | .own _ => ∃ o, h.get? a = some o
  | .xd fs => ∃ mA, h.Ns1 a mA ∧ ∀ f, RelO (fs.lookup f) (mA f)
  | .rng lo hi => ∃ t u v, h.get? a = some { cls := .type "range", data := .fields #[.int lo t, .int hi u, .int 1 v] }
  | .frz o u => h.get? a = some o ∧ ObjOk H h a u
  | .tbl ps => h.get? a = some { cls := .none, data := .fields ps }
  | .met f x => h.get? a = some (PySem.W.methodObj (.ref f) (.ref x))
  | .ext φ => φ h ∧ (∃ o, h.get? a = some o) ∧ ∀ h1 h2 : Heap, φ h1 → (∀ o, h1.get? a = some o → h2.get? a = some o) → φ h2
/-- the abstract heap is held -/
def HOk (H : Hp) (h : Heap) : Prop := ∀ a o, H a = some o → ObjOk P w H h a o
end

section
variable {P : Program} {w : World} {H H' : Hp} {h h' : Heap} {a : Addr} {o : HO}
theorem ObjOk.lt (x : ObjOk P w H h a o) : a < h.objs.size := by
  cases o with
  | lst xs => obtain ⟨_, _, _, _, e⟩ := x; exact Heap.lt_size e
  | tup xs => obtain ⟨_, _, _, p⟩ := x; exact p.lt
  | dK kvs => obtain ⟨_, _, _, _, o, _, _, e, _⟩ := x; exact Heap.lt_size e
  | dT kvs => obtain ⟨_, _, _, _, o, _, _, e, _⟩ := x; exact Heap.lt_size e
  | set S n => obtain ⟨o, _, _, _, e, _⟩ := x; exact Heap.lt_size e
  | ins C dx fs => obtain ⟨_, _, _, e, _⟩ := x; exact Heap.lt_size e
  | own y => obtain ⟨_, e⟩ := x; exact Heap.lt_size e
  | xd fs => obtain ⟨_, ⟨_, _, _, e, _⟩, _⟩ := x; exact Heap.lt_size e
  | rng lo hi => obtain ⟨_, _, _, e⟩ := x; exact Heap.lt_size e
  | frz ob u => obtain ⟨e, _⟩ := x; exact Heap.lt_size e
  | tbl ps => exact Heap.lt_size (show h.get? a = some _ from x)
  | met f y => exact Heap.lt_size (show h.get? a = some _ from x)
  | ext φ => obtain ⟨_, ⟨_, e⟩, _⟩ := x; exact Heap.lt_size e
theorem Paired.mapP {α β : Type} {F G : α → β → Prop} : ∀ {l₁ : List α} {l₂ : List β}, Paired F l₁ l₂ → (∀ a b, F a b → G a b) → Paired G l₁ l₂
  | _, _, .nil, _ => .nil
  | _, _, .cons r t, f => .cons (f _ _ r) (Paired.mapP t f)
/-- what an object's description leans on: its own object, its own dict, the tuples -/
theorem ObjOk.stay (x : ObjOk P w H h a o) (k : ∀ b u, (b = a ∨ H b = some (.own a)) → h.get? b = some u → h'.get? b = some u)
    (ho : ∀ b, H b = some (.own a) → H' b = some (.own a)) (ht : ∀ b xs, H b = some (.tup xs) → H' b = some (.tup xs)) : ObjOk P w H' h' a o := by
  induction o with
  | lst xs => obtain ⟨z, its, n, r, e⟩ := x; exact ⟨z, its, n, r, k _ _ (.inl rfl) e⟩
  | tup xs => obtain ⟨z, its, r, ob, e, c⟩ := x; exact ⟨z, its, r, ob, k _ _ (.inl rfl) e, c⟩
  | dK kvs => obtain ⟨z, y, vs, r, ob, es, ep, e, c⟩ := x; exact ⟨z, y, vs, r, ob, es, ep, k _ _ (.inl rfl) e, c⟩
  | dT kvs =>
    obtain ⟨z, y, xs, r, ob, es, ep, e, c⟩ := x
    exact ⟨z, y, xs, Paired.mapP r fun p q z => ⟨z.1, ht _ _ z.2.1, z.2.2⟩, ob, es, ep, k _ _ (.inl rfl) e, c⟩
  | set S n => obtain ⟨ob, es, ep, t, e, c⟩ := x; exact ⟨ob, es, ep, t, k _ _ (.inl rfl) e, c⟩
  | ins C dx fs =>
    obtain ⟨d, z, ne, e, mA, ⟨od, es, ep, e2, c⟩, r⟩ := x
    exact ⟨ho _ d, z, ne, k _ _ (.inl rfl) e, mA, ⟨od, es, ep, k _ _ (.inr d) e2, c⟩, r⟩
  | own y => obtain ⟨ob, e⟩ := x; exact ⟨ob, k _ _ (.inl rfl) e⟩
  | xd fs => obtain ⟨mA, ⟨od, es, ep, e, c⟩, r⟩ := x; exact ⟨mA, ⟨od, es, ep, k _ _ (.inl rfl) e, c⟩, r⟩
  | rng lo hi => obtain ⟨t, u, v, e⟩ := x; exact ⟨t, u, v, k _ _ (.inl rfl) e⟩
  | frz ob u ih => obtain ⟨e, q⟩ := x; exact ⟨k _ _ (.inl rfl) e, ih q⟩
  | tbl ps =>
    have e : h.get? a = some { cls := .none, data := .fields ps } := x
    show h'.get? a = some { cls := .none, data := .fields ps }
    exact k a _ (.inl rfl) e
  | met f y =>
    have e : h.get? a = some (PySem.W.methodObj (.ref f) (.ref y)) := x
    show h'.get? a = some (PySem.W.methodObj (.ref f) (.ref y))
    exact k a _ (.inl rfl) e
  | ext φ => obtain ⟨p, ⟨o, e⟩, st⟩ := x; exact ⟨st _ _ p fun o q => k _ _ (.inl rfl) q, ⟨o, k _ _ (.inl rfl) e⟩, st⟩
theorem HOk.lt (x : HOk P w H h) (e : H a = some o) : a < h.objs.size := (x a o e).lt
theorem HOk.fresh (x : HOk P w H h) (e : h.objs.size ≤ a) : H a = none := by
  cases q : H a with
  | none => rfl
  | some u => exact absurd (Nat.lt_of_lt_of_le (x.lt q) e) (Nat.lt_irrefl _)
/-- every object of the heap is kept -/
theorem HOk.kept (x : HOk P w H h) (k : ∀ b u, h.get? b = some u → h'.get? b = some u) : HOk P w H h' := fun a o e =>
  (x a o e).stay (fun b u _ q => k b u q) (fun _ q => q) fun _ _ q => q
/-- a new object is laid and tracked -/
theorem HOk.laid (x : HOk P w H h) (k : ∀ b u, h.get? b = some u → h'.get? b = some u) (hp : h.objs.size ≤ a) (new : ObjOk P w (upd H a o) h' a o) : HOk P w (upd H a o) h' := fun b u e => by
  have hn := x.fresh hp
  by_cases hb : b = a
  · subst hb; rw [upd_same] at e; cases e; exact new
  · rw [upd_ne hb] at e
    exact (x b u e).stay (fun c v _ q => k c v q) (fun c q => by rw [upd_ne (ne_of_none q hn)]; exact q) fun c xs q => by rw [upd_ne (ne_of_none q hn)]; exact q
end

/-- what may be read as u: it is u, or a known u -/
def Rd (H : Hp) (a : Addr) (u : HO) : Prop := H a = some u ∨ ∃ o, H a = some (.frz o u)
theorem Rd.of {H : Hp} {a : Addr} {u : HO} (h : H a = some u) : Rd H a u := .inl h
theorem Rd.ok {P : Program} {w : World} {H : Hp} {h : Heap} {a : Addr} {u : HO} (r : Rd H a u) (x : HOk P w H h) : ObjOk P w H h a u := by
  rcases r with r | ⟨o, r⟩
  · exact x a u r
  · obtain ⟨_, q⟩ := x a _ r
    exact q
/-- what may be written -/
def Mut : Option HO → Prop
  | some (.lst _) => True
  | some (.dK _) => True
  | some (.dT _) => True
  | some (.set _ _) => True
  | some (.ins _ _ _) => True
  | some (.ext _) => True
  | _ => False
section
variable {P : Program} {w : World} {H : Hp} {h h' : Heap} {x e : Addr} {o' : HO}
/-- the object at e is changed: x itself, or the dict of the instance x -/
theorem HOk.write (ok : HOk P w H h) (mu : Mut (H x)) (he : e = x ∨ H e = some (.own x)) (k : ∀ b u, b ≠ e → h.get? b = some u → h'.get? b = some u) (heo : ∃ u, h'.get? e = some u)
    (new : ObjOk P w (upd H x o') h' x o') : HOk P w (upd H x o') h' := fun b u q => by
  have nown : ∀ c y, H c = some (.own y) → c ≠ x := fun c y r z => by subst z; rw [r] at mu; exact mu
  have ntup : ∀ c xs, H c = some (.tup xs) → c ≠ x := fun c xs r z => by subst z; rw [r] at mu; exact mu
  by_cases hb : b = x
  · subst hb; rw [upd_same] at q; cases q; exact new
  · rw [upd_ne hb] at q
    by_cases hbe : b = e
    · have q' : H b = some (.own x) := by
        rcases he with z | z
        · exact absurd (hbe.trans z) hb
        · rw [hbe]; exact z
      rw [q] at q'; cases q'
      obtain ⟨v, hv⟩ := heo
      exact ⟨v, by rw [hbe]; exact hv⟩
    · refine (ok b u q).stay (fun c v hc r => k c v ?_ r) (fun c r => by rw [upd_ne (nown c b r)]; exact r) fun c xs r => by rw [upd_ne (ntup c xs r)]; exact r
      rcases hc with rfl | hc
      · exact hbe
      · rintro rfl
        rcases he with z | z
        · exact nown c b hc z
        · rw [hc] at z; cases z; exact hb rfl
end

/-! ### kept unless tracked; of the frames at fs (the callers') the slots may change (an exception that passes writes there); of the records at ex (iterators) nothing is said -/
structure Un (fs ex : List Addr) (H H' : Hp) (h h' : Heap) : Prop where
  keep : ∀ b o, h.get? b = some o → H b = none → b ∉ fs → b ∉ ex → h'.get? b = some o
  slot : ∀ b o, h.get? b = some o → H b = none → b ∈ fs → b ∉ ex → ∃ sl, h'.get? b = some { o with slots := sl }
  free : ∀ b o, h.get? b = some o → H b = none → b ∉ ex → H' b = none
  there : ∀ b o, h.get? b = some o → b ∉ ex → ∃ o', h'.get? b = some o'
  tups : ∀ b xs, H b = some (.tup xs) → H' b = some (.tup xs)
  frzs : ∀ b o u, H b = some (.frz o u) → H' b = some (.frz o u)
  tbls : ∀ b ps, H b = some (.tbl ps) → ∃ more, H' b = some (.tbl (ps ++ more))
section
variable {fs fs' ex ex' : List Addr} {H H1 H2 : Hp} {h h1 h2 h' : Heap} {a x e : Addr} {o : HO}
theorem Un.any (u : Un fs ex H H1 h h1) {b : Addr} {ob : Obj} (q : h.get? b = some ob) (n : H b = none) (hx : b ∉ ex) : ∃ sl, h1.get? b = some { ob with slots := sl } := by
  by_cases hb : b ∈ fs
  · exact u.slot b ob q n hb hx
  · exact ⟨ob.slots, u.keep b ob q n hb hx⟩
theorem Un.trans (a : Un fs ex H H1 h h1) (b : Un fs ex H1 H2 h1 h2) : Un fs ex H H2 h h2 where
  keep := fun c ob q n hc hx => b.keep c ob (a.keep c ob q n hc hx) (a.free c ob q n hx) hc hx
  slot := fun c ob q n hc hx => by
    obtain ⟨sl, e1⟩ := a.slot c ob q n hc hx
    obtain ⟨sl', e2⟩ := b.slot c _ e1 (a.free c ob q n hx) hc hx
    exact ⟨sl', e2⟩
  free := fun c ob q n hx => by
    obtain ⟨o', e1⟩ := a.there c ob q hx
    exact b.free c o' e1 (a.free c ob q n hx) hx
  there := fun c ob q hx => by
    obtain ⟨o', e1⟩ := a.there c ob q hx
    exact b.there c o' e1 hx
  tups := fun c xs q => b.tups c xs (a.tups c xs q)
  frzs := fun c ob xs q => b.frzs c ob xs (a.frzs c ob xs q)
  tbls := fun c ps q => by
    obtain ⟨m1, e1⟩ := a.tbls c ps q
    obtain ⟨m2, e2⟩ := b.tbls c _ e1
    exact ⟨m1 ++ m2, by rw [e2, Array.append_assoc]⟩
theorem Un.kept (k : ∀ b u, h.get? b = some u → h'.get? b = some u) : Un fs ex H H h h' :=
  ⟨fun b ob q _ _ _ => k b ob q, fun b ob q _ _ _ => ⟨ob.slots, k b ob q⟩, fun _ _ _ n _ => n, fun b ob q _ => ⟨ob, k b ob q⟩, fun _ _ q => q, fun _ _ _ q => q, fun _ ps q => ⟨#[], by rw [q]; simp⟩⟩
theorem Un.refl : Un fs ex H H h h := Un.kept fun _ _ q => q
theorem Un.laid (k : ∀ b u, h.get? b = some u → h'.get? b = some u) (hp : h.objs.size ≤ a) (hn : H a = none) : Un fs ex H (upd H a o) h h' where
  keep := fun b u q _ _ _ => k b u q
  slot := fun b u q _ _ _ => ⟨u.slots, k b u q⟩
  free := fun b u q n _ => by rw [upd_ne (Nat.ne_of_lt (Nat.lt_of_lt_of_le (Heap.lt_size q) hp))]; exact n
  there := fun b u q _ => ⟨u, k b u q⟩
  tups := fun b xs q => by rw [upd_ne (ne_of_none q hn)]; exact q
  frzs := fun b u xs q => by rw [upd_ne (ne_of_none q hn)]; exact q
  tbls := fun b ps q => ⟨#[], by rw [upd_ne (ne_of_none q hn), q]; simp⟩
theorem Un.write (mu : Mut (H x)) (he : e = x ∨ H e = some (.own x)) (k : ∀ b u, b ≠ e → h.get? b = some u → h'.get? b = some u) (heo : ∃ u, h'.get? e = some u) : Un fs ex H (upd H x o) h h' := by
  have hx : ∀ b, H b = none → b ≠ x := fun b n z => by subst z; rw [n] at mu; exact mu
  have hb : ∀ b, H b = none → b ≠ e := fun b n z => by
    subst z
    rcases he with r | r
    · exact hx b n r
    · rw [n] at r; cases r
  have hm : ∀ b u, H b = some u → ¬ Mut (some u) → b ≠ x := fun b u q nm z => by subst z; rw [q] at mu; exact nm mu
  refine ⟨fun b u q n _ _ => k b u (hb b n) q, fun b u q n _ _ => ⟨u.slots, k b u (hb b n) q⟩, fun b u q n _ => by rw [upd_ne (hx b n)]; exact n, fun b u q _ => ?_,
    fun b xs q => by rw [upd_ne (hm b _ q fun z => z)]; exact q, fun b u xs q => by rw [upd_ne (hm b _ q fun z => z)]; exact q, fun b ps q => ⟨#[], by rw [upd_ne (hm b _ q fun z => z), q]; simp⟩⟩
  by_cases hbe : b = e
  · subst hbe; exact heo
  · exact ⟨u, k b u hbe q⟩
theorem Un.mono (u : Un fs ex H H1 h h1) (hs : ∀ b ∈ fs, b ∈ fs') (hx : ∀ b ∈ ex, b ∈ ex') : Un fs' ex' H H1 h h1 :=
  ⟨fun b ob q n hb he => u.keep b ob q n (fun z => hb (hs b z)) fun z => he (hx b z), fun _ _ q n _ he => u.any q n fun z => he (hx _ z), fun b ob q n he => u.free b ob q n fun z => he (hx b z), fun b ob q he => u.there b ob q fun z => he (hx b z), u.tups, u.frzs, u.tbls⟩
end

/-! ### the heap without what is tracked -/
def trk (h : Heap) (H : Hp) : List Addr := (List.range h.objs.size).filter fun a => (H a).isSome
def hidT (h : Heap) (H : Hp) : Heap := PySem.W.hideAll h (trk h H)
theorem hidT_size (h : Heap) (H : Hp) : (hidT h H).objs.size = h.objs.size := PySem.W.hideAll_size _ _
theorem hidT_get {h : Heap} {H : Hp} {b : Addr} {o : Obj} (e : h.get? b = some o) (n : H b = none) : (hidT h H).get? b = some o :=
  PySem.W.hideAll_get _ e fun hm => by
    have q : (H b).isSome = true := (List.mem_filter.mp hm).2
    rw [n] at q; simp at q
theorem of_hidT {h : Heap} {H : Hp} {b : Addr} {o : Obj} (e : (hidT h H).get? b = some o) : h.get? b = some o ∧ H b = none := by
  have e' : h.get? b = some o := PySem.W.of_hideAll (trk h H) e
  refine ⟨e', ?_⟩
  cases q : H b with
  | none => rfl
  | some x =>
    have hm : b ∈ trk h H := List.mem_filter.mpr ⟨List.mem_range.mpr (Heap.lt_size e'), by simp [q]⟩
    have z : (hidT h H).get? b = none := PySem.W.hideAll_none (trk h H) hm
    rw [z] at e; cases e

/-! ### OpenK's ledger, filled with every new object but one -/
def allNews (g h : Heap) (L : Addr) : List (Addr × Obj) := (List.range h.objs.size).filterMap fun a => if a = L ∨ (g.get? a).isSome = true then none else (h.get? a).map fun o => (a, o)
def rest (g h : Heap) (L d : Addr) : List (Addr × Obj) := (allNews g h L).filter fun p => decide (p.1 ≠ d)
end L2

namespace L2
open PySem PySem.Spec PyProof.Rows

/-- the module's facts, over the base: the heap at the law's entry without what is tracked there -/
structure Mod (K : PySem.W.Frag) (mg : Str → Option Value) (base : Heap) : Prop where
  kin : K.In base
  glob : base.Ns mainGlobals mg
  blt : ∃ mb, base.Ns builtinsNs mb ∧ ∀ x : Str, x ≠ "__name__" → mb x = bootBuiltins x
  nolimit : base.NoLimit

/-- the context: a def's body (or a comprehension's block) running. base: fixed through the whole law; s₀, H₀: the entry; outer: the frames whose slots others may change (a def's callers); stack: all frames that run;
   ex: iterators that were made ahead of the entry and are walked here (a comprehension's); fn: the names whose cells were made at the entry (a def: all; a comprehension's block: its own); calm: not within an except suite; pn: pins that every state bears; xe: what is wanted of an exception that leaves the code -/
structure Cx where
  prog : Program
  w : World
  K : PySem.W.Frag
  mg : Str → Option Value
  base : Heap
  A : Around
  N : List Str
  s₀ : Shared
  H₀ : Hp
  env : Env
  outer : List Env
  stack : List Env
  ex : List Addr
  fn : Str → Bool
  calm : Bool
  pn : List (Addr × Obj)
  xe : Value → Shared → Prop
/-- the callers' frames -/
def frs (l : List Env) : List Addr := l.filterMap (·.frame)
abbrev Cx.fs (X : Cx) : List Addr := frs X.outer

def Vis (sc : Scope) (x : Str) : Prop := sc.names.lookup x = some .local ∨ sc.names.lookup x = some .cell ∨ sc.names.lookup x = some .free
def Loc (sc : Scope) (x : Str) : Prop := sc.names.lookup x = some .local ∨ sc.names.lookup x = some .cell
def Look (env : Env) (h : Heap) (m : Str → Option Value) (x : Str) (u : Value) : Prop :=
  (env.kindOf x = some .local ∧ m x = some u) ∨ ((env.kindOf x = some .cell ∨ env.kindOf x = some .free) ∧ ∃ c, env.cells.lookup x = some c ∧ h.IsCell c (some u))

structure Cx.Ok (X : Cx) : Prop where
  mod : Mod X.K X.mg X.base
  kind : X.env.scope.kind = .function
  glob : X.env.globals = mainGlobals
  blt : X.env.builtins = builtinsNs
  above : X.s₀.heap.objs.size ≤ X.env.locals
  inj : ∀ x y c, X.env.cells.lookup x = some c → X.env.cells.lookup y = some c → x = y
  has : ∀ x, (X.env.kindOf x = some .cell ∨ X.env.kindOf x = some .free) → ∃ c, X.env.cells.lookup x = some c
  cab : ∀ x c, X.fn x = true → X.env.cells.lookup x = some c → X.s₀.heap.objs.size ≤ c
  hd : X.calm = true → X.A.handled = none
  frames : X.A.frames = some X.stack
  stk : X.stack = X.outer ∨ (X.stack = X.env :: X.outer ∧ X.env.frame = some X.env.locals)
  exf : ∀ b ∈ X.ex, b ≠ X.env.locals ∧ ∀ x c, X.env.cells.lookup x = some c → c ≠ b
  bs : ∀ b o, X.base.get? b = some o → X.s₀.heap.get? b = some o ∧ X.H₀ b = none
  bsz : X.base.objs.size ≤ X.s₀.heap.objs.size
  noex : ∀ b o, X.base.get? b = some o → b ∉ X.ex
  exfs : ∀ b ∈ X.ex, b ∉ X.fs
  funs : X.s₀.heap.FunFrames X.base X.outer
  frf : ∀ b ∈ X.fs, X.H₀ b = none

structure Inv (X : Cx) (pins : List (Addr × Obj)) (σ : List (Option V)) (H : Hp) (s : Shared) : Prop where
  ok : X.Ok
  os : s.os = X.s₀.os
  bare : AllBare s.gens
  base : Un X.fs X.ex X.H₀ H X.s₀.heap s.heap
  loc : ∃ m, s.heap.Ns X.env.locals m ∧ ∀ (i : Nat) (x : Str) (v : V), X.N[i]? = some x → σ[i]? = some (some v) → Vis X.env.scope x → ∃ u, RelV v u ∧ Look X.env s.heap m x u
  cell : ∀ x c, X.env.cells.lookup x = some c → ∃ v, s.heap.IsCell c v
  free : H X.env.locals = none
  freeC : ∀ x c, X.env.cells.lookup x = some c → H c = none
  pin : ∀ p ∈ X.pn ++ pins, s.heap.get? p.1 = some p.2 ∧ H p.1 = none ∧ p.1 ≠ X.env.locals ∧ p.1 ∉ X.fs ∧ ∀ v, p.2.data ≠ .cell v
  hok : HOk X.prog X.w H s.heap
  len : σ.length = X.N.length

section
variable {X : Cx} {pins : List (Addr × Obj)} {σ : List (Option V)} {H H' : Hp} {s : Shared} {h' : Heap}

theorem Cx.Ok.nofr (ok : X.Ok) {b : Addr} {o : Obj} (e : X.base.get? b = some o) : b ∉ X.fs := fun hb => by
  have := (ok.funs.mem hb).1
  rw [e] at this; cases this
theorem Inv.bs (I : Inv X pins σ H s) : ∀ b o, X.base.get? b = some o → s.heap.get? b = some o ∧ H b = none := fun b o e =>
  ⟨I.base.keep b o (I.ok.bs b o e).1 (I.ok.bs b o e).2 (I.ok.nofr e) (I.ok.noex b o e), I.base.free b o (I.ok.bs b o e).1 (I.ok.bs b o e).2 (I.ok.noex b o e)⟩
theorem Inv.bk (I : Inv X pins σ H s) : ∀ b o, X.base.get? b = some o → s.heap.get? b = some o := fun b o e => (I.bs b o e).1
theorem Inv.mod (I : Inv X pins σ H s) : Mod X.K X.mg X.base := I.ok.mod
theorem Inv.kIn (I : Inv X pins σ H s) : X.K.In s.heap := I.ok.mod.kin.keeps I.bk
theorem Inv.nolimit (I : Inv X pins σ H s) : s.heap.NoLimit := I.ok.mod.nolimit.keeps I.bk
/-- the frame over the base: for OpenK's rules (K.In X.base is I.mod.kin) -/
theorem Inv.fr (I : Inv X pins σ H s) : ∃ m, Fr X.base X.env.locals s.heap m :=
  let ⟨m, hn, _⟩ := I.loc
  ⟨m, hn, I.bk, Nat.le_trans I.ok.bsz I.ok.above⟩
theorem Inv.lt (I : Inv X pins σ H s) : X.env.locals < s.heap.objs.size := let ⟨_, hn, _⟩ := I.loc; hn.lt
theorem Inv.sz (I : Inv X pins σ H s) : X.s₀.heap.objs.size ≤ s.heap.objs.size := Nat.le_trans I.ok.above (Nat.le_of_lt I.lt)
theorem Inv.nofs (I : Inv X pins σ H s) {a : Addr} (h : s.heap.objs.size ≤ a) : a ∉ X.fs := fun hb => by
  obtain ⟨_, o, ho, _⟩ := I.ok.funs.mem hb
  exact absurd (Nat.lt_of_lt_of_le (Heap.lt_size ho) (Nat.le_trans I.sz h)) (Nat.lt_irrefl _)
theorem Inv.cne (I : Inv X pins σ H s) : ∀ x c, X.env.cells.lookup x = some c → c ≠ X.env.locals := fun x c e z => by
  obtain ⟨v, o, ho, hd⟩ := I.cell x c e
  obtain ⟨m, ⟨o', es, ep, ho', hd', _⟩, _⟩ := I.loc
  rw [z, ho'] at ho; cases ho; rw [hd'] at hd; cases hd
theorem Inv.funs (I : Inv X pins σ H s) : s.heap.FunFrames X.base X.outer := by
  have all : ∀ (l : List Env), (∀ b ∈ frs l, b ∈ X.fs) → X.s₀.heap.FunFrames X.base l → s.heap.FunFrames X.base l := by
    intro l
    induction l with
    | nil => intro _ _; trivial
    | cons env r ih =>
      intro hs hl
      obtain ⟨hk, ⟨L, o, hf, hn, ho, hd⟩, hr⟩ := hl
      have hL : L ∈ X.fs := hs L (by unfold frs; rw [List.filterMap_cons, hf]; exact List.mem_cons_self)
      obtain ⟨sl, e⟩ := I.base.slot L o ho (I.ok.frf L hL) hL fun z => I.ok.exfs L z hL
      exact ⟨hk, ⟨L, _, hf, hn, e, hd⟩, ih (fun b hb => hs b (by unfold frs; rw [List.filterMap_cons, hf]; exact List.mem_cons_of_mem _ hb)) hr⟩
  exact all X.outer (fun _ hb => hb) I.ok.funs

/-- the frames that run, for a call -/
theorem Inv.stack (I : Inv X pins σ H s) : s.heap.FunFrames X.base X.stack := by
  rcases I.ok.stk with e | ⟨e, hf⟩
  · rw [e]; exact I.funs
  · rw [e]
    obtain ⟨m, hn, _⟩ := I.loc
    refine .cons (by rw [I.ok.kind]; decide) hf hn ?_ I.funs
    exact Heap.get?_none_of_le (Nat.le_trans I.ok.bsz I.ok.above)
theorem Inv.stkSub (I : Inv X pins σ H s) : ∀ b ∈ frs X.stack, b ∈ X.env.locals :: X.fs := fun b hb => by
  rcases I.ok.stk with e | ⟨e, hf⟩
  · rw [e] at hb; exact List.mem_cons_of_mem _ hb
  · rw [e] at hb
    unfold frs at hb
    rw [List.filterMap_cons, hf] at hb
    exact hb
theorem Inv.stkFree (I : Inv X pins σ H s) : ∀ b ∈ frs X.stack, H b = none := fun b hb => by
  rcases List.mem_cons.mp (I.stkSub b hb) with e | hb
  · rw [e]; exact I.free
  · obtain ⟨_, o, ho, _⟩ := I.ok.funs.mem hb
    exact I.base.free b o ho (I.ok.frf b hb) fun z => I.ok.exfs b z hb

/-- THE STEP: the untracked objects but the frame and the records at ch are kept (the callers' frames up to slots), the frame's map is kept, the new abstract heap is held -/
theorem Inv.step {g' : Array GenState} {t' : Nat} {d' : Drawn} {ch : List Addr} (I : Inv X pins σ H s)
    (hch : ∀ b ∈ ch, (b ∈ X.ex ∨ X.s₀.heap.objs.size ≤ b) ∧ b ≠ X.env.locals ∧ (∀ x c, X.env.cells.lookup x = some c → c ≠ b) ∧ ∀ p ∈ X.pn ++ pins, p.1 ≠ b)
    (keep : ∀ b o, b ≠ X.env.locals → b ∉ X.fs → b ∉ ch → s.heap.get? b = some o → H b = none → h'.get? b = some o)
    (slot : ∀ b o, b ≠ X.env.locals → b ∈ X.fs → b ∉ ch → s.heap.get? b = some o → H b = none → ∃ sl, h'.get? b = some { o with slots := sl }) (free : ∀ b o, b ∉ ch → s.heap.get? b = some o → H b = none → H' b = none)
    (there : ∀ b o, b ∉ ch → s.heap.get? b = some o → ∃ o', h'.get? b = some o')
    (tups : ∀ b xs, H b = some (.tup xs) → H' b = some (.tup xs)) (frzs : ∀ b o u, H b = some (.frz o u) → H' b = some (.frz o u)) (tbls : ∀ b ps, H b = some (.tbl ps) → ∃ more, H' b = some (.tbl (ps ++ more)))
    (ns : ∀ m, s.heap.Ns X.env.locals m → h'.Ns X.env.locals m) (hok : HOk X.prog X.w H' h') (hg : AllBare g') :
    Inv X pins σ H' { s with heap := h', gens := g', drawn := d', toks := t' } := by
  have neL : ∀ b o, X.s₀.heap.get? b = some o → b ≠ X.env.locals := fun b o e => Nat.ne_of_lt (Nat.lt_of_lt_of_le (Heap.lt_size e) I.ok.above)
  have neC : ∀ b o, X.s₀.heap.get? b = some o → b ∉ X.ex → b ∉ ch := fun b o e hx hb => by
    rcases (hch b hb).1 with z | z
    · exact hx z
    · exact absurd (Nat.lt_of_lt_of_le (Heap.lt_size e) z) (Nat.lt_irrefl _)
  have cellK : ∀ x c, X.env.cells.lookup x = some c → ∀ v, s.heap.IsCell c v → h'.IsCell c v := fun x c e v ⟨o, ho, hd⟩ => by
    have nch : c ∉ ch := fun z => (hch c z).2.2.1 x c e rfl
    by_cases hc : c ∈ X.fs
    · obtain ⟨sl, q⟩ := slot c o (I.cne x c e) hc nch ho (I.freeC x c e)
      exact ⟨_, q, hd⟩
    · exact ⟨o, keep c o (I.cne x c e) hc nch ho (I.freeC x c e), hd⟩
  refine ⟨I.ok, I.os, hg, ⟨fun b o e n hb hx => ?_, fun b o e n hb hx => ?_, fun b o e n hx => ?_, fun b o e hx => ?_, fun b xs e => tups b xs (I.base.tups b xs e), fun b o xs e => frzs b o xs (I.base.frzs b o xs e), fun b ps e => ?_⟩, ?_, fun x c e => ?_, ?_, fun x c e => ?_, fun p hp => ?_, hok, I.len⟩
  · exact keep b o (neL b o e) hb (neC b o e hx) (I.base.keep b o e n hb hx) (I.base.free b o e n hx)
  · obtain ⟨sl, e1⟩ := I.base.slot b o e n hb hx
    obtain ⟨sl', e2⟩ := slot b _ (neL b o e) hb (neC b o e hx) e1 (I.base.free b o e n hx)
    exact ⟨sl', e2⟩
  · obtain ⟨o', e1⟩ := I.base.there b o e hx
    exact free b o' (neC b o e hx) e1 (I.base.free b o e n hx)
  · obtain ⟨o', e1⟩ := I.base.there b o e hx
    exact there b o' (neC b o e hx) e1
  · obtain ⟨m1, e1⟩ := I.base.tbls b ps e
    obtain ⟨m2, e2⟩ := tbls b _ e1
    exact ⟨m1 ++ m2, by rw [e2, Array.append_assoc]⟩
  · obtain ⟨m, hn, hl⟩ := I.loc
    refine ⟨m, ns m hn, fun i x v e1 e2 e3 => ?_⟩
    obtain ⟨u, r, l⟩ := hl i x v e1 e2 e3
    refine ⟨u, r, ?_⟩
    rcases l with l | ⟨k, c, e, z⟩
    · exact .inl l
    · exact .inr ⟨k, c, e, cellK x c e _ z⟩
  · obtain ⟨v, z⟩ := I.cell x c e
    exact ⟨v, cellK x c e v z⟩
  · obtain ⟨m, ⟨o, _, _, ho, _⟩, _⟩ := I.loc
    exact free _ o (fun z => (hch _ z).2.1 rfl) ho I.free
  · obtain ⟨v, o, ho, hd⟩ := I.cell x c e
    exact free c o (fun z => (hch c z).2.2.1 x c e rfl) ho (I.freeC x c e)
  · obtain ⟨e, n, ne, nf, d⟩ := I.pin p hp
    have nch : p.1 ∉ ch := fun z => (hch p.1 z).2.2.2 p hp rfl
    exact ⟨keep p.1 p.2 ne nf nch e n, free p.1 p.2 nch e n, ne, nf, d⟩
/-- .. where the frame's own object is kept too -/
theorem Inv.un {t' : Nat} (I : Inv X pins σ H s) (u : Un X.fs [] H H' s.heap h') (hok : HOk X.prog X.w H' h') : Inv X pins σ H' { s with heap := h', toks := t' } := by
  obtain ⟨m, ⟨o, es, ep, ho, r⟩, _⟩ := id I.loc
  obtain ⟨sl, hL⟩ := u.any ho I.free (by simp)
  exact I.step (g' := s.gens) (d' := s.drawn) (ch := []) (fun _ z => nomatch z) (fun b o _ hb _ e n => u.keep b o e n hb (by simp)) (fun b o _ hb _ e n => u.slot b o e n hb (by simp)) (fun b o _ e n => u.free b o e n (by simp)) (fun b o _ e => u.there b o e (by simp)) u.tups u.frzs u.tbls (fun m' hm => by
    obtain ⟨o', es', ep', ho', r'⟩ := hm
    rw [ho] at ho'; cases ho'
    exact ⟨_, es', ep', hL, r'⟩) hok I.bare
/-- behind a call (or a comprehension's block): the slots of this frame may have changed too, the records at ch may have turned -/
theorem Inv.call {g' : Array GenState} {t' : Nat} {d' : Drawn} {ch : List Addr} (I : Inv X pins σ H s) (u : Un (frs X.stack) ch H H' s.heap h') (hok : HOk X.prog X.w H' h') (hg : AllBare g')
    (hch : ∀ b ∈ ch, (b ∈ X.ex ∨ X.s₀.heap.objs.size ≤ b) ∧ b ≠ X.env.locals ∧ (∀ x c, X.env.cells.lookup x = some c → c ≠ b) ∧ ∀ p ∈ X.pn ++ pins, p.1 ≠ b) :
    Inv X pins σ H' { s with heap := h', gens := g', drawn := d', toks := t' } := by
  obtain ⟨m, ⟨o, es, ep, ho, r⟩, _⟩ := id I.loc
  obtain ⟨sl, hL⟩ := u.any ho I.free fun z => (hch _ z).2.1 rfl
  exact I.step (ch := ch) hch (fun b o hL hb hc e n => u.keep b o e n (fun z => (List.mem_cons.mp (I.stkSub b z)).elim hL hb) hc) (fun b o _ _ hc e n => u.any e n hc) (fun b o hc e n => u.free b o e n hc) (fun b o hc e => u.there b o e hc) u.tups u.frzs u.tbls (fun m' hm => by
    obtain ⟨o', es', ep', ho', r'⟩ := hm
    rw [ho] at ho'; cases ho'
    exact ⟨_, es', ep', hL, r'⟩) hok hg
/-- an untracked record of ours (an iterator) has turned -/
theorem Inv.turned {t' : Nat} {it : Addr} (I : Inv X pins σ H s) (k : ∀ b o, b ≠ it → s.heap.get? b = some o → h'.get? b = some o) (hn : H it = none) (hL : it ≠ X.env.locals)
    (h1 : it ∈ X.ex ∨ X.s₀.heap.objs.size ≤ it) (h2 : ∀ x c, X.env.cells.lookup x = some c → c ≠ it) (h3 : ∀ p ∈ X.pn ++ pins, p.1 ≠ it) : Inv X pins σ H { s with heap := h', toks := t' } := by
  have nit : ∀ b u, H b = some u → b ≠ it := fun b u e z => by rw [z, hn] at e; cases e
  refine I.step (g' := s.gens) (d' := s.drawn) (ch := [it]) (fun b hb => ?_) (fun b o _ _ hc e _ => k b o (fun z => hc (by simp [z])) e) (fun b o _ _ hc e _ => ⟨o.slots, k b o (fun z => hc (by simp [z])) e⟩) (fun _ _ _ _ n => n)
    (fun b o hc e => ⟨o, k b o (fun z => hc (by simp [z])) e⟩) (fun _ _ e => e) (fun _ _ _ e => e) (fun b ps e => ⟨#[], by rw [e]; simp⟩) (fun m hm => ?_) (fun b u e => ?_) I.bare
  · have e : b = it := by simpa using hb
    subst e
    exact ⟨h1, hL, h2, h3⟩
  · obtain ⟨o, es, ep, ho, r⟩ := hm
    exact ⟨o, es, ep, k _ o (Ne.symm hL) ho, r⟩
  · refine (I.hok b u e).stay (fun c v hc q => k c v ?_ q) (fun _ q => q) fun _ _ q => q
    rcases hc with z | z
    · rw [z]; exact nit b u e
    · exact nit c _ z
theorem Inv.tok (I : Inv X pins σ H s) (t : Nat) : Inv X pins σ H { s with toks := t } := I.un (h' := s.heap) (t' := t) Un.refl I.hok
/-- all objects kept -/
theorem Inv.kept {t' : Nat} (I : Inv X pins σ H s) (k : ∀ b u, s.heap.get? b = some u → h'.get? b = some u) : Inv X pins σ H { s with heap := h', toks := t' } := I.un (Un.kept k) (I.hok.kept k)
/-- a new object laid and tracked -/
theorem Inv.laid {a : Addr} {o : HO} {t' : Nat} (I : Inv X pins σ H s) (k : ∀ b u, s.heap.get? b = some u → h'.get? b = some u) (hp : s.heap.objs.size ≤ a) (new : ObjOk X.prog X.w (upd H a o) h' a o) :
    Inv X pins σ (upd H a o) { s with heap := h', toks := t' } := I.un (Un.laid k hp (I.hok.fresh hp)) (I.hok.laid k hp new)
/-- an object written -/
theorem Inv.write {x e : Addr} {o : HO} {t' : Nat} (I : Inv X pins σ H s) (mu : Mut (H x)) (he : e = x ∨ H e = some (.own x)) (k : ∀ b u, b ≠ e → s.heap.get? b = some u → h'.get? b = some u) (heo : ∃ u, h'.get? e = some u)
    (new : ObjOk X.prog X.w (upd H x o) h' x o) : Inv X pins σ (upd H x o) { s with heap := h', toks := t' } := I.un (Un.write mu he k heo) (I.hok.write mu he k heo new)
/-- forgetting slots, pins -/
theorem Inv.weak {σ' : List (Option V)} (I : Inv X pins σ H s) (hl : σ'.length = σ.length) (w : ∀ (i : Nat) v, σ'[i]? = some (some v) → σ[i]? = some (some v)) : Inv X pins σ' H s :=
  ⟨I.ok, I.os, I.bare, I.base, let ⟨m, hn, hl'⟩ := I.loc; ⟨m, hn, fun i x v e1 e2 e3 => hl' i x v e1 (w i v e2) e3⟩, I.cell, I.free, I.freeC, I.pin, I.hok, hl.trans I.len⟩
theorem Inv.pins_of {pins' : List (Addr × Obj)} (I : Inv X pins σ H s) (h : ∀ p ∈ pins', s.heap.get? p.1 = some p.2 ∧ H p.1 = none ∧ p.1 ≠ X.env.locals ∧ p.1 ∉ X.fs ∧ ∀ v, p.2.data ≠ .cell v) : Inv X pins' σ H s :=
  ⟨I.ok, I.os, I.bare, I.base, I.loc, I.cell, I.free, I.freeC, fun p hp => (List.mem_append.mp hp).elim (fun z => I.pin p (List.mem_append_left _ z)) (h p), I.hok, I.len⟩

theorem nodup_ix {N : List Str} (hN : N.Nodup) {i j : Nat} {x : Str} (a : N[i]? = some x) (b : N[j]? = some x) : i = j := by
  obtain ⟨h1, e1⟩ := List.getElem?_eq_some_iff.mp a
  obtain ⟨h2, e2⟩ := List.getElem?_eq_some_iff.mp b
  exact (List.getElem_inj hN).mp (e1.trans e2.symm)

/-- a name is stored; what changed -/
theorem store_ok2 {M : Model} {A : Around} {E : Value → Shared → Prop} {i : Nat} {x : Str} {v : V} {u : Value} {Q : Unit → Shared → Prop} (I : Inv X pins σ H s) (hN : X.N.Nodup) (hi : X.N[i]? = some x) (hx : Loc X.env.scope x) (r : RelV v u)
    (h : ∀ s', Inv X pins (σ.set i (some v)) H s' → (∃ a, Heap.SameBut a s.heap s'.heap ∧ (a = X.env.locals ∨ X.env.cells.lookup x = some a)) → Q () s') (hf : X.fn x = true ∨ X.env.scope.names.lookup x = some .local := by first | exact .inl rfl | exact .inr rfl | assumption) : wpAny M A (storeName X.env x u) Q E s := by
  obtain ⟨m, hn, hl⟩ := id I.loc
  have hcls : (X.env.scope.kind == .class || (X.env.scope.kind == .module && X.env.locals != X.env.globals)) = false := by rw [I.ok.kind]; rfl
  have hiσ : i < σ.length := by rw [I.len]; exact (List.getElem?_eq_some_iff.mp hi).1
  have cne := I.cne
  have tracked : ∀ {a : Addr} {h' : Heap}, (∃ o, s.heap.get? a = some o ∧ H a = none) → Heap.SameBut a s.heap h' → HOk X.prog X.w H h' := fun {a h'} ha hs b ob e => by
    obtain ⟨_, _, hfree⟩ := ha
    refine (I.hok b ob e).stay (fun c w' hc q => (hs.2 c ?_).trans q) (fun _ q => q) fun _ _ q => q
    rintro rfl
    rcases hc with rfl | hc
    · rw [hfree] at e; cases e
    · rw [hfree] at hc; cases hc
  rcases hx with hk | hk
  · refine wpAny_storeName_local hk hn (fun h' hn' hs => ?_) hcls
    obtain ⟨oL, _, _, hoL, _⟩ := id hn
    refine h _ ⟨I.ok, I.os, I.bare, ⟨fun b o e n hb hx => ?_, fun b o e n hb hx => ?_, I.base.free, fun b o e hx => ?_, I.base.tups, I.base.frzs, I.base.tbls⟩, ⟨_, hn', fun j y v' e1 e2 e3 => ?_⟩, fun y c e => ?_, I.free, I.freeC, fun p hp => ?_, tracked ⟨oL, hoL, I.free⟩ hs, by simpa using I.len⟩ ⟨_, hs, .inl rfl⟩
    · exact (hs.2 b (Nat.ne_of_lt (Nat.lt_of_lt_of_le (Heap.lt_size e) I.ok.above))).trans (I.base.keep b o e n hb hx)
    · obtain ⟨sl, e1⟩ := I.base.slot b o e n hb hx
      exact ⟨sl, (hs.2 b (Nat.ne_of_lt (Nat.lt_of_lt_of_le (Heap.lt_size e) I.ok.above))).trans e1⟩
    · obtain ⟨o', e1⟩ := I.base.there b o e hx
      exact ⟨o', (hs.2 b (Nat.ne_of_lt (Nat.lt_of_lt_of_le (Heap.lt_size e) I.ok.above))).trans e1⟩
    · by_cases hj : j = i
      · subst hj
        rw [hi] at e1; cases e1
        rw [List.getElem?_set_self hiσ] at e2
        cases e2
        exact ⟨u, r, .inl ⟨hk, by simp⟩⟩
      · rw [List.getElem?_set_ne (Ne.symm hj)] at e2
        obtain ⟨u', r', q⟩ := hl j y v' e1 e2 e3
        refine ⟨u', r', ?_⟩
        rcases q with ⟨k, e⟩ | ⟨k, c, e, z⟩
        · refine .inl ⟨k, ?_⟩
          have : y ≠ x := fun e => hj (nodup_ix hN e1 (e ▸ hi))
          simp [this, e]
        · exact .inr ⟨k, c, e, z.sameBut hs (cne y c e)⟩
    · obtain ⟨w', z⟩ := I.cell y c e
      exact ⟨w', z.sameBut hs (cne y c e)⟩
    · obtain ⟨e, n, ne, nf, d⟩ := I.pin p hp
      exact ⟨(hs.2 p.1 ne).trans e, n, ne, nf, d⟩
  · have hfn : X.fn x = true := by
      rcases hf with z | z
      · exact z
      · rw [z] at hk; cases hk
    obtain ⟨c, hc⟩ := I.ok.has x (.inl hk)
    obtain ⟨w', z⟩ := I.cell x c hc
    refine wpAny_storeName_cell I.ok.kind hk hc z (fun h' hc' hs => ?_)
    obtain ⟨oc, hoc, hocd⟩ := id z
    refine h { s with heap := h' } ⟨I.ok, I.os, I.bare, ⟨fun b o e n hb hx => ?_, fun b o e n hb hx => ?_, I.base.free, fun b o e hx => ?_, I.base.tups, I.base.frzs, I.base.tbls⟩, ⟨m, hn.sameBut hs (Ne.symm (cne x c hc)), fun j y v' e1 e2 e3 => ?_⟩, fun y c' e => ?_, I.free, I.freeC, fun p hp => ?_, tracked ⟨oc, hoc, I.freeC x c hc⟩ hs, by simpa using I.len⟩ ⟨c, hs, .inr hc⟩
    · exact (hs.2 b (Nat.ne_of_lt (Nat.lt_of_lt_of_le (Heap.lt_size e) (I.ok.cab x c hfn hc)))).trans (I.base.keep b o e n hb hx)
    · obtain ⟨sl, e1⟩ := I.base.slot b o e n hb hx
      exact ⟨sl, (hs.2 b (Nat.ne_of_lt (Nat.lt_of_lt_of_le (Heap.lt_size e) (I.ok.cab x c hfn hc)))).trans e1⟩
    · obtain ⟨o', e1⟩ := I.base.there b o e hx
      exact ⟨o', (hs.2 b (Nat.ne_of_lt (Nat.lt_of_lt_of_le (Heap.lt_size e) (I.ok.cab x c hfn hc)))).trans e1⟩
    · by_cases hj : j = i
      · subst hj
        rw [hi] at e1; cases e1
        rw [List.getElem?_set_self hiσ] at e2
        cases e2
        exact ⟨u, r, .inr ⟨.inl hk, c, hc, hc'⟩⟩
      · rw [List.getElem?_set_ne (Ne.symm hj)] at e2
        obtain ⟨u', r', q⟩ := hl j y v' e1 e2 e3
        refine ⟨u', r', ?_⟩
        rcases q with q | ⟨k, c', e, z'⟩
        · exact .inl q
        · refine .inr ⟨k, c', e, z'.sameBut hs ?_⟩
          rintro rfl
          exact hj (nodup_ix hN e1 (I.ok.inj _ _ _ e hc ▸ hi))
    · by_cases hcc : c' = c
      · subst hcc; exact ⟨_, hc'⟩
      · obtain ⟨w2, z2⟩ := I.cell y c' e
        exact ⟨w2, z2.sameBut hs hcc⟩
    · obtain ⟨e, n, ne, nf, d⟩ := I.pin p hp
      refine ⟨(hs.2 p.1 ?_).trans e, n, ne, nf, d⟩
      intro q
      rw [q, hoc] at e
      have q' : oc = p.2 := Option.some.inj e
      exact d w' (by rw [← q']; exact hocd)
theorem store_ok {M : Model} {A : Around} {E : Value → Shared → Prop} {i : Nat} {x : Str} {v : V} {u : Value} {Q : Unit → Shared → Prop} (I : Inv X pins σ H s) (hN : X.N.Nodup) (hi : X.N[i]? = some x) (hx : Loc X.env.scope x) (r : RelV v u)
    (h : ∀ s', Inv X pins (σ.set i (some v)) H s' → Q () s') (hf : X.fn x = true ∨ X.env.scope.names.lookup x = some .local := by first | exact .inl rfl | exact .inr rfl | assumption) : wpAny M A (storeName X.env x u) Q E s :=
  store_ok2 I hN hi hx r (fun s' I' _ => h s' I') hf
/-- behind a call or a block, the state as it is -/
theorem Inv.call' {s' : Shared} {ch : List Addr} (I : Inv X pins σ H s) (ho : s'.os = s.os) (u : Un (frs X.stack) ch H H' s.heap s'.heap) (hok : HOk X.prog X.w H' s'.heap) (hg : AllBare s'.gens)
    (hch : ∀ b ∈ ch, (b ∈ X.ex ∨ X.s₀.heap.objs.size ≤ b) ∧ b ≠ X.env.locals ∧ (∀ x c, X.env.cells.lookup x = some c → c ≠ b) ∧ ∀ p ∈ X.pn ++ pins, p.1 ≠ b) : Inv X pins σ H' s' := by
  obtain ⟨h', g', d', t', o'⟩ := s'
  have e : o' = s.os := ho
  subst e
  exact I.call (g' := g') (t' := t') (d' := d') u hok hg hch
end

/-! ### the judgements -/
/-- an exception: its class, its own dict's address (where it has one), the abstract heap behind it -/
abbrev XK := Value → Option Addr → Hp → Prop
abbrev St := List (Option V)
abbrev VK := V → Hp → Prop
/-- an expression's reading; a test's; an argument list's -/
abbrev TE := St → Hp → VK → Prop
abbrev TT := St → Hp → (Bool → Hp → Prop) → Prop
abbrev TA := St → Hp → (List V → Hp → Prop) → Prop
/-- what is wanted behind a statement -/
structure Ends where
  nx : St → Hp → Prop
  rt : VK
  bk : St → Hp → Prop := fun _ _ => False
  ct : St → Hp → Prop := fun _ _ => False
abbrev TS := Ends → St → Hp → Prop

def EP (X : Cx) (pins : List (Addr × Obj)) (σ : St) (Q : VK) (u : Value) (s' : Shared) : Prop := ∃ v H', Inv X pins σ H' s' ∧ RelV v u ∧ Q v H'
def TP (X : Cx) (pins : List (Addr × Obj)) (σ : St) (Q : Bool → Hp → Prop) (b : Bool) (s' : Shared) : Prop := ∃ H', Inv X pins σ H' s' ∧ Q b H'
def AP (X : Cx) (pins : List (Addr × Obj)) (σ : St) (Q : List V → Hp → Prop) (us : List Value) (s' : Shared) : Prop := ∃ vs H', Inv X pins σ H' s' ∧ Vals vs us ∧ Q vs H'
def SP (X : Cx) (pins : List (Addr × Obj)) (D : Ends) (f : Flow) (s' : Shared) : Prop :=
  match f with
  | .next => ∃ σ' H', Inv X pins σ' H' s' ∧ D.nx σ' H'
  | .brk => ∃ σ' H', Inv X pins σ' H' s' ∧ D.bk σ' H'
  | .cont => ∃ σ' H', Inv X pins σ' H' s' ∧ D.ct σ' H'
  | .ret u => ∃ v σ' H', Inv X pins σ' H' s' ∧ RelV v u ∧ D.rt v H'

def PE (X : Cx) (e : Expr) (t : TE) : Prop :=
  ∀ (pins : List (Addr × Obj)) (s : Shared) (σ : St) (H : Hp) (Q : VK), Inv X pins σ H s → t σ H Q → wpAny (model X.prog X.w) X.A (eval e X.env) (EP X pins σ Q) X.xe s
def PT (X : Cx) (e : Expr) (t : TT) : Prop :=
  ∀ (pins : List (Addr × Obj)) (s : Shared) (σ : St) (H : Hp) (Q : Bool → Hp → Prop), Inv X pins σ H s → t σ H Q → wpAny (model X.prog X.w) X.A (isTrue e X.env (eval e X.env)) (TP X pins σ Q) X.xe s
/-- a test whatever its 'whole' is (and, or) -/
def PW (X : Cx) (e : Expr) (t : TT) : Prop :=
  ∀ (whole : Sem Value) (pins : List (Addr × Obj)) (s : Shared) (σ : St) (H : Hp) (Q : Bool → Hp → Prop), Inv X pins σ H s → t σ H Q → wpAny (model X.prog X.w) X.A (isTrue e X.env whole) (TP X pins σ Q) X.xe s
theorem PW.pt {X : Cx} {e : Expr} {t : TT} (h : PW X e t) : PT X e t := h _
/-- an argument list (no star), from the left -/
def PA (X : Cx) (es : List Expr) (t : TA) : Prop :=
  ∀ (pos : Pos) (pins : List (Addr × Obj)) (s : Shared) (σ : St) (H : Hp) (Q : List V → Hp → Prop), Inv X pins σ H s → t σ H Q → wpAny (model X.prog X.w) X.A (spliced (backTo pos (starEach es X.env))) (AP X pins σ Q) X.xe s
def PS (X : Cx) (st : Stmt) (t : TS) : Prop :=
  ∀ (pins : List (Addr × Obj)) (s : Shared) (σ : St) (H : Hp) (D : Ends), Inv X pins σ H s → t D σ H → wpAny (model X.prog X.w) X.A (exec st X.env) (SP X pins D) X.xe s
def PSs (X : Cx) (st : List Stmt) (t : TS) : Prop :=
  ∀ (pins : List (Addr × Obj)) (s : Shared) (σ : St) (H : Hp) (D : Ends), Inv X pins σ H s → t D σ H → wpAny (model X.prog X.w) X.A (execs st X.env) (SP X pins D) X.xe s
/-- weaken the end -/
theorem thn {α : Type} {t : Sem α} {Q Q' : α → Shared → Prop} {M : Model} {A : Around} {E : Value → Shared → Prop} {s : Shared} (h : wpAny M A t Q E s) (hQ : ∀ a s, Q a s → Q' a s) : wpAny M A t Q' E s := wpAny_mono h hQ fun _ _ x => x
end L2

namespace L2
open PySem PySem.Spec PyProof.Rows
section
variable {X : Cx}

/-- two expressions in a row -/
theorem bin {a b : Expr} {ta tb : TE} (ha : PE X a ta) (hb : PE X b tb) {pins : List (Addr × Obj)} {s : Shared} {σ : St} {H : Hp} {R : V → V → Hp → Prop} (I : Inv X pins σ H s) (h : ta σ H fun x H1 => tb σ H1 fun y H2 => R x y H2)
    {α : Type} {Q : α → Shared → Prop} {f : Value → Value → Sem α}
    (hf : ∀ v u s2 x y H2, Inv X pins σ H2 s2 → RelV x v → RelV y u → R x y H2 → wpAny (model X.prog X.w) X.A (f v u) Q X.xe s2) :
    wpAny (model X.prog X.w) X.A (eval a X.env) (fun v s₁ => wpAny (model X.prog X.w) X.A (eval b X.env) (fun u s₂ => wpAny (model X.prog X.w) X.A (f v u) Q X.xe s₂) X.xe s₁) X.xe s := by
  refine thn (ha pins s σ H _ I h) fun v s1 ⟨x, H1, I1, r1, q1⟩ => ?_
  refine thn (hb pins s1 σ H1 _ I1 q1) fun u s2 ⟨y, H2, I2, r2, q2⟩ => ?_
  exact hf v u s2 x y H2 I2 r1 r2 q2

/-! ### names and constants -/
def tVar (i : Nat) : TE := fun σ H Q => ∃ v, σ[i]? = some (some v) ∧ Q v H
def tC (v : V) : TE := fun _ H Q => Q v H
theorem pe_var {i : Nat} {x : Str} {pos : Pos} (hN : X.N[i]? = some x) (hv : Vis X.env.scope x) (hd : (x == ("__debug__" : Str)) = false := by decide) (hcd : (x == ("__classdict__" : Str)) = false := by decide) : PE X (.Name x pos) (tVar i) := by
  intro pins s σ H Q I h
  obtain ⟨v, e, h⟩ := h
  obtain ⟨m, hn, hl⟩ := I.loc
  obtain ⟨u, r, l⟩ := hl i x v hN e hv
  have fin : EP X pins σ Q u s := ⟨v, H, I, r, h⟩
  rcases l with ⟨hk, hm⟩ | ⟨hk, c, hc, hcell⟩
  · exact wpAny_Name (wpAny_loadName_local I.ok.kind hk hn hm fin) hd
  · rcases hk with hk | hk
    · exact wpAny_Name (wpAny_loadName_cell I.ok.kind hk hc hcell fin) hd
    · exact wpAny_Name (wpAny_loadName_free I.ok.kind hk hc hcell fin hcd) hd
theorem pe_int {i j pos} : PE X (.Constant (.int i) j pos) (tC (.int i)) := fun _ _ _ H _ I h => wpAny_Constant_int ⟨.int i, H, I.tok _, ⟨_, rfl⟩, h⟩
theorem pe_bl {b j pos} : PE X (.Constant (.bool b) j pos) (tC (.bl b)) := fun _ _ _ H _ I h => Constant_bool ⟨.bl b, H, I, rfl, h⟩
theorem pe_non {j pos} : PE X (.Constant .none j pos) (tC .non) := fun _ _ _ H _ I h => Constant_none ⟨.non, H, I, rfl, h⟩
theorem pe_str {x j pos} : PE X (.Constant (.str x) j pos) (tC (.str x)) := fun _ _ _ H _ I h => Calls.Constant_str ⟨.str x, H, I.tok _, ⟨_, rfl⟩, h⟩

/-- a global name of the def -/
def Gl (X : Cx) (x : Str) : Prop := X.env.kindOf x = some .globalImplicit
theorem ld_glob {E : Value → Shared → Prop} {pins : List (Addr × Obj)} {s : Shared} {σ : St} {H : Hp} {x : Str} {u : Value} {pos : Pos} {Q : Value → Shared → Prop} (I : Inv X pins σ H s) (hg : Gl X x) (hm : X.mg x = some u) (h : Q u s)
    (hd : (x == ("__debug__" : Str)) = false := by decide) : wpAny (model X.prog X.w) X.A (eval (.Name x pos) X.env) Q E s :=
  Calls.Name_function_global I.ok.kind hg (Calls.loadGlobal_global (by rw [I.ok.glob]; exact I.mod.glob.keeps I.bk) hm h) hd
theorem ld_blt {E : Value → Shared → Prop} {pins : List (Addr × Obj)} {s : Shared} {σ : St} {H : Hp} {x : Str} {u : Value} {pos : Pos} {Q : Value → Shared → Prop} (I : Inv X pins σ H s) (hg : Gl X x) (hm : X.mg x = none) (hv : bootBuiltins x = some u) (h : Q u s)
    (hn : x ≠ "__name__" := by decide) (hd : (x == ("__debug__" : Str)) = false := by decide) : wpAny (model X.prog X.w) X.A (eval (.Name x pos) X.env) Q E s := by
  obtain ⟨mb, h1, h2⟩ := I.mod.blt
  exact Calls.Name_function_global I.ok.kind hg (Calls.loadGlobal_builtin (by rw [I.ok.glob]; exact I.mod.glob.keeps I.bk) hm (by rw [I.ok.blt]; exact h1.keeps I.bk) ((h2 x hn).trans hv) h) hd
/-- a module's constant, a class, a function, as a value -/
theorem pe_glob {x : Str} {v : V} {u : Value} {pos : Pos} (hg : Gl X x) (hm : X.mg x = some u) (r : RelV v u) (hd : (x == ("__debug__" : Str)) = false := by decide) : PE X (.Name x pos) (tC v) :=
  fun _ _ _ H _ I h => ld_glob I hg hm ⟨v, H, I, r, h⟩ hd
theorem pe_bltn {x : Str} {v : V} {u : Value} {pos : Pos} (hg : Gl X x) (hm : X.mg x = none) (hv : bootBuiltins x = some u) (r : RelV v u) (hn : x ≠ "__name__" := by decide) (hd : (x == ("__debug__" : Str)) = false := by decide) : PE X (.Name x pos) (tC v) :=
  fun _ _ _ H _ I h => ld_blt I hg hm hv ⟨v, H, I, r, h⟩ hn hd

variable {a b : Expr} {ta tb : TE} {pos : Pos}
/-! ### comparisons -/
def PC (X : Cx) (op : CmpOp) (a b : Expr) (t : TE) : Prop :=
  ∀ (pins : List (Addr × Obj)) (s : Shared) (σ : St) (H : Hp) (Q : VK), Inv X pins σ H s → t σ H Q →
    wpAny (model X.prog X.w) X.A (eval a X.env) (fun v s₁ => wpAny (model X.prog X.w) X.A (eval b X.env) (fun u s₂ => wpAny (model X.prog X.w) X.A (compareOp op v u) (EP X pins σ Q) X.xe s₂) X.xe s₁) X.xe s
theorem nobehind (b : Expr) {op : CmpOp} (h : op ≠ .In) (h2 : op ≠ .NotIn) : behindInMarks op b = false := by
  have e1 : (op == CmpOp.In) = false := by cases op <;> first | rfl | exact absurd rfl h
  have e2 : (op == CmpOp.NotIn) = false := by cases op <;> first | rfl | exact absurd rfl h2
  cases b <;> simp [behindInMarks, e1, e2]
/-- is None -/
def tIsN (ta : TE) : TE := fun σ H Q => ta σ H fun x H1 => Q (.bl (decide (x = .non))) H1
theorem RelV.none_iff {x : V} {v : Value} (r : RelV x v) : (v == Value.none) = decide (x = .non) := by
  cases x with
  | non => cases r; rfl
  | bl _ => cases r; rfl
  | int _ => obtain ⟨t, rfl⟩ := r; rfl
  | str _ => obtain ⟨t, rfl⟩ := r; rfl
  | byt _ => obtain ⟨t, rfl⟩ := r; rfl
  | flt _ => obtain ⟨t, rfl⟩ := r; rfl
  | ref _ => cases r; rfl
  | ty _ => cases r; rfl
theorem pc_isN {j pos'} (ha : PE X a ta) : PC X .Is a (.Constant .none j pos') (tIsN ta) := by
  intro pins s σ H Q I h
  refine thn (ha pins s σ H _ I h) fun v s1 ⟨x, H1, I1, r1, q1⟩ => ?_
  exact Constant_none (is_none_gen ⟨.bl _, H1, I1, by rw [r1.none_iff]; rfl, q1⟩)
/-- a comparison as a value, as a test -/
def tB (t : TE) : TT := fun σ H Q => t σ H fun x H1 => ∃ c, x = .bl c ∧ Q c H1
theorem pe_cmp {op : CmpOp} {t : TE} (h : PC X op a b t) (h1 : behindInMarks op b = false := by first | exact nobehind _ (by decide) (by decide) | rfl) : PE X (.Compare a [op] [b] pos) t := fun pins s σ H Q I hw => wpAny_Compare1 (h pins s σ H Q I hw) h1
theorem pt_cmp {op : CmpOp} {t : TE} (h : PC X op a b t) (h1 : behindInMarks op b = false := by first | exact nobehind _ (by decide) (by decide) | rfl) : PT X (.Compare a [op] [b] pos) (tB t) := by
  intro pins s σ H Q I hw
  refine wpAny_isTrue_Compare1 (thn (h pins s σ H _ I hw) fun v s1 h1 => thn h1 fun u s2 h2 => thn h2 fun c s3 ⟨x, H1, I1, r1, q1⟩ => ?_) h1
  obtain ⟨d, rfl, q⟩ := q1
  cases r1
  exact wpAny_truthy_bool ⟨H1, I1, q⟩
/-- an expression whose value is a bool, as a test -/
theorem pt_val {e : Expr} {t : TE} (h : PE X e t) (he : ∀ whole, isTrue e X.env whole = (do let v ← whole; standAt e.pos; holding [v] (truthy v)) := by intro _; rfl) : PT X e (tB t) := by
  intro pins s σ H Q I hw
  refine isTrue_plain (thn (h pins s σ H _ I hw) fun v s1 ⟨x, H1, I1, r1, q1⟩ => ?_) (he _)
  obtain ⟨d, rfl, q⟩ := q1
  cases r1
  exact wpAny_truthy_bool ⟨H1, I1, q⟩

/-! ### and, or, not -/
variable {tA tB' : TT} {rest : List Expr}
def tAnd (t u : TT) : TT := fun σ H Q => t σ H fun c H1 => if c = true then u σ H1 Q else Q false H1
def tOr (t u : TT) : TT := fun σ H Q => t σ H fun c H1 => if c = true then Q true H1 else u σ H1 Q
def tNot (t : TT) : TT := fun σ H Q => t σ H fun c H1 => Q (!c) H1
theorem pw_and1 (ha : PT X a tA) : PW X (.BoolOp .And [a] pos) tA := by
  intro wh pins s σ H Q I h
  refine isTrue_and (thn (ha pins s σ H Q I h) fun c s1 e => ?_)
  cases c with
  | true => exact isTrue_and_nil e
  | false => exact e
theorem pw_or1 (ha : PT X a tA) : PW X (.BoolOp .Or [a] pos) tA := by
  intro wh pins s σ H Q I h
  refine isTrue_or (thn (ha pins s σ H Q I h) fun c s1 e => ?_)
  cases c with
  | false => exact isTrue_or_nil e
  | true => exact e
theorem pw_and (ha : PT X a tA) (hb : PW X (.BoolOp .And (b :: rest) pos) tB') : PW X (.BoolOp .And (a :: b :: rest) pos) (tAnd tA tB') := by
  intro wh pins s σ H Q I h
  refine isTrue_and (thn (ha pins s σ H _ I h) fun c s1 ⟨H1, I1, q1⟩ => ?_)
  cases c with
  | true => exact hb wh pins s1 σ H1 Q I1 q1
  | false => exact ⟨H1, I1, q1⟩
theorem pw_or (ha : PT X a tA) (hb : PW X (.BoolOp .Or (b :: rest) pos) tB') : PW X (.BoolOp .Or (a :: b :: rest) pos) (tOr tA tB') := by
  intro wh pins s σ H Q I h
  refine isTrue_or (thn (ha pins s σ H _ I h) fun c s1 ⟨H1, I1, q1⟩ => ?_)
  cases c with
  | true => exact ⟨H1, I1, q1⟩
  | false => exact hb wh pins s1 σ H1 Q I1 q1
theorem pt_not (ha : PT X a tA) : PT X (.UnaryOp .Not a pos) (tNot tA) := by
  intro pins s σ H Q I h
  exact isTrue_not (ha pins s σ H (fun c H1 => Q (!c) H1) I h)
/-- .. as values (bools) -/
def tAndV (ta tb : TE) : TE := fun σ H Q => ta σ H fun x H1 => ∃ c, x = .bl c ∧ if c = true then tb σ H1 Q else Q (.bl false) H1
def tOrV (ta tb : TE) : TE := fun σ H Q => ta σ H fun x H1 => ∃ c, x = .bl c ∧ if c = true then Q (.bl true) H1 else tb σ H1 Q
def tNotV (ta : TE) : TE := fun σ H Q => ta σ H fun x H1 => ∃ c, x = .bl c ∧ Q (.bl (!c)) H1
theorem pe_one {op} {t : TE} (h : PE X a t) : PE X (.BoolOp op [a] pos) t := fun pins s σ H Q I hw => BoolOp_one (h pins s σ H Q I hw)
theorem pe_and (ha : PE X a ta) (hb : PE X (.BoolOp .And (b :: rest) pos) tb) : PE X (.BoolOp .And (a :: b :: rest) pos) (tAndV ta tb) := by
  intro pins s σ H Q I h
  refine BoolOp_and (thn (ha pins s σ H _ I h) fun v s1 ⟨x, H1, I1, r1, q1⟩ => ?_)
  obtain ⟨c, rfl, q1⟩ := q1
  cases r1
  refine wpAny_truthy_bool ?_
  cases c with
  | true => exact hb pins s1 σ H1 Q I1 q1
  | false => exact ⟨.bl false, H1, I1, rfl, q1⟩
theorem pe_or (ha : PE X a ta) (hb : PE X (.BoolOp .Or (b :: rest) pos) tb) : PE X (.BoolOp .Or (a :: b :: rest) pos) (tOrV ta tb) := by
  intro pins s σ H Q I h
  refine BoolOp_or (thn (ha pins s σ H _ I h) fun v s1 ⟨x, H1, I1, r1, q1⟩ => ?_)
  obtain ⟨c, rfl, q1⟩ := q1
  cases r1
  refine wpAny_truthy_bool ?_
  cases c with
  | false => exact hb pins s1 σ H1 Q I1 q1
  | true => exact ⟨.bl true, H1, I1, rfl, q1⟩
theorem pe_not (ha : PE X a ta) : PE X (.UnaryOp .Not a pos) (tNotV ta) := by
  intro pins s σ H Q I h
  refine UnaryOp_ (thn (ha pins s σ H _ I h) fun v s1 ⟨x, H1, I1, r1, q1⟩ => ?_)
  obtain ⟨c, rfl, q1⟩ := q1
  cases r1
  exact not_of (wpAny_truthy_bool ⟨.bl (!c), H1, I1, rfl, q1⟩)
/-- a if t else b -/
def tIf (t : TT) (ta tb : TE) : TE := fun σ H Q => t σ H fun c H1 => if c = true then ta σ H1 Q else tb σ H1 Q
theorem pe_ifExp {c : Expr} (hc : PT X c tA) (ha : PE X a ta) (hb : PE X b tb) : PE X (.IfExp c a b pos) (tIf tA ta tb) := by
  intro pins s σ H Q I h
  refine wpAny_IfExp (thn (hc pins s σ H _ I h) fun d s1 ⟨H1, I1, q1⟩ => ?_)
  cases d with
  | true => exact ha pins s1 σ H1 Q I1 q1
  | false => exact hb pins s1 σ H1 Q I1 q1
end
end L2

namespace L2
open PySem PySem.Spec PyProof.Rows

/-! ### a list, a tuple that is read: tracked, frozen, or an object of the module -/
def SqL (K : PySem.W.Frag) (H : Hp) (a : Addr) (xs : List V) : Prop :=
  Rd H a (.lst xs) ∨
    ∃ (o : Obj) (its : Array Value) (n : Nat), K.lookup a = some o ∧ o.cls = .type "list" ∧ o.dict = none ∧ o.data = .seq its n ∧ its.size ≤ sizeLine ∧ Vals xs its.toList
def SqT (K : PySem.W.Frag) (H : Hp) (a : Addr) (xs : List V) : Prop :=
  Rd H a (.tup xs) ∨
    ∃ (o : Obj) (its : Array Value) (n : Nat), K.lookup a = some o ∧ o.cls = .type "tuple" ∧ o.data = .seq its n ∧ its.size ≤ sizeLine ∧ Vals xs its.toList
def absV : Value → Option V
  | .none => some .non
  | .bool b => some (.bl b)
  | .int i _ => some (.int i)
  | .str x _ => some (.str x)
  | .bytes b _ => some (.byt b)
  | .float b _ => some (.flt b)
  | .ref a => some (.ref a)
  | .type n => some (.ty n)
  | _ => none
theorem RelV.abs {x : V} {u : Value} (r : RelV x u) : absV u = some x := by
  cases x with
  | non => cases r; rfl
  | bl _ => cases r; rfl
  | int _ => obtain ⟨t, rfl⟩ := r; rfl
  | str _ => obtain ⟨t, rfl⟩ := r; rfl
  | byt _ => obtain ⟨t, rfl⟩ := r; rfl
  | flt _ => obtain ⟨t, rfl⟩ := r; rfl
  | ref _ => cases r; rfl
  | ty _ => cases r; rfl
theorem RelV.inj {x y : V} {u : Value} (r : RelV x u) (q : RelV y u) : x = y := Option.some.inj (r.abs.symm.trans q.abs)
theorem Vals.inj : ∀ {xs ys : List V} {us : List Value}, Vals xs us → Vals ys us → xs = ys
  | _, _, _, .nil, .nil => rfl
  | _, _, _, .cons r t, .cons r' t' => by rw [r.inj r', Vals.inj t t']
section
variable {X : Cx} {pins : List (Addr × Obj)} {σ : St} {H : Hp} {s : Shared} {a : Addr} {xs ys : List V}
theorem SqL.of {K : PySem.W.Frag} (h : H a = some (.lst xs)) : SqL K H a xs := .inl (.inl h)
theorem SqT.of {K : PySem.W.Frag} (h : H a = some (.tup xs)) : SqT K H a xs := .inl (.inl h)
theorem Inv.list (I : Inv X pins σ H s) (h : SqL X.K H a xs) : ∃ its : List Value, Vals xs its ∧ PlainL s.heap a its.toArray ∧ xs.length ≤ sizeLine := by
  rcases h with h | ⟨o, its, n, hk, hc, hd, hs, hz, r⟩
  · obtain ⟨z, its, n, r, e⟩ := h.ok I.hok
    exact ⟨its, r, ⟨_, n, e, rfl, rfl, rfl⟩, z⟩
  · refine ⟨its.toList, r, ⟨o, n, I.kIn a o hk, hc, hd, by simpa using hs⟩, ?_⟩
    have e := r.length
    simp only [Array.length_toList] at e
    omega
theorem Inv.tuple (I : Inv X pins σ H s) (h : SqT X.K H a xs) : ∃ its : List Value, Vals xs its ∧ IsTup s.heap a its.toArray ∧ xs.length ≤ sizeLine := by
  rcases h with h | ⟨o, its, n, hk, hc, hs, hz, r⟩
  · obtain ⟨z, its, r, p⟩ := h.ok I.hok
    exact ⟨its, r, p, z⟩
  · refine ⟨its.toList, r, ⟨o, I.kIn a o hk, hc, n, by simpa using hs⟩, ?_⟩
    have e := r.length
    simp only [Array.length_toList] at e
    omega
theorem Inv.list_inj (I : Inv X pins σ H s) (h : SqL X.K H a xs) (h' : SqL X.K H a ys) : xs = ys := by
  obtain ⟨its, r, ⟨o, n, e, _, _, d⟩, _⟩ := I.list h
  obtain ⟨its', r', ⟨o', n', e', _, _, d'⟩, _⟩ := I.list h'
  rw [e] at e'; cases e'
  rw [d] at d'
  injection d' with d1 _
  have : its = its' := by simpa using congrArg Array.toList d1
  subst this
  exact r.inj r'
end

/-! ### another wish about exceptions -/
abbrev Cx.wish (X : Cx) (E : Value → Shared → Prop) : Cx := { X with xe := E }
/-- no exception leaves -/
abbrev Cx.nox (X : Cx) : Cx := X.wish fun _ _ => False
theorem Cx.Ok.wish {X : Cx} (ok : X.Ok) (E : Value → Shared → Prop) : (X.wish E).Ok :=
  ⟨ok.mod, ok.kind, ok.glob, ok.blt, ok.above, ok.inj, ok.has, ok.cab, ok.hd, ok.frames, ok.stk, ok.exf, ok.bs, ok.bsz, ok.noex, ok.exfs, ok.funs, ok.frf⟩
theorem Cx.Ok.unwish {X : Cx} {E : Value → Shared → Prop} (ok : (X.wish E).Ok) : X.Ok :=
  ⟨ok.mod, ok.kind, ok.glob, ok.blt, ok.above, ok.inj, ok.has, ok.cab, ok.hd, ok.frames, ok.stk, ok.exf, ok.bs, ok.bsz, ok.noex, ok.exfs, ok.funs, ok.frf⟩
section
variable {X : Cx} {pins : List (Addr × Obj)} {σ : St} {H : Hp} {s : Shared} {E : Value → Shared → Prop}
theorem Inv.wish (I : Inv X pins σ H s) (E : Value → Shared → Prop) : Inv (X.wish E) pins σ H s := ⟨I.ok.wish E, I.os, I.bare, I.base, I.loc, I.cell, I.free, I.freeC, I.pin, I.hok, I.len⟩
theorem Inv.unwish (I : Inv (X.wish E) pins σ H s) : Inv X pins σ H s := ⟨I.ok.unwish, I.os, I.bare, I.base, I.loc, I.cell, I.free, I.freeC, I.pin, I.hok, I.len⟩
theorem SP.unwish {D : Ends} {f : Flow} {s' : Shared} (h : SP (X.wish E) pins D f s') : SP X pins D f s' := by
  cases f with
  | next => obtain ⟨σ', H', I, q⟩ := h; exact ⟨σ', H', I.unwish, q⟩
  | brk => obtain ⟨σ', H', I, q⟩ := h; exact ⟨σ', H', I.unwish, q⟩
  | cont => obtain ⟨σ', H', I, q⟩ := h; exact ⟨σ', H', I.unwish, q⟩
  | ret u => obtain ⟨v, σ', H', I, r, q⟩ := h; exact ⟨v, σ', H', I.unwish, r, q⟩
theorem PE.nox {e : Expr} {t : TE} (h : PE X.nox e t) : PE X e t := fun pins s σ H Q I hw =>
  wpAny_mono (h pins s σ H Q (I.wish _) hw) (fun _ _ ⟨v, H', I', r, q⟩ => ⟨v, H', I'.unwish, r, q⟩) fun _ _ z => False.elim z
theorem PT.nox {e : Expr} {t : TT} (h : PT X.nox e t) : PT X e t := fun pins s σ H Q I hw =>
  wpAny_mono (h pins s σ H Q (I.wish _) hw) (fun _ _ ⟨H', I', q⟩ => ⟨H', I'.unwish, q⟩) fun _ _ z => False.elim z
theorem PSs.nox {st : List Stmt} {t : TS} (h : PSs X.nox st t) : PSs X st t := fun pins s σ H D I hw =>
  wpAny_mono (h pins s σ H D (I.wish _) hw) (fun _ _ q => q.unwish) fun _ _ z => False.elim z
end

/-! ### blocks and small statements -/
section
variable {X : Cx} {st : Stmt} {rest : List Stmt} {t u : TS} {e : Expr} {te : TE} {pos : Pos}
def tNext : TS := fun D σ H => D.nx σ H
def tSeq (t u : TS) : TS := fun D σ H => t { D with nx := u D } σ H
theorem pss_nil : PSs X [] tNext := fun _ _ σ H _ I h => wpAny_execs_nil ⟨σ, H, I, h⟩
theorem pss_cons (h1 : PS X st t) (h2 : PSs X rest u) : PSs X (st :: rest) (tSeq t u) := by
  intro pins s σ H D I h
  refine wpAny_execs_cons (thn (h1 pins s σ H { D with nx := u D } I h) fun f s1 q => ?_)
  cases f with
  | next =>
    obtain ⟨σ', H', I', q⟩ := q
    exact h2 pins s1 σ' H' D I' q
  | ret v => exact q
  | brk => exact q
  | cont => exact q
theorem pss_one (h1 : PS X st t) : PSs X [st] t := by
  intro pins s σ H D I h
  refine wpAny_execs_cons (thn (h1 pins s σ H D I h) fun f s1 q => ?_)
  cases f with
  | next => exact wpAny_execs_nil q
  | ret v => exact q
  | brk => exact q
  | cont => exact q
/-- in a def's body nothing is shown -/
theorem Inv.quiet {pins : List (Addr × Obj)} {σ : St} {H : Hp} {s : Shared} (I : Inv X pins σ H s) : interactive X.env = false := by simp [interactive, I.ok.kind]
/-- an expression whose value is dropped -/
def tDrop (te : TE) : TS := fun D σ H => te σ H fun _ H1 => D.nx σ H1
theorem ps_expr (he : PE X e te) (hs : swapsWith e none pos.line X.env = pure false := by rfl) : PS X (.Expr e pos) (tDrop te) := by
  intro pins s σ H D I h
  exact wpAny_Expr_any (thn (he pins s σ H _ I h) fun v s1 ⟨x, H1, I1, r1, q1⟩ => ⟨σ, H1, I1, q1⟩) I.quiet hs
def tRet (te : TE) : TS := fun D σ H => te σ H D.rt
theorem ps_ret (he : PE X e te) : PS X (.Return (some e) pos) (tRet te) := by
  intro pins s σ H D I h
  exact wpAny_Return_some (thn (he pins s σ H _ I h) fun v s1 ⟨x, H1, I1, r1, q1⟩ => ⟨x, σ, H1, I1, r1, q1⟩)
def tIfS (c : TT) (t u : TS) : TS := fun D σ H => c σ H fun b H1 => if b = true then t D σ H1 else u D σ H1
theorem ps_if {c : Expr} {a b : List Stmt} {tc : TT} (hc : PT X c tc) (ha : PSs X a t) (hb : PSs X b u) : PS X (.If c a b pos) (tIfS tc t u) := by
  intro pins s σ H D I h
  refine wpAny_If (thn (hc pins s σ H _ I h) fun d s1 ⟨H1, I1, q1⟩ => ?_)
  cases d with
  | true => exact ha pins s1 σ H1 D I1 q1
  | false => exact hb pins s1 σ H1 D I1 q1
/-- code that the proof never comes to -/
def tNever : TS := fun _ _ _ => False
theorem ps_never : PS X st tNever := fun _ _ _ _ _ _ h => h.elim
theorem pss_never {sts : List Stmt} : PSs X sts tNever := fun _ _ _ _ _ _ h => h.elim
end

/-! ### targets -/
abbrev TG := V → St → Hp → (St → Hp → Prop) → Prop
abbrev TGs := List V → St → Hp → (St → Hp → Prop) → Prop
def PG (X : Cx) (target : Expr) (t : TG) : Prop :=
  ∀ (pins : List (Addr × Obj)) (s : Shared) (σ : St) (H : Hp) (v : V) (u : Value) (Q : St → Hp → Prop), Inv X pins σ H s → RelV v u → t v σ H Q →
    wpAny (model X.prog X.w) X.A (assign target X.env u) (fun _ s' => ∃ σ' H', Inv X pins σ' H' s' ∧ Q σ' H') X.xe s
/-- several targets, one after another -/
def PGs (X : Cx) (ts : List Expr) (t : TGs) : Prop :=
  ∀ (pins : List (Addr × Obj)) (s : Shared) (σ : St) (H : Hp) (vs : List V) (us : List Value) (Q : St → Hp → Prop), Inv X pins σ H s → Vals vs us → t vs σ H Q →
    wpAny (model X.prog X.w) X.A (assignInOrder ((assignEach ts X.env).map (·.2)) us) (fun _ s' => ∃ σ' H', Inv X pins σ' H' s' ∧ Q σ' H') X.xe s
/-- o[i] = v, by values -/
abbrev TSet := V → V → V → Hp → (Hp → Prop) → Prop
def PSet (X : Cx) (t : TSet) : Prop :=
  ∀ (pins : List (Addr × Obj)) (s : Shared) (σ : St) (H : Hp) (o i v : V) (ov iv u : Value) (Q : Hp → Prop), Inv X pins σ H s → RelV o ov → RelV i iv → RelV v u → t o i v H Q →
    wpAny (model X.prog X.w) X.A (setItem ov iv u) (fun _ s' => ∃ H', Inv X pins σ H' s' ∧ Q H') X.xe s
section
variable {X : Cx} {pos : Pos}
def gName (i : Nat) : TG := fun v σ H Q => Q (σ.set i (some v)) H
theorem pg_name {i : Nat} {x : Str} (hN : X.N.Nodup) (hi : X.N[i]? = some x) (hx : Loc X.env.scope x) (hf : X.fn x = true ∨ X.env.scope.names.lookup x = some .local := by first | exact .inl rfl | exact .inr rfl | assumption) : PG X (.Name x pos) (gName i) := by
  intro pins s σ H v u Q I r h
  exact wpAny_assign_Name (store_ok I hN hi hx r (fun s' I' => ⟨_, H, I', h⟩) hf)
def gNil : TGs := fun vs σ H Q => vs = [] ∧ Q σ H
def gCons (t : TG) (u : TGs) : TGs := fun vs σ H Q => ∃ v r, vs = v :: r ∧ t v σ H fun σ' H' => u r σ' H' Q
theorem pgs_nil : PGs X [] gNil := by
  intro pins s σ H vs us Q I r h
  obtain ⟨e, h⟩ := h
  subst e
  cases r
  exact assignInOrder_nil ⟨σ, H, I, h⟩
theorem pgs_cons {e : Expr} {es : List Expr} {t : TG} {u : TGs} (h1 : PG X e t) (h2 : PGs X es u)
    (hs : (assignEach (e :: es) X.env).map (·.2) = assign e X.env :: (assignEach es X.env).map (·.2) := by rfl) : PGs X (e :: es) (gCons t u) := by
  intro pins s σ H vs us Q I r h
  obtain ⟨v, vr, e1, h⟩ := h
  subst e1
  cases r with
  | cons r rr =>
    rw [hs]
    refine assignInOrder_cons (thn (h1 pins s σ H _ _ _ I r h) fun _ s1 ⟨σ1, H1, I1, q1⟩ => ?_)
    exact h2 pins s1 σ1 H1 _ _ Q I1 rr q1
/-- (a, b, ..) = a tuple of that length -/
def gTup (K : PySem.W.Frag) (n : Nat) (t : TGs) : TG := fun v σ H Q => ∃ a xs, v = .ref a ∧ SqT K H a xs ∧ xs.length = n ∧ t xs σ H Q
theorem pg_tup {es : List Expr} {k : Nat} {t : TGs} {n : Nat} (hc : X.calm = true) (h : PGs X es t)
    (hn : (assignEach es X.env).length = n := by rfl) (hst : (assignEach es X.env).findIdx? (·.1) = none := by rfl) : PG X (.Tuple es k pos) (gTup X.K n t) := by
  intro pins s σ H v u Q I r hw
  obtain ⟨a, xs, e1, hq, hl, hw⟩ := hw
  subst e1
  cases r
  obtain ⟨its, rv, ht, hz⟩ := I.tuple hq
  refine assign_Tuple_tuple (I.ok.hd hc) ht (by simp [hn, ← hl, rv.length]) hst fun h' hx => ?_
  have I1 : Inv X pins σ H { s with heap := h' } := I.kept (t' := s.toks) fun b o e => hx b o (Nat.ne_of_lt (Heap.lt_size e)) e
  exact h pins _ σ H xs _ Q I1 (by simpa using rv) hw
/-- o[i] = .. -/
def gSub (to ti : TE) (t : TSet) : TG := fun v σ H Q => to σ H fun o H1 => ti σ H1 fun i H2 => t o i v H2 fun H3 => Q σ H3
theorem pg_sub {o i : Expr} {to ti : TE} {t : TSet} (ho : PE X o to) (hi : PE X i ti) (hs : PSet X t)
    (ha : ∀ v, assign (.Subscript o i pos) X.env v = (do
      let ov ← holding [v] (eval o X.env)
      let iv ← holding [v, ov] (eval i X.env)
      standAt pos
      holding [v, ov, iv] (setItem ov iv v)
      release [v, ov, iv] []) := by intro _; rfl) : PG X (.Subscript o i pos) (gSub to ti t) := by
  intro pins s σ H v u Q I r h
  rw [ha]
  refine wpAny_bind (wpAny_holding (thn (ho pins s σ H _ I h) fun ov s1 ⟨x, H1, I1, r1, q1⟩ => ?_))
  refine wpAny_bind (wpAny_holding (thn (hi pins s1 σ H1 _ I1 q1) fun iv s2 ⟨y, H2, I2, r2, q2⟩ => ?_))
  refine wpAny_bind (wpAny_standAt (wpAny_bind (wpAny_holding (thn (hs pins s2 σ H2 x y v ov iv u _ I2 r1 r2 r q2) fun _ s3 ⟨H3, I3, q3⟩ => ?_))))
  exact wpAny_release ⟨σ, H3, I3, q3⟩
/-- target = value -/
def tAsg (te : TE) (g : TG) : TS := fun D σ H => te σ H fun x H1 => g x σ H1 D.nx
theorem ps_asg {tg e : Expr} {te : TE} {g : TG} (he : PE X e te) (hg : PG X tg g) (hs : swapsWithSole [tg] e pos.line X.env = pure false := by rfl) (hw : swappedStores [tg] e X.env = pure none := by rfl)
    (h1 : (assignEach [tg] X.env).map (·.2) = [assign tg X.env] := by rfl) : PS X (.Assign [tg] e pos) (tAsg te g) := by
  intro pins s σ H D I h
  refine wpAny_Assign_stores (thn (he pins s σ H _ I h) fun v s1 ⟨x, H1, I1, r1, q1⟩ => ?_) hs hw
  rw [h1]
  exact thn (hg pins s1 σ H1 x v _ I1 r1 q1) fun _ s2 q => q
/-- name = value -/
theorem ps_set {i : Nat} {x : Str} {e : Expr} {te : TE} {pos' : Pos} (hN : X.N.Nodup) (hi : X.N[i]? = some x) (hx : Loc X.env.scope x) (he : PE X e te) (hs : swapsWith e (some (.Name x pos')) pos.line X.env = pure false := by rfl) (hf : X.fn x = true ∨ X.env.scope.names.lookup x = some .local := by first | exact .inl rfl | exact .inr rfl | assumption) :
    PS X (.Assign [.Name x pos'] e pos) (tAsg te (gName i)) := by
  intro pins s σ H D I h
  refine wpAny_Assign_Name (thn (he pins s σ H _ I h) fun v s1 ⟨y, H1, I1, r1, q1⟩ => ?_) hs
  exact store_ok I1 hN hi hx r1 (fun s2 I2 => ⟨_, H1, I2, q1⟩) hf
end

/-! ### while -/
section
variable {X : Cx} {pos : Pos}
end

/-! ### what a loop or a comprehension walks -/
/-- at turn i: it yields x (the heap may grow), or it stops -/
structure It where
  go : Nat → Hp → Prop
  yld : Nat → Hp → V → Hp → Prop
  stop : Nat → Hp → Prop
/-- the iterator's own objects may turn: they are not the frame's, not pinned, younger than the entry (or a comprehension's own) -/
def FpOk (X : Cx) (pins : List (Addr × Obj)) (H : Hp) (b : Addr) : Prop :=
  H b = none ∧ b ≠ X.env.locals ∧ b ∉ X.fs ∧ (b ∈ X.ex ∨ X.s₀.heap.objs.size ≤ b) ∧ (∀ x c, X.env.cells.lookup x = some c → c ≠ b) ∧ ∀ p ∈ X.pn ++ pins, p.1 ≠ b
theorem Inv.fpOk {X : Cx} {pins : List (Addr × Obj)} {σ : St} {H H' : Hp} {s : Shared} {b : Addr} (I : Inv X pins σ H s) (hb : s.heap.objs.size ≤ b) (hn : H' b = none) : FpOk X pins H' b := by
  refine ⟨hn, Nat.ne_of_gt (Nat.lt_of_lt_of_le I.lt hb), I.nofs hb, .inr (Nat.le_trans I.sz hb), fun x c e z => ?_, fun p hp z => ?_⟩
  · obtain ⟨v, q⟩ := I.cell x c e
    exact absurd (Nat.lt_of_lt_of_le q.lt (by rw [z]; exact hb)) (Nat.lt_irrefl _)
  · exact absurd (Nat.lt_of_lt_of_le (Heap.lt_size (I.pin p hp).1) (by rw [z]; exact hb)) (Nat.lt_irrefl _)
structure Turn (P : Program) (w : World) (K : PySem.W.Frag) (tg : Expr) (J : It) (fp : List Addr) (it : Addr) (tn : Nat → Heap → Prop) : Prop where
  mem : it ∈ fp
  obj : ∀ i h, tn i h → ∀ b ∈ fp, ∃ o, h.get? b = some o ∧ ∀ v, o.data ≠ .cell v
  keep : ∀ i h h', tn i h → (∀ b ∈ fp, ∀ o, h.get? b = some o → h'.get? b = some o) → tn i h'
  item : ∀ (X : Cx), X.prog = P → X.w = w → X.K = K → X.calm = true → ∀ (i : Nat) (pins : List (Addr × Obj)) (s : Shared) (σ : St) (H : Hp) (E : Value → Shared → Prop), Inv X pins σ H s → (∀ b ∈ fp, FpOk X pins H b) → tn i s.heap → J.go i H →
    wpAny (model P w) X.A (pyNext (.ref it)) (fun r s1 => ∃ u, r = some u ∧
      wpAny (model P w) X.A (letOwnedTupleGo tg (.ref it) u) (fun _ s2 => ∃ x H', Inv X pins σ H' s2 ∧ RelV x u ∧ J.yld i H x H' ∧ tn (i + 1) s2.heap ∧ ∀ b ∈ fp, H' b = none) E s1) E s
  done : ∀ (X : Cx), X.prog = P → X.w = w → X.K = K → X.calm = true → ∀ (i : Nat) (pins : List (Addr × Obj)) (s : Shared) (σ : St) (H : Hp) (E : Value → Shared → Prop), Inv X pins σ H s → (∀ b ∈ fp, FpOk X pins H b) → tn i s.heap → J.stop i H →
    wpAny (model P w) X.A (pyNext (.ref it)) (fun r s1 => r = none ∧ Inv X pins σ H s1) E s
  self : ∀ (A : Around) (i : Nat) (s : Shared) (Q : Value → Shared → Prop) (E : Value → Shared → Prop), tn i s.heap → Q (.ref it) s → wpAny (model P w) A (pyIter (.ref it)) Q E s
abbrev TI := St → Hp → (It → Hp → Prop) → Prop
/-- an iterator has come -/
def PIE (X : Cx) (pins : List (Addr × Obj)) (σ : St) (tg : Expr) (R : It → Hp → Prop) (itv : Value) (s2 : Shared) : Prop :=
  ∃ (it : Addr) (fp : List Addr) (tn : Nat → Heap → Prop) (J : It) (H' : Hp), itv = .ref it ∧ Inv X pins σ H' s2 ∧ Turn X.prog X.w X.K tg J fp it tn ∧ tn 0 s2.heap ∧ (∀ b ∈ fp, FpOk X pins H' b) ∧ R J H'
def PI (X : Cx) (tg iter : Expr) (wi : TI) : Prop :=
  ∀ (pins : List (Addr × Obj)) (s : Shared) (σ : St) (H : Hp) (R : It → Hp → Prop), Inv X pins σ H s → wi σ H R →
    wpAny (model X.prog X.w) X.A (eval iter X.env) (fun v s1 => wpAny (model X.prog X.w) X.A (pyIter v) (PIE X pins σ tg R) X.xe s1) X.xe s

/-- the step ahead of the store is nothing for an iterator that keeps no tuple -/
theorem go_of {M : Model} {A : Around} {E : Value → Shared → Prop} {s : Shared} {tg : Expr} {it : Addr} {u : Value} {o : Obj} {n : String} {vs : Array Value} {Q : Unit → Shared → Prop} (ho : s.heap.get? it = some o) (hc : o.cls = .type n) (hd : o.data = .fields vs)
    (hn : ["enumerate", "zip", "dict_itemiterator", "dict_reverseitemiterator", "odict_iterator", "itertools.zip_longest", "itertools.pairwise"].contains n = false) (hQ : Q () s) : wpAny M A (letOwnedTupleGo tg (.ref it) u) Q E s := by
  unfold letOwnedTupleGo
  cases tg <;> first
    | exact wpAny_pure hQ
    | (cases u <;> first
        | exact wpAny_pure hQ
        | (refine wpAny_bind (wpAny_load ho ?_)
           rw [hc, hd]
           show wpAny M A (if (["enumerate", "zip", "dict_itemiterator", "dict_reverseitemiterator", "odict_iterator", "itertools.zip_longest", "itertools.pairwise"].contains n && vs[0]? == some (rawInt _)) = true then _ else _) Q E s
           rw [if_neg (by intro h; rw [hn, Bool.false_and] at h; cases h)]
           exact wpAny_pure hQ))

/-- the list at a, as it stands at each turn (a loop may append to it) -/
def Itl (K : PySem.W.Frag) (a : Addr) : It :=
  ⟨fun i H => ∃ xs x, SqL K H a xs ∧ xs[i]? = some x, fun i H x H' => H' = H ∧ ∀ xs, SqL K H a xs → xs[i]? = some x, fun i H => ∃ xs, SqL K H a xs ∧ xs.length ≤ i⟩
/-- lo, lo + 1, .. (n of them) -/
def Itr (lo : Int) (n : Nat) : It := ⟨fun i _ => i < n, fun i H x H' => H' = H ∧ x = .int (lo + i), fun i _ => n ≤ i⟩
theorem turn_list {P : Program} {w : World} {K : PySem.W.Frag} {tg : Expr} (a it : Addr) : Turn P w K tg (Itl K a) [it] it (fun i h => h.IsListIter it a i) where
  mem := by simp
  obj := fun i h st b hb => by
    have e : b = it := by simpa using hb
    subst e
    obtain ⟨o, e, c, d⟩ := st
    exact ⟨o, e, fun v z => by rw [d] at z; cases z⟩
  keep := fun i h h' st k => st.at fun o e => k it (by simp) o e
  item := by
    intro X hP hw hK hc i pins s σ H E I hf st hg
    subst hP hw hK
    obtain ⟨xs, x, hq, hx⟩ := hg
    obtain ⟨its, rv, p, hz⟩ := I.list hq
    obtain ⟨u, hu, ru⟩ := rv.get hx
    obtain ⟨f0, f1, f2, f3, f4, f5⟩ := hf it (by simp)
    refine wpAny_pyNext_list_item st p.isList (x := u) (by simpa using hu) fun h' st' sb => ?_
    have I1 : Inv X pins σ H { s with heap := h' } := I.turned (t' := s.toks) (fun b o hb e => (sb.2 b hb).trans e) f0 f1 f3 f4 f5
    obtain ⟨o, e, c, d⟩ := id st'
    exact ⟨u, rfl, go_of (s := { s with heap := h' }) e c d (by decide) ⟨x, H, I1, ru, ⟨rfl, fun ys hy => by rw [I.list_inj hy hq]; exact hx⟩, st', fun b hb => (hf b hb).1⟩⟩
  done := by
    intro X hP hw hK hc i pins s σ H E I hf st hg
    subst hP hw hK
    obtain ⟨xs, hq, hx⟩ := hg
    obtain ⟨its, rv, p, hz⟩ := I.list hq
    obtain ⟨f0, f1, f2, f3, f4, f5⟩ := hf it (by simp)
    have hl := rv.length
    exact wpAny_pyNext_list_end (I.ok.hd hc) st p.isList (by simp; omega) fun h' eb => ⟨rfl, I.turned (t' := s.toks) (fun b o hb e => eb b o hb e) f0 f1 f3 f4 f5⟩
  self := fun _ _ _ _ _ st h => wpAny_pyIter_listiter st h
theorem turn_range {P : Program} {w : World} {K : PySem.W.Frag} {tg : Expr} (it : Addr) (lo : Int) (n : Nat) : Turn P w K tg (Itr lo n) [it] it (fun i h => IsRangeIter h it (lo + (i : Nat) * 1) ((n : Int) - (i : Nat)) 1) where
  mem := by simp
  obj := fun i h st b hb => by
    have e : b = it := by simpa using hb
    subst e
    exact ⟨_, st, fun v z => by
      have z' : Data.fields _ = Data.cell v := z
      cases z'⟩
  keep := fun i h h' st k => k it (by simp) _ st
  item := by
    intro X hP hw hK hc i pins s σ H E I hf st hg
    subst hP hw hK
    obtain ⟨f0, f1, f2, f3, f4, f5⟩ := hf it (by simp)
    have W := Walks.range (prog := X.prog) (w := X.w) (I.ok.hd hc) it lo 1 n
    refine W.item i s _ _ hg st fun v h' tk hv st' kk => ?_
    obtain ⟨t, rfl⟩ := hv
    have I1 : Inv X pins σ H { s with heap := h', toks := tk } := I.turned (fun b o hb e => kk b o (by simpa using hb) e) f0 f1 f3 f4 f5
    refine ⟨_, rfl, go_of (s := { s with heap := h', toks := tk }) (n := "range_iterator") st' rfl rfl (by decide) ⟨.int (lo + i), H, I1, ⟨t, ?_⟩, ⟨rfl, rfl⟩, st', fun b hb => (hf b hb).1⟩⟩
    rw [Int.mul_one]
  done := by
    intro X hP hw hK hc i pins s σ H E I hf st hg
    subst hP hw hK
    obtain ⟨f0, f1, f2, f3, f4, f5⟩ := hf it (by simp)
    exact wpAny_pyNext_range_end (I.ok.hd hc) st (by have : n ≤ i := hg; omega) fun h' eb => ⟨rfl, I.turned (t' := s.toks) (fun b o hb e => eb b o hb e) f0 f1 f3 f4 f5⟩
  self := fun _ _ _ _ _ st h => wpAny_pyIter_rangeiter st h
end L2

namespace L2
open PySem PySem.Spec PyProof.Rows
section
variable {X : Cx} {tg : Expr}
def iList (K : PySem.W.Frag) (tl : TE) : TI := fun σ H R => tl σ H fun x H1 => ∃ a, x = .ref a ∧ (∃ xs, SqL K H1 a xs) ∧ R (Itl K a) H1
theorem pi_list {l : Expr} {tl : TE} (hl : PE X l tl) : PI X tg l (iList X.K tl) := by
  intro pins s σ H R I h
  refine thn (hl pins s σ H _ I h) fun v s1 ⟨x, H1, I1, r1, q1⟩ => ?_
  obtain ⟨a, e, ⟨xs, hq⟩, q⟩ := q1
  subst e
  cases r1
  obtain ⟨its, rv, p, hz⟩ := I1.list hq
  refine wpAny_pyIter_list p.isList ?_
  refine ⟨s1.heap.objs.size, [s1.heap.objs.size], _, _, H1, rfl, I1.kept (t' := s1.toks) fun b o e => Heap.get?_push_of_some _ e, turn_list a _, ⟨_, Heap.get?_push_size _ rfl, rfl, rfl⟩, fun b hb => ?_, q⟩
  have e : b = s1.heap.objs.size := by simpa using hb
  subst e
  exact I1.fpOk (Nat.le_refl _) (I1.hok.fresh (Nat.le_refl _))
/-- a range object just made, walked -/
theorem range_it {pins : List (Addr × Obj)} {σ : St} {H : Hp} {s : Shared} {R : It → Hp → Prop} {E : Value → Shared → Prop} {lo hi : Int} {t u v : Tok} {tk : Nat} (I : Inv X pins σ H s) (h1 : -(2 ^ 62) ≤ lo) (h2 : lo < 2 ^ 62) (h3 : -(2 ^ 62) ≤ hi) (h4 : hi < 2 ^ 62)
    (q : R (Itr lo (hi - lo).toNat) H) : wpAny (model X.prog X.w) X.A (pyIter (.ref s.heap.objs.size)) (PIE X pins σ tg R) E { s with heap := s.heap.push { cls := .type "range", data := .fields #[.int lo t, .int hi u, .int 1 v] }, toks := tk } := by
  refine wpAny_pyIter_range (IsRange.new ..) (small_one h1 h2 h3 h4) ?_
  have I1 : Inv X pins σ H { s with heap := s.heap.push { cls := .type "range", data := .fields #[.int lo t, .int hi u, .int 1 v] }, toks := tk } := I.kept fun b o e => Heap.get?_push_of_some _ e
  refine ⟨(s.heap.push { cls := .type "range", data := .fields #[.int lo t, .int hi u, .int 1 v] }).objs.size, [(s.heap.push { cls := .type "range", data := .fields #[.int lo t, .int hi u, .int 1 v] }).objs.size], _, _, H, rfl,
    I1.kept (t' := tk) fun b o e => Heap.get?_push_of_some _ e, turn_range _ lo (hi - lo).toNat, ?_, fun b hb => ?_, q⟩
  · have e1 : lo + ((0 : Nat) : Int) * 1 = lo := by simp
    have e2 : (((hi - lo).toNat : Nat) : Int) - ((0 : Nat) : Int) = Builtin.Range.rangeSize lo hi 1 := by rw [rangeSize_one]; split <;> omega
    show IsRangeIter _ _ (lo + ((0 : Nat) : Int) * 1) ((((hi - lo).toNat : Nat) : Int) - ((0 : Nat) : Int)) 1
    rw [e1, e2]
    exact Heap.get?_push_size _ rfl
  · have e : b = (s.heap.push { cls := .type "range", data := .fields #[.int lo t, .int hi u, .int 1 v] }).objs.size := by simpa using hb
    subst e
    exact I1.fpOk (Nat.le_refl _) (I1.hok.fresh (Nat.le_refl _))
def iRng1 (ta : TA) : TI := fun σ H R => ta σ H fun vs H1 => ∃ j : Int, vs = [.int j] ∧ -(2 ^ 62) ≤ j ∧ j < 2 ^ 62 ∧ R (Itr 0 j.toNat) H1
theorem pi_range1 {a : Expr} {ta : TA} {p pos : Pos} (hg : Gl X "range") (hm : X.mg "range" = none) (ha : PA X [a] ta) (hs : starEach [a] X.env = [(false, eval a X.env)] := by rfl) : PI X tg (.Call (.Name "range" p) [a] [] pos) (iRng1 ta) := by
  intro pins s σ H R I h
  refine Call_ (ld_blt I hg hm boot_range (PyProof.Rows.callWith_type1 (thn (ha pos pins s σ H _ I h) fun us s1 ⟨vs, H1, I1, r1, q1⟩ => ?_) hs rfl))
  obtain ⟨j, e, q1, q2, q⟩ := q1
  subst e
  cases r1 with
  | cons r rr =>
    cases rr
    obtain ⟨t, rfl⟩ := r
    exact call_range_1 (range_it I1 (by omega) (by omega) q1 q2 (by simpa using q))
/-! ### for -/
/-- W: the invariant by the turn and a measure; N: what the body is to reach -/
def tFor (wi : TI) (g : TG) (tb : TS) : TS := fun D σ H => wi σ H fun J H1 => ∃ W : Nat → Nat → St → Hp → Prop, (∃ m, W 0 m σ H1) ∧ ∀ i m σ H, W i m σ H →
  (J.stop i H ∧ D.nx σ H) ∨ (J.go i H ∧ ∃ N : St → Hp → Prop, (∀ σ' H', N σ' H' → ∃ m', m' < m ∧ W (i + 1) m' σ' H') ∧ ∀ x H', J.yld i H x H' → g x σ H' fun σ2 H2 => tb { D with nx := N, ct := N, bk := D.nx } σ2 H2)
/-- the records at fp as they stand -/
def pinsAt (fp : List Addr) (h : Heap) : List (Addr × Obj) := fp.filterMap fun b => (h.get? b).map fun o => (b, o)
theorem mem_pinsAt {fp : List Addr} {h : Heap} {b : Addr} {o : Obj} (hb : b ∈ fp) (e : h.get? b = some o) : (b, o) ∈ pinsAt fp h := List.mem_filterMap.mpr ⟨b, hb, by rw [e]; rfl⟩
theorem of_pinsAt {fp : List Addr} {h : Heap} {p : Addr × Obj} (hp : p ∈ pinsAt fp h) : p.1 ∈ fp ∧ h.get? p.1 = some p.2 := by
  obtain ⟨b, hb, e⟩ := List.mem_filterMap.mp hp
  cases q : h.get? b with
  | none => rw [q] at e; cases e
  | some o =>
    rw [q] at e
    have e' : (b, o) = p := Option.some.inj e
    subst e'
    exact ⟨hb, q⟩
theorem Inv.pinned {pins : List (Addr × Obj)} {σ : St} {H : Hp} {s : Shared} {fp : List Addr} (I : Inv X pins σ H s) (hf : ∀ b ∈ fp, FpOk X pins H b) (ho : ∀ b ∈ fp, ∃ o, s.heap.get? b = some o ∧ ∀ v, o.data ≠ .cell v) : Inv X (pins ++ pinsAt fp s.heap) σ H s :=
  I.pins_of fun p hp => (List.mem_append.mp hp).elim (fun z => I.pin p (List.mem_append_right _ z)) fun z => by
    obtain ⟨hb, e⟩ := of_pinsAt z
    obtain ⟨f0, f1, f2, _⟩ := hf p.1 hb
    obtain ⟨o, e', d⟩ := ho p.1 hb
    rw [e] at e'; cases e'
    exact ⟨e, f0, f1, f2, d⟩
theorem Inv.unpinned {pins pl : List (Addr × Obj)} {σ : St} {H : Hp} {s : Shared} (I : Inv X (pins ++ pl) σ H s) : Inv X pins σ H s := I.pins_of fun p hp => I.pin p (List.mem_append_right _ (List.mem_append_left _ hp))
theorem ps_for {iter : Expr} {body : List Stmt} {wi : TI} {g : TG} {tb : TS} {pos : Pos} (hp : PassesOwn (model X.prog X.w) X.A X.env X.xe) (hc : X.calm = true) (hi : PI X tg iter wi) (hg : PG X tg g) (hb : PSs X body tb)
    (hs : ∀ x, foldedSetIterable iter X.env x = pure x := by intro _; rfl) : PS X (.For tg iter body [] pos) (tFor wi g tb) := by
  intro pins s σ H D I h
  refine wpAny_For (thn (hi pins s σ H _ I h) fun v s1 h1 => thn h1 fun itv s2 h2 => ?_) hs
  obtain ⟨it, fp, tn, J, H2, e, I2, T, st2, f2, W, ⟨m0, w0⟩, turn⟩ := h2
  subst e
  -- what stays true of the iterator's objects through the loop
  have stat : ∀ {H' : Hp}, (∀ b ∈ fp, H' b = none) → ∀ b ∈ fp, FpOk X pins H' b := fun hn b hb => ⟨hn b hb, (f2 b hb).2⟩
  refine codeAny_forLoop_any (fun n s' => ∃ i σ' H', Inv X pins σ' H' s' ∧ tn i s'.heap ∧ (∀ b ∈ fp, H' b = none) ∧ W i n σ' H') ?_ m0 ⟨0, σ, H2, I2, st2, fun b hb => (f2 b hb).1, w0⟩
  rintro n s3 ⟨i, σ3, H3, I3, st3, fr3, w3⟩
  rcases turn i n σ3 H3 w3 with ⟨stop, qn⟩ | ⟨go, N, hN, step⟩
  · refine wpAny_passesOwn hp (thn (T.done X rfl rfl rfl hc i pins s3 σ3 H3 X.xe I3 (stat fr3) st3 stop) fun r s4 ⟨hr, I4⟩ => ?_)
    subst hr
    exact wpAny_execs_nil ⟨σ3, H3, I4, qn⟩
  · refine wpAny_passesOwn hp (thn (T.item X rfl rfl rfl hc i pins s3 σ3 H3 X.xe I3 (stat fr3) st3 go) fun r s4 ⟨u, hr, h4⟩ => ?_)
    subst hr
    refine wpAny_passesOwn hp (thn h4 fun _ s5 ⟨x, H5, I5, r5, y5, st5, fr5⟩ => ?_)
    have I5' := I5.pinned (stat fr5) (T.obj _ _ st5)
    refine wpAny_passesOwn hp (thn (hg _ s5 σ3 H5 x u _ I5' r5 (step x H5 y5)) fun _ s6 ⟨σ6, H6, I6, q6⟩ => ?_)
    refine wpAny_passesOwn hp (thn (hb _ s6 σ6 H6 _ I6 q6) fun f s7 q7 => ?_)
    have again : ∀ {σ7 : St} {H7 : Hp}, Inv X (pins ++ pinsAt fp s5.heap) σ7 H7 s7 → N σ7 H7 → ∃ m, m < n ∧ ∃ i σ' H', Inv X pins σ' H' s7 ∧ tn i s7.heap ∧ (∀ b ∈ fp, H' b = none) ∧ W i m σ' H' := fun {σ7 H7} I7 n7 => by
      obtain ⟨m', hm, w7⟩ := hN σ7 H7 n7
      refine ⟨m', hm, i + 1, σ7, H7, I7.unpinned, T.keep _ _ _ st5 fun b hb o e => (I7.pin (b, o) (List.mem_append_right _ (List.mem_append_right _ (mem_pinsAt hb e)))).1, fun b hb => ?_, w7⟩
      obtain ⟨o, e, d⟩ := T.obj _ _ st5 b hb
      exact (I7.pin (b, o) (List.mem_append_right _ (List.mem_append_right _ (mem_pinsAt hb e)))).2.1
    cases f with
    | next => obtain ⟨σ7, H7, I7, n7⟩ := q7; exact again I7 n7
    | cont => obtain ⟨σ7, H7, I7, n7⟩ := q7; exact again I7 n7
    | brk => obtain ⟨σ7, H7, I7, q7⟩ := q7; exact ⟨σ7, H7, I7.unpinned, q7⟩
    | ret v => obtain ⟨x7, σ7, H7, I7, r7, q7⟩ := q7; exact ⟨x7, σ7, H7, I7.unpinned, r7, q7⟩
end

/-! ### the forms one uses -/
/-- over a list that the body leaves as it is -/
theorem for_list {K : PySem.W.Frag} {a : Addr} {xs : List V} {g : TG} {tb : TS} {D : Ends} {σ : St} {H : Hp} (Pv : Nat → St → Hp → Prop) (h0 : Pv 0 σ H) (hl : ∀ i σ H, i ≤ xs.length → Pv i σ H → SqL K H a xs)
    (hs : ∀ i x σ H, xs[i]? = some x → Pv i σ H → g x σ H fun σ2 H2 => tb { D with nx := Pv (i + 1), ct := Pv (i + 1), bk := D.nx } σ2 H2) (hd : ∀ σ H, Pv xs.length σ H → D.nx σ H) :
    ∃ W : Nat → Nat → St → Hp → Prop, (∃ m, W 0 m σ H) ∧ ∀ i m σ H, W i m σ H →
      ((Itl K a).stop i H ∧ D.nx σ H) ∨ ((Itl K a).go i H ∧ ∃ N : St → Hp → Prop, (∀ σ' H', N σ' H' → ∃ m', m' < m ∧ W (i + 1) m' σ' H') ∧ ∀ x H', (Itl K a).yld i H x H' → g x σ H' fun σ2 H2 => tb { D with nx := N, ct := N, bk := D.nx } σ2 H2) := by
  refine ⟨fun i m σ H => m = xs.length - i ∧ i ≤ xs.length ∧ Pv i σ H, ⟨xs.length, by simp, Nat.zero_le _, h0⟩, ?_⟩
  rintro i m σ H ⟨rfl, hi, p⟩
  have q := hl i σ H hi p
  by_cases hlt : i < xs.length
  · refine .inr ⟨⟨xs, xs[i], q, by simp [hlt]⟩, Pv (i + 1), fun σ' H' p' => ⟨xs.length - (i + 1), by omega, rfl, hlt, p'⟩, fun x H' y => ?_⟩
    obtain ⟨e, y⟩ := y
    subst e
    exact hs i x σ _ (y xs q) p
  · have e : i = xs.length := by omega
    subst e
    exact .inl ⟨⟨xs, q, Nat.le_refl _⟩, hd σ H p⟩
theorem for_range {lo : Int} {n : Nat} {g : TG} {tb : TS} {D : Ends} {σ : St} {H : Hp} (Pv : Nat → St → Hp → Prop) (h0 : Pv 0 σ H)
    (hs : ∀ i σ H, i < n → Pv i σ H → g (.int (lo + i)) σ H fun σ2 H2 => tb { D with nx := Pv (i + 1), ct := Pv (i + 1), bk := D.nx } σ2 H2) (hd : ∀ σ H, Pv n σ H → D.nx σ H) :
    ∃ W : Nat → Nat → St → Hp → Prop, (∃ m, W 0 m σ H) ∧ ∀ i m σ H, W i m σ H →
      ((Itr lo n).stop i H ∧ D.nx σ H) ∨ ((Itr lo n).go i H ∧ ∃ N : St → Hp → Prop, (∀ σ' H', N σ' H' → ∃ m', m' < m ∧ W (i + 1) m' σ' H') ∧ ∀ x H', (Itr lo n).yld i H x H' → g x σ H' fun σ2 H2 => tb { D with nx := N, ct := N, bk := D.nx } σ2 H2) := by
  refine ⟨fun i m σ H => m = n - i ∧ i ≤ n ∧ Pv i σ H, ⟨n, by simp, Nat.zero_le _, h0⟩, ?_⟩
  rintro i m σ H ⟨rfl, hi, p⟩
  by_cases hlt : i < n
  · refine .inr ⟨hlt, Pv (i + 1), fun σ' H' p' => ⟨n - (i + 1), by omega, rfl, hlt, p'⟩, fun x H' y => ?_⟩
    obtain ⟨e, y⟩ := y
    subst e y
    exact hs i σ _ hlt p
  · have e : i = n := by omega
    subst e
    exact .inl ⟨Nat.le_refl _, hd σ H p⟩
end L2

namespace L2
open PySem PySem.Spec PyProof.Rows

abbrev R2 := V → V → Hp → VK → Prop
/-- a two-place operation on values: f is binaryOp op, inplaceOp op or compareOp op -/
def OpR (X : Cx) (f : Value → Value → Sem Value) (r : R2) : Prop :=
  ∀ (pins : List (Addr × Obj)) (s : Shared) (σ : St) (H : Hp) (x y : V) (v u : Value) (Q : VK), Inv X pins σ H s → RelV x v → RelV y u → r x y H Q →
    wpAny (model X.prog X.w) X.A (f v u) (EP X pins σ Q) X.xe s
/-- a one-place operation -/
def UnR (X : Cx) (f : Value → Sem Value) (r : V → Hp → VK → Prop) : Prop :=
  ∀ (pins : List (Addr × Obj)) (s : Shared) (σ : St) (H : Hp) (x : V) (v : Value) (Q : VK), Inv X pins σ H s → RelV x v → r x H Q →
    wpAny (model X.prog X.w) X.A (f v) (EP X pins σ Q) X.xe s
/-- a call of a value that is known (a builtin, a type) with values -/
def CallR (X : Cx) (f : Value) (r : List V → Hp → VK → Prop) : Prop :=
  ∀ (pins : List (Addr × Obj)) (s : Shared) (σ : St) (H : Hp) (xs : List V) (us : List Value) (Q : VK), Inv X pins σ H s → Vals xs us → r xs H Q →
    wpAny (model X.prog X.w) X.A (call f us) (EP X pins σ Q) X.xe s
def tOp (r : R2) (ta tb : TE) : TE := fun σ H Q => ta σ H fun x H1 => tb σ H1 fun y H2 => r x y H2 Q
def tUn (r : V → Hp → VK → Prop) (ta : TE) : TE := fun σ H Q => ta σ H fun x H1 => r x H1 Q
/-- ints in, under C, and a value out -/
def rI (C : Int → Int → Prop) (g : Int → Int → V) : R2 := fun x y H Q => ∃ i j, x = .int i ∧ y = .int j ∧ C i j ∧ Q (g i j) H
def rI0 (g : Int → Int → V) : R2 := fun x y H Q => ∃ i j, x = .int i ∧ y = .int j ∧ Q (g i j) H
def rU (g : Int → V) : V → Hp → VK → Prop := fun x H Q => ∃ i, x = .int i ∧ Q (g i) H

section
variable {X : Cx} {a b c : Expr} {ta tb tc : TE} {pos : Pos}

theorem binT (ha : PE X a ta) (hb : PE X b tb) {pins : List (Addr × Obj)} {s : Shared} {σ : St} {H : Hp} {R : V → V → Hp → Prop} (I : Inv X pins σ H s)
    (h : ta σ H fun x H1 => tb σ H1 fun y H2 => R x y H2) {Q : Value → Shared → Prop} {f : Value → Value → Sem Value}
    (hf : ∀ v u s2 x y H2, Inv X pins σ H2 s2 → RelV x v → RelV y u → R x y H2 → wpAny (model X.prog X.w) X.A (f v u) Q X.xe s2) :
    wpAny (model X.prog X.w) X.A (eval a X.env) (fun v s₁ => wpAny (model X.prog X.w) X.A (eval b X.env) (fun u s₂ => wpAny (model X.prog X.w) X.A (f v u) Q X.xe s₂) X.xe s₁) X.xe s := by
  refine thn (ha pins s σ H _ I h) fun v s1 ⟨x, H1, I1, r1, q1⟩ => ?_
  refine thn (hb pins s1 σ H1 _ I1 q1) fun u s2 ⟨y, H2, I2, r2, q2⟩ => ?_
  exact hf v u s2 x y H2 I2 r1 r2 q2

theorem pe_op {op : Operator} {r : R2} (ho : OpR X (binaryOp op) r) (ha : PE X a ta) (hb : PE X b tb) : PE X (.BinOp a op b pos) (tOp r ta tb) := by
  intro pins s σ H Q I h
  exact wpAny_BinOp (binT ha hb I h fun v u s2 x y H2 I2 rx ry q => ho pins s2 σ H2 x y v u Q I2 rx ry q)
theorem pe_un {op : UnaryOp} {r : V → Hp → VK → Prop} (ho : UnR X (unaryOp op) r) (ha : PE X a ta) : PE X (.UnaryOp op a pos) (tUn r ta) := by
  intro pins s σ H Q I h
  exact UnaryOp_ (thn (ha pins s σ H _ I h) fun v s1 ⟨x, H1, I1, r1, q1⟩ => ho pins s1 σ H1 x v Q I1 r1 q1)
/-! ### ints -/
theorem opI {f : Value → Value → Sem Value} {C : Int → Int → Prop} {g : Int → Int → Int}
    (rule : ∀ (i j : Int) (t u : Tok) (s : Shared) (Q : Value → Shared → Prop) (E : Value → Shared → Prop), C i j → Q (.int (g i j) s.toks) { s with toks := s.toks + 1 } → wpAny (model X.prog X.w) X.A (f (.int i t) (.int j u)) Q E s) :
    OpR X f (rI C fun i j => .int (g i j)) := by
  intro pins s σ H x y v u Q I rx ry h
  obtain ⟨i, j, rfl, rfl, hc, q⟩ := h
  obtain ⟨t, rfl⟩ := rx
  obtain ⟨t', rfl⟩ := ry
  exact rule i j t t' s _ _ hc ⟨.int (g i j), H, I.tok _, ⟨_, rfl⟩, q⟩
theorem opI0 {f : Value → Value → Sem Value} {g : Int → Int → Int}
    (rule : ∀ (i j : Int) (t u : Tok) (s : Shared) (Q : Value → Shared → Prop) (E : Value → Shared → Prop), Q (.int (g i j) s.toks) { s with toks := s.toks + 1 } → wpAny (model X.prog X.w) X.A (f (.int i t) (.int j u)) Q E s) :
    OpR X f (rI0 fun i j => .int (g i j)) := by
  intro pins s σ H x y v u Q I rx ry h
  obtain ⟨i, j, rfl, rfl, q⟩ := h
  obtain ⟨t, rfl⟩ := rx
  obtain ⟨t', rfl⟩ := ry
  exact rule i j t t' s _ _ ⟨.int (g i j), H, I.tok _, ⟨_, rfl⟩, q⟩
theorem opB0 {f : Value → Value → Sem Value} {g : Int → Int → Bool}
    (rule : ∀ (i j : Int) (t u : Tok) (s : Shared) (Q : Value → Shared → Prop) (E : Value → Shared → Prop), Q (.bool (g i j)) s → wpAny (model X.prog X.w) X.A (f (.int i t) (.int j u)) Q E s) :
    OpR X f (rI0 fun i j => .bl (g i j)) := by
  intro pins s σ H x y v u Q I rx ry h
  obtain ⟨i, j, rfl, rfl, q⟩ := h
  obtain ⟨t, rfl⟩ := rx
  obtain ⟨t', rfl⟩ := ry
  exact rule i j t t' s _ _ ⟨.bl (g i j), H, I, rfl, q⟩

def CDiv (i j : Int) : Prop := 0 < j ∧ j < 1073741824
def CPow (i j : Int) : Prop := 0 ≤ j ∧ j ≤ 1000000 ∧ i.natAbs < 2 ^ 64
def CMul (i j : Int) : Prop := (-(2 ^ 64) < i ∧ i < 2 ^ 64) ∨ (-(2 ^ 64) < j ∧ j < 2 ^ 64)
theorem CMul.ok {i j : Int} (h : CMul i j) : IntMulOk i j := by
  rcases h with ⟨h1, h2⟩ | ⟨h1, h2⟩
  · exact .of_left (intBits_le_64 h1 h2)
  · exact .of_right (intBits_le_64 h1 h2)
theorem op_add : OpR X (binaryOp .Add) (rI0 fun i j => .int (i + j)) := opI0 fun _ _ _ _ _ _ _ q => add_int q
theorem op_sub : OpR X (binaryOp .Sub) (rI0 fun i j => .int (i - j)) := opI0 fun _ _ _ _ _ _ _ q => sub_int q
theorem op_mul : OpR X (binaryOp .Mult) (rI CMul fun i j => .int (i * j)) := opI fun _ _ _ _ _ _ _ hc q => mul_int q hc.ok
/-- // by a positive divisor -/
theorem op_fdiv : OpR X (binaryOp .FloorDiv) (rI CDiv fun i j => .int (i / j)) := opI fun i j _ _ _ _ _ hc q => by
  have h1 : (0 : Int) < j := hc.1
  have h2 : j < 1073741824 := hc.2
  exact floordiv_int (by omega) (by rw [Int.fdiv_eq_ediv_of_nonneg i (by omega)]; exact q) (.inl (PyProof.noPylong_small (by omega)))
/-- % by a positive divisor of any size -/
theorem op_mod : OpR X (binaryOp .Mod) (rI (fun _ j => 0 < j) fun i j => .int (i % j)) := opI fun i j _ _ _ _ _ hc q => by
  have h1 : (0 : Int) < j := hc
  exact mod_int' (by omega) (by rw [Int.fmod_eq_emod_of_nonneg i (by omega)]; exact q)
theorem op_pow : OpR X (binaryOp .Pow) (rI CPow fun i j => .int (i ^ j.toNat)) := opI fun _ _ _ _ _ _ _ hc q => pow_int_small hc.1 hc.2.1 hc.2.2 q
theorem unI {f : Value → Sem Value} {g : Int → Int}
    (rule : ∀ (i : Int) (t : Tok) (s : Shared) (Q : Value → Shared → Prop) (E : Value → Shared → Prop), Q (.int (g i) s.toks) { s with toks := s.toks + 1 } → wpAny (model X.prog X.w) X.A (f (.int i t)) Q E s) :
    UnR X f (rU fun i => .int (g i)) := by
  intro pins s σ H x v Q I rx h
  obtain ⟨i, rfl, q⟩ := h
  obtain ⟨t, rfl⟩ := rx
  exact rule i t s _ _ ⟨.int (g i), H, I.tok _, ⟨_, rfl⟩, q⟩
theorem un_neg : UnR X (unaryOp .USub) (rU fun i => .int (-i)) := unI fun _ _ _ _ _ q => neg_int q
end

/-! ### comparisons -/
/-- the scalars that == tells apart as data does -/
def scal : V → V → Bool
  | .non, .non => true | .non, .int _ => true | .int _, .non => true | .non, .bl _ => true | .bl _, .non => true | .non, .str _ => true | .str _, .non => true
  | .int _, .int _ => true | .bl _, .bl _ => true | .str _, .str _ => true | .byt _, .byt _ => true
  | .int _, .str _ => true | .str _, .int _ => true | .bl _, .str _ => true | .str _, .bl _ => true
  | _, _ => false
def rEq : R2 := fun x y H Q => scal x y = true ∧ Q (.bl (decide (x = y))) H
def rNe : R2 := fun x y H Q => scal x y = true ∧ Q (.bl (!decide (x = y))) H

theorem dec_int {i j : Int} : decide (V.int i = V.int j) = (i == j) := by
  rw [Bool.eq_iff_iff]
  simp
theorem dec_bl {i j : Bool} : decide (V.bl i = V.bl j) = (i == j) := by
  rw [Bool.eq_iff_iff]
  simp
theorem dec_str {i j : Str} : decide (V.str i = V.str j) = (i == j) := by
  rw [Bool.eq_iff_iff]
  simp
theorem dec_byt {i j : Array UInt8} : decide (V.byt i = V.byt j) = (i.toList == j.toList) := by
  rw [Bool.eq_iff_iff]
  cases i
  cases j
  simp

section
variable {X : Cx} {a b c : Expr} {ta tb tc : TE} {pos : Pos}
theorem fin_bl {pins : List (Addr × Obj)} {σ : St} {H : Hp} {s : Shared} {Q : VK} {k k' : Bool} (I : Inv X pins σ H s) (q : Q (.bl k) H) (e : k = k') : EP X pins σ Q (.bool k') s := by
  subst e
  exact ⟨.bl k, H, I, rfl, q⟩
theorem op_eq : OpR X (compareOp .Eq) rEq := by
  intro pins s σ H x y v u Q I rx ry h
  obtain ⟨hs, q⟩ := h
  cases x with
  | non =>
    cases rx
    cases y with
    | non => cases ry; exact PySem.EqNone.eq_none_none (fin_bl I q (by simp))
    | bl j => cases ry; exact PySem.EqNone.eq_none_bool (fin_bl I q (by simp))
    | int j => obtain ⟨t', rfl⟩ := ry; exact PySem.EqNone.eq_none_int (fin_bl I q (by simp))
    | str j => obtain ⟨t', rfl⟩ := ry; exact PySem.EqNone.eq_none_str (fin_bl I q (by simp))
    | _ => exact absurd (show false = true from hs) Bool.false_ne_true
  | bl i =>
    cases rx
    cases y with
    | non => cases ry; exact PySem.EqNone.eq_bool_none (fin_bl I q (by simp))
    | bl j => cases ry; exact eq_bool (fin_bl I q dec_bl)
    | str j => obtain ⟨t', rfl⟩ := ry; exact PySem.EqMixed.eq_bool_str (fin_bl I q (by simp))
    | _ => exact absurd (show false = true from hs) Bool.false_ne_true
  | int i =>
    obtain ⟨t, rfl⟩ := rx
    cases y with
    | non => cases ry; exact PySem.EqNone.eq_int_none (fin_bl I q (by simp))
    | int j => obtain ⟨t', rfl⟩ := ry; exact eq_int (fin_bl I q dec_int)
    | str j => obtain ⟨t', rfl⟩ := ry; exact PySem.EqMixed.eq_int_str (fin_bl I q (by simp))
    | _ => exact absurd (show false = true from hs) Bool.false_ne_true
  | str i =>
    obtain ⟨t, rfl⟩ := rx
    cases y with
    | non => cases ry; exact PySem.EqNone.eq_str_none (fin_bl I q (by simp))
    | bl j => cases ry; exact PySem.EqMixed.eq_str_bool (fin_bl I q (by simp))
    | int j => obtain ⟨t', rfl⟩ := ry; exact PySem.EqMixed.eq_str_int (fin_bl I q (by simp))
    | str j => obtain ⟨t', rfl⟩ := ry; exact eq_str (fin_bl I q dec_str)
    | _ => exact absurd (show false = true from hs) Bool.false_ne_true
  | byt i =>
    obtain ⟨t, rfl⟩ := rx
    cases y with
    | byt j => obtain ⟨t', rfl⟩ := ry; exact PySem.W.eq_bytes (fin_bl I q dec_byt)
    | _ => exact absurd (show false = true from hs) Bool.false_ne_true
  | _ => cases y <;> exact absurd (show false = true from hs) Bool.false_ne_true
theorem op_ne : OpR X (compareOp .NotEq) rNe := by
  intro pins s σ H x y v u Q I rx ry h
  obtain ⟨hs, q⟩ := h
  cases x with
  | non =>
    cases rx
    cases y with
    | non => cases ry; exact PySem.EqNone.ne_none_none (fin_bl I q (by simp))
    | bl j => cases ry; exact PySem.EqNone.ne_none_bool (fin_bl I q (by simp))
    | int j => obtain ⟨t', rfl⟩ := ry; exact PySem.EqNone.ne_none_int (fin_bl I q (by simp))
    | str j => obtain ⟨t', rfl⟩ := ry; exact PySem.EqNone.ne_none_str (fin_bl I q (by simp))
    | _ => exact absurd (show false = true from hs) Bool.false_ne_true
  | bl i =>
    cases rx
    cases y with
    | non => cases ry; exact PySem.EqNone.ne_bool_none (fin_bl I q (by simp))
    | bl j => cases ry; exact ne_bool (fin_bl I q (congrArg not dec_bl))
    | str j => obtain ⟨t', rfl⟩ := ry; exact PySem.EqMixed.ne_bool_str (fin_bl I q (by simp))
    | _ => exact absurd (show false = true from hs) Bool.false_ne_true
  | int i =>
    obtain ⟨t, rfl⟩ := rx
    cases y with
    | non => cases ry; exact PySem.EqNone.ne_int_none (fin_bl I q (by simp))
    | int j => obtain ⟨t', rfl⟩ := ry; exact ne_int (fin_bl I q (congrArg not dec_int))
    | str j => obtain ⟨t', rfl⟩ := ry; exact PySem.EqMixed.ne_int_str (fin_bl I q (by simp))
    | _ => exact absurd (show false = true from hs) Bool.false_ne_true
  | str i =>
    obtain ⟨t, rfl⟩ := rx
    cases y with
    | non => cases ry; exact PySem.EqNone.ne_str_none (fin_bl I q (by simp))
    | bl j => cases ry; exact PySem.EqMixed.ne_str_bool (fin_bl I q (by simp))
    | int j => obtain ⟨t', rfl⟩ := ry; exact PySem.EqMixed.ne_str_int (fin_bl I q (by simp))
    | str j => obtain ⟨t', rfl⟩ := ry; exact ne_str (fin_bl I q (congrArg not dec_str))
    | _ => exact absurd (show false = true from hs) Bool.false_ne_true
  | byt i =>
    obtain ⟨t, rfl⟩ := rx
    cases y with
    | byt j => obtain ⟨t', rfl⟩ := ry; exact PySem.W.ne_bytes (fin_bl I q (congrArg not dec_byt))
    | _ => exact absurd (show false = true from hs) Bool.false_ne_true
  | _ => cases y <;> exact absurd (show false = true from hs) Bool.false_ne_true

theorem op_lt : OpR X (compareOp .Lt) (rI0 fun i j => .bl (decide (i < j))) := opB0 fun _ _ _ _ _ _ _ q => lt_int q
theorem op_le : OpR X (compareOp .LtE) (rI0 fun i j => .bl (decide (i ≤ j))) := opB0 fun _ _ _ _ _ _ _ q => le_int q
theorem op_gt : OpR X (compareOp .Gt) (rI0 fun i j => .bl (decide (j < i))) := opB0 fun _ _ _ _ _ _ _ q => gt_int q
theorem op_ge : OpR X (compareOp .GtE) (rI0 fun i j => .bl (decide (j ≤ i))) := opB0 fun _ _ _ _ _ _ _ q => ge_int q
/-- two rules for one operation: by cases -/
theorem OpR.or {f : Value → Value → Sem Value} {r r' : R2} (h : OpR X f r) (h' : OpR X f r') : OpR X f (fun x y H Q => r x y H Q ∨ r' x y H Q) := by
  intro pins s σ H x y v u Q I rx ry q
  rcases q with q | q
  · exact h pins s σ H x y v u Q I rx ry q
  · exact h' pins s σ H x y v u Q I rx ry q

theorem nomark (b : Expr) {op : CmpOp} (h : op ≠ .In := by decide) (h2 : op ≠ .NotIn := by decide) : behindInMarks op b = false := by
  have e1 : (op == CmpOp.In) = false := by cases op <;> first | rfl | exact absurd rfl h
  have e2 : (op == CmpOp.NotIn) = false := by cases op <;> first | rfl | exact absurd rfl h2
  cases b <;> simp [behindInMarks, e1, e2]
/-- a comparison as a value; hm: nomark b, or (for in, not in) by with_unfolding_all rfl -/
theorem pe_cmpR {op : CmpOp} {r : R2} (ho : OpR X (compareOp op) r) (ha : PE X a ta) (hb : PE X b tb) (hm : behindInMarks op b = false) : PE X (.Compare a [op] [b] pos) (tOp r ta tb) := by
  intro pins s σ H Q I h
  exact wpAny_Compare1 (binT ha hb I h fun v u s2 x y H2 I2 rx ry q => ho pins s2 σ H2 x y v u Q I2 rx ry q) hm
/-- a reading of a value as a test -/
def tTest (t : TE) : TT := fun σ H Q => t σ H fun x H' => ∃ k, x = .bl k ∧ Q k H'
theorem pt_cmpR {op : CmpOp} {r : R2} (ho : OpR X (compareOp op) r) (ha : PE X a ta) (hb : PE X b tb) (hm : behindInMarks op b = false) : PT X (.Compare a [op] [b] pos) (tTest (tOp r ta tb)) := by
  intro pins s σ H Q I h
  refine wpAny_isTrue_Compare1 (thn (ha pins s σ H _ I h) fun v s1 ⟨x, H1, I1, r1, q1⟩ => thn (hb pins s1 σ H1 _ I1 q1) fun u s2 ⟨y, H2, I2, r2, q2⟩ =>
    thn (ho pins s2 σ H2 x y v u _ I2 r1 r2 q2) fun c s3 ⟨z, H3, I3, r3, k, e, q3⟩ => ?_) hm
  subst e
  cases r3
  exact wpAny_truthy_bool ⟨H3, I3, q3⟩
/-- a op1 b op2 c -/
def tChain (r r' : R2) (ta tb tc : TE) : TE := fun σ H Q => ta σ H fun x H1 => tb σ H1 fun y H2 => r x y H2 fun z H3 => ∃ k, z = .bl k ∧
  (if k = true then tc σ H3 fun w' H4 => r' y w' H4 Q else Q (.bl false) H3)
theorem pe_chain {op op' : CmpOp} {r r' : R2} (ho : OpR X (compareOp op) r) (ho' : OpR X (compareOp op') r') (ha : PE X a ta) (hb : PE X b tb) (hc : PE X c tc)
    (hm : lastMarks [op, op'] [b, c] = false := by with_unfolding_all rfl) : PE X (.Compare a [op, op'] [b, c] pos) (tChain r r' ta tb tc) := by
  intro pins s σ H Q I h
  refine Compare_chain (thn (ha pins s σ H _ I h) fun v s1 ⟨x, H1, I1, r1, q1⟩ => chain_link (thn (hb pins s1 σ H1 _ I1 q1) fun u s2 ⟨y, H2, I2, r2, q2⟩ =>
    thn (ho pins s2 σ H2 x y v u _ I2 r1 r2 q2) fun d s3 ⟨z, H3, I3, r3, k, e, q3⟩ => ?_)) hm
  subst e
  cases r3
  refine wpAny_truthy_bool ?_
  cases k with
  | false => exact ite_ff ⟨.bl false, H3, I3, rfl, q3⟩
  | true => exact ite_tt (chain_last (thn (hc pins s3 σ H3 _ I3 q3) fun w' s4 ⟨z', H4, I4, r4, q4⟩ => ho' pins s4 σ H4 y z' u w' Q I4 r2 r4 q4))
theorem line63 : (sizeLine : Nat) < 2 ^ 63 := by rw [sizeLine_eq]; decide
/-! ### scalar builtins, by CallR -/
theorem vals1 {x : V} {us : List Value} (r : Vals [x] us) : ∃ u, us = [u] ∧ RelV x u := by
  cases r with
  | cons r1 r2 => cases r2; exact ⟨_, rfl, r1⟩
theorem vals2 {x y : V} {us : List Value} (r : Vals [x, y] us) : ∃ u w', us = [u, w'] ∧ RelV x u ∧ RelV y w' := by
  cases r with
  | cons r1 r2 =>
    cases r2 with
    | cons r3 r4 => cases r4; exact ⟨_, _, rfl, r1, r3⟩
theorem call_int1 : CallR X (.type "int") (fun xs H Q => (∃ i, xs = [.int i] ∧ Q (.int i) H) ∨ ∃ k, xs = [.bl k] ∧ Q (.int (if k then 1 else 0)) H) := by
  intro pins s σ H xs us Q I r h
  rcases h with ⟨i, rfl, q⟩ | ⟨k, rfl, q⟩
  · obtain ⟨u, rfl, t, rfl⟩ := vals1 r
    exact call_int_int ⟨.int i, H, I, ⟨_, rfl⟩, q⟩
  · obtain ⟨u, rfl, r1⟩ := vals1 r
    cases r1
    exact call_int_bool ⟨.int (if k then 1 else 0), H, I.tok _, ⟨_, rfl⟩, q⟩
end
end L2

namespace L2
open PySem PySem.Spec PyProof.Rows

/-! ### an instance, its attributes a map -/
structure ObjM (h : Heap) (x dx C : Addr) (mA : Str → Option Value) : Prop where
  obj : h.get? x = some (PySem.W.instObj C dx)
  ns : h.Ns1 dx mA
  ne : dx ≠ x

theorem lookIn_ns {h : Heap} {dx : Addr} {mA : Str → Option Value} (n : h.Ns1 dx mA) : ∃ od, h.get? dx = some od ∧ ∀ name, PySem.W.lookIn name od = some (mA name) := by
  obtain ⟨o, es, ep, ho, hd, hk, _, hm⟩ := n
  refine ⟨o, ho, fun name => ?_⟩
  have e := hm name
  unfold nsFind findBy at e
  rw [← Array.find?_toList] at e
  unfold PySem.W.lookIn
  rw [hd]
  dsimp only
  split
  · rename_i y q
    rw [q] at e
    exact congrArg some e
  · rename_i q
    rw [q] at e
    have a : es.toList.any (·.refKey) = false := by
      rw [List.any_eq_false]
      intro y hy
      obtain ⟨z, t, hkey⟩ := hk y (Array.mem_toList_iff.mp hy)
      simp [DictEntry.refKey, hkey]
    have a' : ¬ es.toList.any (·.refKey) = true := by rw [a]; exact Bool.false_ne_true
    rw [if_neg a']
    exact congrArg some e

theorem ObjM.look {h : Heap} {x dx C : Addr} {mA : Str → Option Value} (I : ObjM h x dx C mA) : ∃ od, PySem.W.InstAt h x (PySem.W.instObj C dx) C (some od) ∧ ∀ name, PySem.W.lookIn name od = some (mA name) :=
  let ⟨od, ho, hl⟩ := lookIn_ns I.ns
  ⟨od, ⟨I.obj, rfl, rfl, ho⟩, hl⟩

section
variable {prog : Program} {w : World} {A : Around} {E : Value → Shared → Prop} {s : Shared} {K : PySem.W.Frag} {x dx C f : Addr} {mA : Str → Option Value} {name : Str} {v : Value}

theorem get_map {expr : Bool} {Q : Value → Shared → Prop} (X : K.In s.heap) (I : ObjM s.heap x dx C mA) (hg : PySem.W.plainGet K C name = true) (hh : PySem.W.hasDictIn K C = true)
    (ha : PySem.W.findIn K (.ref C) name = some none) (hv : mA name = some v) (hv' : PySem.W.handedIn v = true) (h : Q v { s with toks := s.toks + 1 }) :
    wpAny (model prog w) A (getAttr (.ref x) name expr) Q E s := by
  obtain ⟨od, J, hl⟩ := I.look
  exact PySem.W.get_value X J (PySem.W.plainGet_of hg).1 (PySem.W.findObj_own hh ha rfl (by rw [hl, hv])) hv' h

theorem get_meth {pl : Sem Bool} {Q : Value × List Value → Shared → Prop} (X : K.In s.heap) (I : ObjM s.heap x dx C mA) (hg : PySem.W.plainGet K C name = true)
    (hf : PySem.W.findIn K (.ref C) name = some (some (.ref f))) (ht : PySem.W.isFn K (.ref f) = true) (hv : mA name = none) (h : Q (.ref f, [.ref x]) s) :
    wpAny (model prog w) A (getMethod (.ref x) name pl) Q E s := by
  obtain ⟨od, J, hl⟩ := I.look
  exact PySem.W.method_fn X J (PySem.W.plainGet_of hg).1 (PySem.W.plainGet_of hg).2 hf (beq_iff_eq.mp ht) (by show (PySem.W.lookIn name od).map (·.isSome) = some false; rw [hl, hv]; rfl) h

theorem set_map {ns : List Str} {Q : Unit → Shared → Prop} (X : K.In s.heap) (I : ObjM s.heap x dx C mA)
    (hs : PySem.W.findIn K (.ref C) "__setattr__" = some (some (.builtin "object.__setattr__"))) (hp : PySem.W.plainOver K C = true) (ht : PySem.W.takerIn K C name = some none) (hh : PySem.W.hasDictIn K C = true)
    (hw : PySem.Within mA ns) (hsz : ns.length ≤ sizeLine)
    (h : ∀ h', ObjM h' x dx C (fun y => if y = name then some v else mA y) → Heap.SameBut dx s.heap h' → Q () { s with heap := h', toks := s.toks + 2 }) :
    wpAny (model prog w) A (setAttr (.ref x) name v) Q E s := by
  obtain ⟨od, J, hl⟩ := I.look
  refine PySem.W.set_plain X J hs (PySem.W.osa_open (s := { s with toks := s.toks + 1 }) (r := none) X J hp ht fun b => ?_)
  obtain ⟨cd, hc, hd'⟩ := PySem.W.any_some hh
  have hx : s.heap.get? x = some ⟨.ref C, some dx, .plain, #[]⟩ := I.obj
  refine wpAny_bind (wpAny_pure (wpAny_bind (wpAny_bind (wpAny_loadPart hx (wpAny_bind (PySem.W.Looks.here (s := { s with toks := s.toks + 1 }) (PySem.W.looks_clsIn X hc) ?_))))))
  rw [hd']
  refine wpAny_pure (a := some dx) (wpAny_bind (wpAny_pure (wpAny_bind ?_)))
  refine wpAny_nsSet1 (s := { s with toks := s.toks + 1 }) I.ns fun h' hn2 hs2 => ?_
  obtain ⟨oD, esD, epD, hoD, hdD, hcD⟩ := hn2.count (PySem.Within.cons name v hw)
  refine wpAny_bind (wpAny_lookBehind hoD (by rw [hdD]; exact pastItsLine_dict (Nat.le_trans hcD (by rw [List.length_cons]; omega))) ?_)
  exact wpAny_pure (h _ ⟨(hs2.2 _ (Ne.symm I.ne)).trans I.obj, hn2, I.ne⟩ hs2)

/-- C(..): the dict at the heap's end, the instance behind it; then its __init__ -/
theorem make_map {R : Result → Shared → Prop} {vs : List Value} {kw : List (Str × Value)} (X : K.In s.heap) (hm : PySem.W.makesIn K C = true)
    (hi : PySem.W.findIn K (.ref C) "__init__" = some (some (.ref f))) (hf : PySem.W.typeIn K (.ref f) = some (.type "function"))
    (h : codeAny (model prog w) (A.under (.builtin "type.__call__" ⟨.ref C :: vs, kw⟩)) (.call (.ref f) ⟨.ref (s.heap.objs.size + 1) :: vs, kw⟩) (PySem.W.InitBack (s.heap.objs.size + 1) R)
      { s with heap := (s.heap.push PySem.W.emptyDict).push (PySem.W.instObj C s.heap.objs.size) }) :
    codeAny (model prog w) A (.call (.ref C) ⟨vs, kw⟩) R s := by
  obtain ⟨hh, g, d, t, os⟩ := s
  exact PySem.W.make_core (PySem.W.makes_of X hm) (PySem.W.looks_findIn X hi) (fun self => PySem.W.bind_fn X self hf) (.inl rfl) h
end

/-! ### the attributes as a list of pairs -/
def putF (f : Str) (v : V) : List (Str × V) → List (Str × V)
  | [] => [(f, v)]
  | (g, x) :: r => if g = f then (g, v) :: r else (g, x) :: putF f v r
theorem lookup_putF (f g : Str) (v : V) : ∀ fs : List (Str × V), (putF f v fs).lookup g = if g = f then some v else fs.lookup g
  | [] => by
    show List.lookup g [(f, v)] = _
    by_cases h : g = f
    · have hb : (g == f) = true := beq_iff_eq.mpr h
      simp only [List.lookup, hb, if_pos h]
    · have hb : (g == f) = false := beq_eq_false_iff_ne.mpr h
      simp only [List.lookup, hb, if_neg h]
  | (k, x) :: r => by
    have ih := lookup_putF f g v r
    rw [show putF f v ((k, x) :: r) = (if k = f then (k, v) :: r else (k, x) :: putF f v r) from rfl]
    by_cases hk : k = f
    · rw [if_pos hk]
      by_cases h : g = k
      · have hb : (g == k) = true := beq_iff_eq.mpr h
        simp only [List.lookup, hb, if_pos (h.trans hk)]
      · have hb : (g == k) = false := beq_eq_false_iff_ne.mpr h
        simp only [List.lookup, hb, if_neg (fun e : g = f => h (e.trans hk.symm))]
    · rw [if_neg hk]
      by_cases h : g = k
      · have hb : (g == k) = true := beq_iff_eq.mpr h
        simp only [List.lookup, hb, if_neg (fun e : g = f => hk (h.symm.trans e))]
      · have hb : (g == k) = false := beq_eq_false_iff_ne.mpr h
        simp only [List.lookup, hb]
        exact ih
theorem keys_putF (f : Str) (v : V) : ∀ fs : List (Str × V), f ∈ (putF f v fs).map (·.1) ∧ ∀ g, g ∈ fs.map (·.1) → g ∈ (putF f v fs).map (·.1)
  | [] => ⟨by simp [putF], fun g h => by simp at h⟩
  | (k, x) :: r => by
    obtain ⟨i1, i2⟩ := keys_putF f v r
    rw [show putF f v ((k, x) :: r) = (if k = f then (k, v) :: r else (k, x) :: putF f v r) from rfl]
    by_cases hk : k = f
    · rw [if_pos hk]
      subst hk
      exact ⟨by simp, fun g h => by simpa using h⟩
    · rw [if_neg hk]
      refine ⟨?_, fun g h => ?_⟩
      · rw [List.map_cons]
        exact List.mem_cons_of_mem _ i1
      · rw [List.map_cons] at h ⊢
        rcases List.mem_cons.mp h with e | e
        · exact List.mem_cons.mpr (.inl e)
        · exact List.mem_cons_of_mem _ (i2 g e)
theorem length_putF (f : Str) (v : V) : ∀ fs : List (Str × V), (putF f v fs).length ≤ fs.length + 1
  | [] => by simp [putF]
  | (k, x) :: r => by
    have ih := length_putF f v r
    rw [show putF f v ((k, x) :: r) = (if k = f then (k, v) :: r else (k, x) :: putF f v r) from rfl]
    by_cases hk : k = f
    · rw [if_pos hk, List.length_cons, List.length_cons]; omega
    · rw [if_neg hk, List.length_cons, List.length_cons]; omega

theorem RelO.some_of {v : V} {o : Option Value} (r : RelO (some v) o) : ∃ u, o = some u ∧ RelV v u := by
  cases o with
  | none => exact (show False from r).elim
  | some u => exact ⟨u, rfl, r⟩
theorem RelO.none_of {o : Option Value} (r : RelO none o) : o = none := by
  cases o with
  | none => rfl
  | some u => exact (show False from r).elim
theorem handed_of {v : V} {u : Value} (r : RelV v u) : PySem.W.handedIn u = true := by
  cases v with
  | non => cases (show u = Value.none from r); rfl
  | bl b => cases (show u = Value.bool b from r); rfl
  | int i => obtain ⟨t, e⟩ := (show ∃ t, u = Value.int i t from r); cases e; rfl
  | str x => obtain ⟨t, e⟩ := (show ∃ t, u = Value.str x t from r); cases e; rfl
  | byt b => obtain ⟨t, e⟩ := (show ∃ t, u = Value.bytes b t from r); cases e; rfl
  | flt b => obtain ⟨t, e⟩ := (show ∃ t, u = Value.float b t from r); cases e; rfl
  | ref a => cases (show u = Value.ref a from r); rfl
  | ty n => cases (show u = Value.type n from r); rfl

section
variable {P : Program} {w : World} {H H' : Hp} {h h' : Heap} {a C dx : Addr} {fs fs' : List (Str × V)}
theorem ins_get (hok : HOk P w H h) (e : H a = some (.ins C dx fs)) : ∃ mA, ObjM h a dx C mA ∧ (∀ f, RelO (fs.lookup f) (mA f)) ∧ PySem.Within mA (fs.map (·.1)) ∧ fs.length ≤ 1000 ∧ H dx = some (.own a) := by
  obtain ⟨d, z, ne, ob, mA, n, r, q⟩ := (show ObjOk P w H h a (.ins C dx fs) from hok a _ e)
  exact ⟨mA, ⟨ob, n, ne⟩, r, q, z, d⟩
end

/-! ### what of the text a class must have -/
structure Cls (K : PySem.W.Frag) (C : Addr) : Prop where
  pg : PySem.W.plainGet K C Str.empty = true
  hd : PySem.W.hasDictIn K C = true
  po : PySem.W.plainOver K C = true
  sa : PySem.W.findIn K (.ref C) "__setattr__" = some (some (.builtin "object.__setattr__"))
theorem Cls.get {K : PySem.W.Frag} {C : Addr} (c : Cls K C) (f : Str) : PySem.W.plainGet K C f = true := c.pg
/-- no class of it has the name -/
def NoAttr (K : PySem.W.Frag) (C : Addr) (f : Str) : Prop := PySem.W.findIn K (.ref C) f = some none
theorem NoAttr.taker {K : PySem.W.Frag} {C : Addr} {f : Str} (n : NoAttr K C f) : PySem.W.takerIn K C f = some none := by
  unfold PySem.W.takerIn
  rw [show PySem.W.findIn K (.ref C) f = some none from n]
  rfl
/-- a method: a plain def of the class or of one above it -/
structure Meth (K : PySem.W.Frag) (C : Addr) (m : Str) (f : Addr) : Prop where
  at_ : PySem.W.findIn K (.ref C) m = some (some (.ref f))
  fn : PySem.W.isFn K (.ref f) = true
  kp : PySem.W.keepIn K (.ref f) = true

section
variable {X : Cx} {pins : List (Addr × Obj)} {σ : St} {H : Hp} {s : Shared} {a C dx : Addr} {fs : List (Str × V)} {f : Str} {v : V} {A : Around} {E : Value → Shared → Prop}

theorem getattr_ok {b : Bool} {Q : Value → Shared → Prop} (I : Inv X pins σ H s) (e : H a = some (.ins C dx fs)) (c : Cls X.K C) (n : NoAttr X.K C f) (l : fs.lookup f = some v)
    (h : ∀ u s', Inv X pins σ H s' → RelV v u → Q u s') : wpAny (model X.prog X.w) A (getAttr (.ref a) f b) Q E s := by
  obtain ⟨mA, O, r, _, _, _⟩ := ins_get I.hok e
  obtain ⟨u, hu, ru⟩ := RelO.some_of (v := v) (o := mA f) (by rw [← l]; exact r f)
  exact get_map I.kIn O (c.get f) c.hd n hu (handed_of ru) (h u _ (I.tok _) ru)

theorem getmeth_ok {m : Str} {g : Addr} {pl : Sem Bool} {Q : Value × List Value → Shared → Prop} (I : Inv X pins σ H s) (e : H a = some (.ins C dx fs)) (c : Cls X.K C) (k : Meth X.K C m g) (l : fs.lookup m = none)
    (h : Q (.ref g, [.ref a]) s) : wpAny (model X.prog X.w) A (getMethod (.ref a) m pl) Q E s := by
  obtain ⟨mA, O, r, _, _, _⟩ := ins_get I.hok e
  have hn : mA m = none := RelO.none_of (by rw [← l]; exact r m)
  exact get_meth I.kIn O (c.get m) k.at_ k.fn hn h

theorem setattr_ok {y : V} {u : Value} {Q : Unit → Shared → Prop} (I : Inv X pins σ H s) (e : H a = some (.ins C dx fs)) (c : Cls X.K C) (n : NoAttr X.K C f) (hl : fs.length < 1000) (ry : RelV y u)
    (h : ∀ s', Inv X pins σ (upd H a (.ins C dx (putF f y fs))) s' → Q () s') : wpAny (model X.prog X.w) A (setAttr (.ref a) f u) Q E s := by
  obtain ⟨mA, O, r, wi, _, ho⟩ := ins_get I.hok e
  have hz : (fs.map (·.1)).length ≤ sizeLine := by rw [List.length_map, sizeLine_eq]; omega
  refine set_map I.kIn O c.sa c.po n.taker c.hd wi hz fun h' O' sb => h _ ?_
  have hd : ∃ o, h'.get? dx = some o := let ⟨o, _, _, e', _⟩ := O'.ns; ⟨o, e'⟩
  refine I.write (x := a) (e := dx) (by rw [e]; exact True.intro) (.inr ho) (fun b q hb z => (sb.2 b hb).trans z) hd ?_
  refine ⟨by rw [upd_ne O.ne]; exact ho, ?_, O.ne, O'.obj, _, O'.ns, fun g => ?_, fun g hg => ?_⟩
  · have := length_putF f y fs; omega
  · show RelO ((putF f y fs).lookup g) (if g = f then some u else mA g)
    rw [lookup_putF]
    by_cases q : g = f
    · rw [if_pos q, if_pos q]; exact ry
    · rw [if_neg q, if_neg q]; exact r g
  · by_cases q : g = f
    · rw [q]; exact (keys_putF f y fs).1
    · refine (keys_putF f y fs).2 g (wi g fun z => hg ?_)
      show (if g = f then some u else mA g) = none
      rw [if_neg q]; exact z

/-- a new instance, tracked, without attributes -/
theorem Inv.made (I : Inv X pins σ H s) : Inv X pins σ (upd (upd H s.heap.objs.size (.own (s.heap.objs.size + 1))) (s.heap.objs.size + 1) (.ins C s.heap.objs.size []))
    { s with heap := (s.heap.push PySem.W.emptyDict).push (PySem.W.instObj C s.heap.objs.size) } := by
  have e1 : (s.heap.push PySem.W.emptyDict).get? s.heap.objs.size = some PySem.W.emptyDict := Heap.get?_push_size s.heap rfl
  have e2 : ((s.heap.push PySem.W.emptyDict).push (PySem.W.instObj C s.heap.objs.size)).get? (s.heap.objs.size + 1) = some (PySem.W.instObj C s.heap.objs.size) := by
    have := Heap.get?_push_size (s.heap.push PySem.W.emptyDict) (o := PySem.W.instObj C s.heap.objs.size) rfl
    rwa [Heap.size_push] at this
  have e3 : (s.heap.push PySem.W.emptyDict).Ns s.heap.objs.size (fun _ => none) := ⟨PySem.W.emptyDict, #[], _, e1, rfl, (fun e he => absurd he (by simp)), fun _ => rfl⟩
  have I1 := I.laid (a := s.heap.objs.size) (o := .own (s.heap.objs.size + 1)) (h' := s.heap.push PySem.W.emptyDict) (t' := s.toks) (fun b u q => Heap.get?_push_of_some _ q) (Nat.le_refl _) ⟨_, e1⟩
  refine I1.laid (a := s.heap.objs.size + 1) (o := .ins C s.heap.objs.size []) (t' := s.toks) (fun b u q => Heap.get?_push_of_some _ q) (Nat.le_of_eq (Heap.size_push _ _)) ?_
  have ne : s.heap.objs.size ≠ s.heap.objs.size + 1 := Nat.ne_of_lt (Nat.lt_succ_self _)
  refine ⟨by rw [upd_ne ne, upd_same], Nat.zero_le _, ne, e2, fun _ => none, (Heap.Ns1.of_empty e3).at fun o q => Heap.get?_push_of_some _ q, fun _ => True.intro, fun y hy => absurd rfl hy⟩

/-- e.f where nothing but the object is asked: through attributeBase (super) and the last hold -/
theorem attr_of {prog : Program} {w : World} {env : Env} {e : Expr} {f : Str} {pos : Pos} {s : Shared} {Q : Value → Shared → Prop} (hb : attributeBase e f env (eval e env) = eval e env)
    (h : wpAny (model prog w) A (eval e env) (fun o s₁ => wpAny (model prog w) A (getAttr o f true) Q E s₁) E s) : wpAny (model prog w) A (eval (.Attribute e f pos) env) Q E s :=
  Attribute_any_ h (by rw [arm_eval_Attribute, hb])
end

/-! ### readings and rules -/
/-- e.f, an attribute of the instance -/
def tFld (K : PySem.W.Frag) (ta : TE) (f : Str) : TE := fun σ H Q => ta σ H fun x H1 => ∃ a C dx fs v, x = .ref a ∧ H1 a = some (.ins C dx fs) ∧ Cls K C ∧ NoAttr K C f ∧ fs.lookup f = some v ∧ Q v H1
/-- e.f = value -/
def sFld (K : PySem.W.Frag) (ta tv : TE) (f : Str) : TS := fun D σ H => tv σ H fun y H1 => ta σ H1 fun x H2 => ∃ a C dx fs, x = .ref a ∧ H2 a = some (.ins C dx fs) ∧ Cls K C ∧ NoAttr K C f ∧ fs.length < 1000 ∧
  D.nx σ (upd H2 a (.ins C dx (putF f y fs)))
/-- an augmented operator on two values -/
def InOp (X : Cx) (op : Operator) (rd : V → V → Hp → VK → Prop) : Prop :=
  ∀ (pins : List (Addr × Obj)) (s : Shared) (σ : St) (H : Hp) (x y : V) (u v : Value) (Q : VK), Inv X pins σ H s → RelV x u → RelV y v → rd x y H Q → wpAny (model X.prog X.w) X.A (inplaceOp op u v) (EP X pins σ Q) X.xe s
/-- e.f op= value -/
def sFldAug (K : PySem.W.Frag) (ta tv : TE) (rd : V → V → Hp → VK → Prop) (f : Str) : TS := fun D σ H => ta σ H fun x H1 => ∃ a C dx fs v, x = .ref a ∧ H1 a = some (.ins C dx fs) ∧ Cls K C ∧ NoAttr K C f ∧ fs.lookup f = some v ∧
  tv σ H1 fun y H2 => rd v y H2 fun z H3 => ∃ dx' fs', H3 a = some (.ins C dx' fs') ∧ fs'.length < 1000 ∧ D.nx σ (upd H3 a (.ins C dx' (putF f z fs')))

section
variable {X : Cx} {o e value : Expr} {f : Str} {pos pos' tpos : Pos} {ta tv : TE}
theorem pe_fld (he : PE X e ta) (hb : attributeBase e f X.env (eval e X.env) = eval e X.env) : PE X (.Attribute e f pos) (tFld X.K ta f) := by
  intro pins s σ H Q I h
  refine attr_of hb (thn (he pins s σ H _ I h) fun u s1 ⟨x, H1, I1, rx, a, C, dx, fs, v, ex, ea, c, n, l, q⟩ => ?_)
  subst ex
  obtain rfl : u = Value.ref a := rx
  exact getattr_ok I1 ea c n l fun u' s2 I2 ru => ⟨v, H1, I2, ru, q⟩
theorem ps_fld (ha : PE X o ta) (hv : PE X value tv) (hs : swapsWith value (some (.Attribute o f pos')) pos.line X.env = pure false) : PS X (.Assign [.Attribute o f pos'] value pos) (sFld X.K ta tv f) := by
  intro pins s σ H D I h
  refine plainObj_wpAny_Assign_Attribute (thn (hv pins s σ H _ I h) fun u s1 ⟨y, H1, I1, ry, q⟩ => thn (ha pins s1 σ H1 _ I1 q) fun ov s2 ⟨x, H2, I2, rx, a, C, dx, fs, ex, ea, c, n, l, q2⟩ => ?_) hs
  subst ex
  obtain rfl : ov = Value.ref a := rx
  exact setattr_ok I2 ea c n l ry fun s3 I3 => ⟨σ, _, I3, q2⟩
theorem ps_fldaug {op : Operator} {rd : V → V → Hp → VK → Prop} (ha : PE X o ta) (hv : PE X value tv) (hop : InOp X op rd) : PS X (.AugAssign (.Attribute o f tpos) op value pos) (sFldAug X.K ta tv rd f) := by
  intro pins s σ H D I h
  refine wpAny_AugAssign_AttributeAny (thn (ha pins s σ H _ I h) fun ov s1 ⟨x, H1, I1, rx, a, C, dx, fs, v, ex, ea, c, n, l, q⟩ => ?_)
  subst ex
  obtain rfl : ov = Value.ref a := rx
  refine getattr_ok I1 ea c n l fun u s2 I2 ru => thn (hv pins s2 σ H1 _ I2 q) fun w3 s3 ⟨y, H2, I3, ry, q3⟩ => thn (hop pins s3 σ H2 v y u w3 _ I3 ru ry q3) fun w4 s4 ⟨z, H3, I4, rz, dx', fs', ea', l', q4⟩ => ?_
  exact setattr_ok I4 ea' c n l' rz fun s5 I5 => ⟨σ, _, I5, q4⟩
def rAdd : V → V → Hp → VK → Prop := fun x y H Q => ∃ i j, x = .int i ∧ y = .int j ∧ Q (.int (i + j)) H
theorem in_add : InOp X .Add rAdd := by
  rintro pins s σ H x y u v Q I rx ry ⟨i, j, rfl, rfl, q⟩
  obtain ⟨t, rfl⟩ := (show ∃ t, u = Value.int i t from rx)
  obtain ⟨t', rfl⟩ := (show ∃ t', v = Value.int j t' from ry)
  exact PyProof.Rows.iadd_int ⟨.int (i + j), H, I.tok _, ⟨_, rfl⟩, q⟩
/-- what is between an instance and its method: the tree of a method call -/
theorem methcall_of {pl : Sem Bool} {m : Str} {apos : Pos} {args : List Expr} {pins : List (Addr × Obj)} {s : Shared} {σ : St} {H : Hp} {Q : Value → Shared → Prop} {te : TE} (he : PE X e te) (I : Inv X pins σ H s)
    (h : te σ H fun x H1 => ∃ a C dx fs g, x = .ref a ∧ H1 a = some (.ins C dx fs) ∧ Cls X.K C ∧ Meth X.K C m g ∧ fs.lookup m = none ∧
      ∀ s1, Inv X pins σ H1 s1 → wpAny (model X.prog X.w) X.A (callWith pos (.ref g) [.ref a] (backTo pos (starEach args X.env)) (backToKw pos (keywordEach [] X.env))) Q X.xe s1)
    (ht : eval (.Call (.Attribute e m apos) args [] pos) X.env = (do
      let ov ← eval e X.env
      standAt apos.atName
      let (f, first) ← holding [ov] (getMethod ov m pl)
      callWith pos f first (backTo pos (starEach args X.env)) (backToKw pos (keywordEach [] X.env)))) :
    wpAny (model X.prog X.w) X.A (eval (.Call (.Attribute e m apos) args [] pos) X.env) Q X.xe s := by
  refine PySem.W.methodCall_KW (pl := pl) (thn (he pins s σ H _ I h) fun u s1 ⟨x, H1, I1, rx, a, C, dx, fs, g, ex, ea, c, k, l, q⟩ => ?_) ht
  subst ex
  obtain rfl : u = Value.ref a := rx
  exact getmeth_ok I1 ea c k l (q s1 I1)
end

/-! ### isinstance -/
section
variable {X : Cx} {pins : List (Addr × Obj)} {σ : St} {H : Hp} {s : Shared} {A : Around} {E : Value → Shared → Prop} {Q : Value → Shared → Prop} {c : Value} {b : Bool}
/-- the type of a value, as the fragment's deciders take it; for an instance its class -/
inductive TyOf (K : PySem.W.Frag) (H : Hp) : V → Value → Prop where
  | non : TyOf K H .non (.type "NoneType")
  | bl (x : Bool) : TyOf K H (.bl x) (.type "bool")
  | int (i : Int) : TyOf K H (.int i) (.type "int")
  | str (x : Str) : TyOf K H (.str x) (.type "str")
  | flt (x : UInt64) : TyOf K H (.flt x) (.type "float")
  | lst {a : Addr} {xs : List V} (e : H a = some (.lst xs)) : TyOf K H (.ref a) (.type "list")
  | frz {a : Addr} {o : Obj} {xs : List V} (e : H a = some (.frz o (.lst xs))) : TyOf K H (.ref a) (.type "list")
  | tup {a : Addr} {xs : List V} (e : H a = some (.tup xs)) : TyOf K H (.ref a) (.type "tuple")
  | dK {a : Addr} {kvs : List (Key × V)} (e : H a = some (.dK kvs)) : TyOf K H (.ref a) (.type "dict")
  | dT {a : Addr} {kvs : List (List Key × V)} (e : H a = some (.dT kvs)) : TyOf K H (.ref a) (.type "dict")
  | ins {a C dx : Addr} {fs : List (Str × V)} (e : H a = some (.ins C dx fs)) (cl : Cls K C) (ha : PySem.W.findIn K (.ref C) "__class__" = some (some (.builtin "object.__class__")))
      (hn : PySem.W.specialIn K (.builtin "object.__class__") "__get__" = some (some (.builtin "getset_descriptor.__get__"))) (htk : PySem.W.takesIn K (.builtin "object.__class__") = some true)
      (hm : PySem.W.mroIn K C (.type "object") = some true) : TyOf K H (.ref a) (.ref C)
/-- isinstance(x, c) for one class c, a built-in or an own one: kitOne's answer -/
theorem isinst_ok {x : V} {u t : Value} (I : Inv X pins σ H s) (rx : RelV x u) (ty : TyOf X.K H x t) (e : PySem.W.kitOne X.K t c = some b) (h : ∀ tk, Q (.bool b) { s with toks := tk }) :
    wpAny (model X.prog X.w) A (call (.builtin "isinstance") [u, c]) Q E s := by
  cases ty with
  | non => cases (show u = Value.none from rx); exact PySem.W.kia_one PySem.W.kitx_none I.kIn True.intro e (fun z => nomatch z) h
  | bl y => cases (show u = Value.bool y from rx); exact PySem.W.kia_one PySem.W.kitx_bool I.kIn True.intro e (fun z => nomatch z) h
  | int i => obtain ⟨t, q⟩ := (show ∃ t, u = Value.int i t from rx); cases q; exact PySem.W.kia_one PySem.W.kitx_int I.kIn True.intro e (fun z => nomatch z) h
  | str y => obtain ⟨t, q⟩ := (show ∃ t, u = Value.str y t from rx); cases q; exact PySem.W.kia_one PySem.W.kitx_str I.kIn True.intro e (fun z => nomatch z) h
  | flt y => obtain ⟨t, q⟩ := (show ∃ t, u = Value.float y t from rx); cases q; exact PySem.W.kia_one PySem.W.kitx_float I.kIn True.intro e (fun z => nomatch z) h
  | @lst a xs ea =>
    cases (show u = Value.ref a from rx)
    obtain ⟨_, _, n, _, h1⟩ := (show ObjOk X.prog X.w H s.heap a (.lst xs) from I.hok a _ ea)
    exact PySem.W.kia_one PySem.W.kitx_list I.kIn ⟨_, h1, rfl⟩ e (fun z => nomatch z) h
  | @frz a ob xs ea =>
    cases (show u = Value.ref a from rx)
    obtain ⟨_, _, _, n, _, h1⟩ := (show ObjOk X.prog X.w H s.heap a (.frz ob (.lst xs)) from I.hok a _ ea)
    exact PySem.W.kia_one PySem.W.kitx_list I.kIn ⟨_, h1, rfl⟩ e (fun z => nomatch z) h
  | @tup a xs ea =>
    cases (show u = Value.ref a from rx)
    obtain ⟨_, _, _, p⟩ := (show ObjOk X.prog X.w H s.heap a (.tup xs) from I.hok a _ ea)
    obtain ⟨o, h1, h2, _⟩ := p
    exact PySem.W.kia_one PySem.W.kitx_tuple I.kIn ⟨o, h1, h2⟩ e (fun z => nomatch z) h
  | @dK a kvs ea =>
    cases (show u = Value.ref a from rx)
    obtain ⟨_, _, vs, _, p⟩ := (show ObjOk X.prog X.w H s.heap a (.dK kvs) from I.hok a _ ea)
    obtain ⟨o, es, ep, h1, h2, _⟩ := p
    exact PySem.W.kia_one PySem.W.kitx_dict I.kIn ⟨o, h1, h2.1⟩ e (fun z => nomatch z) h
  | @dT a kvs ea =>
    cases (show u = Value.ref a from rx)
    obtain ⟨_, _, xs, _, o, es, ep, h1, h2, _⟩ := (show ObjOk X.prog X.w H s.heap a (.dT kvs) from I.hok a _ ea)
    exact PySem.W.kia_one PySem.W.kitx_dict I.kIn ⟨o, h1, h2.1⟩ e (fun z => nomatch z) h
  | @ins a C dx fs ea cl ha hn htk hm =>
    cases (show u = Value.ref a from rx)
    obtain ⟨mA, O, _⟩ := ins_get I.hok ea
    obtain ⟨od, J, _⟩ := O.look
    exact PySem.W.kia_one (PySem.W.kitx_own (cl.get _) cl.hd ha hn htk hm) I.kIn J e (fun z => nomatch z) h
end
end L2

namespace L2
open PySem PySem.Spec PyProof.Rows

/-! ### room -/
structure Room (k : Nat) (A : Around) : Prop where
  hd : A.handled = none
  dp : A.depth + 3 * k + 5 < recursionLimit
  un : A.units + 16 * k + 200 < cLine
theorem Room.mono {j k : Nat} {A : Around} (r : Room k A) (h : j ≤ k) : Room j A := ⟨r.hd, by have := r.dp; omega, by have := r.un; omega⟩
theorem Room.deeper {k : Nat} {A : Around} (r : Room (k + 1) A) (env : Env) : Room k (A.deeper env) :=
  ⟨r.hd, by have := r.dp; show A.depth + 1 + 3 * k + 5 < _; omega, by have := r.un; show A.units + 3 + 16 * k + 200 < _; omega⟩
theorem Room.in1 {k : Nat} {A : Around} (r : Room (k + 1) A) : Room k A.in1 :=
  ⟨r.hd, by have := r.dp; show A.depth + 3 * k + 5 < _; omega, by have := r.un; show A.units + 1 + 16 * k + 200 < _; omega⟩
theorem make_depth {A : Around} {C : Addr} {us : List Value} {kw : List (Str × Value)} : (A.under (.builtin "type.__call__" ⟨.ref C :: us, kw⟩)).depth = A.depth + 1 := by
  first | rfl | simp [Around.under, Code.weight, Code.isCreation, Code.isGuard, Code.isCaller, Code.frames, Code.isFrame, guardIds]
theorem make_units {A : Around} {C : Addr} {us : List Value} {kw : List (Str × Value)} : (A.under (.builtin "type.__call__" ⟨.ref C :: us, kw⟩)).units = A.units + 1 := by
  first | rfl | simp [Around.under, Code.cUnits, Code.frames, Code.isFrame]
theorem Room.make {k : Nat} {A : Around} (r : Room (k + 1) A) (C : Addr) (us : List Value) (kw : List (Str × Value)) : Room k (A.under (.builtin "type.__call__" ⟨.ref C :: us, kw⟩)) :=
  ⟨r.hd, by have := r.dp; rw [make_depth]; omega, by have := r.un; rw [make_units]; omega⟩
theorem Room.depth {k : Nat} {A : Around} (r : Room k A) : A.depth < recursionLimit := by have := r.dp; omega
theorem Room.units {k : Nat} {A : Around} (r : Room k A) : A.units + 64 < cLine := by have := r.un; omega
/-! ### argument lists and displays -/
def tNil : TA := fun _ H Q => Q [] H
def tCons (ta : TE) (tr : TA) : TA := fun σ H Q => ta σ H fun x H1 => tr σ H1 fun xs H2 => Q (x :: xs) H2
section
variable {X : Cx} {e : Expr} {es : List Expr} {te : TE} {t : TA} {pos : Pos}
theorem pa_nil : PA X [] tNil := fun _ _ _ _ H Q I h => Calls.spliced_nil ⟨[], H, I, .nil, h⟩
theorem pa_cons (ha : PE X e te) (hr : PA X es t) (hs : starEach (e :: es) X.env = (false, eval e X.env) :: starEach es X.env := by rfl) : PA X (e :: es) (tCons te t) := by
  intro pos pins s σ H Q I h
  rw [hs]
  show wpAny _ _ (spliced ((false, eval e X.env) :: backTo pos (starEach es X.env))) _ _ s
  refine Calls.spliced_cons (thn (ha pins s σ H _ I h) fun u s1 ⟨x, H1, I1, r1, q1⟩ => ?_)
  exact thn (hr pos pins s1 σ H1 _ I1 q1) fun us s2 ⟨xs, H2, I2, r2, q2⟩ => ⟨x :: xs, H2, I2, .cons r1 r2, q2⟩

/-- a tuple, a list of written items -/
def tTup (t : TA) : TE := fun σ H Q => t σ H fun xs H1 => xs.length ≤ sizeLine ∧ ∀ p, H1 p = none → Q (.ref p) (upd H1 p (.tup xs))
def tLst (t : TA) : TE := fun σ H Q => t σ H fun xs H1 => xs.length ≤ sizeLine ∧ ∀ p, H1 p = none → Q (.ref p) (upd H1 p (.lst xs))
theorem pe_tup {x1} (h : PA X es t) : PE X (.Tuple es x1 pos) (tTup t) := by
  intro pins s σ H Q I hq
  refine wpAny_Tuple_spliced (thn (h pos pins s σ H _ I hq) fun us s1 ⟨xs, H1, I1, r, z, q⟩ => ⟨by rw [← r.length]; exact z, ?_⟩)
  have hf : H1 s1.heap.objs.size = none := I1.hok.fresh (Nat.le_refl _)
  refine ⟨.ref s1.heap.objs.size, upd H1 s1.heap.objs.size (.tup xs), I1.laid (t' := s1.toks) (fun b u e => Heap.get?_push_of_some _ e) (Nat.le_refl _) ?_, rfl, q _ hf⟩
  exact ⟨z, us, r, ⟨_, Heap.get?_push_size _ rfl, rfl, _, rfl⟩⟩
theorem pe_lst (h : PA X es t) : PE X (.List es pos) (tLst t) := by
  intro pins s σ H Q I hq
  refine wpAny_List_spliced (thn (h pos pins s σ H _ I hq) fun us s1 ⟨xs, H1, I1, r, z, q⟩ => ⟨by rw [← r.length]; exact z, ?_⟩)
  have hf : H1 s1.heap.objs.size = none := I1.hok.fresh (Nat.le_refl _)
  refine ⟨.ref s1.heap.objs.size, upd H1 s1.heap.objs.size (.lst xs), I1.laid (t' := s1.toks) (fun b u e => Heap.get?_push_of_some _ e) (Nat.le_refl _) ?_, rfl, q _ hf⟩
  exact ⟨z, us, 0, r, Heap.get?_push_size _ rfl⟩
end

/-! ### what a def promises -/
/-- a def's promise: the bound arguments in the parameters' order, the heap, the wanted end, the wanted exception -/
abbrev Sp := List V → Hp → VK → XK → Prop
/-- how an exception lies behind a call (file 08 gives it): the callers' frames, abstract heap and state ahead of the call, the wish, the exception, the state -/
abbrev CXT := List Env → Hp → Shared → XK → Value → Shared → Prop

/-- the state at a call -/
structure Env0 (P : Program) (w : World) (K : PySem.W.Frag) (mg : Str → Option Value) (base : Heap) (A : Around) (outer : List Env) (s : Shared) (H : Hp) : Prop where
  frames : A.frames = some outer
  mod : Mod K mg base
  bs : ∀ b o, base.get? b = some o → s.heap.get? b = some o ∧ H b = none
  bsz : base.objs.size ≤ s.heap.objs.size
  funs : s.heap.FunFrames base outer
  frf : ∀ b ∈ frs outer, H b = none
  hok : HOk P w H s.heap
  bare : AllBare s.gens
/-- a call's end -/
def CE (outer : List Env) (P : Program) (w : World) (H : Hp) (s : Shared) (Q : VK) (u : Value) (s' : Shared) : Prop :=
  ∃ v H', s'.os = s.os ∧ AllBare s'.gens ∧ Un (frs outer) [] H H' s.heap s'.heap ∧ HOk P w H' s'.heap ∧ RelV v u ∧ Q v H'
def CR (CX : CXT) (outer : List Env) (P : Program) (w : World) (H : Hp) (s : Shared) (Q : VK) (E : XK) (r : Result) (s' : Shared) : Prop :=
  match r with
  | .ok (.ret u) => CE outer P w H s Q u s'
  | .ok _ => False
  | .error e => CX outer H s E e s'
structure FnOk (P : Program) (w : World) (K : PySem.W.Frag) (mg : Str → Option Value) (base : Heap) (CX : CXT) (k : Nat) (f : Addr) (fd : FuncData) (ps : List Str) (sp : Sp) : Prop where
  len : ∀ vs H Q E, sp vs H Q E → vs.length = ps.length
  run : ∀ (A : Around) (outer : List Env) (s : Shared) (H : Hp) (args : Args) (us : List Value) (vs : List V) (Q : VK) (E : XK), Room k A → Env0 P w K mg base A outer s H → BindsTo s fd args (ps.zip us) → Vals vs us → sp vs H Q E →
    codeAny (model P w) A (.call (.ref f) args) (CR CX outer P w H s Q E) s
theorem FnOk.mono {P : Program} {w : World} {K : PySem.W.Frag} {mg : Str → Option Value} {base : Heap} {CX : CXT} {j k : Nat} {f : Addr} {fd : FuncData} {ps : List Str} {sp : Sp} (F : FnOk P w K mg base CX j f fd ps sp) (h : j ≤ k) :
    FnOk P w K mg base CX k f fd ps sp := ⟨F.len, fun A outer s H args us vs Q E hr => F.run A outer s H args us vs Q E (hr.mono h)⟩
/-- a weaker promise -/
theorem FnOk.imp {P : Program} {w : World} {K : PySem.W.Frag} {mg : Str → Option Value} {base : Heap} {CX : CXT} {k : Nat} {f : Addr} {fd : FuncData} {ps : List Str} {sp sp' : Sp} (F : FnOk P w K mg base CX k f fd ps sp)
    (h : ∀ vs H Q E, sp' vs H Q E → sp vs H Q E) : FnOk P w K mg base CX k f fd ps sp' :=
  ⟨fun vs H Q E q => F.len vs H Q E (h _ _ _ _ q), fun A outer s H args us vs Q E hr he hb hv hs => F.run A outer s H args us vs Q E hr he hb hv (h _ _ _ _ hs)⟩

theorem Env0.make {P : Program} {w : World} {K : PySem.W.Frag} {mg : Str → Option Value} {base : Heap} {A : Around} {outer : List Env} {s : Shared} {H : Hp} (e : Env0 P w K mg base A outer s H) (C : Addr) (us : List Value) (kw : List (Str × Value)) :
    Env0 P w K mg base (A.under (.builtin "type.__call__" ⟨.ref C :: us, kw⟩)) outer s H := ⟨by first | exact e.frames | (simpa [Around.under, Code.envs, Code.isFrame, pushEnvs] using e.frames), e.mod, e.bs, e.bsz, e.funs, e.frf, e.hok, e.bare⟩
theorem Env0.in1 {P : Program} {w : World} {K : PySem.W.Frag} {mg : Str → Option Value} {base : Heap} {A : Around} {outer : List Env} {s : Shared} {H : Hp} (e : Env0 P w K mg base A outer s H) :
    Env0 P w K mg base A.in1 outer s H := ⟨e.frames, e.mod, e.bs, e.bsz, e.funs, e.frf, e.hok, e.bare⟩

section
variable {X : Cx} {pins : List (Addr × Obj)} {σ : St} {H : Hp} {s s' : Shared}
/-- from a body: what a callee wants -/
theorem Inv.env0 (I : Inv X pins σ H s) : Env0 X.prog X.w X.K X.mg X.base X.A X.stack s H :=
  ⟨I.ok.frames, I.ok.mod, I.bs, Nat.le_trans I.ok.bsz I.sz, I.stack, I.stkFree, I.hok, I.bare⟩
/-- behind a call -/
theorem Inv.after {Q : VK} {u : Value} (I : Inv X pins σ H s) (h : CE X.stack X.prog X.w H s Q u s') : EP X pins σ Q u s' := by
  obtain ⟨v, H', os, bare, un, hok, r, q⟩ := h
  obtain ⟨hh, g, d, t, os'⟩ := s'
  obtain rfl : os' = s.os := os
  exact ⟨v, H', I.call (h' := hh) (g' := g) (d' := d) (t' := t) (ch := []) un hok bare (fun b z => absurd z (by simp)), r, q⟩
end

/-! ### calls -/
/-- f(..): the written arguments, then the defaults dvs; E: what is wanted of an exception -/
def tCall (sp : Sp) (dvs : List V) (E : XK) (t : TA) : TE := fun σ H Q => t σ H fun vs H1 => sp (vs ++ dvs) H1 Q E
/-- o.m(..) of an instance of the class at C -/
def tMeth (C : Addr) (m : Str) (sp : Sp) (dvs : List V) (E : XK) (ta : TE) (t : TA) : TE := fun σ H Q => ta σ H fun x H1 => ∃ a dx fs, x = .ref a ∧ H1 a = some (.ins C dx fs) ∧ fs.lookup m = none ∧
  t σ H1 fun vs H2 => sp (x :: (vs ++ dvs)) H2 Q E
/-- C(..): a new instance and its dict, then __init__ -/
def tMake (C : Addr) (sp : Sp) (dvs : List V) (E : XK) (t : TA) : TE := fun σ H Q => t σ H fun vs H1 => ∀ x dx, H1 x = none → H1 dx = none → dx ≠ x →
  sp (.ref x :: (vs ++ dvs)) (upd (upd H1 dx (.own x)) x (.ins C dx [])) (fun v H2 => v = .non ∧ Q (.ref x) H2) E

/-- how the parameters are bound: us the positional arguments, kw the keywords' values by name, ds the defaults that fill up -/
def Binds (K : PySem.W.Frag) (fd : FuncData) (ps : List Str) (ds : List Value) : Prop :=
  ∀ (s : Shared) (us : List Value), K.In s.heap → (us ++ ds).length = ps.length → BindsTo s fd ⟨us, []⟩ (ps.zip (us ++ ds))
/-- every parameter is given -/
theorem Binds.all {K : PySem.W.Frag} {fd : FuncData} {ps : List Str} (h : ∀ us : List Value, us.length = ps.length → bindArgs fd ⟨us, []⟩ = pure (ps.zip us)) : Binds K fd ps [] := fun s us _ hl => by
  rw [List.append_nil] at hl ⊢
  exact .of_eq (h us hl)

/-- an exception of a callee reaches what this body wants of exceptions -/
def Passes (CX : CXT) (X : Cx) (E : XK) : Prop := ∀ (pins : List (Addr × Obj)) (σ : St) (H : Hp) (s : Shared) (e : Value) (s' : Shared), Inv X pins σ H s → CX X.stack H s E e s' → X.xe e s'

section
variable {X : Cx} {CX : CXT} {k : Nat} {f C : Addr} {fd : FuncData} {ps : List Str} {sp : Sp} {dvs : List V} {ds : List Value} {E : XK} {x m : Str} {p pos apos : Pos} {e o : Expr} {es : List Expr} {ta : TE} {t : TA}

/-- the callee runs -/
theorem run_fn {pins : List (Addr × Obj)} {σ : St} {H : Hp} {s : Shared} {Q : VK} {us : List Value} {vs : List V} (F : FnOk X.prog X.w X.K X.mg X.base CX k f fd ps sp) (hr : Room k X.A) (hb : Binds X.K fd ps ds) (hd : Vals dvs ds) (hx : Passes CX X E)
    (I : Inv X pins σ H s) (r : Vals vs us) (h : sp (vs ++ dvs) H Q E) : wpAny (model X.prog X.w) X.A (call (.ref f) us) (EP X pins σ Q) X.xe s := by
  have r2 : Vals (vs ++ dvs) (us ++ ds) := r.append hd
  have hl : (us ++ ds).length = ps.length := by rw [← r2.length]; exact F.len _ _ _ _ h
  refine wpAny_call (codeAny_mono (F.run X.A X.stack s H ⟨us, []⟩ (us ++ ds) (vs ++ dvs) Q E hr I.env0 (hb s us I.kIn hl) r2 h) fun r s' hq => ?_)
  cases r with
  | error e => exact hx pins σ H s e s' I hq
  | ok fl =>
    cases fl with
    | ret u => exact I.after hq
    | next => exact False.elim hq
    | brk => exact False.elim hq
    | cont => exact False.elim hq

theorem pe_call (F : FnOk X.prog X.w X.K X.mg X.base CX k f fd ps sp) (hr : Room k X.A) (hg : Gl X x) (hm : X.mg x = some (.ref f)) (hk : PySem.W.keepIn X.K (.ref f) = true) (hb : Binds X.K fd ps ds) (hd : Vals dvs ds) (hx : Passes CX X E)
    (ha : PA X (e :: es) t) (hdb : (x == ("__debug__" : Str)) = false := by decide) (he : starEach (e :: es) X.env = (false, eval e X.env) :: starEach es X.env := by rfl) (hpl : (backTo pos (starEach es X.env)).any (·.1) = false := by rfl) :
    PE X (.Call (.Name x p) (e :: es) [] pos) (tCall sp dvs E t) := by
  intro pins s σ H Q I h
  refine wpAny_Call_Name_kw (ld_glob I hg hm ?_ hdb)
  refine PySem.W.callWith_K (h₀ := X.base) I.ok.mod.kin hk (thn (ha pos pins s σ H _ I h) fun us s1 ⟨vs, H1, I1, r, q⟩ => ⟨I1.kIn, ?_⟩) he hpl
  exact run_fn F hr hb hd hx I1 r q
/-- o.m(e, ..) -/
theorem pe_meth {pl : Sem Bool} (he : PE X o ta) (c : Cls X.K C) (hm : Meth X.K C m f) (F : FnOk X.prog X.w X.K X.mg X.base CX k f fd ps sp) (hr : Room k X.A) (hb : Binds X.K fd ps ds) (hd : Vals dvs ds) (hx : Passes CX X E) (ha : PA X (e :: es) t)
    (hst : starEach (e :: es) X.env = (false, eval e X.env) :: starEach es X.env := by rfl) (hpl : (backTo pos (starEach es X.env)).any (·.1) = false := by rfl)
    (ht : eval (.Call (.Attribute o m apos) (e :: es) [] pos) X.env = (do
      let ov ← eval o X.env
      standAt apos.atName
      let (f, first) ← holding [ov] (getMethod ov m pl)
      callWith pos f first (backTo pos (starEach (e :: es) X.env)) (backToKw pos (keywordEach [] X.env))) := by rfl) :
    PE X (.Call (.Attribute o m apos) (e :: es) [] pos) (tMeth C m sp dvs E ta t) := by
  intro pins s σ H Q I h
  refine PySem.W.methodCall_KW (pl := pl) (thn (he pins s σ H _ I h) fun u s1 ⟨x, H1, I1, rx, a, dx, fs, ex, ea, l, q⟩ => ?_) ht
  subst ex
  obtain rfl : u = Value.ref a := rx
  refine getmeth_ok I1 ea c hm l ?_
  refine PySem.W.callWith_K (first := [.ref a]) (h₀ := X.base) I.ok.mod.kin hm.kp (thn (ha pos pins s1 σ H1 _ I1 q) fun us s2 ⟨vs, H2, I2, r, q2⟩ => ⟨I2.kIn, ?_⟩) hst hpl
  exact run_fn (us := .ref a :: us) (vs := .ref a :: vs) F hr hb hd hx I2 (.cons rfl r) q2
/-- o.m() -/
theorem pe_meth0 {pl : Sem Bool} (he : PE X o ta) (c : Cls X.K C) (hm : Meth X.K C m f) (F : FnOk X.prog X.w X.K X.mg X.base CX k f fd ps sp) (hr : Room k X.A) (hb : Binds X.K fd ps ds) (hd : Vals dvs ds) (hx : Passes CX X E)
    (ht : eval (.Call (.Attribute o m apos) [] [] pos) X.env = (do
      let ov ← eval o X.env
      standAt apos.atName
      let (f, first) ← holding [ov] (getMethod ov m pl)
      callWith pos f first (backTo pos (starEach [] X.env)) (backToKw pos (keywordEach [] X.env))) := by rfl) :
    PE X (.Call (.Attribute o m apos) [] [] pos) (tMeth C m sp dvs E ta tNil) := by
  intro pins s σ H Q I h
  refine PySem.W.methodCall_KW (pl := pl) (thn (he pins s σ H _ I h) fun u s1 ⟨x, H1, I1, rx, a, dx, fs, ex, ea, l, q⟩ => ?_) ht
  subst ex
  obtain rfl : u = Value.ref a := rx
  refine getmeth_ok I1 ea c hm l ?_
  exact PySem.W.callWith_K0 (first := [.ref a]) I1.kIn hm.kp (run_fn (us := [.ref a]) (vs := [.ref a]) F hr hb hd hx I1 (.cons rfl .nil) q)

/-- what a class must have to be made -/
structure Mk (K : PySem.W.Frag) (C f : Addr) : Prop where
  makes : PySem.W.makesIn K C = true
  init : PySem.W.findIn K (.ref C) "__init__" = some (some (.ref f))
  fn : PySem.W.isFn K (.ref f) = true
  kp : PySem.W.keepIn K (.ref C) = true

theorem run_make {pins : List (Addr × Obj)} {σ : St} {H : Hp} {s : Shared} {Q : VK} {us : List Value} {vs : List V} (M : Mk X.K C f) (F : FnOk X.prog X.w X.K X.mg X.base CX k f fd ps sp) (hr : Room (k + 1) X.A) (hb : Binds X.K fd ps ds) (hd : Vals dvs ds)
    (hx : Passes CX X E) (I : Inv X pins σ H s) (r : Vals vs us)
    (h : ∀ x dx, H x = none → H dx = none → dx ≠ x → sp (.ref x :: (vs ++ dvs)) (upd (upd H dx (.own x)) x (.ins C dx [])) (fun v H2 => v = .non ∧ Q (.ref x) H2) E) :
    wpAny (model X.prog X.w) X.A (call (.ref C) us) (EP X pins σ Q) X.xe s := by
  have hq := h (s.heap.objs.size + 1) s.heap.objs.size (I.hok.fresh (Nat.le_succ _)) (I.hok.fresh (Nat.le_refl _)) (Nat.ne_of_lt (Nat.lt_succ_self _))
  have I2 := Inv.made (C := C) I
  have r2 : Vals (V.ref (s.heap.objs.size + 1) :: (vs ++ dvs)) (Value.ref (s.heap.objs.size + 1) :: (us ++ ds)) := .cons rfl (r.append hd)
  have hl : (Value.ref (s.heap.objs.size + 1) :: us ++ ds).length = ps.length := by
    have e := r2.length
    rw [F.len _ _ _ _ hq] at e
    exact e.symm
  refine wpAny_call (make_map (f := f) I.kIn M.makes M.init (beq_iff_eq.mp M.fn) (codeAny_mono (F.run _ X.stack _ _ ⟨Value.ref (s.heap.objs.size + 1) :: us, []⟩ (Value.ref (s.heap.objs.size + 1) :: (us ++ ds)) _ _ E (hr.make C us [])
    (I2.env0.make C us []) (hb _ (Value.ref (s.heap.objs.size + 1) :: us) I2.kIn hl) r2 hq) fun r s' hq' => ?_))
  cases r with
  | error e => exact hx pins σ _ _ e s' I2 hq'
  | ok fl =>
    cases fl with
    | ret u =>
      obtain ⟨v, H', I3, rv, ev, q3⟩ := I2.after hq'
      subst ev
      exact ⟨rv, ⟨V.ref (s.heap.objs.size + 1), H', I3, rfl, q3⟩⟩
    | next => exact False.elim hq'
    | brk => exact False.elim hq'
    | cont => exact False.elim hq'
theorem pe_make (M : Mk X.K C f) (F : FnOk X.prog X.w X.K X.mg X.base CX k f fd ps sp) (hr : Room (k + 1) X.A) (hg : Gl X x) (hm : X.mg x = some (.ref C)) (hb : Binds X.K fd ps ds) (hd : Vals dvs ds) (hx : Passes CX X E)
    (ha : PA X (e :: es) t) (hdb : (x == ("__debug__" : Str)) = false := by decide) (he : starEach (e :: es) X.env = (false, eval e X.env) :: starEach es X.env := by rfl) (hpl : (backTo pos (starEach es X.env)).any (·.1) = false := by rfl) :
    PE X (.Call (.Name x p) (e :: es) [] pos) (tMake C sp dvs E t) := by
  intro pins s σ H Q I h
  refine wpAny_Call_Name_kw (ld_glob I hg hm ?_ hdb)
  refine PySem.W.callWith_K (h₀ := X.base) I.ok.mod.kin M.kp (thn (ha pos pins s σ H _ I h) fun us s1 ⟨vs, H1, I1, r, q⟩ => ⟨I1.kIn, ?_⟩) he hpl
  exact run_make M F hr hb hd hx I1 r q
end

section
variable {X : Cx} {CX : CXT} {k : Nat} {f C : Addr} {fd : FuncData} {ps ks : List Str} {sp : Sp} {E : XK} {x m : Str} {p pos apos kpos : Pos} {e o : Expr} {es : List Expr} {kws : List Keyword} {te ta : TE} {t tk : TA} {nm : Option Str}
variable {g : List Value → List Value → List Value} {gV : List V → List V → List V}
end

/-! ### a def's body keeps its promise -/
/-- names: the parameters first -/
structure FnScope (N P : List Str) (sc : Scope) : Prop where
  kind : sc.kind = .function
  co : sc.isCoroutine = false
  gen : sc.isGenerator = false
  nd : N.Nodup
  pre : N.take P.length = P
  par : ∀ x ∈ P, sc.names.lookup x = some .local ∨ sc.names.lookup x = some .cell
  nofree : ∀ y ∈ sc.names, y.2 ≠ .free

theorem bindL_out {kindOf : Str → Option NameKind} {x : Str} : ∀ {binds : List (Str × Value)} {m : Str → Option Value}, (∀ v, (x, v) ∉ binds) → bindL kindOf binds m x = m x
  | [], _, _ => rfl
  | (n, v) :: r, m, h => by
    unfold bindL
    rw [bindL_out fun w hw => h w (List.mem_cons_of_mem _ hw)]
    split
    · have : x ≠ n := by rintro rfl; exact h v List.mem_cons_self
      simp [this]
    · rfl
theorem bindC_out {kindOf : Str → Option NameKind} {x : Str} : ∀ {binds : List (Str × Value)} {m : Str → Option Value}, (∀ v, (x, v) ∉ binds) → bindC kindOf binds m x = m x
  | [], _, _ => rfl
  | (n, v) :: r, m, h => by
    unfold bindC
    rw [bindC_out fun w hw => h w (List.mem_cons_of_mem _ hw)]
    split
    · rfl
    · have : x ≠ n := by rintro rfl; exact h v List.mem_cons_self
      simp [this]
theorem bindL_get {kindOf : Str → Option NameKind} {x : Str} {v : Value} : ∀ {P : List Str} {vs : List Value} {i : Nat} {m : Str → Option Value}, P.Nodup → P[i]? = some x → vs[i]? = some v → kindOf x = some .local →
    bindL kindOf (P.zip vs) m x = some v
  | [], _, _, _, _, h, _, _ => by simp at h
  | _ :: _, [], _, _, _, _, h, _ => by simp at h
  | p :: P, w :: vs, 0, m, nd, h1, h2, hk => by
    simp at h1 h2; subst h1; subst h2
    show bindL kindOf ((p, w) :: P.zip vs) m p = _
    unfold bindL
    rw [bindL_out fun v hv => (List.nodup_cons.mp nd).1 (List.of_mem_zip hv).1, if_pos hk]
    simp
  | p :: P, w :: vs, i + 1, m, nd, h1, h2, hk => by
    show bindL kindOf ((p, w) :: P.zip vs) m x = _
    unfold bindL
    exact bindL_get (i := i) (List.nodup_cons.mp nd).2 (by simpa using h1) (by simpa using h2) hk
theorem bindC_get {kindOf : Str → Option NameKind} {x : Str} {v : Value} : ∀ {P : List Str} {vs : List Value} {i : Nat} {m : Str → Option Value}, P.Nodup → P[i]? = some x → vs[i]? = some v → kindOf x ≠ some .local →
    bindC kindOf (P.zip vs) m x = some v
  | [], _, _, _, _, h, _, _ => by simp at h
  | _ :: _, [], _, _, _, _, h, _ => by simp at h
  | p :: P, w :: vs, 0, m, nd, h1, h2, hk => by
    simp at h1 h2; subst h1; subst h2
    show bindC kindOf ((p, w) :: P.zip vs) m p = _
    unfold bindC
    rw [bindC_out fun v hv => (List.nodup_cons.mp nd).1 (List.of_mem_zip hv).1, if_neg hk]
    simp
  | p :: P, w :: vs, i + 1, m, nd, h1, h2, hk => by
    show bindC kindOf ((p, w) :: P.zip vs) m x = _
    unfold bindC
    exact bindC_get (i := i) (List.nodup_cons.mp nd).2 (by simpa using h1) (by simpa using h2) hk

/-- the names' values at the entry -/
def start (N : List Str) (vs : List V) : St := vs.map some ++ List.replicate (N.length - vs.length) none

/-- the context of a def's body, at its entry; an exception leaves the frame, then lies as CX says -/
def cxOf (CX : CXT) (P : Program) (w : World) (K : PySem.W.Frag) (mg : Str → Option Value) (base : Heap) (N : List Str) (qual : Str) (scope : Scope) (f : Addr) (cd : Value) (A : Around) (outer : List Env) (s : Shared) (H : Hp) (E : XK) : Cx where
  prog := P
  w := w
  K := K
  mg := mg
  base := base
  A := A.deeper (envOfC qual scope s.heap.objs.size f cd)
  N := N
  s₀ := s
  H₀ := H
  env := envOfC qual scope s.heap.objs.size f cd
  outer := outer
  stack := envOfC qual scope s.heap.objs.size f cd :: outer
  ex := []
  calm := true
  fn := fun _ => true
  pn := []
  xe := fun e s' => wpAny (model P w) (A.deeper (envOfC qual scope s.heap.objs.size f cd)) (leaving (envOfC qual scope s.heap.objs.size f cd) e) (fun _ s'' => CX outer H s E e s'') (fun e' s'' => CX outer H s E e' s'') s'

theorem cell_has {sc : Scope} {n : Nat} {x : Str} (h : sc.names.lookup x = some .cell) : ∃ c, (cellsFrom n sc.names []).lookup x = some c := by
  have q := PySem.W.cellsFrom_some sc.names n [] (.inl h)
  exact Option.isSome_iff_exists.mp q

theorem inv_start {CX : CXT} {P : Program} {w : World} {K : PySem.W.Frag} {mg : Str → Option Value} {base : Heap} {N ps : List Str} {qual : Str} {scope : Scope} {f : Addr} {cd : Value} {A : Around} {outer : List Env} {s s1 : Shared} {H : Hp} {E : XK} {us : List Value} {vs : List V}
    (S : FnScope N ps scope) (hd : A.handled = none) (e0 : Env0 P w K mg base A outer s H) (hl : vs.length = ps.length) (r : Vals vs us)
    (x : InCallC s s.heap.objs.size (bindL (envOfC qual scope s.heap.objs.size f cd).kindOf (ps.zip us) fun _ => none) (cellsFrom (s.heap.objs.size + 1) scope.names []) (bindC (envOfC qual scope s.heap.objs.size f cd).kindOf (ps.zip us) fun _ => none) s1) :
    Inv (cxOf CX P w K mg base N qual scope f cd A outer s H E) [] (start N vs) H s1 := by
  have hpl : ps.length ≤ N.length := by have := congrArg List.length S.pre; rw [List.length_take] at this; omega
  obtain ⟨h1, tk, rfl, hk⟩ := x.done
  have noA : ∀ b : Addr, b ∉ (cxOf CX P w K mg base N qual scope f cd A outer s H E).ex := fun b z => absurd (show b ∈ ([] : List Addr) from z) (by simp)
  refine ⟨⟨e0.mod, S.kind, rfl, rfl, Nat.le_refl _, fun y z c h1 h2 => ?_, fun y hy => ?_, fun y c _ h => ?_, fun _ => hd, Around.frames_deeper e0.frames, .inr ⟨rfl, rfl⟩, fun b z => absurd z (noA b), e0.bs, e0.bsz, fun b _ _ => noA b, fun b z => absurd z (noA b), e0.funs, e0.frf⟩,
    rfl, e0.bare, Un.kept hk, ⟨_, x.toInCall.ns, fun i y v h1 h2 h3 => ?_⟩, fun y c h => ⟨_, x.cell y c h⟩, e0.hok.fresh (Nat.le_refl _), fun y c h => ?_, fun p hp => absurd (show p ∈ ([] : List (Addr × Obj)) from hp) (by simp), e0.hok.kept hk, ?_⟩
  · exact name_of_addr x.apart (PySem.mem_of_lookup h1) (PySem.mem_of_lookup h2)
  · have hy : scope.names.lookup y = some .cell ∨ scope.names.lookup y = some .free := hy
    rcases hy with hy | hy
    · exact cell_has hy
    · exact absurd rfl (S.nofree _ (PySem.mem_of_lookup hy))
  · exact Nat.le_of_lt (x.above y c (PySem.mem_of_lookup h))
  · have hi : i < vs.length := by
      unfold start at h2
      by_cases hi : i < vs.length
      · exact hi
      · rw [List.getElem?_append_right (by simpa using hi)] at h2
        rw [List.getElem?_replicate] at h2
        split at h2 <;> cases h2
    have ha : vs[i]? = some v := by
      unfold start at h2
      rw [List.getElem?_append_left (by simpa using hi), List.getElem?_map] at h2
      cases e : vs[i]? with
      | none => rw [e] at h2; cases h2
      | some a => rw [e] at h2; cases h2; rfl
    obtain ⟨u, hu, rv⟩ := r.get ha
    have hp : ps[i]? = some y := by
      rw [← S.pre, List.getElem?_take_of_lt (by omega)]; exact h1
    have ndP : ps.Nodup := by rw [← S.pre]; exact S.nd.sublist (List.take_sublist _ _)
    refine ⟨u, rv, ?_⟩
    rcases S.par y (List.mem_of_getElem? hp) with k | k
    · exact .inl ⟨k, bindL_get ndP hp hu k⟩
    · obtain ⟨c, e⟩ := cell_has (n := s.heap.objs.size + 1) k
      refine .inr ⟨.inl k, c, e, ?_⟩
      have q := x.cell y c e
      rw [bindC_get ndP hp hu (by show scope.names.lookup y ≠ _; rw [k]; decide)] at q
      exact q
  · exact e0.hok.fresh (Nat.le_of_lt (x.above y c (PySem.mem_of_lookup h)))
  · unfold start
    show _ = N.length
    rw [List.length_append, List.length_map, List.length_replicate]
    omega

/-- THE RULE: a def (or a method) of the text, by its body. The body's reading t is chosen for each entry; it is run at the parameters' values -/
theorem fn_of {CX : CXT} {P : Program} {w : World} {K : PySem.W.Frag} {mg : Str → Option Value} {base : Heap} {k : Nat} {f : Addr} {name qual : Str} {params : Arguments} {body : List Stmt} {scope : Scope} {dV kV doc pm cdv ct oc : Value} {an od : Option Addr}
    {osl : Array (Option Value)} {N ps : List Str} {sp : Sp} (lk : K.lookup f = some ⟨oc, od, .func (PySem.W.fnOf name qual params body scope dV kV doc pm an cdv ct), osl⟩) (hcd : PySem.W.codeIn K cdv qual = true) (S : FnScope N ps scope)
    (len : ∀ vs H Q E, sp vs H Q E → vs.length = ps.length)
    (hbody : ∀ (A : Around) (outer : List Env) (s : Shared) (H : Hp) (vs : List V) (Q : VK) (E : XK), Room k (A.deeper (envOfC qual scope s.heap.objs.size f cdv)) → sp vs H Q E →
      ∃ t, PSs (cxOf CX P w K mg base N qual scope f cdv A outer s H E) body t ∧ t { nx := fun _ H' => Q .non H', rt := Q } (start N vs) H) :
    FnOk P w K mg base CX (k + 1) f (PySem.W.fnOf name qual params body scope dV kV doc pm an cdv ct) ps sp := by
  refine ⟨len, fun A outer s H args us vs Q E hr e0 hb r hsp => ?_⟩
  have hl := len _ _ _ _ hsp
  have KX : K.In s.heap := e0.mod.kin.keeps fun b o e => (e0.bs b o e).1
  have lim : s.heap.NoLimit := e0.mod.nolimit.keeps fun b o e => (e0.bs b o e).1
  have hkind : ∀ y ∈ ps.zip us, scope.names.lookup y.1 = some .local ∨ (scope.names.lookup y.1 = some .cell ∧ ((cellsFrom (s.heap.objs.size + 1) scope.names []).lookup y.1).isSome = true) := fun ⟨n, v⟩ hy => by
    rcases S.par n (List.of_mem_zip hy).1 with q | q
    · exact .inl q
    · exact .inr ⟨q, PySem.W.cellsFrom_some _ _ _ (.inl q)⟩
  refine codeAny_call_function hr.depth (KX _ _ lk) rfl S.co S.gen rfl (PySem.W.codeRec_of KX hcd) (hb _ _ _ _ ?_)
  refine wpAny_newFunctionEnv_cells S.kind hkind fun env he s1 x => ?_
  subst he
  refine ⟨lim.keeps x.toInCall.keep, codeAny_func ?_⟩
  obtain ⟨t, ht, hq⟩ := hbody A outer s H vs Q E (hr.deeper _) hsp
  have I : Inv (cxOf CX P w K mg base N qual scope f cdv A outer s H E) [] (start N vs) H s1 := inv_start S hr.hd e0 hl r x
  refine wpAny_mono (ht [] s1 (start N vs) H _ I hq) (fun fl s' hs => ?_) fun e s' hs => hs
  have fin : ∀ {σ' : St} {H' : Hp} {v : V} {u : Value}, Inv (cxOf CX P w K mg base N qual scope f cdv A outer s H E) [] σ' H' s' → RelV v u → Q v H' → CE outer P w H s Q u s' :=
    fun {σ' H' v u} J rv q => ⟨v, H', J.os, J.bare, J.base, J.hok, rv, q⟩
  cases fl with
  | ret u =>
    obtain ⟨v, σ', H', J, rv, q⟩ := hs
    exact fin J rv q
  | next =>
    obtain ⟨σ', H', J, q⟩ := hs
    exact fin (v := V.non) (u := Value.none) J rfl q
  | brk =>
    obtain ⟨_, _, _, q⟩ := hs
    exact False.elim q
  | cont =>
    obtain ⟨_, _, _, q⟩ := hs
    exact False.elim q
end L2

namespace L2
open PySem PySem.Spec PyProof.Rows
section
variable {X : Cx} {x : Str} {p pos : Pos} {e : Expr} {es : List Expr} {t : TA} {id T : String} {r : List V → Hp → VK → Prop}

def tCB (r : List V → Hp → VK → Prop) (t : TA) : TE := fun σ H Q => t σ H fun vs H1 => r vs H1 Q
/-- f(e, ..), f a built-in function -/
theorem pe_callB (hc : CallR X (.builtin id) r) (hg : Gl X x) (hm : X.mg x = none) (hv : bootBuiltins x = some (.builtin id)) (ha : PA X (e :: es) t) (hn : x ≠ "__name__" := by decide) (hdb : (x == ("__debug__" : Str)) = false := by decide)
    (he : starEach (e :: es) X.env = (false, eval e X.env) :: starEach es X.env := by rfl) (hpl : (backTo pos (starEach es X.env)).any (·.1) = false := by rfl) : PE X (.Call (.Name x p) (e :: es) [] pos) (tCB r t) := by
  intro pins s σ H Q I h
  refine wpAny_Call_Name_kw (ld_blt I hg hm hv ?_ hn hdb)
  exact PyProof.Rows.callWith_builtin1 (thn (ha pos pins s σ H _ I h) fun us s1 ⟨vs, H1, I1, r1, q1⟩ => hc pins s1 σ H1 vs us Q I1 r1 q1) he hpl
/-- T(e, ..), T a built-in type -/
theorem pe_callTy (hc : CallR X (.type T) r) (hg : Gl X x) (hm : X.mg x = none) (hv : bootBuiltins x = some (.type T)) (ha : PA X (e :: es) t) (hn : x ≠ "__name__" := by decide) (hdb : (x == ("__debug__" : Str)) = false := by decide)
    (he : starEach (e :: es) X.env = (false, eval e X.env) :: starEach es X.env := by rfl) (hpl : (backTo pos (starEach es X.env)).any (·.1) = false := by rfl) : PE X (.Call (.Name x p) (e :: es) [] pos) (tCB r t) := by
  intro pins s σ H Q I h
  refine wpAny_Call_Name_kw (ld_blt I hg hm hv ?_ hn hdb)
  exact PyProof.Rows.callWith_type1 (thn (ha pos pins s σ H _ I h) fun us s1 ⟨vs, H1, I1, r1, q1⟩ => hc pins s1 σ H1 vs us Q I1 r1 q1) he hpl
end
end L2

namespace HT
open PySem PyProof.Rows

/-- t < u of tuples of ints -/
def lexLt : List Int → List Int → Bool
  | [], [] => false
  | [], _ :: _ => true
  | _ :: _, [] => false
  | x :: xs, y :: ys => if x = y then lexLt xs ys else decide (x < y)
theorem lexLt_cons (x y : Int) (xs ys : List Int) : lexLt (x :: xs) (y :: ys) = if x = y then lexLt xs ys else decide (x < y) := rfl
theorem lexLt_nil_nil : lexLt [] [] = false := rfl
section
open PySem.SeqAt
open PySem.AutoSeq1 (wpAny_loadPart')
open PySem.MeetsSeq PySem.MeetsSeq2 PySem.MeetsSeq3

end

section
variable {prog : Program} {w : World} {A : Around} {E : Value → Shared → Prop} {s : Shared}

/-! ### t[a:b], not the whole -/
/-- a slice's bound as a place among n (d where it is left out) -/
def sIx (n d : Nat) : Option Int → Nat
  | none => d
  | some v => if v < 0 then (v + (n : Int)).toNat else min v.toNat n
theorem sIx_none (n d : Nat) : sIx n d none = d := rfl
theorem sIx_nat (n d k : Nat) : sIx n d (some (k : Int)) = min k n := by
  show (if (k : Int) < 0 then ((k : Int) + (n : Int)).toNat else min (k : Int).toNat n) = min k n
  rw [if_neg (by omega), Int.toNat_natCast]
end
end HT

namespace L2
open PySem PySem.Spec PyProof.Rows

/-! ### the parts of a slice -/
abbrev TO := St → Hp → (Option Int → Hp → Prop) → Prop
/-- a slice's part (left out, or an int) -/
def PO (X : Cx) (e : Option Expr) (t : TO) : Prop :=
  ∀ (pins : List (Addr × Obj)) (s : Shared) (σ : St) (H : Hp) (Q : Option Int → Hp → Prop), Inv X pins σ H s → t σ H Q →
    wpAny (model X.prog X.w) X.A (evalPart e X.env) (fun u s' => ∃ o H', Inv X pins σ H' s' ∧ IsPart u o ∧ Q o H') X.xe s
def tNoPart : TO := fun _ H Q => Q none H
def tPart (t : TE) : TO := fun σ H Q => t σ H fun x H1 => ∃ i, x = .int i ∧ Q (some i) H1

section
variable {X : Cx} {e : Expr} {te : TE} {lo hi : Option Expr} {tl th : TO} {pos p2 : Pos}

theorem po_none : PO X none tNoPart := by
  intro pins s σ H Q I h
  rw [evalPart_none]
  exact wpAny_pure ⟨none, H, I, .none, h⟩
theorem po_some (h : PE X e te) : PO X (some e) (tPart te) := by
  intro pins s σ H Q I hw
  rw [evalPart_some]
  refine thn (h pins s σ H _ I hw) fun u s1 ⟨x, H1, I1, r1, q1⟩ => ?_
  obtain ⟨i, rfl, q⟩ := q1
  obtain ⟨t, rfl⟩ := r1
  exact ⟨some i, H1, I1, .int i t, q⟩

/-- what a slice of a value is, by values: the slice object stands at sl -/
def SlR (X : Cx) (r : V → Option Int → Option Int → Hp → VK → Prop) : Prop :=
  ∀ (pins : List (Addr × Obj)) (s : Shared) (σ : St) (H : Hp) (x : V) (v vl vu : Value) (lo hi : Option Int) (sl : Addr) (Q : VK), Inv X pins σ H s → RelV x v → s.heap.IsSliceOf sl vl vu .none → IsPart vl lo → IsPart vu hi → r x lo hi H Q →
    ∃ T id, typeLookup (.type T) "__getitem__" = pure (some (.builtin id)) ∧ s.TypeIs v T ∧ wpAny (model X.prog X.w) X.A (getItem v (.ref sl)) (EP X pins σ Q) X.xe s
theorem SlR.or {r r' : V → Option Int → Option Int → Hp → VK → Prop} (h : SlR X r) (h' : SlR X r') : SlR X (fun x lo hi H Q => r x lo hi H Q ∨ r' x lo hi H Q) := by
  intro pins s σ H x v vl vu lo hi sl Q I rx hs pl pu q
  rcases q with q | q
  · exact h pins s σ H x v vl vu lo hi sl Q I rx hs pl pu q
  · exact h' pins s σ H x v vl vu lo hi sl Q I rx hs pl pu q
def tSl (r : V → Option Int → Option Int → Hp → VK → Prop) (te : TE) (tl th : TO) : TE := fun σ H Q => te σ H fun x H1 => tl σ H1 fun l H2 => th σ H2 fun u H3 => r x l u H3 Q
/-- a[lo:hi], any a -/
theorem pe_slice {r : V → Option Int → Option Int → Hp → VK → Prop} (hr : SlR X r) (he : PE X e te) (hl : PO X lo tl) (hu : PO X hi th) : PE X (.Subscript e (.Slice lo hi none p2) pos) (tSl r te tl th) := by
  intro pins s σ H Q I h
  refine Subscript_ (thn (he pins s σ H _ I h) fun v s1 ⟨x, H1, I1, r1, q1⟩ => ?_)
  refine wpAny_Slice (thn (hl pins s1 σ H1 _ I1 q1) fun vl s2 ⟨l, H2, I2, pl, q2⟩ => thn (hu pins s2 σ H2 _ I2 q2) fun vu s3 ⟨u, H3, I3, pu, q3⟩ => ?_)
  rw [evalPart_none]
  refine wpAny_pure ?_
  have I4 : Inv X pins σ H3 { s3 with heap := s3.heap.push { cls := .type "slice", data := .fields #[vl, vu, .none] } } := I3.kept (t' := s3.toks) fun b ob q => Heap.get?_push_of_some _ q
  obtain ⟨T, id, hT, ht, hg⟩ := hr pins { s3 with heap := s3.heap.push { cls := .type "slice", data := .fields #[vl, vu, .none] } } σ H3 x v vl vu l u s3.heap.objs.size Q I4 r1 (Heap.IsSliceOf.new ..) pl pu q3
  show wpAny (model X.prog X.w) X.A (subscriptTail e (.Slice lo hi none p2) v (.ref s3.heap.objs.size)) (EP X pins σ Q) X.xe { s3 with heap := s3.heap.push { cls := .type "slice", data := .fields #[vl, vu, .none] } }
  exact tail_any (ops := [.ref s3.heap.objs.size, v]) ht hT hg (by with_unfolding_all rfl)

/-- the items of xs[lo:hi] -/
def cutV (xs : List V) (lo hi : Option Int) : List V := (xs.drop (HT.sIx xs.length 0 lo)).take (HT.sIx xs.length xs.length hi - HT.sIx xs.length 0 lo)
theorem cutV_length (xs : List V) (lo hi : Option Int) : (cutV xs lo hi).length ≤ xs.length := by
  unfold cutV
  rw [List.length_take, List.length_drop]
  omega
end
end L2

namespace L2
open PySem PySem.Spec PyProof.Rows

/-! ### places -/
/-- the place that an index of any sign means -/
def ixN (n : Nat) (i : Int) : Option Nat := if 0 ≤ i then (if i < n then some i.toNat else none) else if -(n : Int) ≤ i then some (i + n).toNat else none
def atI {α : Type} (xs : List α) (i : Int) : Option α := (ixN xs.length i).bind fun j => xs[j]?
theorem ixN_seq {n : Nat} {i : Int} {j : Nat} (h : ixN n i = some j) : seqIndex? i n = some j ∧ j < n ∧ -(n : Int) ≤ i ∧ i < n := by
  unfold ixN at h
  by_cases h0 : 0 ≤ i
  · rw [if_pos h0] at h
    by_cases h1 : i < n
    · rw [if_pos h1] at h
      have e : i.toNat = j := Option.some.inj h
      exact ⟨by rw [seqIndex_of h0 h1, e], by omega, by omega, h1⟩
    · rw [if_neg h1] at h; cases h
  · rw [if_neg h0] at h
    by_cases h1 : -(n : Int) ≤ i
    · rw [if_pos h1] at h
      have e : (i + n).toNat = j := Option.some.inj h
      exact ⟨by rw [seqIndex_neg (by omega) h1, e], by omega, h1, by omega⟩
    · rw [if_neg h1] at h; cases h
theorem atI_get {α : Type} {xs : List α} {i : Int} {v : α} (h : atI xs i = some v) : ∃ j, seqIndex? i xs.length = some j ∧ xs[j]? = some v ∧ j < xs.length ∧ -(xs.length : Int) ≤ i ∧ i < xs.length := by
  unfold atI at h
  cases e : ixN xs.length i with
  | none => rw [e] at h; cases h
  | some j =>
    rw [e] at h
    obtain ⟨h1, h2, h3, h4⟩ := ixN_seq e
    exact ⟨j, h1, h, h2, h3, h4⟩
theorem atI_nat {α : Type} {xs : List α} {j : Nat} {v : α} (h : xs[j]? = some v) : atI xs (j : Int) = some v := by
  have hj : j < xs.length := (List.getElem?_eq_some_iff.mp h).1
  have e : ixN xs.length (j : Int) = some j := by
    unfold ixN
    rw [if_pos (by omega), if_pos (by omega)]; simp
  unfold atI; rw [e]; exact h
/-! ### what may be subscripted -/
/-- what stands as an index of a plain subscript -/
def PlainIx (b : Expr) : Prop := ∀ o i, subscripted b false o i = operate [o, i] (getItem o i)
/-- a subscript by values -/
def IxR (X : Cx) (r : R2) : Prop :=
  ∀ (value slice : Expr) (pins : List (Addr × Obj)) (s : Shared) (σ : St) (H : Hp) (x y : V) (v u : Value) (Q : VK), Inv X pins σ H s → RelV x v → RelV y u → r x y H Q →
    subscripted slice false v u = operate [v, u] (getItem v u) → wpAny (model X.prog X.w) X.A (subscriptTail value slice v u) (EP X pins σ Q) X.xe s
/-- a call of a builtin's method by values: the receiver, the arguments -/
def MtR (X : Cx) (id : String) (r : V → List V → Hp → VK → Prop) : Prop :=
  ∀ (pins : List (Addr × Obj)) (s : Shared) (σ : St) (H : Hp) (x : V) (xs : List V) (v : Value) (us : List Value) (Q : VK), Inv X pins σ H s → RelV x v → Vals xs us → r x xs H Q →
    wpAny (model X.prog X.w) X.A (call (.builtin id) (v :: us)) (EP X pins σ Q) X.xe s
section
variable {X : Cx} {a b : Expr} {ta tb : TE} {pos : Pos}
theorem IxR.or {r r' : R2} (h : IxR X r) (h' : IxR X r') : IxR X (fun x y H Q => r x y H Q ∨ r' x y H Q) := by
  intro value slice pins s σ H x y v u Q I rx ry q hs
  rcases q with q | q
  · exact h value slice pins s σ H x y v u Q I rx ry q hs
  · exact h' value slice pins s σ H x y v u Q I rx ry q hs
theorem MtR.or {id : String} {r r' : V → List V → Hp → VK → Prop} (h : MtR X id r) (h' : MtR X id r') : MtR X id (fun x xs H Q => r x xs H Q ∨ r' x xs H Q) := by
  intro pins s σ H x xs v us Q I rx rs q
  rcases q with q | q
  · exact h pins s σ H x xs v us Q I rx rs q
  · exact h' pins s σ H x xs v us Q I rx rs q
/-- a[b] -/
theorem pe_ix {r : R2} (hr : IxR X r) (ha : PE X a ta) (hb : PE X b tb) (hs : PlainIx b) : PE X (.Subscript a b pos) (tOp r ta tb) := by
  intro pins s σ H Q I h
  exact Subscript_ (binT ha hb I h fun v u s2 x y H2 I2 rx ry q => hr a b pins s2 σ H2 x y v u Q I2 rx ry q (hs _ _))

def rIxL (K : PySem.W.Frag) : R2 := fun x y H Q => ∃ p xs i v, x = .ref p ∧ y = .int i ∧ SqL K H p xs ∧ atI xs i = some v ∧ Q v H
def rIxT (K : PySem.W.Frag) : R2 := fun x y H Q => ∃ p xs i v, x = .ref p ∧ y = .int i ∧ SqT K H p xs ∧ atI xs i = some v ∧ Q v H
theorem ix_list : IxR X (rIxL X.K) := by
  intro value slice pins s σ H x y v u Q I rx ry h hs
  obtain ⟨p, xs, i, z, rfl, rfl, hq, he, q⟩ := h
  cases rx
  obtain ⟨t, rfl⟩ := ry
  obtain ⟨its, r, pl, hz⟩ := I.list hq
  obtain ⟨j, h1, h2, h3, h4, h5⟩ := atI_get he
  obtain ⟨w, ew, rw'⟩ := r.get h2
  have hl := r.length
  have hn := line63
  have fin : EP X pins σ Q w s := ⟨z, H, I, rw', q⟩
  by_cases h0 : 0 ≤ i
  · have hj : i.toNat = j := by
      rw [seqIndex_of h0 h5] at h1
      exact Option.some.inj h1
    exact item_listR pl.isList h0 (by omega) (by rw [hj]; simpa using ew) fin hs
  · have hj : (i + (its.toArray.size : Int)).toNat = j := by
      rw [seqIndex_neg (by omega) h4] at h1
      rw [List.size_toArray, ← hl]
      exact Option.some.inj h1
    exact subscriptTail_builtinR (x := w) pl.isList.typeIs slot_list_getitem.lookup
      (wpAny_getItem_list_neg (Q := fun r s' => r = w ∧ EP X pins σ Q r s') pl.isList (by omega) (by rw [List.size_toArray] <;> omega) (by omega) (by rw [hj]; simpa using ew) ⟨rfl, fin⟩) hs
theorem ix_tup : IxR X (rIxT X.K) := by
  intro value slice pins s σ H x y v u Q I rx ry h hs
  obtain ⟨p, xs, i, z, rfl, rfl, hq, he, q⟩ := h
  cases rx
  obtain ⟨t, rfl⟩ := ry
  obtain ⟨its, r, pl, hz⟩ := I.tuple hq
  obtain ⟨j, h1, h2, h3, h4, h5⟩ := atI_get he
  obtain ⟨w, ew, rw'⟩ := r.get h2
  have hl := r.length
  have hn := line63
  have fin : EP X pins σ Q w s := ⟨z, H, I, rw', q⟩
  exact subscriptTail_builtinR (x := w) pl.typeIs slot_tuple_getitem.lookup
    (getItem_tuple (j := j) (Q := fun r s' => r = w ∧ EP X pins σ Q r s') pl (by omega) (by omega) (by rw [List.size_toArray, ← hl]; exact h1) (by simpa using ew) ⟨rfl, fin⟩) hs
/-! ### xs[i] = v, any sign -/
/-- the list's object behind a store -/
theorem mapSeq_set (its : List Value) (n j : Nat) (u : Value) : Obj.mapSeq (·.setIfInBounds j u) { cls := .type "list", data := .seq its.toArray n } = { cls := .type "list", data := .seq (its.set j u).toArray n } := by
  simp [Obj.mapSeq]
theorem Inv.lst {pins : List (Addr × Obj)} {σ : St} {H : Hp} {s : Shared} {p : Addr} {xs : List V} (I : Inv X pins σ H s) (h : H p = some (.lst xs)) :
    ∃ (its : List Value) (n : Nat), Vals xs its ∧ s.heap.get? p = some { cls := .type "list", data := .seq its.toArray n } ∧ xs.length ≤ sizeLine := by
  obtain ⟨z, its, n, r, e⟩ := I.hok p _ h
  exact ⟨its, n, r, e, z⟩
/-- the list at p is written by an update of its object -/
theorem Inv.lstUpd {pins : List (Addr × Obj)} {σ : St} {H : Hp} {s : Shared} {p : Addr} {xs ys : List V} {its its' : List Value} {n n' : Nat} {f : Obj → Obj} (I : Inv X pins σ H s) (h : H p = some (.lst xs))
    (ho : s.heap.get? p = some { cls := .type "list", data := .seq its.toArray n }) (hf : f { cls := .type "list", data := .seq its.toArray n } = { cls := .type "list", data := .seq its'.toArray n' }) (r : Vals ys its') (hz : ys.length ≤ sizeLine) (t : Nat) :
    Inv X pins σ (upd H p (.lst ys)) { s with heap := s.heap.update p f, toks := t } := by
  have e : (s.heap.update p f).get? p = some { cls := .type "list", data := .seq its'.toArray n' } := by
    rw [Heap.get?_update_self f ho (by rw [hf] <;> rfl), hf]
  refine I.write (x := p) (e := p) (by rw [h]; trivial) (.inl rfl) (fun b u hb q => (Heap.get?_update_other _ _ (Ne.symm hb)).trans q) ⟨_, e⟩ ?_
  exact ⟨hz, its', n', r, e⟩
def rSetL : V → V → V → Hp → (Hp → Prop) → Prop := fun o i v H Q => ∃ p xs k j, o = .ref p ∧ i = .int k ∧ H p = some (.lst xs) ∧ ixN xs.length k = some j ∧ Q (upd H p (.lst (xs.set j v)))
theorem set_list : PSet X rSetL := by
  intro pins s σ H o i v ov iv u Q I ro ri rv h
  obtain ⟨p, xs, k, j, rfl, rfl, hp, hj, q⟩ := h
  cases ro
  obtain ⟨t, rfl⟩ := ri
  obtain ⟨its, n, r, ho, hz⟩ := I.lst hp
  obtain ⟨h1, h2, h3, h4⟩ := ixN_seq hj
  have hl := r.length
  have hn := line63
  have I' : Inv X pins σ (upd H p (.lst (xs.set j v))) { s with heap := s.heap.update p (Obj.mapSeq (·.setIfInBounds j u)) } :=
    I.lstUpd hp ho (mapSeq_set its n j u) (r.set rv j) (by rw [List.length_set]; exact hz) s.toks
  by_cases h0 : 0 ≤ k
  · have hk : k.toNat = j := by
      rw [seqIndex_of h0 h4] at h1
      exact Option.some.inj h1
    exact PySem.W.ki_setAt ho h0 (by omega) (by rw [List.size_toArray, ← hl]; exact h4) (by rw [hk]; exact ⟨_, I', q⟩)
  · have hk : (k + (its.toArray.size : Int)).toNat = j := by
      rw [seqIndex_neg (by omega) h3] at h1
      rw [List.size_toArray, ← hl]
      exact Option.some.inj h1
    exact PySem.W.ki_setBack ho (by omega) (by rw [List.size_toArray, ← hl]; exact h3) (by omega) (by rw [hk]; exact ⟨_, I', q⟩)

/-! ### slices -/
theorem slice_bounds (lo hi : Option Int) (n : Nat) : (sliceBounds lo hi none n).1 = ((HT.sIx n 0 lo : Nat) : Int) ∧ (sliceBounds lo hi none n).2.1 = ((HT.sIx n n hi : Nat) : Int) ∧ (sliceBounds lo hi none n).2.2 = 1 := by
  refine ⟨?_, ?_, rfl⟩
  · cases lo with
    | none => simp [sliceBounds, HT.sIx]
    | some i =>
      simp only [sliceBounds, HT.sIx, Option.getD_none, show (1 : Int) > 0 by decide, if_true]
      by_cases h : i < 0
      · simp only [h, if_true] <;> omega
      · simp only [h, if_false] <;> omega
  · cases hi with
    | none => simp [sliceBounds, HT.sIx]
    | some i =>
      simp only [sliceBounds, HT.sIx, Option.getD_none, show (1 : Int) > 0 by decide, if_true]
      by_cases h : i < 0
      · simp only [h, if_true] <;> omega
      · simp only [h, if_false] <;> omega
theorem slicePick_cut (its : List Value) (lo hi : Option Int) : slicePick its.toArray lo hi none = ((its.drop (HT.sIx its.length 0 lo)).take (HT.sIx its.length its.length hi - HT.sIx its.length 0 lo)).toArray := by
  obtain ⟨h1, h2, h3⟩ := slice_bounds lo hi its.toArray.size
  unfold slicePick
  rw [h1, h2, h3]
  simp only [sliceRange_one, pick_run, List.size_toArray] <;> rfl
/-- xs[lo:hi] of a list: a new list -/
def rSlL (K : PySem.W.Frag) : V → Option Int → Option Int → Hp → VK → Prop := fun x lo hi H Q => ∃ a xs, x = .ref a ∧ SqL K H a xs ∧ ∀ p, H p = none → Q (.ref p) (upd H p (.lst (cutV xs lo hi)))
theorem sl_list : SlR X (rSlL X.K) := by
  intro pins s σ H x v vl vu lo hi sl Q I rx hs pl pu h
  obtain ⟨a, xs, rfl, hx, q⟩ := h
  cases rx
  obtain ⟨its, r, ht, hz⟩ := I.list hx
  have hlen := r.length
  refine ⟨"list", _, slot_list_getitem.lookup, ht.isList.typeIs, ?_⟩
  refine wpAny_getItem_list_slice ht.isList hs pl pu .none (by simp) ?_ (by rw [List.size_toArray] <;> omega)
  rw [slicePick_cut, ← hlen]
  refine ⟨.ref s.heap.objs.size, _, I.laid (t' := s.toks) (o := .lst (cutV xs lo hi)) (fun b ob q => Heap.get?_push_of_some _ q) (Nat.le_refl _) ?_, rfl, q _ (I.hok.fresh (Nat.le_refl _))⟩
  exact ⟨Nat.le_trans (cutV_length xs lo hi) hz, _, 0, (r.drop (HT.sIx xs.length 0 lo)).take (HT.sIx xs.length xs.length hi - HT.sIx xs.length 0 lo), Heap.get?_push_size _ rfl⟩

/-! ### in, not in: flat items -/
def flatV : V → Bool
  | .non => true
  | .bl _ => true
  | .int _ => true
  | .str _ => true
  | _ => false
/-- == of flat values -/
def eqV : V → V → Bool
  | .non, .non => true
  | .bl a, .bl b => a == b
  | .bl a, .int b => (if a then 1 else 0) == b
  | .int a, .bl b => a == (if b then 1 else 0)
  | .int a, .int b => a == b
  | .str a, .str b => a == b
  | _, _ => false
theorem eqAt_V {A : Around} {s : Shared} {y x : V} {u v : Value} (ry : RelV y u) (rx : RelV x v) (fy : flatV y = true) (fx : flatV x = true) : SeqAt.EqAt A s u v (eqV y x) := by
  cases y with
  | non =>
    cases ry
    cases x with
    | non => cases rx; exact SeqAt.EqAt.same _
    | bl b => cases rx; exact SeqAt.EqAt.none_bool b
    | int b => obtain ⟨t, rfl⟩ := rx; exact SeqAt.EqAt.none_int b t
    | str b => obtain ⟨t, rfl⟩ := rx; exact SeqAt.EqAt.none_str b t
    | _ => exact absurd (show false = true from fx) Bool.false_ne_true
  | bl a =>
    cases ry
    cases x with
    | non => cases rx; exact SeqAt.EqAt.bool_none a
    | bl b => cases rx; exact SeqAt.EqAt.bool_bool a b
    | int b => obtain ⟨t, rfl⟩ := rx; exact SeqAt.EqAt.bool_int a b t
    | str b => obtain ⟨t, rfl⟩ := rx; exact SeqAt.EqAt.bool_str a b t
    | _ => exact absurd (show false = true from fx) Bool.false_ne_true
  | int a =>
    obtain ⟨t', rfl⟩ := ry
    cases x with
    | non => cases rx; exact SeqAt.EqAt.int_none a t'
    | bl b => cases rx; exact SeqAt.EqAt.int_bool a t' b
    | int b => obtain ⟨t, rfl⟩ := rx; exact SeqAt.EqAt.int_int a t' b t
    | str b => obtain ⟨t, rfl⟩ := rx; exact SeqAt.EqAt.int_str a t' b t
    | _ => exact absurd (show false = true from fx) Bool.false_ne_true
  | str a =>
    obtain ⟨t', rfl⟩ := ry
    cases x with
    | non => cases rx; exact SeqAt.EqAt.str_none a t'
    | bl b => cases rx; exact SeqAt.EqAt.str_bool a t' b
    | int b => obtain ⟨t, rfl⟩ := rx; exact SeqAt.EqAt.str_int a t' b t
    | str b => obtain ⟨t, rfl⟩ := rx; exact SeqAt.EqAt.str_str a t' b t
    | _ => exact absurd (show false = true from fx) Bool.false_ne_true
  | _ => exact absurd (show false = true from fy) Bool.false_ne_true
/-- the items' answers, read off the values (a value's own answer does not lean on its token) -/
def eqU (x : V) (u : Value) : Bool := match u with
  | .none => eqV .non x
  | .bool b => eqV (.bl b) x
  | .int i _ => eqV (.int i) x
  | .str z _ => eqV (.str z) x
  | _ => false
theorem eqU_of {x y : V} {u : Value} (r : RelV y u) (f : flatV y = true) : eqU x u = eqV y x := by
  cases y with
  | non => cases r; rfl
  | bl b => cases r; rfl
  | int i => obtain ⟨t, rfl⟩ := r; rfl
  | str z => obtain ⟨t, rfl⟩ := r; rfl
  | _ => exact absurd (show false = true from f) Bool.false_ne_true
theorem any_eqU {x : V} : ∀ {xs : List V} {us : List Value}, Vals xs us → xs.all flatV = true → us.any (eqU x) = xs.any fun y => eqV y x
  | _, _, .nil, _ => rfl
  | y :: xs, u :: us, .cons r t, f => by
    rw [List.all_cons, Bool.and_eq_true] at f
    rw [List.any_cons, List.any_cons, eqU_of r f.1, any_eqU t f.2]
theorem mem_eqAt {A : Around} {s : Shared} {x : V} {v : Value} (rx : RelV x v) (fx : flatV x = true) : ∀ {xs : List V} {us : List Value}, Vals xs us → xs.all flatV = true → ∀ u ∈ us, SeqAt.EqAt A s u v (eqU x u)
  | _, _, .nil, _ => fun u hu => by cases hu
  | y :: xs, u :: us, .cons r t, f => fun u' hu => by
    rw [List.all_cons, Bool.and_eq_true] at f
    rcases List.mem_cons.mp hu with rfl | hu
    · rw [eqU_of r f.1]; exact eqAt_V r rx f.1 fx
    · exact mem_eqAt rx fx t f.2 u' hu
def inV (x : V) (xs : List V) : Bool := xs.any fun y => eqV y x
/-- x in a list or tuple of flat items -/
def rIn (K : PySem.W.Frag) (neg : Bool) : R2 := fun x y H Q => ∃ p xs, y = .ref p ∧ (SqL K H p xs ∨ SqT K H p xs) ∧ flatV x = true ∧ xs.all flatV = true ∧ Q (.bl (if neg then !inV x xs else inV x xs)) H
theorem op_in_seq : OpR X (compareOp .In) (rIn X.K false) := by
  intro pins s σ H x y v u Q I rx ry h
  obtain ⟨p, xs, rfl, hq, fx, fs, q⟩ := h
  cases ry
  rcases hq with hq | hq
  · obtain ⟨its, r, pl, hz⟩ := I.list hq
    refine SeqAt.in_listAt (eqU x) pl.isList (fun w hw => mem_eqAt rx fx r fs w (by simpa using hw)) ⟨.bl _, H, I, rfl, ?_⟩
    rw [show its.toArray.any (eqU x) = its.any (eqU x) by simp, any_eqU r fs]
    exact q
  · obtain ⟨its, r, pl, hz⟩ := I.tuple hq
    refine SeqAt.in_tupleAt (eqU x) pl (fun w hw => mem_eqAt rx fx r fs w (by simpa using hw)) ⟨.bl _, H, I, rfl, ?_⟩
    rw [show its.toArray.any (eqU x) = its.any (eqU x) by simp, any_eqU r fs]
    exact q
/-! ### len, list(x), tuple(x) of any list or tuple that is read -/
theorem call_len_seq : CallR X (.builtin "len") (fun xs H Q => ∃ p ys, xs = [.ref p] ∧ (SqL X.K H p ys ∨ SqT X.K H p ys) ∧ Q (.int ys.length) H) := by
  intro pins s σ H xs us Q I r h
  obtain ⟨p, ys, rfl, hq, q⟩ := h
  obtain ⟨u, rfl, rx⟩ := vals1 r
  cases rx
  have hn := line63
  rcases hq with hq | hq
  · obtain ⟨its, r', pl, hz⟩ := I.list hq
    have hlen := r'.length
    exact Calls.call_len_list pl.isList (by simp only [List.size_toArray] <;> omega) ⟨.int ys.length, H, I.tok _, ⟨s.toks + 1, by rw [List.size_toArray, hlen]⟩, q⟩
  · obtain ⟨its, r', pl, hz⟩ := I.tuple hq
    have hlen := r'.length
    exact len_tuple pl (by simp only [List.size_toArray] <;> omega) ⟨.int ys.length, H, I.tok _, ⟨s.toks + 1, by rw [List.size_toArray, hlen]⟩, q⟩
theorem CallR.or {f : Value} {r r' : List V → Hp → VK → Prop} (h : CallR X f r) (h' : CallR X f r') : CallR X f (fun xs H Q => r xs H Q ∨ r' xs H Q) := by
  intro pins s σ H xs us Q I rs q
  rcases q with q | q
  · exact h pins s σ H xs us Q I rs q
  · exact h' pins s σ H xs us Q I rs q
theorem call_list_of : CallR X (.type "list") (fun xs H Q => ∃ p ys, xs = [.ref p] ∧ (SqL X.K H p ys ∨ SqT X.K H p ys) ∧ ∀ l, H l = none → Q (.ref l) (upd H l (.lst ys))) := by
  intro pins s σ H xs us Q I r h
  obtain ⟨p, ys, rfl, hq, q⟩ := h
  obtain ⟨u, rfl, rx⟩ := vals1 r
  cases rx
  have fin : ∀ (its : List Value), Vals ys its → ys.length ≤ sizeLine → ∀ (h' : Heap) (c' : Nat), (∀ b o', s.heap.get? b = some o' → h'.get? b = some o') →
      h'.get? s.heap.objs.size = some { cls := .type "list", dict := none, data := .seq its.toArray c', slots := #[] } → EP X pins σ Q (.ref s.heap.objs.size) { s with heap := h' } := fun its r' hz h' c' kp e =>
    ⟨.ref s.heap.objs.size, _, I.laid (t' := s.toks) kp (Nat.le_refl _) (show ObjOk X.prog X.w _ h' _ (.lst ys) from ⟨hz, its, c', r', e⟩), rfl, q _ (I.hok.fresh (Nat.le_refl _))⟩
  rcases hq with hq | hq
  · obtain ⟨its, r', pl, hz⟩ := I.list hq
    have hlen := r'.length
    obtain ⟨o, ho, hc, n, hd⟩ := pl.isList
    exact call_list_seq p (.inl rfl) ho hc hd (fun h' c' kp e => fin its r' hz h' c' kp e) (by simp only [List.size_toArray] <;> omega)
  · obtain ⟨its, r', pl, hz⟩ := I.tuple hq
    have hlen := r'.length
    obtain ⟨o, ho, hc, n, hd⟩ := pl
    exact call_list_seq p (.inr rfl) ho hc hd (fun h' c' kp e => fin its r' hz h' c' kp e) (by simp only [List.size_toArray] <;> omega)
theorem call_tuple_of : CallR X (.type "tuple") (fun xs H Q => ∃ p ys, xs = [.ref p] ∧ ((SqL X.K H p ys ∧ ∀ l, H l = none → Q (.ref l) (upd H l (.tup ys))) ∨ (SqT X.K H p ys ∧ Q (.ref p) H))) := by
  intro pins s σ H xs us Q I r h
  obtain ⟨p, ys, rfl, h⟩ := h
  obtain ⟨u, rfl, rx⟩ := vals1 r
  cases rx
  rcases h with ⟨hq, q⟩ | ⟨hq, q⟩
  · obtain ⟨its, r', pl, hz⟩ := I.list hq
    have hlen := r'.length
    refine call_tuple_list pl.isList (fun h' kp => ?_) (by simp only [List.size_toArray] <;> omega)
    have I1 : Inv X pins σ H { s with heap := h' } := I.kept (t' := s.toks) kp
    have I2 : Inv X pins σ (upd H h'.objs.size (.tup ys)) { s with heap := h'.push { cls := .type "tuple", data := .seq its.toArray } } :=
      I1.laid (t' := s.toks) (fun b o e => Heap.get?_push_of_some _ e) (Nat.le_refl _) (show ObjOk X.prog X.w _ _ _ (.tup ys) from ⟨hz, its, r', IsTup.new _ _⟩)
    exact ⟨.ref h'.objs.size, _, I2, rfl, q _ (I1.hok.fresh (Nat.le_refl _))⟩
  · obtain ⟨its, r', pl, hz⟩ := I.tuple hq
    exact call_tuple_same pl ⟨.ref p, H, I, rfl, q⟩

/-! ### the call of a builtin's method: o.m(..) -/
/-- the value is of that builtin type -/
def tyV (K : PySem.W.Frag) (T : String) (x : V) (H : Hp) : Prop := match x with
  | .str _ => T = "str"
  | .int _ => T = "int"
  | .ref p => (T = "list" ∧ ∃ xs, SqL K H p xs) ∨ (T = "tuple" ∧ ∃ o, K.lookup p = some o ∧ o.cls = .type "tuple" ∧ o.dict = none) ∨
      (T = "dict" ∧ ((∃ kvs, H p = some (.dK kvs)) ∨ ∃ kvs, H p = some (.dT kvs))) ∨ (T = "set" ∧ ∃ S n, H p = some (.set S n))
  | _ => False
theorem tyV_is {pins : List (Addr × Obj)} {σ : St} {H : Hp} {s : Shared} {T : String} {x : V} {v : Value} (I : Inv X pins σ H s) (r : RelV x v) (ty : tyV X.K T x H) :
    s.TypeIs v T ∧ ∀ a, v = .ref a → ∃ ob, s.heap.get? a = some ob ∧ ob.dict = none := by
  cases x with
  | str z =>
    obtain ⟨t, rfl⟩ := r
    cases (show T = "str" from ty)
    exact ⟨typeIs_str s z t, fun _ e => nomatch e⟩
  | int i =>
    obtain ⟨t, rfl⟩ := r
    cases (show T = "int" from ty)
    exact ⟨typeIs_int s i t, fun _ e => nomatch e⟩
  | ref p =>
    cases r
    rcases ty with ⟨rfl, xs, hq⟩ | ⟨rfl, o, hk, hc, hd⟩ | ⟨rfl, hk⟩ | ⟨rfl, S, n, hk⟩
    · obtain ⟨its, _, pl, _⟩ := I.list hq
      refine ⟨pl.isList.typeIs, fun a e => ?_⟩
      cases e
      obtain ⟨o, n, e, c, hd, _⟩ := pl
      exact ⟨o, e, hd⟩
    · refine ⟨⟨o, I.kIn p o hk, hc⟩, fun a e => ?_⟩
      cases e
      exact ⟨o, I.kIn _ o hk, hd⟩
    · have z : ∃ o, s.heap.get? p = some o ∧ o.ExactDict := by
        rcases hk with ⟨kvs, hk⟩ | ⟨kvs, hk⟩
        · obtain ⟨_, _, _, _, o, _, _, e, ex, _⟩ := I.hok p _ hk
          exact ⟨o, e, ex⟩
        · obtain ⟨_, _, _, _, o, _, _, e, ex, _⟩ := I.hok p _ hk
          exact ⟨o, e, ex⟩
      obtain ⟨o, e, ex⟩ := z
      refine ⟨⟨o, e, ex.1⟩, fun a e2 => ?_⟩
      cases e2
      exact ⟨o, e, ex.2.1⟩
    · obtain ⟨o, _, _, _, e, ex, _⟩ := I.hok p _ hk
      refine ⟨⟨o, e, ex.1⟩, fun a e2 => ?_⟩
      cases e2
      exact ⟨o, e, ex.2.1⟩
  | _ => exact False.elim ty
def tBM (K : PySem.W.Frag) (T : String) (r : V → List V → Hp → VK → Prop) (to : TE) (t : TA) : TE := fun σ H Q => to σ H fun x H1 => tyV K T x H1 ∧ t σ H1 fun xs H2 => r x xs H2 Q
variable {o e : Expr} {es : List Expr} {to : TE} {t : TA} {name : Str} {apos cpos : Pos} {T id : String} {r : V → List V → Hp → VK → Prop}
theorem pe_bm (pa : PlainAttrs T) (slot : Slot T name id) (hty : typeOf (.builtin id) = pure (.type "method_descriptor")) (hm : MtR X id r) (ho : PE X o to) (ha : PA X (e :: es) t)
    (hbase : attributeBase o name X.env (eval o X.env) = eval o X.env := by rfl)
    (hfew : ((backTo cpos (starEach (e :: es) X.env)).all (fun x => !x.1) && (backToKw cpos (keywordEach [] X.env)).all (fun x => x.1.isSome)
      && decide ((e :: es).length + ([] : List Keyword).length + (if ([] : List Keyword).isEmpty then 0 else 1) < 30)) = true := by rfl)
    (hline : (apos.endLine == cpos.line) = true := by rfl) (hs : starEach (e :: es) X.env = (false, eval e X.env) :: starEach es X.env := by rfl) (hplain : (backTo cpos (starEach es X.env)).any (·.1) = false := by rfl) :
    PE X (.Call (.Attribute o name apos) (e :: es) [] cpos) (tBM X.K T r to t) := by
  intro pins s σ H Q I h
  refine wpAny_Call_method_late hbase hfew hline rfl (thn (ho pins s σ H _ I h) fun v s1 ⟨x, H1, I1, r1, ty, q1⟩ => ?_)
  obtain ⟨h1, h2⟩ := tyV_is I1 r1 ty
  refine ⟨T, id, pa, slot, hty, h1, h2, ?_⟩
  have hA := ha cpos pins s1 σ H1 _ I1 q1
  rw [hs] at hA ⊢
  refine Calls.callWith_builtin (by show (false || (backTo cpos (starEach es X.env)).any (·.1)) = false; rw [hplain] <;> rfl) (Calls.evalArgs_plain ?_)
  exact thn hA fun us s2 ⟨vs, H2, I2, r2, q2⟩ => hm pins s2 σ H2 x vs v us Q I2 r1 r2 q2
/- xs.append(e), list.index on a module's tuple .. are MtR facts of 06m -/
end
end L2

namespace L2
open PySem PySem.Spec PyProof.Rows

def MtM (X : Cx) (id : String) (r : V → List V → Hp → VK → Prop) : Prop :=
  ∀ (pins : List (Addr × Obj)) (s : Shared) (σ : St) (H : Hp) (x : V) (xs : List V) (v : Value) (us : List Value) (Q : VK), Inv X pins σ H s → RelV x v → Vals xs us → r x xs H Q →
    wpAny (model X.prog X.w) X.A (call (.builtin id) (v :: us)) (EP X pins σ Q) X.xe s

/-! ### lists of values -/
theorem Vals.one : ∀ {x : V} {us : List Value}, Vals [x] us → ∃ u, us = [u] ∧ RelV x u
  | _, _, .cons r .nil => ⟨_, rfl, r⟩
theorem Vals.two : ∀ {x y : V} {us : List Value}, Vals [x, y] us → ∃ u v, us = [u, v] ∧ RelV x u ∧ RelV y v
  | _, _, _, .cons r (.cons q .nil) => ⟨_, _, rfl, r, q⟩
theorem Vals.zero : ∀ {us : List Value}, Vals [] us → us = []
  | _, .nil => rfl
theorem Vals.reverse {xs : List V} {us : List Value} (h : Vals xs us) : Vals xs.reverse us.reverse := by
  induction h with
  | nil => exact .nil
  | cons r t ih => rw [List.reverse_cons, List.reverse_cons]; exact Vals.append ih (.cons r .nil)
theorem Vals.rep {xs : List V} {us : List Value} (h : Vals xs us) : ∀ k : Nat, Vals (List.replicate k xs).flatten (List.replicate k us).flatten
  | 0 => .nil
  | k + 1 => by
    rw [List.replicate_succ, List.replicate_succ, List.flatten_cons, List.flatten_cons]
    exact Vals.append h (Vals.rep h k)
theorem foldl_rep (its : List Value) : ∀ (k : Nat) (acc : List Value),
    List.foldl (fun x1 x2 => x1 ++ x2) acc.toArray (List.replicate k its.toArray) = (acc ++ (List.replicate k its).flatten).toArray
  | 0, acc => by simp
  | k + 1, acc => by
    have e : acc.toArray ++ its.toArray = (acc ++ its).toArray := by simp
    have e2 : (acc ++ its) ++ (List.replicate k its).flatten = acc ++ (List.replicate (k + 1) its).flatten := by
      rw [List.replicate_succ, List.flatten_cons, List.append_assoc]
    rw [← e2, ← foldl_rep its k (acc ++ its), ← e, List.replicate_succ, List.foldl_cons]

section
variable {X : Cx} {pins : List (Addr × Obj)} {σ : St} {H : Hp} {s : Shared} {l b : Addr} {xs ys zs : List V}

/-! ### the two steps: a tracked list is rewritten, a new list is laid -/
theorem Inv.lset {its its' : List Value} {n : Nat} {f : Array Value → Array Value} {t' : Nat} (I : Inv X pins σ H s) (hH : H l = some (.lst xs))
    (e : s.heap.get? l = some { cls := .type "list", data := .seq its.toArray n }) (hf : f its.toArray = its'.toArray) (hv : Vals ys its') (hz : ys.length ≤ sizeLine) :
    Inv X pins σ (upd H l (.lst ys)) { s with heap := s.heap.update l (Obj.mapSeq f), toks := t' } := by
  have q := PySem.IsL.update e f
  rw [hf] at q
  refine I.write (x := l) (e := l) (by rw [hH]; exact trivial) (.inl rfl) (fun b' u hb hu => (Heap.get?_update_other s.heap (Obj.mapSeq f) (Ne.symm hb)).trans hu) ⟨_, q⟩ ?_
  exact ⟨hz, its', _, hv, q⟩
theorem Inv.lnew {its : List Value} {t' : Nat} (I : Inv X pins σ H s) (hv : Vals ys its) (hz : ys.length ≤ sizeLine) :
    Inv X pins σ (upd H s.heap.objs.size (.lst ys)) { s with heap := s.heap.push { cls := .type "list", data := .seq its.toArray }, toks := t' } :=
  I.laid (fun _ _ q => Heap.get?_push_of_some _ q) (Nat.le_refl _) ⟨hz, its, 0, hv, Heap.get?_push_size _ rfl⟩
theorem Inv.fresh (I : Inv X pins σ H s) : H s.heap.objs.size = none := I.hok.fresh (Nat.le_refl _)
theorem Inv.lstM (I : Inv X pins σ H s) (hH : H l = some (.lst xs)) : xs.length ≤ sizeLine ∧ ∃ (its : List Value) (n : Nat), Vals xs its ∧ xs.length = its.length ∧ s.heap.get? l = some { cls := .type "list", data := .seq its.toArray n } := by
  obtain ⟨z, its, n, r, e⟩ := I.hok l _ hH
  exact ⟨z, its, n, r, r.length, e⟩

theorem notLongL {n : Nat} (h : n ≤ sizeLine) : Builtin.List.listTooLong n = false := by
  unfold Builtin.List.listTooLong
  exact decide_eq_false (by omega)
end

section
variable {X : Cx}

/-! ### methods -/
def rAppend : V → List V → Hp → VK → Prop := fun x vs H Q => ∃ l xs y, x = .ref l ∧ vs = [y] ∧ H l = some (.lst xs) ∧ xs.length < sizeLine ∧ Q .non (upd H l (.lst (xs ++ [y])))
theorem mt_append : MtM X "list.append" rAppend := by
  intro pins s σ H x vs v us Q I rx rv h
  obtain ⟨l, xs, y, rfl, rfl, hH, hz, q⟩ := h
  cases rx
  obtain ⟨u, rfl, ru⟩ := rv.one
  obtain ⟨z, its, n, r, hl, e⟩ := I.lstM hH
  refine call_meets F.slot_list_append ⟨_, e, rfl⟩ F.entry_list_append (F.args_list_append_2 _ _) (PySem.list_append l its.toArray n u (by rw [List.size_toArray]; omega)) ⟨e, ?_⟩
  refine ⟨.non, _, I.lset (its' := its ++ [u]) hH e (by simp) (r.append (.cons ru .nil)) ?_, rfl, q⟩
  rw [List.length_append, List.length_singleton]
  omega

def rExtend : V → List V → Hp → VK → Prop := fun x vs H Q => ∃ l b xs zs, x = .ref l ∧ vs = [.ref b] ∧ H l = some (.lst xs) ∧ H b = some (.lst zs) ∧ xs.length + zs.length ≤ sizeLine ∧ Q .non (upd H l (.lst (xs ++ zs)))
theorem mt_extend : MtM X "list.extend" rExtend := by
  intro pins s σ H x vs v us Q I rx rv h
  obtain ⟨l, b, xs, zs, rfl, rfl, hH, hB, hz, q⟩ := h
  cases rx
  obtain ⟨u, rfl, ru⟩ := rv.one
  cases ru
  obtain ⟨z, its, n, r, hl, e⟩ := I.lstM hH
  obtain ⟨z2, its2, n2, r2, hl2, e2⟩ := I.lstM hB
  have hsz : its.toArray.size + its2.toArray.size ≤ sizeLine := by rw [List.size_toArray, List.size_toArray]; omega
  have hlong : ¬ (!its.toArray.isEmpty && Builtin.List.listTooLong (its.toArray.size + its2.toArray.size)) = true := by
    rw [notLongL hsz, Bool.and_false]
    exact Bool.false_ne_true
  refine call_meets F.slot_list_extend ⟨_, e, rfl⟩ F.entry_list_extend (F.args_list_extend_2 _ _)
    (AutoSeq1.list_extend_list_list_0 l its.toArray n b its2.toArray n2 hlong (by rw [List.size_toArray]; omega) (by omega)) ⟨e, e2, ?_⟩
  refine ⟨.non, _, I.lset (its' := its ++ its2) hH e (by simp) (r.append r2) ?_, rfl, q⟩
  rw [List.length_append]
  omega

/-! ### list + list, list += list, list * int -/
def rCat : R2 := fun x y H Q => ∃ l b xs zs, x = .ref l ∧ y = .ref b ∧ H l = some (.lst xs) ∧ H b = some (.lst zs) ∧ xs.length + zs.length ≤ sizeLine ∧ ∀ p, H p = none → Q (.ref p) (upd H p (.lst (xs ++ zs)))
theorem op_cat : OpR X (binaryOp .Add) rCat := by
  intro pins s σ H x y v u Q I rx ry h
  obtain ⟨l, b, xs, zs, rfl, rfl, hH, hB, hz, q⟩ := h
  cases rx
  cases ry
  obtain ⟨z, its, n, r, hl, e⟩ := I.lstM hH
  obtain ⟨z2, its2, n2, r2, hl2, e2⟩ := I.lstM hB
  refine PySem.P.add_list e e2 ?_ (by rw [List.size_toArray, List.size_toArray]; omega)
  have ea : its.toArray ++ its2.toArray = (its ++ its2).toArray := by simp
  rw [ea]
  exact ⟨.ref _, _, I.lnew (t' := s.toks) (r.append r2) (by rw [List.length_append]; omega), rfl, q _ I.fresh⟩
/-- a list times an int (a negative one is nothing) -/
def rRep : R2 := fun x y H Q => ∃ l k xs, x = .ref l ∧ y = .int k ∧ H l = some (.lst xs) ∧ -(2 ^ 63) ≤ k ∧ k < 2 ^ 63 ∧ xs.length * k.toNat ≤ sizeLine ∧
  ∀ p, H p = none → Q (.ref p) (upd H p (.lst (List.replicate k.toNat xs).flatten))
theorem len_rep {α : Type} (xs : List α) (k : Nat) : (List.replicate k xs).flatten.length = k * xs.length := by
  induction k with
  | zero => simp
  | succ k ih => rw [List.replicate_succ, List.flatten_cons, List.length_append, ih, Nat.succ_mul, Nat.add_comm]
theorem op_rep : OpR X (binaryOp .Mult) rRep := by
  intro pins s σ H x y v u Q I rx ry h
  obtain ⟨l, k, xs, rfl, rfl, hH, h1, h2, hz, q⟩ := h
  cases rx
  obtain ⟨t, rfl⟩ := ry
  obtain ⟨z, its, n, r, hl, e⟩ := I.lstM hH
  have hlen : its.toArray.size * k.toNat ≤ sizeLine := by rw [List.size_toArray, ← hl]; exact hz
  have hcap : ¬ its.toArray.size * k.toNat > (2 ^ 63 - 1) / 8 := by
    have : (sizeLine : Nat) ≤ (2 ^ 63 - 1) / 8 := by decide
    omega
  have hfit : ¬ (!Builtin.List.listFitsIndex k) = true := by
    rw [fitsIndex_both h1 h2]
    exact Bool.false_ne_true
  have hlong : ¬ Builtin.List.listTooLong (its.toArray.size * k.toNat) = true := by
    rw [notLongL hlen]
    exact Bool.false_ne_true
  have hnew : List.foldl (fun x1 x2 => x1 ++ x2) #[] (List.replicate (if its.toArray.isEmpty = true then 0 else k.toNat) its.toArray) = (List.replicate k.toNat its).flatten.toArray := by
    have f0 : ∀ m : Nat, List.foldl (fun x1 x2 => x1 ++ x2) #[] (List.replicate m its.toArray) = (List.replicate m its).flatten.toArray := fun m => by
      have := foldl_rep its m []
      rw [List.nil_append] at this
      exact this
    rw [f0]
    cases its with
    | nil => simp
    | cons a r' => rw [if_neg (by simp)]
  refine wpAny_binaryOp_repeat_ref (T := "list") (U := "int") (by decide) ⟨_, e, rfl⟩ (fun s' => typeIs_int s' k t) noFill_list_mul F.fills_int_mul F.slot_int_rmul repeat_list F.slot_int_index.lookup
    (call_meets F.slot_int_rmul (typeIs_int s k t) F.entry_int_rmul (F.args_int_rmul_2 _ _) (int___rmul___int_list k t l its.toArray n)
      ⟨e, rfl, ⟨_, e, rfl⟩, call_meets F.slot_list_mul ⟨_, e, rfl⟩ F.entry_list_mul (F.args_list_mul_2 _ _) (AutoListH.list___mul___list_int_3 l its.toArray n k t hfit hcap hlong) ⟨e, ?_⟩⟩)
  rw [hnew]
  exact ⟨.ref _, _, I.lnew (t' := s.toks) (r.rep k.toNat) (by rw [len_rep, Nat.mul_comm]; exact hz), rfl, q _ I.fresh⟩

end

/-! ### xs[a:b] = ys -/
section
variable {prog : Program} {w : World} {A : Around} {E : Value → Shared → Prop} {s : Shared}
end

section
variable {X : Cx}
end
end L2

namespace Att
open PySem PySem.W PySem.Calls PyProof.Rows

/-! ### the script -/
theorem ints_of_wellAll {P : Params} {h : Heap} : ∀ (ns : List Int) (vs : List Value), WellAll P h vs (ns.map WData.int) → IntsAre vs ns := by
  intro ns
  induction ns with
  | nil =>
    intro vs w
    rw [List.map_nil] at w
    cases w
    exact .nil
  | cons n ns ih =>
    intro vs w
    rw [List.map_cons] at w
    cases w with
    | cons a b =>
      cases a
      exact .cons _ _ (ih _ b)

theorem script_of {l : OpenLaw} {n : Nat} (hn : l.most = some n) {P : Params} {h : Heap} {args : List WData} {vals : List Value}
    (hpre : l.row.toRowW.claim.pre args = true) (hwl : WellAll P h vals args) :
    ∃ a vs ns, vals = [Value.ref a] ∧ args = [WData.list (ns.map WData.int)] ∧ h.get? a = some { cls := .type "list", data := .seq vs.toArray } ∧ IntsAre vs ns ∧ ns.length ≤ n := by
  have hsh : WShape.hasAll [] args [.list .int] = true := (pre_splitW hpre).1
  have hc : l.pre.holds [] { args := args } = true := (pre_splitW hpre).2
  obtain ⟨d, r, rfl, h1, h2⟩ := hasAllW_cons hsh
  obtain rfl := hasAllW_nil h2
  obtain ⟨xs, rfl, h3⟩ := hasW_list h1
  obtain ⟨ns, rfl⟩ := items_int h3
  have hlen : ns.length ≤ n := by
    unfold OpenLaw.pre at hc
    have h4 : (WTm.not (.lt (.lit (.int (n : Int))) (.len (.arg 0)))).holds [] { args := [.list (ns.map .int)] } = true := by
      have h4 := (holds_andW hc).1
      rw [hn] at h4
      exact h4
    have h5 := condW_of h4 (w_not (w_lt w_lit (w_len_list (w_arg rfl))))
    rw [List.length_map] at h5
    refine Nat.le_of_not_lt fun q => ?_
    have q' : (n : Int) < ((ns.length : Nat) : Int) := by omega
    first
      | (rw [decide_eq_true q'] at h5; exact absurd h5 (by decide))
      | (simp at h5; omega)
  cases hwl with
  | cons w1 w2 =>
    cases w2
    cases w1 with
    | list ho hall => exact ⟨_, _, ns, rfl, rfl, ho, ints_of_wellAll ns _ hall, hlen⟩

theorem post_true (l : OpenLaw) (args : List WData) : l.row.toRowW.claim.post args (.bool true) args = true :=
  postW_of (r := l.row.toRowW) (X := (true == true))
    (show WShape.has [] (.bool true) .bool = true by first | rfl | decide | simp [WShape.has, WShape.arms, WShape.armsAll])
    (show (WTm.eq .res (.lit (.bool true))).value [] { args := args, res := some (.bool true), after := args } = some (.bool (true == true)) from w_eq_bool (w_res rfl) w_lit) rfl

/-- the same from a codeAny of the CALL (for a layer whose function contracts speak of calls) -/
theorem attach_call {l : OpenLaw} {n : Nat} {q : Program} {loose : List Str} {XP : (Str → Option Value) → Heap → Prop} {YP : World → Heap → Prop} {d : DefRec}
    (hn : l.most = some n) (hdf : d.params.defaults = [])
    (call : ∀ (w : World) (s₀ s₁ : Shared) (mg mb : Str → Option Value) (fa : Addr) (o : Obj) (pm cd doc : Value) (a : Addr) (vs : List Value) (ns : List Int),
      Ground q loose [] XP w s₀ mg mb s₁.heap → YP w s₁.heap →
      s₁.heap.get? fa = some o → o.data = .func (docDef d.name d.params d.body d.scope pm cd doc) → s₁.heap.CodeRec cd d.name → mg d.name = some (.ref fa) →
      s₁.heap.get? a = some { cls := .type "list", data := .seq vs.toArray } → IntsAre vs ns → ns.length ≤ n → s₁.gens = #[] →
      codeAny (model l.prog w) callerA (.call (.ref fa) ⟨[.ref a], []⟩) (fun r s' => r = .ok (.ret (.bool true)) ∧ OldK s₁.heap s'.heap ∧ s'.os = s₁.os ∧ AllBare s'.gens) s₁) :
    WalkO q loose XP YP l.row.toRowW d [] (fun f vs => PySem.call f vs) := by
  intro w s₀ s₁ mg mb G Y fa o pm cd doc dV kV ho hd hcd hD hmg hg args vals as hpre hlay hrd hwl hlo
  obtain rfl : dV = .none := Dflts.none hD hdf
  obtain rfl : kV = .none := Dflts.noKw hD
  obtain ⟨a, vs, ns, rfl, rfl, hobj, hints, hlen⟩ := script_of hn hpre hwl
  refine enter_call (codeAny_mono (call w s₀ s₁ mg mb fa o pm cd doc a vs ns G Y ho (fd_plain hd) hcd hmg hobj hints hlen hg) fun r s' hq => ?_)
  obtain ⟨rfl, h2, h3, h4⟩ := hq
  exact ⟨.inl ⟨.bool true, .bool true, [], rfl, fun _ => rfl, .bool true, post_true l _, fun _ => ⟨List.Pairwise.nil, fun _ hm => (nomatch hm)⟩⟩, h2, h3, h4⟩

/-! ### rules over ANY heap (no ledger) from facts about the written part K: the library's own take a ledger (News) for what they write -/
section
variable {prog : Program} {w : World} {A : Around} {E : Value → Shared → Prop} {s : Shared} {K : Frag}

def ledger (h : Heap) (L d : Addr) : List (Addr × Obj) := (List.range h.objs.size).filterMap fun a => if a = L ∨ a = d then none else (h.get? a).map fun o => (a, o)
end
end Att

namespace L2
open PySem PySem.Spec PyProof.Rows

theorem vals_ints : ∀ {vs : List Value} {ns : List Int}, IntsAre vs ns → Vals (ns.map V.int) vs
  | _, _, .nil => .nil
  | _, _, .cons n t h => .cons ⟨t, rfl⟩ (vals_ints h)

/-- nothing is tracked but the script, known to the object (or it is an object of the module) -/
def Only (H : Hp) : Prop := ∀ b, H b = none ∨ ∃ o xs, H b = some (.frz o (.lst xs))

/-- THE HEAD: the law's promise, at the heap behind the top. F, the promise of the law's def, may use that base is part of the heap (so K.In base, base.Ns mainGlobals mg stand in Mod) -/
theorem law_call {P : Program} {w : World} {K : PySem.W.Frag} {mg mb : Str → Option Value} {CX : CXT} {k : Nat} {fa a : Addr} {fd : FuncData} {x : Str} {sp : Sp} {s₁ : Shared} {vs : List Value} {ns : List Int}
    (KX : K.In s₁.heap) (hns : s₁.heap.Ns mainGlobals mg) (hb : s₁.heap.Ns builtinsNs mb) (hbb : ∀ x : Str, x ≠ "__name__" → mb x = bootBuiltins x) (hlim : s₁.heap.NoLimit) (hg : s₁.gens = #[])
    (ha : s₁.heap.get? a = some { cls := .type "list", data := .seq vs.toArray }) (hi : IntsAre vs ns) (hl : ns.length ≤ sizeLine) (hr : Room k callerA)
    (F : ∀ base : Heap, K.In base → base.Ns mainGlobals mg → FnOk P w K mg base CX k fa fd [x] sp) (hbind : ∀ (s : Shared) (u : Value), BindsTo s fd ⟨[u], []⟩ [(x, u)])
    (hsp : ∀ H : Hp, Only H → SqL K H a (ns.map V.int) → sp [.ref a] H (fun v _ => v = .bl true) fun _ _ _ => False)
    (hCX : ∀ H e s', CX [] H s₁ (fun _ _ _ => False) e s' → False) :
    codeAny (model P w) callerA (.call (.ref fa) ⟨[.ref a], []⟩) (fun r s' => r = .ok (.ret (.bool true)) ∧ OldK s₁.heap s'.heap ∧ s'.os = s₁.os ∧ AllBare s'.gens) s₁ := by
  have rv := vals_ints hi
  have lenV := hi.length
  -- from an abstract heap in which nothing but the script may be tracked
  have core : ∀ H : Hp, Only H → SqL K H a (ns.map V.int) → HOk P w H s₁.heap → (∀ b, H b ≠ none → b = a) → (H a ≠ none → K.lookup a = none) →
      codeAny (model P w) callerA (.call (.ref fa) ⟨[.ref a], []⟩) (fun r s' => r = .ok (.ret (.bool true)) ∧ OldK s₁.heap s'.heap ∧ s'.os = s₁.os ∧ AllBare s'.gens) s₁ := by
    intro H hO hS hok hA hK
    have base_of : ∀ {b : Addr} {o : Obj}, s₁.heap.get? b = some o → H b = none → (hidT s₁.heap H).get? b = some o := fun e n => hidT_get e n
    have noA : ∀ {b : Addr} {o : Obj} {es : Array DictEntry} {ep : Nat}, s₁.heap.get? b = some o → o.data = .dict es ep → H b = none := fun {b o es ep} e d => by
      cases q : H b with
      | none => rfl
      | some u =>
        have e' : b = a := hA b (by rw [q]; simp)
        subst e'
        rw [ha] at e; cases e
        have d' : Data.seq vs.toArray _ = Data.dict es ep := d
        cases d'
    have nsK : ∀ {b : Addr} {m : Str → Option Value}, s₁.heap.Ns b m → (hidT s₁.heap H).Ns b m := fun {b m} ⟨o, es, ep, e, d, r⟩ => ⟨o, es, ep, base_of e (noA e d), d, r⟩
    have hKb : K.In (hidT s₁.heap H) := fun b o e => base_of (KX b o e) (by
      cases q : H b with
      | none => rfl
      | some u =>
        have e' : b = a := hA b (by rw [q]; simp)
        subst e'
        rw [hK (by rw [q]; simp)] at e; cases e)
    have hM : Mod K mg (hidT s₁.heap H) := ⟨hKb, nsK hns, ⟨mb, nsK hb, hbb⟩, let ⟨mc, h1, h2⟩ := hlim; ⟨mc, nsK h1, h2⟩⟩
    have e0 : Env0 P w K mg (hidT s₁.heap H) callerA [] s₁ H := ⟨rfl, hM, fun b o e => of_hidT e, Nat.le_of_eq (hidT_size _ _), trivial, fun b hb => absurd (show b ∈ ([] : List Addr) from hb) (by simp), hok, .of_eq hg⟩
    refine codeAny_mono ((F _ hKb (nsK hns)).run callerA [] s₁ H ⟨[.ref a], []⟩ [.ref a] [.ref a] _ _ hr e0 (hbind s₁ (.ref a)) (.cons rfl .nil) (hsp H hO hS)) fun r s' h => ?_
    cases r with
    | error e => exact (hCX H e s' h).elim
    | ok fl =>
      cases fl with
      | next => exact False.elim h
      | brk => exact False.elim h
      | cont => exact False.elim h
      | ret u =>
        obtain ⟨v, H', os, bare, un, hok', r', q⟩ := h
        have q' : v = .bl true := q
        subst q'
        obtain rfl : u = Value.bool true := r'
        refine ⟨rfl, OldK.of_keep fun b o e => ?_, os, bare⟩
        cases q : H b with
        | none => exact un.keep b o e q (by intro z; exact absurd (show b ∈ ([] : List Addr) from z) (by simp)) (by simp)
        | some u =>
          rcases hO b with z | ⟨ob, xs, z⟩
          · rw [q] at z; cases z
          · have z2 := un.frzs b ob _ z
            obtain ⟨e1, _⟩ := hok b _ z
            obtain ⟨e2, _⟩ := hok' b _ z2
            rw [e] at e1; cases e1
            exact e2
  cases hk : K.lookup a with
  | some o =>
    -- the script is one of the module's own objects
    have e := KX a o hk
    rw [ha] at e
    cases e
    refine core (fun _ => none) (fun _ => .inl rfl) (.inr ⟨_, vs.toArray, _, hk, rfl, rfl, rfl, by rw [List.size_toArray, lenV]; exact hl, by simpa using rv⟩) (fun b u z => by have z' : (none : Option HO) = some u := z; cases z') (fun b z => absurd rfl z) fun z => absurd rfl z
  | none =>
    refine core (fun b => if b = a then some (.frz { cls := .type "list", data := .seq vs.toArray } (.lst (ns.map V.int))) else none) (fun b => ?_) (.inl (.inr ⟨{ cls := .type "list", data := .seq vs.toArray }, if_pos rfl⟩)) (fun b u z => ?_) (fun b z => ?_) fun _ => hk
    · by_cases hb : b = a
      · exact .inr ⟨_, _, if_pos hb⟩
      · exact .inl (if_neg hb)
    · by_cases hb : b = a
      · have z' := (if_pos hb).symm.trans z
        cases z'
        subst hb
        exact ⟨ha, by rw [List.length_map]; exact hl, vs, _, rv, ha⟩
      · have z' := (if_neg hb).symm.trans z
        cases z'
    · by_cases hb : b = a
      · exact hb
      · exact absurd (if_neg hb) z
end L2

namespace L2
open PySem PySem.Spec PyProof.Rows

abbrev KOf {K : PySem.W.Frag} {h : Heap} (_ : K.In h) : PySem.W.Frag := K

/-- the goal that k_head leaves (case hc), from the law's promise. F gives the function object fd (K's own) once, then the promise over every base -/
theorem walk_of {l : PySem.W.OpenLaw} {n k : Nat} {q : Program} {loose : List Str} {XP : (Str → Option Value) → Heap → Prop} {YP : World → Heap → Prop} {d : DefRec} {K : Params → PySem.W.Frag} {CX : World → CXT} {sp : World → Sp} {x : Str}
    (hn : l.most = some n) (hn2 : n ≤ sizeLine) (hdf : d.params.defaults = []) (hr : Room k callerA)
    (hY : ∀ (w : World) (h : Heap), YP w h → (K w.params).In h)
    (F : ∀ (w : World) (mg : Str → Option Value) (fa : Addr) (h : Heap), (K w.params).In h → h.Ns mainGlobals mg → mg d.name = some (.ref fa) →
      ∃ fd : FuncData, (∀ (s : Shared) (u : Value), BindsTo s fd ⟨[u], []⟩ [(x, u)]) ∧
        ∀ base : Heap, (K w.params).In base → base.Ns mainGlobals mg → FnOk l.prog w (K w.params) mg base (CX w) k fa fd [x] (sp w))
    (hsp : ∀ (w : World) (H : Hp) (a : Addr) (ns : List Int), ns.length ≤ n → Only H → SqL (K w.params) H a (ns.map V.int) → sp w [.ref a] H (fun v _ => v = .bl true) fun _ _ _ => False)
    (hCX : ∀ (w : World) (H : Hp) (s : Shared) (e : Value) (s' : Shared), CX w [] H s (fun _ _ _ => False) e s' → False) :
    PySem.W.WalkO q loose XP YP l.row.toRowW d [] (fun f vs => PySem.call f vs) := by
  refine Att.attach_call hn hdf fun w s₀ s₁ mg mb fa o pm cd doc a vs ns G Y ho hd hcd hmg hobj hints hlen hg => ?_
  have KX := hY w _ Y
  obtain ⟨fd, hb, hF⟩ := F w mg fa _ KX G.T.g hmg
  exact law_call KX G.T.g G.T.b G.T.builtins G.T.nolimit hg hobj hints (Nat.le_trans hlen hn2) hr hF hb (fun H hO hS => hsp w H a ns hlen hO hS) fun H e s' => hCX w H s₁ e s'
end L2

/- THE LAST THEOREM (shape; LID, My.* are yours):
   My.Adr: a structure of the addresses that your layer names (classes, functions); My.Txt K t: a structure (Prop) of the equations over K;
   My.txt_mk : {K} {implicit addresses ..} (e1 : nsIn K mainGlobals "law" = some (some (.ref f))) (e2 : K.lookup f = some ⟨oc, od, .func (fnOf "law" "law" params body scope dV kV doc pm an cdv ct), sl⟩) (e3 : codeIn K cdv "law" = true) .. : ∃ t, My.Txt K t

set_option maxRecDepth 100000 in
set_option maxHeartbeats 0 in
theorem PySem.Challenge.cw_LID_holds : PySem.Challenge.rw_LID.Holds := by
  w_on; o_law; k_head; (case hw => w_witness2)
  k_fill
  refine L2.walk_of (l := PySem.Challenge.rw_LID) (n := 63) (k := 40) (x := "script") (CX := fun w => ..) (sp := fun _ => My.sp_law) rfl (by decide) rfl ⟨rfl, by decide, by decide⟩ (fun w h Y => PySem.W.kIn_of Y) ?F ?S ?C
  case F =>
    intro w mg fa h KX G hmg
    have T : ∃ t, My.Txt (L2.KOf KX) t := by
      dsimp only [L2.KOf]                          -- K must stand as «<heap const> w.params» for k_is
      refine' My.txt_mk ?e1 ?e2 ?e3 ..
      (case e1 => PySem.W.k_is)                    -- in the order: a name -> its address -> its object -> its parts
      (case e2 => PySem.W.k_is)
      ..
    obtain ⟨t, T⟩ := T
    have e0 := hmg.symm.trans (PySem.W.mg_of KX G T.law)
    cases e0                                       -- fa is the law's own address
    exact ⟨_, fun s u => .of_eq rfl, fun base kb nb => My.law_fn T kb nb⟩     -- if «.of_eq rfl» comes too early: refine' ⟨_, ?b, fun base kb nb => My.law_fn T kb nb⟩; exact fun s u => .of_eq rfl
  case S => exact fun w H a ns hl hO hS => ..
  case C => exact ..
(the tactic k_is has no namespace: write k_is) -/

/-! SHORT WORDS over the layer: a def of the text, its body, what a loop and a test want. -/
namespace L2
open PySem PySem.Spec PyProof.Rows

/-! ### the text by places -/
/-- the j-th statement of a class's body -/
def inClass (s : Stmt) (j : Nat) : Stmt := match s with
  | .ClassDef _ _ _ body _ _ _ _ _ _ _ => body.getD j (.Pass ⟨0, 0, 0, 0⟩)
  | _ => .Pass ⟨0, 0, 0, 0⟩
def defArgs (s : Stmt) : Arguments := match s with
  | .FunctionDef _ a _ _ _ _ _ _ _ _ => a
  | _ => { posonlyargs := [], args := [], vararg := none, kwonlyargs := [], kw_defaults := [], kwarg := none, defaults := [] }
def defBody (s : Stmt) : List Stmt := match s with
  | .FunctionDef _ _ b _ _ _ _ _ _ _ => b
  | _ => []
def defScope (s : Stmt) : Scope := match s with
  | .FunctionDef _ _ _ _ _ _ sc _ _ _ => sc
  | _ => { kind := .function, names := [], isGenerator := false, isCoroutine := false }

/-! ### no exception leaves a def -/
abbrev CX0 : CXT := fun _ _ _ _ _ _ => False
abbrev E0 : XK := fun _ _ _ => False
theorem pass0 {X : Cx} : Passes CX0 X E0 := fun _ _ _ _ _ _ _ h => h.elim

/-! ### a def (or method) of the text as it stands behind the top -/
structure Fun (K : PySem.W.Frag) (x qual : Str) (st : Stmt) (f : Addr) (fd : FuncData) : Prop where
  ex : ∃ (oc : Value) (od : Option Addr) (kV doc pm : Value) (an : Option Addr) (cdv ct : Value) (osl : Array (Option Value)),
    fd = PySem.W.fnOf x qual (defArgs st) (defBody st) (defScope st) .none kV doc pm an cdv ct ∧ K.lookup f = some ⟨oc, od, .func fd, osl⟩ ∧ PySem.W.codeIn K cdv qual = true
  kp : PySem.W.keepIn K (.ref f) = true
section
variable {P : Program} {w : World} {K : PySem.W.Frag} {mg : Str → Option Value} {base : Heap}
/-- THE RULE for a def: its body as a term of rules, and the reading of that term -/
theorem Fun.ok {x qual : Str} {st : Stmt} {f : Addr} {fd : FuncData} {N ps : List Str} {k : Nat} {sp : Sp} (F : Fun K x qual st f fd) (S : FnScope N ps (defScope st)) (len : ∀ vs H Q E, sp vs H Q E → vs.length = ps.length)
    (hbody : ∀ (cdv : Value) (A : Around) (outer : List Env) (s : Shared) (H : Hp) (vs : List V) (Q : VK) (E : XK), Room k (A.deeper (envOfC qual (defScope st) s.heap.objs.size f cdv)) → sp vs H Q E →
      ∃ t, PSs (cxOf CX0 P w K mg base N qual (defScope st) f cdv A outer s H E).nox (defBody st) t ∧ t { nx := fun _ H' => Q .non H', rt := Q } (start N vs) H) : FnOk P w K mg base CX0 (k + 1) f fd ps sp := by
  obtain ⟨oc, od, kV, doc, pm, an, cdv, ct, osl, rfl, lk, hcd⟩ := F.ex
  refine fn_of lk hcd S len fun A outer s H vs Q E hr hsp => ?_
  obtain ⟨t, h, q⟩ := hbody cdv A outer s H vs Q E hr hsp
  exact ⟨t, h.nox, q⟩
/-- how its arguments bind (no defaults): h is «fun _ _ _ _ _ _ us hl => match us, hl with | [_, _], _ => rfl», one _ a parameter -/
theorem Fun.binds {x qual : Str} {st : Stmt} {f : Addr} {fd : FuncData} {ps : List Str} (F : Fun K x qual st f fd)
    (h : ∀ (kV doc pm : Value) (an : Option Addr) (cdv ct : Value) (us : List Value), us.length = ps.length → bindArgs (PySem.W.fnOf x qual (defArgs st) (defBody st) (defScope st) .none kV doc pm an cdv ct) ⟨us, []⟩ = pure (ps.zip us)) : Binds K fd ps [] := by
  obtain ⟨oc, od, kV, doc, pm, an, cdv, ct, osl, rfl, lk, hcd⟩ := F.ex
  exact .all (h kV doc pm an cdv ct)
theorem fun_mk {x qual : Str} {st : Stmt} {f : Addr} {oc : Value} {od an : Option Addr} {osl : Array (Option Value)} {kV doc pm cdv ct : Value} (l : K.lookup f = some ⟨oc, od, .func (PySem.W.fnOf x qual (defArgs st) (defBody st) (defScope st) .none kV doc pm an cdv ct), osl⟩)
    (c : PySem.W.codeIn K cdv qual = true) (k : PySem.W.keepIn K (.ref f) = true) : Fun K x qual st f (PySem.W.fnOf x qual (defArgs st) (defBody st) (defScope st) .none kV doc pm an cdv ct) := ⟨⟨oc, od, kV, doc, pm, an, cdv, ct, osl, rfl, l, c⟩, k⟩
end
/-! ### expressions in short: the name that stands in the i-th slot -/
section
variable {X : Cx}
theorem pv (i : Nat) {x : Str} {pos : Pos} (hN : X.N[i]? = some x := by rfl) (hv : Vis X.env.scope x := by first | exact Or.inl rfl | exact Or.inr (Or.inl rfl) | exact Or.inr (Or.inr rfl)) (hd : (x == ("__debug__" : Str)) = false := by decide)
    (hcd : (x == ("__classdict__" : Str)) = false := by decide) : PE X (.Name x pos) (tVar i) := pe_var hN hv hd hcd
end

/-! ### tests -/
theorem iteF {A B : Prop} (h : B) : if false = true then A else B := by
  rw [if_neg Bool.false_ne_true]
  exact h
theorem iteT {A B : Prop} (h : A) : if true = true then A else B := by
  rw [if_pos rfl]
  exact h
theorem ite2 {c A B : Prop} [Decidable c] (h1 : c → A) (h2 : ¬ c → B) : if c then A else B := by
  by_cases h : c
  · rw [if_pos h]
    exact h1 h
  · rw [if_neg h]
    exact h2 h
/-! ### heaps -/
/-- all that was tracked is as it was -/
def Same (H H' : Hp) : Prop := ∀ b o, H b = some o → H' b = some o
theorem Same.refl (H : Hp) : Same H H := fun _ _ h => h
theorem Same.trans {H H1 H2 : Hp} (a : Same H H1) (b : Same H1 H2) : Same H H2 := fun c o h => b c o (a c o h)
theorem Same.free {H H' : Hp} (e : Same H H') {l : Addr} (h : H' l = Option.none) : H l = Option.none := by
  cases q : H l with
  | none => rfl
  | some o =>
    rw [e l o q] at h
    cases h
theorem Same.seq {K : PySem.W.Frag} {H H' : Hp} {a : Addr} {xs : List V} (e : Same H H') (h : SqL K H a xs) : SqL K H' a xs := by
  rcases h with (h | ⟨o, h⟩) | h
  · exact .inl (.inl (e _ _ h))
  · exact .inl (.inr ⟨o, e _ _ h⟩)
  · exact .inr h

end L2

/-! more rules over the layer: insert, remove, == of lists at any depth, isinstance, is True; a def with its place -/
namespace L3
open PySem PySem.Spec PyProof.Rows L2

/-! ### a def with its place among the module's names -/
structure Fu (P : Program) (w : World) (K : PySem.W.Frag) (mg : Str → Option Value) (base : Heap) (CX : CXT) (k : Nat) (x : Str) (ps : List Str) (sp : Sp) : Prop where
  ex : ∃ f fd, FnOk P w K mg base CX k f fd ps sp ∧ mg x = some (.ref f) ∧ PySem.W.keepIn K (.ref f) = true ∧ Binds K fd ps []
section
variable {X : Cx} {CX : CXT} {j k : Nat} {x : Str} {ps : List Str} {sp : Sp} {E : XK} {p pos : Pos} {e : Expr} {es : List Expr} {t : TA}
theorem pc (F : Fu X.prog X.w X.K X.mg X.base CX j x ps sp) (hr : Room k X.A) (hx : Passes CX X E) (ha : PA X (e :: es) t) (hj : j ≤ k := by decide) (hg : Gl X x := by rfl) (hdb : (x == ("__debug__" : Str)) = false := by decide)
    (he : starEach (e :: es) X.env = (false, eval e X.env) :: starEach es X.env := by rfl) (hpl : (backTo pos (starEach es X.env)).any (·.1) = false := by rfl) : PE X (.Call (.Name x p) (e :: es) [] pos) (tCall sp [] E t) := by
  obtain ⟨f, fd, G, hm, hk, hb⟩ := F.ex
  exact pe_call G (hr.mono hj) hg hm hk hb .nil hx ha hdb he hpl
end

/-! ### xs.insert(i, e), xs.remove(e) -/
theorem Vals.ins {x : V} {u : Value} (r : RelV x u) {xs : List V} {us : List Value} (k : Nat) (h : Vals xs us) : Vals (xs.take k ++ x :: xs.drop k) (us.take k ++ u :: us.drop k) :=
  (h.take k).append (.cons r (h.drop k))
section
variable {X : Cx}
/-- xs.remove(n), a list of ints: the first n goes -/
def delFirst (n : Int) : List Int → List Int
  | [] => []
  | x :: r => if x = n then r else x :: delFirst n r
end

/-! ### == at any depth, by data -/
mutual
inductive Sh (K : PySem.W.Frag) (H : Hp) : V → PyData → Prop
  | non : Sh K H .non .none
  | bl (b : Bool) : Sh K H (.bl b) (.bool b)
  | int (i : Int) : Sh K H (.int i) (.int i)
  | str (x : Str) : Sh K H (.str x) (.str x)
  | lst {a : Addr} {xs : List V} {ds : List PyData} (h : SqL K H a xs) (r : ShL K H xs ds) : Sh K H (.ref a) (.list ds)
  | tup {a : Addr} {xs : List V} {ds : List PyData} (h : SqT K H a xs) (r : ShL K H xs ds) : Sh K H (.ref a) (.tuple ds)
inductive ShL (K : PySem.W.Frag) (H : Hp) : List V → List PyData → Prop
  | nil : ShL K H [] []
  | cons {x : V} {xs : List V} {d : PyData} {ds : List PyData} (h : Sh K H x d) (r : ShL K H xs ds) : ShL K H (x :: xs) (d :: ds)
end
section
variable {X : Cx} {pins : List (Addr × Obj)} {σ : L2.St} {H : Hp} {s : Shared}
theorem Sh.reads (I : Inv X pins σ H s) {x : V} {d : PyData} (h : Sh X.K H x d) : ∀ {u : Value}, RelV x u → ∃ as, Reads s.heap u d as := by
  refine Sh.rec (motive_1 := fun x d _ => ∀ {u : Value}, RelV x u → ∃ as, Reads s.heap u d as) (motive_2 := fun xs ds _ => ∀ {us : List Value}, Vals xs us → ∃ as, ReadsAll s.heap us ds as) ?_ ?_ ?_ ?_ ?_ ?_ ?_ ?_ h
  · intro u r; cases r; exact ⟨_, .none⟩
  · intro b u r; cases r; exact ⟨_, .bool b⟩
  · intro i u r; obtain ⟨t, rfl⟩ := r; exact ⟨_, .int i t⟩
  · intro x u r; obtain ⟨t, rfl⟩ := r; exact ⟨_, .str x t⟩
  · intro a xs ds hq _ ih u r
    cases r
    obtain ⟨its, rv, pl, _⟩ := I.list hq
    obtain ⟨as, ra⟩ := ih rv
    obtain ⟨o, ho, hc, n, hd⟩ := pl.isList
    exact ⟨_, .list ho hc hd (by simpa using ra)⟩
  · intro a xs ds hq _ ih u r
    cases r
    obtain ⟨its, rv, pl, _⟩ := I.tuple hq
    obtain ⟨as, ra⟩ := ih rv
    obtain ⟨o, ho, hc, n, hd⟩ := pl
    exact ⟨_, .tuple ho hc hd (by simpa using ra)⟩
  · intro us r; cases r; exact ⟨_, .nil⟩
  · intro x xs d ds _ _ ih1 ih2 us r
    cases r with
    | cons r1 r2 =>
      obtain ⟨as, q1⟩ := ih1 r1
      obtain ⟨bs, q2⟩ := ih2 r2
      exact ⟨_, .cons q1 q2⟩
theorem ShL.ints {K : PySem.W.Frag} {H : Hp} : ∀ ns : List Int, ShL K H (ns.map V.int) (ns.map PyData.int)
  | [] => .nil
  | n :: r => .cons (.int n) (ShL.ints r)
theorem Sh.ints {K : PySem.W.Frag} {H : Hp} {a : Addr} {ns : List Int} (h : SqL K H a (ns.map V.int)) : Sh K H (.ref a) (.list (ns.map PyData.int)) := .lst h (ShL.ints ns)
end
section
variable {X : Cx}
/-- == of two values by their data -/
def rEqD (K : PySem.W.Frag) : R2 := fun x y H Q => ∃ d e, Sh K H x d ∧ Sh K H y e ∧ SeqAt.shaped d = true ∧ SeqAt.shaped e = true ∧ Q (.bl (PyData.eqv d e)) H
def rNeD (K : PySem.W.Frag) : R2 := fun x y H Q => ∃ d e, Sh K H x d ∧ Sh K H y e ∧ SeqAt.shaped d = true ∧ SeqAt.shaped e = true ∧ Q (.bl (!PyData.eqv d e)) H
theorem op_eqD (hu : X.A.units + 64 < cLine) : OpR X (compareOp .Eq) (rEqD X.K) := by
  intro pins s σ H x y v u Q I rx ry h
  obtain ⟨d, e, h1, h2, s1, s2, q⟩ := h
  obtain ⟨as, r1⟩ := h1.reads I rx
  obtain ⟨bs, r2⟩ := h2.reads I ry
  exact eq_dataH r1 r2 s1 s2 hu ⟨.bl _, H, I, rfl, q⟩
theorem op_neD (hu : X.A.units + 64 < cLine) : OpR X (compareOp .NotEq) (rNeD X.K) := by
  intro pins s σ H x y v u Q I rx ry h
  obtain ⟨d, e, h1, h2, s1, s2, q⟩ := h
  obtain ⟨as, r1⟩ := h1.reads I rx
  obtain ⟨bs, r2⟩ := h2.reads I ry
  exact ne_dataH r1 r2 s1 s2 hu ⟨.bl _, H, I, rfl, q⟩
/-- .. two lists of ints -/
def rEqI (K : PySem.W.Frag) : R2 := fun x y H Q => ∃ (a b : Addr) (ns ms : List Int), x = .ref a ∧ y = .ref b ∧ SqL K H a (ns.map V.int) ∧ SqL K H b (ms.map V.int) ∧ Q (.bl (decide (ns = ms))) H
def rNeI (K : PySem.W.Frag) : R2 := fun x y H Q => ∃ (a b : Addr) (ns ms : List Int), x = .ref a ∧ y = .ref b ∧ SqL K H a (ns.map V.int) ∧ SqL K H b (ms.map V.int) ∧ Q (.bl (!decide (ns = ms))) H

theorem eqv_ints (ns ms : List Int) : PyData.eqv (.list (ns.map PyData.int)) (.list (ms.map PyData.int)) = decide (ns = ms) := by
  have h := PySem.W.ked_eqvAll ns ms
  simpa [PyData.eqv] using h
theorem op_eqI (hu : X.A.units + 64 < cLine) : OpR X (compareOp .Eq) (rEqI X.K) := by
  intro pins s σ H x y v u Q I rx ry h
  obtain ⟨a, b, ns, ms, rfl, rfl, h1, h2, q⟩ := h
  exact op_eqD hu pins s σ H _ _ v u Q I rx ry ⟨_, _, Sh.ints h1, Sh.ints h2, PySem.W.ke_shaped_ints _, PySem.W.ke_shaped_ints _, by rw [eqv_ints]; exact q⟩
theorem op_neI (hu : X.A.units + 64 < cLine) : OpR X (compareOp .NotEq) (rNeI X.K) := by
  intro pins s σ H x y v u Q I rx ry h
  obtain ⟨a, b, ns, ms, rfl, rfl, h1, h2, q⟩ := h
  exact op_neD hu pins s σ H _ _ v u Q I rx ry ⟨_, _, Sh.ints h1, Sh.ints h2, PySem.W.ke_shaped_ints _, PySem.W.ke_shaped_ints _, by rw [eqv_ints]; exact q⟩

/-! ### isinstance(x, T) -/
/-- the answer for a class c, of the kind t -/
def rIsi (K : PySem.W.Frag) : List V → Hp → VK → Prop := fun xs H Q => ∃ x n t b, xs = [x, .ty n] ∧ TyOf K H x t ∧ PySem.W.kitOne K t (.type n) = some b ∧ Q (.bl b) H
theorem call_isi : CallR X (.builtin "isinstance") (rIsi X.K) := by
  intro pins s σ H xs us Q I r h
  obtain ⟨x, n, t, b, rfl, ty, e, q⟩ := h
  obtain ⟨u, c, rfl, ru, rc⟩ := vals2 r
  cases (show c = Value.type n from rc)
  exact isinst_ok I ru ty e fun tk => ⟨.bl b, H, I.tok _, rfl, q⟩

/-! ### {} -/
theorem Inv.big {pins : List (Addr × Obj)} {σ : L2.St} {H : Hp} {s : Shared} (I : Inv X pins σ H s) : sysModules < s.heap.objs.size := by
  have h : mainGlobals < s.heap.objs.size := (I.mod.glob.keeps I.bk).lt
  exact Nat.lt_trans (by decide) h
end
end L3

/-! the sort asks its way to the one order -/
namespace L3
open PySem PySem.W PyProof.Rows

def pg (p : Array Nat) (i : Nat) : Nat := p.getD i 0
theorem pg_eq {p q : Array Nat} {i j : Nat} (h : p[i]? = q[j]?) : pg p i = pg q j := by
  unfold pg
  rw [Array.getD_eq_getD_getElem?, Array.getD_eq_getD_getElem?, h]
theorem pg_rev {p : Array Nat} {n : Nat} (hn : n ≤ p.size) (i : Nat) : pg (kas_rev p 0 n) i = if i < n then pg p (n - 1 - i) else pg p i := by
  have h := getElem?_mirror_all (xs := p) (i := 0) (j := n) hn i
  unfold kas_rev
  by_cases hi : i < n
  · rw [if_pos hi]
    rw [if_pos ⟨Nat.zero_le _, hi⟩] at h
    rw [show (0 + n - 1 - i) = n - 1 - i by omega] at h
    exact pg_eq h
  · rw [if_neg hi]
    rw [if_neg (fun z => hi z.2)] at h
    exact pg_eq h
theorem pg_bub {p : Array Nat} {k d : Nat} (hk : k < p.size) (hd : d ≤ k) (i : Nat) : pg (bubble p k d) i = if i = k - d then pg p k else if k - d < i ∧ i ≤ k then pg p (i - 1) else pg p i := by
  have h := getElem?_bubble hk d hd i
  by_cases h1 : i = k - d
  · rw [if_pos h1]; rw [if_pos h1] at h; exact pg_eq h
  · rw [if_neg h1]; rw [if_neg h1] at h
    by_cases h2 : k - d < i ∧ i ≤ k
    · rw [if_pos h2]; rw [if_pos h2] at h; exact pg_eq h
    · rw [if_neg h2]; rw [if_neg h2] at h; exact pg_eq h

/-- an arrangement of the places below n -/
structure Arr (n : Nat) (p : Array Nat) : Prop where
  perm : p.Perm (List.range n).toArray
theorem Arr.size {n : Nat} {p : Array Nat} (a : Arr n p) : p.size = n := by
  have := a.perm.size_eq
  simpa using this
theorem Arr.lt {n : Nat} {p : Array Nat} (a : Arr n p) {i : Nat} (hi : i < n) : pg p i < n := by
  have hs := a.size
  have hm : p[i]'(by omega) ∈ p.toList := by simp
  have h2 := (Array.perm_iff_toList_perm.mp a.perm).mem_iff.mp hm
  unfold pg
  have : p.getD i 0 = p[i]'(by omega) := by simp [Array.getD, hs, hi]
  rw [this]
  simpa using h2
theorem Arr.inj {n : Nat} {p : Array Nat} (a : Arr n p) {i j : Nat} (hi : i < n) (hj : j < n) (h : pg p i = pg p j) : i = j := by
  have hs := a.size
  have nd : p.toList.Nodup := (Array.perm_iff_toList_perm.mp a.perm).nodup_iff.mpr (by simpa using List.nodup_range)
  have e1 : p.getD i 0 = p.toList[i]'(by simp; omega) := by simp [Array.getD, hs, hi]
  have e2 : p.getD j 0 = p.toList[j]'(by simp; omega) := by simp [Array.getD, hs, hj]
  unfold pg at h
  rw [e1, e2] at h
  exact (List.getElem_inj nd).mp h
theorem Arr.rev {n : Nat} {p : Array Nat} (a : Arr n p) (i j : Nat) : Arr n (kas_rev p i j) := ⟨(mirror_perm _ _ _ _).trans a.perm⟩
theorem Arr.bub {n : Nat} {p : Array Nat} (a : Arr n p) (i j : Nat) : Arr n (bubble p i j) := ⟨(bubble_perm _ _ _).trans a.perm⟩

/-- a strict order of the places below n in which any two stand apart -/
structure Ord (n : Nat) (lt : Nat → Nat → Bool) : Prop where
  irr : ∀ i, lt i i = false
  tr : ∀ i j k, lt i j = true → lt j k = true → lt i k = true
  tot : ∀ i j, i < n → j < n → i ≠ j → lt i j = true ∨ lt j i = true
/-- the places from 0 to below m rise -/
def Up (lt : Nat → Nat → Bool) (p : Array Nat) (m : Nat) : Prop := ∀ i j, i < j → j < m → lt (pg p i) (pg p j) = true
def Down (lt : Nat → Nat → Bool) (p : Array Nat) (m : Nat) : Prop := ∀ i j, i < j → j < m → lt (pg p j) (pg p i) = true

section
variable {n : Nat} {lt : Nat → Nat → Bool} {cmp : Nat → Nat → (Bool → Shared → Prop) → Shared → Prop} {I : Shared → Prop}
  (o : Ord n lt) (hc : ∀ i j C s, i < n → j < n → I s → (∀ s', I s' → C (lt i j) s') → cmp i j C s)
include o hc
theorem Up.more {p : Array Nat} {m : Nat} (a : Arr n p) (hm : 1 ≤ m) (hmn : m < n) (u : Up lt p m) (h : lt (pg p m) (pg p (m - 1)) = false) : Up lt p (m + 1) := by
  have h1 : lt (pg p (m - 1)) (pg p m) = true := by
    rcases o.tot _ _ (a.lt (i := m) hmn) (a.lt (i := m - 1) (by omega)) (fun e => by have := a.inj hmn (by omega) e; omega) with z | z
    · rw [h] at z; cases z
    · exact z
  intro i j hij hj
  by_cases e : j = m
  · subst e
    by_cases e2 : i = j - 1
    · subst e2; exact h1
    · exact o.tr _ _ _ (u i (j - 1) (by omega) (by omega)) h1
  · exact u i j hij (by omega)
theorem asc_wp {p : Array Nat} (a : Arr n p) : ∀ (f m : Nat) (s : Shared) (Q : Nat → Shared → Prop), 1 ≤ m → m + f = n → Up lt p m → I s →
    (∀ m' s', m ≤ m' → m' ≤ n → Up lt p m' → (m' < n → lt (pg p m') (pg p (m' - 1)) = true) → I s' → Q m' s') → (kas_asc p f m).kasWp cmp Q s
  | 0, m, s, Q, hm, hf, u, hi, hQ => hQ m s (Nat.le_refl _) (by omega) u (fun z => by omega) hi
  | f + 1, m, s, Q, hm, hf, u, hi, hQ => by
    refine hc _ _ _ _ (a.lt (i := m) (by omega)) (a.lt (i := m - 1) (by omega)) hi fun s' hi' => ?_
    cases q : lt (pg p m) (pg p (m - 1)) with
    | true =>
      have q' : lt (p.getD m 0) (p.getD (m - 1) 0) = true := q
      simp only [q', if_true]
      exact hQ m s' (Nat.le_refl _) (by omega) u (fun _ => q) hi'
    | false =>
      have q' : lt (p.getD m 0) (p.getD (m - 1) 0) = false := q
      simp only [q', Bool.false_eq_true, if_false]
      exact asc_wp a f (m + 1) s' Q (by omega) (by omega) (Up.more o hc a hm (by omega) u q) hi' fun m' s'' h1 h2 h3 h4 h5 => hQ m' s'' (by omega) h2 h3 h4 h5
theorem desc_wp {p : Array Nat} (a : Arr n p) : ∀ (f m : Nat) (s : Shared) (Q : Array Nat × Nat × Nat → Shared → Prop), 2 ≤ m → m + f = n → Down lt p m → I s →
    (∀ m' s', m ≤ m' → m' ≤ n → Down lt p m' → I s' → Q (p, m', 0) s') → (kas_desc f p m 0).kasWp cmp Q s
  | 0, m, s, Q, hm, hf, u, hi, hQ => hQ m s (Nat.le_refl _) (by omega) u hi
  | f + 1, m, s, Q, hm, hf, u, hi, hQ => by
    refine hc _ _ _ _ (a.lt (i := m) (by omega)) (a.lt (i := m - 1) (by omega)) hi fun s' hi' => ?_
    cases q : lt (pg p m) (pg p (m - 1)) with
    | true =>
      have q' : lt (p.getD m 0) (p.getD (m - 1) 0) = true := q
      simp only [q', if_true, Nat.lt_irrefl, if_false, gt_iff_lt]
      refine desc_wp a f (m + 1) s' Q (by omega) (by omega) (fun i j hij hj => ?_) hi' fun m' s'' h1 h2 h3 h4 => hQ m' s'' (by omega) h2 h3 h4
      by_cases e : j = m
      · subst e
        by_cases e2 : i = j - 1
        · subst e2; exact q
        · exact o.tr _ _ _ q (u i (j - 1) (by omega) (by omega))
      · exact u i j hij (by omega)
    | false =>
      have q' : lt (p.getD m 0) (p.getD (m - 1) 0) = false := q
      simp only [q', Bool.false_eq_true, if_false]
      have q2 : lt (p.getD (m - 1) 0) (p.getD m 0) = true := by
        rcases o.tot _ _ (a.lt (i := m) (by omega)) (a.lt (i := m - 1) (by omega)) (fun e => by have := a.inj (by omega) (by omega) e; omega) with z | z
        · rw [q] at z; cases z
        · exact z
      refine hc _ _ _ _ (a.lt (i := m - 1) (by omega)) (a.lt (i := m) (by omega)) hi' fun s'' hi'' => ?_
      simp only [q2, if_true]
      exact hQ m s'' (Nat.le_refl _) (by omega) u hi''
theorem count_wp {p : Array Nat} (a : Arr n p) (hn : 2 ≤ n) (s : Shared) (Q : Nat × Array Nat → Shared → Prop) (hi : I s)
    (hQ : ∀ m p' s', 1 ≤ m → m ≤ n → Arr n p' → Up lt p' m → I s' → Q (m, p') s') : (kas_count n p).kasWp cmp Q s := by
  unfold kas_count
  rw [KasT.kasWp_bind]
  refine asc_wp o hc a (n - 1) 1 s _ (Nat.le_refl _) (by omega) (fun i j hij hj => by omega) hi fun m s1 h1 h2 u h3 hi1 => ?_
  try dsimp only
  by_cases e : m = n
  · subst e
    rw [if_pos (by simp)]
    exact hQ m p s1 h1 h2 a u hi1
  · rw [if_neg (by simpa using e)]
    by_cases e1 : m > 1
    · rw [if_pos e1]
      refine hc _ _ _ _ (a.lt (i := 0) (by omega)) (a.lt (i := m - 1) (by omega)) hi1 fun s2 hi2 => ?_
      have q : lt (p.getD 0 0) (p.getD (m - 1) 0) = true := u 0 (m - 1) (by omega) (by omega)
      simp only [q, if_true]
      exact hQ m p s2 h1 h2 a u hi2
    · rw [if_neg e1]
      have em : m = 1 := by omega
      subst em
      unfold kas_descPart
      rw [KasT.kasWp_bind]
      have q := h3 (by omega)
      refine desc_wp o hc a (n - (1 + 1)) (1 + 1) s1 _ (by omega) (by omega) (fun i j hij hj => ?_) hi1 fun m' s2 k1 k2 d hi2 => ?_
      · have : i = 0 := by omega
        have : j = 1 := by omega
        subst i; subst j; exact q
      · simp only [gt_iff_lt, Nat.lt_irrefl, if_false]
        unfold kas_tail3
        rw [KasT.kasWp_bind]
        have a' := a.rev 0 m'
        refine asc_wp o hc a' (n - m') m' s2 _ (by omega) (by omega) (fun i j hij hj => ?_) hi2 fun m2 s3 g1 g2 u2 _ hi3 => ?_
        · rw [pg_rev (by rw [a.size]; omega), pg_rev (by rw [a.size]; omega), if_pos (by omega), if_pos hj]
          exact d _ _ (by omega) (by omega)
        · exact hQ m2 _ s3 (by omega) g2 a' u2 hi3
theorem place_wp {p : Array Nat} (a : Arr n p) {k : Nat} (hk : k < n) (u : Up lt p k) : ∀ (f l r : Nat) (s : Shared) (Q : Nat → Shared → Prop), l ≤ r → r ≤ k → r - l ≤ f → (∀ i, i < l → lt (pg p i) (pg p k) = true) → (∀ i, r ≤ i → i < k → lt (pg p k) (pg p i) = true) → I s →
    (∀ l' s', l' ≤ k → (∀ i, i < l' → lt (pg p i) (pg p k) = true) → (∀ i, l' ≤ i → i < k → lt (pg p k) (pg p i) = true) → I s' → Q l' s') → (kas_place p k f l r).kasWp cmp Q s
  | 0, l, r, s, Q, h1, h2, h3, h4, h5, hi, hQ => hQ l s (by omega) h4 (fun i hl hik => h5 i (by omega) hik) hi
  | f + 1, l, r, s, Q, h1, h2, h3, h4, h5, hi, hQ => by
    unfold kas_place
    by_cases e : l ≥ r
    · rw [if_pos e]
      exact hQ l s (by omega) h4 (fun i hl hik => h5 i (by omega) hik) hi
    · rw [if_neg e]
      have hm : (l + r) / 2 < r := by omega
      have hm2 : l ≤ (l + r) / 2 := by omega
      refine hc _ _ _ _ (a.lt (i := k) hk) (a.lt (i := (l + r) / 2) (by omega)) hi fun s' hi' => ?_
      cases q : lt (pg p k) (pg p ((l + r) / 2)) with
      | true =>
        have q' : lt (p.getD k 0) (p.getD ((l + r) / 2) 0) = true := q
        simp only [q', if_true]
        refine place_wp a hk u f l ((l + r) / 2) s' Q hm2 (by omega) (by omega) h4 (fun i hl hik => ?_) hi' hQ
        by_cases e2 : i = (l + r) / 2
        · subst e2; exact q
        · exact o.tr _ _ _ q (u _ i (by omega) hik)
      | false =>
        have q' : lt (p.getD k 0) (p.getD ((l + r) / 2) 0) = false := q
        simp only [q', Bool.false_eq_true, if_false]
        have q2 : lt (pg p ((l + r) / 2)) (pg p k) = true := by
          rcases o.tot _ _ (a.lt hk) (a.lt (i := (l + r) / 2) (by omega)) (fun e => by have := a.inj hk (by omega) e; omega) with z | z
          · rw [q] at z; cases z
          · exact z
        refine place_wp a hk u f ((l + r) / 2 + 1) r s' Q (by omega) h2 (by omega) (fun i hl => ?_) h5 hi' hQ
        by_cases e2 : i = (l + r) / 2
        · subst e2; exact q2
        · exact o.tr _ _ _ (u i _ (by omega) (by omega)) q2
theorem bin_wp : ∀ (f k : Nat) (p : Array Nat) (s : Shared) (Q : Array Nat → Shared → Prop), Arr n p → k + f = n → Up lt p k → I s → (∀ p' s', Arr n p' → Up lt p' n → I s' → Q p' s') → (kas_bin f p k).kasWp cmp Q s
  | 0, k, p, s, Q, a, hf, u, hi, hQ => hQ p s a (by rw [← hf]; exact u) hi
  | f + 1, k, p, s, Q, a, hf, u, hi, hQ => by
    unfold kas_bin
    rw [KasT.kasWp_bind]
    have hs := a.size
    refine place_wp o hc a (k := k) (by omega) u k 0 k s _ (Nat.zero_le _) (Nat.le_refl _) (by omega) (fun i h => by omega) (fun i h1 h2 => by omega) hi fun l s' hl h1 h2 hi' => ?_
    refine bin_wp f (k + 1) _ s' Q (a.bub _ _) (by omega) (fun i j hij hj => ?_) hi' hQ
    rw [pg_bub (by omega) (by omega), pg_bub (by omega) (by omega)]
    have ek : k - (k - l) = l := by omega
    rw [ek]
    by_cases ei : i = l
    · rw [if_pos ei, if_neg (by omega), if_pos ⟨by omega, by omega⟩]
      exact h2 _ (by omega) (by omega)
    · rw [if_neg ei]
      by_cases ej : j = l
      · rw [if_pos ej, if_neg (by omega)]
        exact h1 i (by omega)
      · rw [if_neg ej]
        by_cases e1 : l < i ∧ i ≤ k
        · rw [if_pos e1, if_pos ⟨by omega, by omega⟩]
          exact u _ _ (by omega) (by omega)
        · rw [if_neg e1]
          by_cases e2 : l < j ∧ j ≤ k
          · rw [if_pos e2]
            exact u _ _ (by omega) (by omega)
          · rw [if_neg e2]
            exact u _ _ (by omega) (by omega)
theorem sort_wp (hn : 2 ≤ n) (s : Shared) (Q : Array Nat → Shared → Prop) (hi : I s) (hQ : ∀ p s', Arr n p → Up lt p n → I s' → Q p s') : (kas_sort n).kasWp cmp Q s := by
  unfold kas_sort
  rw [KasT.kasWp_bind]
  refine count_wp o hc ⟨Array.Perm.refl _⟩ hn s _ hi fun m p s1 h1 h2 a u hi1 => ?_
  try dsimp only
  by_cases e : m < n
  · rw [if_pos e]
    have em : max m 1 = m := by omega
    rw [em]
    exact bin_wp o hc (n - m) m p s1 Q a (by omega) u hi1 hQ
  · rw [if_neg e]
    have em : m = n := by omega
    subst em
    exact hQ p s1 a u hi1
end
end L3

/-! a lambda made and called; sorted and min by such a key -/
namespace L3
open PySem PySem.Spec PyProof.Rows L2

/-! ### one step of a body, from the heap h to h' -/
structure Stp (X : Cx) (H H' : Hp) (h h' : Heap) : Prop where
  keep : ∀ b o, b ≠ X.env.locals → b ∉ X.fs → h.get? b = some o → H b = none → h'.get? b = some o
  slot : ∀ b o, b ≠ X.env.locals → b ∈ X.fs → h.get? b = some o → H b = none → ∃ sl, h'.get? b = some { o with slots := sl }
  free : ∀ b o, h.get? b = some o → H b = none → H' b = none
  there : ∀ b o, h.get? b = some o → ∃ o', h'.get? b = some o'
  tups : ∀ b xs, H b = some (.tup xs) → H' b = some (.tup xs)
  frzs : ∀ b o u, H b = some (.frz o u) → H' b = some (.frz o u)
  tbls : ∀ b ps, H b = some (.tbl ps) → ∃ more, H' b = some (.tbl (ps ++ more))
  ns : ∀ m, h.Ns X.env.locals m → h'.Ns X.env.locals m
section
variable {X : Cx} {pins : List (Addr × Obj)} {σ : L2.St} {H H' H1 H2 : Hp} {s s' : Shared} {h h' h1 h2 : Heap}
theorem Stp.refl : Stp X H H h h := ⟨fun _ _ _ _ e _ => e, fun b o _ _ e _ => ⟨o.slots, e⟩, fun _ _ _ n => n, fun _ o e => ⟨o, e⟩, fun _ _ e => e, fun _ _ _ e => e, fun _ ps e => ⟨#[], by rw [e]; simp⟩, fun _ n => n⟩
theorem Stp.trans (a : Stp X H H1 h h1) (b : Stp X H1 H2 h1 h2) : Stp X H H2 h h2 where
  keep := fun c o hL hf e n => b.keep c o hL hf (a.keep c o hL hf e n) (a.free c o e n)
  slot := fun c o hL hf e n => by
    obtain ⟨sl, e1⟩ := a.slot c o hL hf e n
    obtain ⟨sl', e2⟩ := b.slot c _ hL hf e1 (a.free c o e n)
    exact ⟨sl', e2⟩
  free := fun c o e n => by
    obtain ⟨o', e1⟩ := a.there c o e
    exact b.free c o' e1 (a.free c o e n)
  there := fun c o e => by
    obtain ⟨o', e1⟩ := a.there c o e
    exact b.there c o' e1
  tups := fun c xs e => b.tups c xs (a.tups c xs e)
  frzs := fun c o u e => b.frzs c o u (a.frzs c o u e)
  tbls := fun c ps e => by
    obtain ⟨m1, e1⟩ := a.tbls c ps e
    obtain ⟨m2, e2⟩ := b.tbls c _ e1
    exact ⟨m1 ++ m2, by rw [e2, Array.append_assoc]⟩
  ns := fun m n => b.ns m (a.ns m n)
theorem Stp.inv (I : Inv X pins σ H s) (t : Stp X H H' s.heap s'.heap) (ho : s'.os = s.os) (hok : HOk X.prog X.w H' s'.heap) (hg : AllBare s'.gens) : Inv X pins σ H' s' := by
  obtain ⟨h', g', d', t', o'⟩ := s'
  have e : o' = s.os := ho
  subst e
  exact I.step (g' := g') (t' := t') (d' := d') (ch := []) (fun _ z => nomatch z) (fun b o hL hf _ e n => t.keep b o hL hf e n) (fun b o hL hf _ e n => t.slot b o hL hf e n) (fun b o _ e n => t.free b o e n)
    (fun b o _ e => t.there b o e) t.tups t.frzs t.tbls t.ns hok hg
theorem Stp.of_un (I : Inv X pins σ H s) (u : Un (frs X.stack) [] H H' s.heap h') : Stp X H H' s.heap h' where
  keep := fun b o hL hf e n => u.keep b o e n (fun z => (List.mem_cons.mp (I.stkSub b z)).elim hL hf) (by simp)
  slot := fun b o _ _ e n => u.any e n (by simp)
  free := fun b o e n => u.free b o e n (by simp)
  there := fun b o e => u.there b o e (by simp)
  tups := u.tups
  frzs := u.frzs
  tbls := u.tbls
  ns := fun m hm => by
    obtain ⟨o, es, ep, ho, r⟩ := hm
    obtain ⟨sl, hL⟩ := u.any ho I.free (by simp)
    exact ⟨_, es, ep, hL, r⟩
theorem Stp.kept (k : ∀ b o, h.get? b = some o → h'.get? b = some o) : Stp X H H h h' :=
  ⟨fun b o _ _ e _ => k b o e, fun b o _ _ e _ => ⟨o.slots, k b o e⟩, fun _ _ _ n => n, fun b o e => ⟨o, k b o e⟩, fun _ _ e => e, fun _ _ _ e => e, fun _ ps e => ⟨#[], by rw [e]; simp⟩, fun _ n => n.keeps k⟩
/-- the object at D, which was not there at first, is changed -/
theorem Stp.over {D : Addr} (t : Stp X H H' h h1) (hD : h.get? D = none) (hn : ∃ m, h1.Ns X.env.locals m) (k : ∀ b o, b ≠ D → b ≠ X.env.locals → h1.get? b = some o → h2.get? b = some o) (ns : ∀ m, h1.Ns X.env.locals m → h2.Ns X.env.locals m) : Stp X H H' h h2 := by
  have nD : ∀ b o, h.get? b = some o → b ≠ D := fun b o e z => by rw [z, hD] at e; cases e
  refine ⟨fun b o hL hf e n => k b o (nD b o e) hL (t.keep b o hL hf e n), fun b o hL hf e n => ?_, t.free, fun b o e => ?_, t.tups, t.frzs, t.tbls, fun m n => ns m (t.ns m n)⟩
  · obtain ⟨sl, q⟩ := t.slot b o hL hf e n
    exact ⟨sl, k b _ (nD b o e) hL q⟩
  · by_cases hL : b = X.env.locals
    · obtain ⟨m, hm⟩ := hn
      obtain ⟨o', _, _, q, _⟩ := ns m hm
      exact ⟨o', by rw [hL]; exact q⟩
    · obtain ⟨o', q⟩ := t.there b o e
      exact ⟨o', k b o' (nD b o e) hL q⟩
/-- the tracked objects stay -/
theorem HOk.but {P : Program} {w : World} {H : Hp} {h1 h2 : Heap} (ok : HOk P w H h1) (k : ∀ b o, H b ≠ none → h1.get? b = some o → h2.get? b = some o) : HOk P w H h2 := fun b u e =>
  (ok b u e).stay (fun c v hc q => k c v (by
    rcases hc with z | z
    · rw [z, e]; simp
    · rw [z]; simp) q) (fun _ q => q) fun _ _ q => q
end

/-! ### a lambda of one parameter p, with the free names fvs -/
structure LamSc (p : Str) (fvs : List Str) (scope : Scope) : Prop where
  kind : scope.kind = .function
  co : scope.isCoroutine = false
  gen : scope.isGenerator = false
  nocell : ∀ y ∈ scope.names, y.2 ≠ .cell
  par : scope.names.lookup p = some .local
  free : ∀ x, scope.names.lookup x = some .free → x ∈ fvs
  isf : ∀ x ∈ fvs, scope.names.lookup x = some .free
/-- its cells -/
structure Clo (cl : List (Str × Addr)) (fvs : List Str) (fs : List V) (H : Hp) (h : Heap) : Prop where
  get : ∀ (i : Nat) (x : Str) (v : V), fvs[i]? = some x → fs[i]? = some v → ∃ c u, cl.lookup x = some c ∧ h.IsCell c (some u) ∧ RelV v u
  all : ∀ x c, cl.lookup x = some c → (∃ v, h.IsCell c v) ∧ H c = none
  inj : ∀ x y c, cl.lookup x = some c → cl.lookup y = some c → x = y
  has : ∀ x ∈ fvs, ∃ c, cl.lookup x = some c
  len : fs.length = fvs.length
def cxLam (P : Program) (w : World) (K : PySem.W.Frag) (mg : Str → Option Value) (base : Heap) (N : List Str) (qual : Str) (scope : Scope) (f : Addr) (cd : Value) (cl : List (Str × Addr)) (A : Around) (outer : List Env) (s : Shared) (H : Hp) : Cx where
  prog := P
  w := w
  K := K
  mg := mg
  base := base
  A := A.deeper (PySem.W.envX qual scope s.heap.objs.size f cd cl)
  N := N
  s₀ := s
  H₀ := H
  env := PySem.W.envX qual scope s.heap.objs.size f cd cl
  outer := outer
  stack := PySem.W.envX qual scope s.heap.objs.size f cd cl :: outer
  ex := []
  fn := fun _ => false
  calm := true
  pn := []
  xe := fun _ _ => False
theorem lam_inv {P : Program} {w : World} {K : PySem.W.Frag} {mg : Str → Option Value} {base : Heap} {p qual : Str} {fvs : List Str} {scope : Scope} {f : Addr} {cd : Value} {cl : List (Str × Addr)} {A : Around} {outer : List Env} {s : Shared} {H : Hp} {h₁ : Heap} {tk : Nat}
    {fs : List V} {v : V} {u : Value} (S : LamSc p fvs scope) (hd : A.handled = none) (e0 : Env0 P w K mg base A outer s H) (C : Clo cl fvs fs H s.heap) (r : RelV v u)
    (hns : h₁.Ns s.heap.objs.size (fun x => ([(p, u)] : List (Str × Value)).reverse.lookup x)) (hk : ∀ b o, s.heap.get? b = some o → h₁.get? b = some o) :
    Inv (cxLam P w K mg base (p :: fvs) qual scope f cd cl A outer s H) [] (some v :: fs.map some) H { s with heap := h₁, toks := tk } := by
  have noA : ∀ b : Addr, b ∉ (cxLam P w K mg base (p :: fvs) qual scope f cd cl A outer s H).ex := fun b z => absurd (show b ∈ ([] : List Addr) from z) (by simp)
  refine ⟨⟨e0.mod, S.kind, rfl, rfl, Nat.le_refl _, C.inj, fun y hy => ?_, fun y c z _ => absurd (show false = true from z) Bool.false_ne_true, fun _ => hd, Around.frames_deeper e0.frames, .inr ⟨rfl, rfl⟩, fun b z => absurd z (noA b), e0.bs, e0.bsz, fun b _ _ => noA b, fun b z => absurd z (noA b), e0.funs, e0.frf⟩,
    rfl, e0.bare, Un.kept hk, ⟨_, hns, fun i y z h1 h2 h3 => ?_⟩, fun y c h => ?_, e0.hok.fresh (Nat.le_refl _), fun y c h => (C.all y c h).2, fun q hq => absurd (show q ∈ ([] : List (Addr × Obj)) from hq) (by simp), e0.hok.kept hk, ?_⟩
  · have hy : scope.names.lookup y = some .cell ∨ scope.names.lookup y = some .free := hy
    rcases hy with hy | hy
    · exact absurd rfl (S.nocell _ (PySem.mem_of_lookup hy))
    · exact C.has y (S.free y hy)
  · cases i with
    | zero =>
      have e1 : p = y := Option.some.inj h1
      have e2 : some v = some z := Option.some.inj h2
      cases e2
      subst e1
      exact ⟨u, r, .inl ⟨S.par, by simp [List.lookup]⟩⟩
    | succ i =>
      have h1 : fvs[i]? = some y := by
        have h1' : (p :: fvs)[i + 1]? = some y := h1
        simpa using h1'
      have h2 : fs[i]? = some z := by
        have h2' : (fs.map some)[i]? = some (some z) := by simpa using h2
        rw [List.getElem?_map] at h2'
        cases e : fs[i]? with
        | none => rw [e] at h2'; cases h2'
        | some a => rw [e] at h2'; cases h2'; rfl
      obtain ⟨c, u', hc, hcell, r'⟩ := C.get i y z h1 h2
      exact ⟨u', r', .inr ⟨.inr (S.isf y (List.mem_of_getElem? h1)), c, hc, hcell.keeps hk⟩⟩
  · obtain ⟨⟨v', hv⟩, _⟩ := C.all y c h
    exact ⟨v', hv.keeps hk⟩
  · show (some v :: fs.map some).length = (p :: fvs).length
    rw [List.length_cons, List.length_map, List.length_cons, C.len]
/-- the lambda is called -/
theorem lam_run {CX : CXT} {P : Program} {w : World} {K : PySem.W.Frag} {mg : Str → Option Value} {base : Heap} {k : Nat} {p name qual : Str} {params : Arguments} {body : Expr} {fvs : List Str} {scope : Scope} {f c' : Addr} {cl : List (Str × Addr)} {A : Around} {outer : List Env} {s : Shared} {H : Hp}
    {fs : List V} {v : V} {u pm ctv : Value} {Q : VK} {E : XK} {t : TE} (hr : Room (k + 1) A) (e0 : Env0 P w K mg base A outer s H) (hf : s.heap.get? f = some (PySem.W.kla_obj name qual params body scope cl pm c' ctv)) (hcd : s.heap.CodeRec (.ref c') qual)
    (S : LamSc p fvs scope) (C : Clo cl fvs fs H s.heap) (r : RelV v u) (hbind : bindArgs (PySem.W.kla_fn name qual params body scope cl pm (.ref c') ctv) ⟨[u], []⟩ = pure [(p, u)])
    (hb : PE (cxLam P w K mg base (p :: fvs) qual scope f (.ref c') cl A outer s H) body t) (ht : t (some v :: fs.map some) H Q) :
    codeAny (model P w) A (.call (.ref f) ⟨[u], []⟩) (CR CX outer P w H s Q E) s := by
  have lim : s.heap.NoLimit := e0.mod.nolimit.keeps fun b o e => (e0.bs b o e).1
  refine PySem.W.kla_callFunE hr.depth hf rfl S.co S.gen rfl hcd ?_
  rw [hbind]
  refine wpAny_pure (wpAny_newFunctionEnv S.nocell (fun y hy => ?_) (fun h₁ hns hsb => ?_) S.kind)
  · have e : y = (p, u) := by simpa using hy
    rw [e]
    exact S.par
  · have hk₁ : ∀ b o, s.heap.get? b = some o → h₁.get? b = some o := fun b o e => hsb.extBut b o (Nat.ne_of_lt (Heap.lt_size e)) (Heap.get?_push_of_some _ e)
    refine ⟨lim.keeps hk₁, ?_⟩
    show codeAny _ _ (.expr body (PySem.W.envX qual scope s.heap.objs.size f (.ref c') cl)) _ _
    have I := lam_inv (qual := qual) (f := f) (cd := .ref c') (tk := s.toks + ([(p, u)] : List (Str × Value)).length) S hr.hd e0 C r hns hk₁
    exact PySem.W.kla_codeExpr (wpAny_mono (hb [] _ _ H Q I ht) (fun u' s' ⟨v', H', J, rv, q⟩ => ⟨v', H', J.os, J.bare, J.base, J.hok, rv, q⟩) fun _ _ z => z.elim)

/-! ### the code tables -/
/-- the code object at c, of the name q -/
def CodeAt (c : Addr) (q : Str) : HO := .ext fun h => h.CodeRec (.ref c) q
/-- the table at P: nothing yet, or the one lambda's code -/
def Tab (H : Hp) (P : Addr) (pos : Pos) (q : Str) : Prop :=
  H P = some (.tbl #[]) ∨ ∃ c : Addr, H P = some (.tbl #[rawInt pos.line, rawInt pos.col, .ref c]) ∧ H c = some (CodeAt c q)
/-- all but what stands at P stays -/
def Kp (P : Addr) (H H' : Hp) : Prop := ∀ b o, H b = some o → b ≠ P → H' b = some o
theorem Kp.refl (P : Addr) (H : Hp) : Kp P H H := fun _ _ e _ => e
theorem Kp.trans {P : Addr} {H H1 H2 : Hp} (a : Kp P H H1) (b : Kp P H1 H2) : Kp P H H2 := fun c o e n => b c o (a c o e n) n
theorem Kp.of_same {P : Addr} {H H' : Hp} (a : Same H H') : Kp P H H' := fun c o e _ => a c o e
theorem Tab.ne {H : Hp} {P b : Addr} {pos : Pos} {q : Str} {o : HO} (t : Tab H P pos q) (e : H b = some o) (n : ∀ ps, o ≠ .tbl ps) : b ≠ P := fun z => by
  subst z
  rcases t with t | ⟨c, t, _⟩
  · rw [e] at t; exact n _ (Option.some.inj t)
  · rw [e] at t; exact n _ (Option.some.inj t)
theorem Kp.seq {K : PySem.W.Frag} {P : Addr} {pos : Pos} {q : Str} {H H' : Hp} {a : Addr} {xs : List V} (e : Kp P H H') (t : Tab H P pos q) (h : SqL K H a xs) : SqL K H' a xs := by
  rcases h with (h | ⟨o, h⟩) | h
  · exact .inl (.inl (e _ _ h (t.ne h fun _ z => by cases z)))
  · exact .inl (.inr ⟨o, e _ _ h (t.ne h fun _ z => by cases z)⟩)
  · exact .inr h
/-- another table -/
theorem Tab.kp {H H' : Hp} {P P2 : Addr} {pos pos2 : Pos} {q q2 : Str} (t2 : Tab H P2 pos2 q2) (e : Kp P H H') (t : Tab H P pos q) (hne : P2 ≠ P) : Tab H' P2 pos2 q2 := by
  rcases t2 with t2 | ⟨c, t2, r⟩
  · exact .inl (e _ _ t2 hne)
  · exact .inr ⟨c, e _ _ t2 hne, e _ _ r (t.ne r fun _ z => by cases z)⟩
theorem Tab.same {H H' : Hp} {P : Addr} {pos : Pos} {q : Str} (t : Tab H P pos q) (a : Same H H') : Tab H' P pos q := by
  rcases t with t | ⟨c, t, r⟩
  · exact .inl (a _ _ t)
  · exact .inr ⟨c, a _ _ t, a _ _ r⟩
theorem codeAt_ok {P : Program} {w : World} {H : Hp} {h : Heap} {c : Addr} {q : Str} (x : h.CodeRec (.ref c) q) : ObjOk P w H h c (CodeAt c q) := by
  refine ⟨x, ?_, ?_⟩
  · obtain ⟨c', o, vs, t, e, ho, _⟩ := x
    cases e
    exact ⟨o, ho⟩
  · rintro h1 h2 ⟨c', o, vs, t, e, ho, r⟩ k
    cases e
    exact ⟨_, o, vs, t, rfl, k o ho, r⟩
/-- the builtins' module -/
def BMod (mg : Str → Option Value) (base : Heap) : Prop := ∃ bm ob, mg "__builtins__" = some (.ref bm) ∧ bm ≠ builtinsNs ∧ base.get? bm = some ob ∧ ob.cls = .type "module" ∧ ob.dict = some builtinsNs ∧ ob.data = .plain
end L3

namespace L3
open PySem PySem.Spec PyProof.Rows L2
/-! ### a lambda is made -/
section
variable {X : Cx} {pins : List (Addr × Obj)} {σ : L2.St} {H : Hp} {s : Shared} {E : Value → Shared → Prop}
theorem stk_lt (I : Inv X pins σ H s) {b : Addr} (hb : b ∈ frs X.stack) : b < s.heap.objs.size := by
  obtain ⟨_, o, ho, _⟩ := I.stack.mem hb
  exact Heap.lt_size ho
theorem lam_make {c P : Addr} {params : Arguments} {body : Expr} {scope : Scope} {cl : List (Str × Addr)} {pos : Pos} {Qv : Value → Shared → Prop} (I : Inv X pins σ H s) (C : PySem.W.CodeHd X.base c P) (hb : BMod X.mg X.base)
    (hcode : X.env.code = .ref c) (hcl : closureFor scope X.env = pure cl) (hdef : defaultsOf params X.env = ([], [])) (T : Tab H P pos (X.env.qual ++ "<lambda>"))
    (h : ∀ (f c' : Addr) (ctv pm : Value) (s' : Shared) (H1 : Hp), Inv X pins σ H1 s' → Stp X H H1 s.heap s'.heap → Kp P H H1 → Tab H1 P pos (X.env.qual ++ "<lambda>") → s'.heap.get? f = some (PySem.W.kla_obj "<lambda>" (X.env.qual ++ "<lambda>") params body scope cl pm c' ctv) →
      H1 f = none → s.heap.objs.size ≤ f → H1 c' = some (CodeAt c' (X.env.qual ++ "<lambda>")) → Qv (.ref f) s') : wpAny (model X.prog X.w) X.A (eval (.Lambda params body scope pos) X.env) Qv E s := by
  have hg : s.heap.Ns mainGlobals X.mg := I.mod.glob.keeps I.bk
  have hC : PySem.W.CodeHd s.heap c P := C.keeps I.bk
  obtain ⟨bm, ob, b1, b2, b3, b4, b5, b6⟩ := hb
  have b3' := I.bk _ _ b3
  have hbG : bm ≠ mainGlobals := fun q => by
    obtain ⟨o, es, ep, e, hd, _⟩ := hg
    rw [q, e] at b3'; cases b3'; rw [hd] at b6; cases b6
  have tabAt : ∀ ps, H P = some (.tbl ps) → s.heap.get? P = some (PySem.W.tabObj ps) := fun ps e => I.hok P _ e
  have nP : ∀ ps, H P = some (.tbl ps) → ∀ b o, X.base.get? b = some o → b ≠ P := fun ps e b o q z => by
    have := (I.bs b o q).2
    rw [z, e] at this; cases this
  refine PySem.W.kla_eval hdef ?_
  rcases T with T | ⟨c', T, T2⟩
  · have hgP : mainGlobals ≠ P := by
      obtain ⟨o, es, ep, e, _⟩ := I.mod.glob
      exact nP _ T _ _ e
    refine PySem.W.kla_makeFunction (mg := X.mg) hcl I.ok.glob hg hcode hC (tabAt _ T) trivial rfl hgP ⟨bm, ob, b1, b2, hbG, nP _ T _ _ b3, b3', b4, b5, b6⟩ fun c' ctv h' tk hx hge hlt hrec htb => ?_
    have hPs : P < s.heap.objs.size := Heap.lt_size (tabAt _ T)
    have hcn : H c' = none := I.hok.fresh hge
    have hcP : c' ≠ P := fun z => by rw [z, T] at hcn; cases hcn
    have kp : ∀ b o, b ≠ P → s.heap.get? b = some o → (h'.push (PySem.W.kla_obj "<lambda>" (X.env.qual ++ "<lambda>") params body scope cl ((X.mg "__name__").getD .none) c' ctv)).get? b = some o := fun b o hbp e => Heap.get?_push_of_some _ (hx b o hbp e)
    have old : ∀ b, b ≠ P → b ≠ c' → upd (upd H c' (CodeAt c' (X.env.qual ++ "<lambda>"))) P (.tbl (#[] ++ #[rawInt pos.line, rawInt pos.col, .ref c'])) b = H b := fun b h1 h2 => by rw [upd_ne h1, upd_ne h2]
    have hL : X.env.locals ≠ P := fun z => by have := I.free; rw [z, T] at this; cases this
    have st : Stp X H (upd (upd H c' (CodeAt c' (X.env.qual ++ "<lambda>"))) P (.tbl (#[] ++ #[rawInt pos.line, rawInt pos.col, .ref c']))) s.heap (h'.push (PySem.W.kla_obj "<lambda>" (X.env.qual ++ "<lambda>") params body scope cl ((X.mg "__name__").getD .none) c' ctv)) := by
      refine ⟨fun b o _ _ e n => kp b o (fun z => by rw [z, T] at n; cases n) e, fun b o _ _ e n => ⟨o.slots, kp b o (fun z => by rw [z, T] at n; cases n) e⟩, fun b o e n => ?_, fun b o e => ?_, fun b xs e => ?_, fun b o u e => ?_, fun b ps e => ?_, fun m n => ?_⟩
      · rw [old b (fun z => by rw [z, T] at n; cases n) (Nat.ne_of_lt (Nat.lt_of_lt_of_le (Heap.lt_size e) hge))]
        exact n
      · by_cases hbp : b = P
        · rw [hbp]; exact ⟨_, Heap.get?_push_of_some _ htb⟩
        · exact ⟨o, kp b o hbp e⟩
      · rw [old b (fun z => by rw [z, T] at e; cases e) (fun z => by rw [z, hcn] at e; cases e)]
        exact e
      · rw [old b (fun z => by rw [z, T] at e; cases e) (fun z => by rw [z, hcn] at e; cases e)]
        exact e
      · by_cases hbp : b = P
        · subst hbp
          rw [T] at e; cases e
          exact ⟨_, upd_same⟩
        · rw [old b hbp (fun z => by rw [z, hcn] at e; cases e)]
          exact ⟨#[], by rw [e]; simp⟩
      · obtain ⟨o, es, ep, e, r⟩ := n
        exact ⟨o, es, ep, kp _ o hL e, r⟩
    have hok : HOk X.prog X.w (upd (upd H c' (CodeAt c' (X.env.qual ++ "<lambda>"))) P (.tbl (#[] ++ #[rawInt pos.line, rawInt pos.col, .ref c']))) (h'.push (PySem.W.kla_obj "<lambda>" (X.env.qual ++ "<lambda>") params body scope cl ((X.mg "__name__").getD .none) c' ctv)) := fun b u e => by
      by_cases hbp : b = P
      · subst hbp
        rw [upd_same] at e; cases e
        exact Heap.get?_push_of_some _ htb
      · rw [upd_ne hbp] at e
        by_cases hbc : b = c'
        · subst hbc
          rw [upd_same] at e; cases e
          obtain ⟨c2, oc, vs, t, e2, hoc, r⟩ := hrec
          cases e2
          exact codeAt_ok ⟨b, oc, vs, t, rfl, Heap.get?_push_of_some _ hoc, r⟩
        · rw [upd_ne hbc] at e
          refine (I.hok b u e).stay (fun d v hd q => kp d v ?_ q) (fun d q => ?_) fun d xs q => ?_
          · rcases hd with z | z
            · rw [z]; exact hbp
            · intro w; rw [w, T] at z; cases z
          · rw [old d (fun w => by rw [w, T] at q; cases q) (fun w => by rw [w, hcn] at q; cases q)]; exact q
          · rw [old d (fun w => by rw [w, T] at q; cases q) (fun w => by rw [w, hcn] at q; cases q)]; exact q
    have hfn : upd (upd H c' (CodeAt c' (X.env.qual ++ "<lambda>"))) P (.tbl (#[] ++ #[rawInt pos.line, rawInt pos.col, .ref c'])) h'.objs.size = none := by
      have hs : s.heap.objs.size ≤ h'.objs.size := Nat.le_trans hge (Nat.le_of_lt hlt)
      rw [old _ (Nat.ne_of_gt (Nat.lt_of_lt_of_le hPs hs)) (Nat.ne_of_gt hlt)]
      exact I.hok.fresh hs
    refine h h'.objs.size c' ctv _ _ _ (Stp.inv (s' := { s with heap := _, toks := tk }) I st rfl hok I.bare) st (fun b o e n => ?_) (.inr ⟨c', upd_same, by rw [upd_ne hcP, upd_same]⟩) (Heap.get?_push_size _ rfl) hfn (Nat.le_trans hge (Nat.le_of_lt hlt)) (by rw [upd_ne hcP, upd_same])
    rw [old b n (fun z => by rw [z, hcn] at e; cases e)]
    exact e
  · refine PySem.W.kla_makeFunctionHit (mg := X.mg) (cv := .ref c') hcl I.ok.glob hg hcode hC (tabAt _ T) (by simp [TriplesOk, rawInt]) (by simp [codeAmong, rawInt]) ⟨bm, ob, b1, b2, hbG, nP _ T _ _ b3, b3', b4, b5, b6⟩ fun ctv h' tk hk hsz => ?_
    have kp : ∀ b o, s.heap.get? b = some o → (h'.push ({ cls := .type "function", data := .func (PySem.W.kla_fn "<lambda>" (X.env.qual ++ "<lambda>") params body scope cl ((X.mg "__name__").getD .none) (.ref c') ctv) } : Obj)).get? b = some o := fun b o e => Heap.get?_push_of_some _ (hk b o e)
    exact h h'.objs.size c' ctv _ _ H (I.kept (t' := tk) kp) (Stp.kept kp) (Kp.refl _ _) (.inr ⟨c', T, T2⟩) (Heap.get?_push_size _ rfl) (I.hok.fresh hsz) hsz T2
end

/-! ### sorted(xs, key=f), the keys pairs of ints -/
def klt (ky : Nat → Int × Int) (i j : Nat) : Bool := HT.lexLt [(ky i).1, (ky i).2] [(ky j).1, (ky j).2]
/-- what a key's call is to give -/
def KeyTurn (X : Cx) (pins : List (Addr × Obj)) (σ : L2.St) (H : Hp) (s : Shared) (A : Around) (f : Addr) (xs : List V) (ky : Nat → Int × Int) : Prop :=
  ∀ (i : Nat) (x : V) (u : Value) (s1 : Shared) (H1 : Hp), xs[i]? = some x → RelV x u → Inv X pins σ H1 s1 → Stp X H H1 s.heap s1.heap → Same H H1 →
    wpAny (model X.prog X.w) A (call (.ref f) [u]) (CE X.stack X.prog X.w H1 s1 fun kv H2 => ∃ p, kv = .ref p ∧ Same H1 H2 ∧ H2 p = some (.tup [.int (ky i).1, .int (ky i).2])) (fun _ _ => False) s1
/-- the state between two keys -/
structure KS (X : Cx) (H : Hp) (s : Shared) (D kS e1 : Nat) (ky : Nat → Int × Int) (ks : List Value) (H' : Hp) (s' : Shared) : Prop where
  os : s'.os = s.os
  bare : AllBare s'.gens
  stp : Stp X H H' s.heap s'.heap
  hok : HOk X.prog X.w H' s'.heap
  same : Same H H'
  nD : H' D = none
  nK : H' kS = none
  oD : s'.heap.get? D = some (seqObj "list" #[] e1)
  oK : ∃ e, s'.heap.get? kS = some (seqObj "list" ks.toArray e)
  key : ∀ i v, ks[i]? = some v → ∃ p, v = .ref p ∧ H' p = some (.tup [.int (ky i).1, .int (ky i).2])
section
variable {X : Cx} {pins : List (Addr × Obj)} {σ : L2.St} {H H' : Hp} {s s' : Shared} {D kS e1 : Nat} {ky : Nat → Int × Int} {ks : List Value}
theorem ns_upd {h : Heap} {L a : Addr} {f : Obj → Obj} {m : Str → Option Value} (hne : L ≠ a) (n : h.Ns L m) : (h.update a f).Ns L m := by
  obtain ⟨o, es, ep, e, r⟩ := n
  exact ⟨o, es, ep, (Heap.get?_update_other _ _ (Ne.symm hne)).trans e, r⟩
/-- an untracked list of ours is changed -/
theorem upd_untracked {a : Addr} {fo : Obj → Obj} {h : Heap} (I : Inv X pins σ H s) (ha : s.heap.objs.size ≤ a) (st : Stp X H H' s.heap h) (hok : HOk X.prog X.w H' h) (na : H' a = none) :
    Stp X H H' s.heap (h.update a fo) ∧ HOk X.prog X.w H' (h.update a fo) := by
  have hL : X.env.locals ≠ a := Nat.ne_of_lt (Nat.lt_of_lt_of_le I.lt ha)
  obtain ⟨m, hm, _⟩ := I.loc
  refine ⟨st.over (D := a) (Heap.get?_none_of_le ha) ⟨m, st.ns m hm⟩ (fun b o hb _ e => (Heap.get?_update_other _ _ (Ne.symm hb)).trans e) fun m' n => ns_upd hL n, HOk.but hok fun b o hb e => (Heap.get?_update_other _ _ fun z => hb (by rw [← z]; exact na)).trans e⟩
theorem KS.inv (I : Inv X pins σ H s) (k : KS X H s D kS e1 ky ks H' s') : Inv X pins σ H' s' := Stp.inv I k.stp k.os k.hok k.bare
/-- one more key -/
theorem KS.turn {A : Around} {f : Addr} {xs : List V} {i : Nat} {x : V} {u : Value} {body : Sem (ForInStep PUnit)} {E : Value → Shared → Prop} (I : Inv X pins σ H s) (hD : s.heap.objs.size ≤ D) (hK : s.heap.objs.size ≤ kS) (hDK : D ≠ kS) (T : KeyTurn X pins σ H s A f xs ky)
    (hx : xs[i]? = some x) (ru : RelV x u) (hi : ks.length = i) (h64 : i < 64) (k : KS X H s D kS e1 ky ks H' s')
    (hb : ∀ Q : ForInStep PUnit → Shared → Prop, wpAny (model X.prog X.w) A (call (.ref f) [u]) (fun kv s2 => ∃ xs' n', s2.heap.get? kS = some (seqObj "list" xs' n') ∧ xs'.size ≤ sizeLine ∧ Q (.yield ⟨⟩) { s2 with heap := s2.heap.update kS (Obj.mapSeq (·.push kv)) }) (fun _ _ => False) s' → wpAny (model X.prog X.w) A body Q E s') :
    wpAny (model X.prog X.w) A body (fun r s2 => r = .yield ⟨⟩ ∧ ∃ kv H2, KS X H s D kS e1 ky (ks ++ [kv]) H2 s2) E s' := by
  have J := k.inv I
  refine hb _ (wpAny_mono (T i x u s' H' hx ru J k.stp k.same) (fun kv s2 h => ?_) fun _ _ z => z)
  obtain ⟨v, H2, os, bare, un, hok, rv, p, e, sm, hp⟩ := h
  subst e
  cases (show kv = .ref p from rv)
  obtain ⟨eK, oK⟩ := k.oK
  have nf : ∀ {a}, s.heap.objs.size ≤ a → a ∉ frs X.stack := fun ha z => absurd (Nat.lt_of_lt_of_le (stk_lt I z) ha) (Nat.lt_irrefl _)
  have oK2 := un.keep kS _ oK k.nK (nf hK) (by simp)
  have oD2 := un.keep D _ k.oD k.nD (nf hD) (by simp)
  have nK2 := un.free kS _ oK k.nK (by simp)
  have nD2 := un.free D _ k.oD k.nD (by simp)
  obtain ⟨st, hok'⟩ := upd_untracked (fo := Obj.mapSeq (·.push (Value.ref p))) I hK (k.stp.trans (Stp.of_un J un)) hok nK2
  refine ⟨_, _, oK2, by rw [List.size_toArray, sizeLine_eq]; omega, rfl, .ref p, H2, os.trans k.os, bare, st, hok', k.same.trans sm, nD2, nK2, (Heap.get?_update_other _ _ (Ne.symm hDK)).trans oD2, ?_, fun j w hj => ?_⟩
  · have q := get?_update_seq oK2 (·.push (Value.ref p))
    rw [List.push_toArray] at q
    exact ⟨_, q⟩
  · by_cases hl : j < ks.length
    · rw [List.getElem?_append_left hl] at hj
      obtain ⟨q, e, hq⟩ := k.key j w hj
      exact ⟨q, e, sm _ _ hq⟩
    · rw [List.getElem?_append_right (by omega)] at hj
      have ej : j - ks.length = 0 := by
        cases z : j - ks.length with
        | zero => rfl
        | succ n => rw [z] at hj; simp at hj
      rw [ej] at hj
      have : j = i := by omega
      subst this
      cases hj
      exact ⟨p, rfl, hp⟩
end
end L3

namespace L3
open PySem PySem.Spec PyProof.Rows L2
section
variable {X : Cx} {pins : List (Addr × Obj)} {σ : L2.St} {H H' : Hp} {s s' : Shared} {D kS e1 : Nat} {ky : Nat → Int × Int} {ks : List Value} {h : Heap}
/-- an untracked object of ours is tracked from now on -/
theorem track {o : HO} (I : Inv X pins σ H s) (hD : s.heap.objs.size ≤ D) (st : Stp X H H' s.heap h) (hok : HOk X.prog X.w H' h) (nD : H' D = none) (new : ObjOk X.prog X.w (upd H' D o) h D o) :
    Stp X H (upd H' D o) s.heap h ∧ HOk X.prog X.w (upd H' D o) h := by
  have hn : H D = none := I.hok.fresh hD
  have ne : ∀ b u, H b = some u → b ≠ D := fun b u e z => by rw [z, hn] at e; cases e
  refine ⟨⟨st.keep, st.slot, fun b u e n => ?_, st.there, fun b xs e => ?_, fun b ob u e => ?_, fun b ps e => ?_, st.ns⟩, fun b u e => ?_⟩
  · rw [upd_ne (Nat.ne_of_lt (Nat.lt_of_lt_of_le (Heap.lt_size e) hD))]
    exact st.free b u e n
  · rw [upd_ne (ne b _ e)]; exact st.tups b xs e
  · rw [upd_ne (ne b _ e)]; exact st.frzs b ob u e
  · rw [upd_ne (ne b _ e)]; exact st.tbls b ps e
  · by_cases hb : b = D
    · subst hb
      rw [upd_same] at e; cases e
      exact new
    · rw [upd_ne hb] at e
      exact (hok b u e).stay (fun _ _ _ q => q) (fun c q => by rw [upd_ne (ne_of_none q nD)]; exact q) fun c xs q => by rw [upd_ne (ne_of_none q nD)]; exact q
theorem pair_at {p : Addr} {a b : Int} (J : Inv X pins σ H' s') (hp : H' p = some (.tup [.int a, .int b])) : ∃ (o : Obj) (t u : Tok) (n : Nat), s'.heap.get? p = some o ∧ o.cls = .type "tuple" ∧ o.data = .seq #[.int a t, .int b u] n := by
  obtain ⟨_, its, r, o, ho, hc, n, hd⟩ := (show ObjOk X.prog X.w H' s'.heap p (.tup [.int a, .int b]) from J.hok p _ hp)
  obtain ⟨u1, u2, rfl, ⟨t, rfl⟩, ⟨t', rfl⟩⟩ := Vals.two r
  exact ⟨o, t, t', n, ho, hc, hd⟩
theorem key_lt {A : Around} {p q : Addr} {a b c d : Int} {Q : Bool → Shared → Prop} {E : Value → Shared → Prop} (J : Inv X pins σ H' s') (hp : H' p = some (.tup [.int a, .int b])) (hq : H' q = some (.tup [.int c, .int d]))
    (hQ : Q (HT.lexLt [a, b] [c, d]) s') : wpAny (model X.prog X.w) A (keyLt' (tuples' true) (.ref p) (.ref q)) Q E s' := by
  obtain ⟨o, t, u, n, ho, _, hd⟩ := pair_at J hp
  obtain ⟨o2, t2, u2, n2, ho2, _, hd2⟩ := pair_at J hq
  refine PySem.W.kat_lt ho hd ho2 hd2 ?_
  show PySem.W.KatLex _ _ A true _ Q [(Value.int a t, Value.int c t2), (Value.int b u, Value.int d u2)] 0 s'
  rw [HT.lexLt_cons] at hQ
  refine PySem.W.kat_cons (wpAny_eqBool_int ?_)
  by_cases h1 : a = c
  · rw [if_pos h1, HT.lexLt_cons] at hQ
    rw [show (a == c) = true from beq_iff_eq.mpr h1]
    refine PySem.W.kat_yes (PySem.W.kat_cons (wpAny_eqBool_int ?_))
    by_cases h2 : b = d
    · rw [if_pos h2, HT.lexLt_nil_nil] at hQ
      rw [show (b == d) = true from beq_iff_eq.mpr h2]
      exact PySem.W.kat_yes (PySem.W.kat_nil hQ)
    · rw [if_neg h2] at hQ
      rw [show (b == d) = false from beq_eq_false_iff_ne.mpr h2]
      exact PySem.W.kat_no (PySem.W.kat_one _ _ (lt_int hQ))
  · rw [if_neg h1] at hQ
    rw [show (a == c) = false from beq_eq_false_iff_ne.mpr h1]
    exact PySem.W.kat_no (oneLt_int hQ)
theorem tups_of (J : Inv X pins σ H' s') : ∀ (ks : List Value), (∀ v ∈ ks, ∃ p a b, v = .ref p ∧ H' p = some (.tup [.int a, .int b])) → ∃ fs : List Value, PySem.W.KatTups s'.heap ks fs ∧ fs.length = ks.length ∧ ∀ v ∈ fs, ∃ i t, v = .int i t
  | [], _ => ⟨[], PySem.W.KatTups.nil, rfl, fun _ z => nomatch z⟩
  | v :: r, hk => by
    obtain ⟨fs, h1, h2, h3⟩ := tups_of J r fun w hw => hk w (List.mem_cons_of_mem _ hw)
    obtain ⟨p, a, b, rfl, hp⟩ := hk v List.mem_cons_self
    obtain ⟨o, t, u, n, ho, hc, hd⟩ := pair_at J hp
    refine ⟨.int a t :: fs, PySem.W.KatTups.cons ho hc hd rfl h1, by rw [List.length_cons, List.length_cons, h2], fun w hw => ?_⟩
    rcases List.mem_cons.mp hw with e | hw
    · exact ⟨a, t, e⟩
    · exact h3 w hw
/-- the kind of the keys is asked, and all is compared -/
theorem keys_sorted {A : Around} {its : List Value} {P : SortSt → Shared → Prop} {E : Value → Shared → Prop} (J : Inv X pins σ H' s') (hl : ks.length = its.length) (h2 : 2 ≤ its.length) (h64 : its.length < 64) (hord : Ord its.length (klt ky))
    (hk : ∀ i v, ks[i]? = some v → ∃ p, v = .ref p ∧ H' p = some (.tup [.int (ky i).1, .int (ky i).2]))
    (hP : ∀ st p, Arr its.length p → Up (klt ky) p its.length → (arrOf st).map (·.2) = (p.toList.map fun i => its.getD i Value.none).toArray → failedOf st = none → P st s') :
    wpAny (model X.prog X.w) A (keyKind' ks.toArray) (fun κ s2 => wpAny (model X.prog X.w) A ((sortRuns').run (SortSt.mk' κ (ks.toArray.zip its.toArray) #[] 7 none)) (fun r s3 => P r.2 s3) E s2) E s' := by
  obtain ⟨fs, t1, t2, t3⟩ := tups_of J ks fun v hv => by
    obtain ⟨i, hi, e⟩ := List.getElem_of_mem hv
    obtain ⟨p, e1, e2⟩ := hk i v (by rw [List.getElem?_eq_getElem hi, e])
    exact ⟨p, _, _, e1, e2⟩
  refine PySem.W.kat_kind (T := .type "int") t1 (by omega) (fun v hv => ?_) (by decide +kernel) ?_
  · obtain ⟨i, t, rfl⟩ := t3 v hv
    exact PySem.W.Looks.of_pure rfl
  · have et : (Value.type "int" != Value.type "tuple") = true := by decide +kernel
    rw [et]
    refine PySem.W.kat_run (G := fun p s2 => s2 = s' ∧ Arr its.length p ∧ Up (klt ky) p its.length) hl h2 h64 (fun p st s2 _ har hf g => ?_) ?_
    · obtain ⟨rfl, a, u⟩ := g
      exact hP st p a u (PySem.W.kat_snds hl har) hf
    · refine sort_wp (I := fun s2 => s2 = s') hord (fun i j C s2 hi hj e hC => ?_) h2 s' _ rfl fun p s2 a u e => ⟨e, a, u⟩
      subst e
      have gi : ∃ p, ks.getD i Value.none = .ref p ∧ H' p = some (.tup [.int (ky i).1, .int (ky i).2]) := by
        have hi' : i < ks.length := by omega
        obtain ⟨p, e1, e2⟩ := hk i _ (List.getElem?_eq_getElem hi')
        exact ⟨p, by simpa [List.getD, hi'] using e1, e2⟩
      have gj : ∃ p, ks.getD j Value.none = .ref p ∧ H' p = some (.tup [.int (ky j).1, .int (ky j).2]) := by
        have hj' : j < ks.length := by omega
        obtain ⟨p, e1, e2⟩ := hk j _ (List.getElem?_eq_getElem hj')
        exact ⟨p, by simpa [List.getD, hj'] using e1, e2⟩
      obtain ⟨p, ep, hp⟩ := gi
      obtain ⟨q, eq, hq⟩ := gj
      show wpAny _ A (keyLt' (tuples' true) (ks.getD i Value.none) (ks.getD j Value.none)) C _ _
      rw [ep, eq]
      exact key_lt J hp hq (hC _ rfl)
theorem range_getD {α : Type} (d : α) (l : List α) : (List.range l.length).map (fun i => l.getD i d) = l := by
  apply List.ext_getElem
  · simp
  · intro i h1 h2
    simp [List.getD, h2]
theorem vals_perm {xs : List V} {its : List Value} (r : Vals xs its) : ∀ (l : List Nat), (∀ i ∈ l, i < xs.length) → Vals (l.map fun i => xs.getD i .non) (l.map fun i => its.getD i Value.none)
  | [], _ => .nil
  | i :: l, hl => by
    have hi := hl i List.mem_cons_self
    obtain ⟨u, e, ru⟩ := r.get (i := i) (List.getElem?_eq_getElem hi)
    have hi2 : i < its.length := by rw [← r.length]; exact hi
    refine .cons ?_ (vals_perm r l fun j hj => hl j (List.mem_cons_of_mem _ hj))
    have e1 : xs.getD i .non = xs[i] := by simp [List.getD, hi]
    have e2 : its.getD i Value.none = u := by simp [List.getD, e]
    show RelV (xs.getD i .non) (its.getD i Value.none)
    rw [e1, e2]
    exact ru
/-- behind the sort -/
theorem sort_tail {A : Around} {st : SortSt} {out : List Value} {P : PySem.Fin → Shared → Prop} {E : Value → Shared → Prop} (I : Inv X pins σ H s) (hD : s.heap.objs.size ≤ D) (hK : s.heap.objs.size ≤ kS) (hDK : D ≠ kS) (k : KS X H s D kS e1 ky ks H' s') (hks : ks.length < 64)
    (hout : (arrOf st).map (·.2) = out.toArray) (ho64 : out.length < 64) (hf : failedOf st = none)
    (hP : ∀ s2 : Shared, s2.os = s.os → AllBare s2.gens → Stp X H H' s.heap s2.heap → HOk X.prog X.w H' s2.heap → (∃ c, s2.heap.get? D = some (seqObj "list" out.toArray c)) → P (.done (.ret .none)) s2) :
    wpAny (model X.prog X.w) A (ksk_tail D false e1 (.ref kS) st) P E s' := by
  obtain ⟨eK, oK⟩ := k.oK
  have oD1 : (s'.heap.update kS (Obj.mapSeq fun _ => (#[] : Array Value))).get? D = some (seqObj "list" #[] e1) := (Heap.get?_update_other _ _ (Ne.symm hDK)).trans k.oD
  obtain ⟨st1, hok1⟩ := upd_untracked (fo := Obj.mapSeq fun _ => (#[] : Array Value)) I hK k.stp k.hok k.nK
  obtain ⟨st2, hok2⟩ := upd_untracked (fo := Obj.mapSeq fun _ => out.toArray) I hD st1 hok1 k.nD
  unfold ksk_tail
  try dsimp only
  rw [hout]
  refine wpAny_bind (listUpdate_at oK rfl (wpAny_bind (wpAny_letGo (wpAny_bind (seqEpoch_at oD1 rfl (wpAny_bind (listUpdate_at oD1 rfl ?_ (Nat.zero_le _) ?_)))))) ?_ (Nat.zero_le _))
  · rw [hf]
    simp only [bne_self_eq_false, Bool.false_eq_true, if_false]
    exact wpAny_pure (hP _ k.os k.bare st2 hok2 ⟨_, get?_update_seq oD1 fun _ => out.toArray⟩)
  · simp only [Bool.false_eq_true, if_false, List.size_toArray]
    rw [sizeLine_eq]; omega
  · rw [List.size_toArray, sizeLine_eq]; omega
end
section
variable {X : Cx} {pins : List (Addr × Obj)} {σ : L2.St} {H : Hp} {s : Shared} {ky : Nat → Int × Int}
theorem sorted_run {l f : Addr} {xs : List V} {Q : VK} {E : Value → Shared → Prop} (I : Inv X pins σ H s) (hq : SqL X.K H l xs) (h64 : xs.length < 64) (hord : Ord xs.length (klt ky)) (T : KeyTurn X pins σ H s X.A.in1.in1 f xs ky)
    (hQ : ∀ (D : Addr) (H' : Hp) (p : Array Nat), Same H H' → H' D = none → H D = none → Arr xs.length p → Up (klt ky) p xs.length → Q (.ref D) (upd H' D (.lst (p.toList.map fun i => xs.getD i .non)))) :
    wpAny (model X.prog X.w) X.A (call (.builtin "sorted") [.ref l] [(Str.ofString "key", .ref f)]) (EP X pins σ Q) E s := by
  obtain ⟨its, rv, pl, hz⟩ := I.list hq
  have hlen := rv.length
  have hz64 : its.length < 64 := by omega
  have hls : its.length ≤ sizeLine := by rw [sizeLine_eq]; omega
  refine call_function_entry_kw kind_sorted plain_sorted entry_sorted (ksk_s1 _ _) ?_
  unfold Builtin.«sorted»
  refine wpAny_bind (m := checkCount "sorted" 1 1 _) (wpAny_pure (wpAny_bind (collect_list pl.isList (wpAny_bind (wpAny_newList ?_ hls)) hls)))
  generalize hg1 : (s.heap.push (seqObj "list" #[] 0)).update s.heap.objs.size (Obj.mapSeq (· ++ its.toArray)) = g1
  have zs1 : g1.objs.size = s.heap.objs.size + 1 := by rw [← hg1, Heap.size_update, size_push']
  have kp1 : ∀ b o, s.heap.get? b = some o → g1.get? b = some o := fun b o e => by
    rw [← hg1, Heap.get?_update_ne _ _ _ _ (Nat.ne_of_lt (Heap.lt_size e))]
    exact Heap.get?_push_of_some _ e
  show wpAny _ _ _ _ _ { s with heap := g1.push (seqObj "list" its.toArray 0) }
  have oD0 : (g1.push (seqObj "list" its.toArray 0)).get? g1.objs.size = some (seqObj "list" its.toArray 0) := Heap.get?_push_size _ rfl
  refine wpAny_bind (wpAny_holding (wpAny_call_entry_kw slot_list_sort ⟨_, oD0, rfl⟩ entry_list_sort ?body (ksk_l1 _ _)))
  case body =>
    show wpAny (model X.prog X.w) X.A.in1.in1 (Builtin.«list.sort» ⟨[.ref g1.objs.size], [(Str.ofString "key", .ref f)]⟩) _ _ _
    rw [ksk_t1]
    unfold ksk_tree
    refine wpAny_bind (listItems_at oD0 rfl (wpAny_bind (listUpdate_at oD0 rfl ?_ (by rw [List.size_toArray]; exact hls) (Nat.zero_le _))))
    obtain ⟨e1, oD1⟩ : ∃ e1, ((g1.push (seqObj "list" its.toArray 0)).update g1.objs.size (Obj.mapSeq fun _ => (#[] : Array Value))).get? g1.objs.size = some (seqObj "list" #[] e1) := ⟨_, get?_update_seq oD0 fun _ => #[]⟩
    generalize hg2 : (g1.push (seqObj "list" its.toArray 0)).update g1.objs.size (Obj.mapSeq fun _ => (#[] : Array Value)) = g2 at oD1
    have zs2 : g2.objs.size = g1.objs.size + 1 := by rw [← hg2, Heap.size_update, size_push']
    have kp2 : ∀ b o, s.heap.get? b = some o → g2.get? b = some o := fun b o e => by
      have := kp1 b o e
      rw [← hg2, Heap.get?_update_ne _ _ _ _ (Nat.ne_of_lt (Heap.lt_size this))]
      exact Heap.get?_push_of_some _ this
    show wpAny _ _ _ _ _ { s with heap := g2 }
    refine wpAny_bind (seqEpoch_at oD1 rfl (wpAny_bind (wpAny_newTuple (wpAny_bind (wpAny_newList (wpAny_holding ?_) (Nat.zero_le _))) (by simpa using hls))))
    show wpAny _ _ (ksk_rest g1.objs.size (.ref f) false its.toArray e1 (.ref (g2.push (seqObj "tuple" its.toArray 0)).objs.size)) _ _ { s with heap := (g2.push (seqObj "tuple" its.toArray 0)).push (seqObj "list" #[] 0) }
    generalize hkS : (g2.push (seqObj "tuple" its.toArray 0)).objs.size = kS
    have ekS : kS = g1.objs.size + 2 := by rw [← hkS, size_push', zs2]
    have hD : s.heap.objs.size ≤ g1.objs.size := by omega
    have hK : s.heap.objs.size ≤ kS := by omega
    have hDK : g1.objs.size ≠ kS := by omega
    have kp3 : ∀ b o, s.heap.get? b = some o → ((g2.push (seqObj "tuple" its.toArray 0)).push (seqObj "list" #[] 0)).get? b = some o := fun b o e => Heap.get?_push_of_some _ (Heap.get?_push_of_some _ (kp2 b o e))
    have K0 : KS X H s g1.objs.size kS e1 ky [] H { s with heap := (g2.push (seqObj "tuple" its.toArray 0)).push (seqObj "list" #[] 0) } :=
      ⟨rfl, I.bare, Stp.kept kp3, I.hok.kept kp3, Same.refl _, I.hok.fresh hD, I.hok.fresh hK, Heap.get?_push_of_some _ (Heap.get?_push_of_some _ oD1), ⟨0, by rw [← hkS]; exact Heap.get?_push_size _ rfl⟩, fun i v e => by simp at e⟩
    unfold ksk_rest
    refine wpAny_bind (wpAny_rule ?_)
    rw [List.forIn_toArray]
    refine wpAny_bind (ksk_fold (fun i s2 => ∃ ks H2, ks.length = i ∧ KS X H s g1.objs.size kS e1 ky ks H2 s2) its 0 _ ⟨[], H, rfl, K0⟩ (fun j x s2 hx hJ => ?_) fun s2 hJ => ?_)
    · obtain ⟨ks, H2, hl, k⟩ := hJ
      have hj : j < xs.length := by rw [hlen]; exact (List.getElem?_eq_some_iff.mp hx).1
      obtain ⟨u, eu, ru⟩ := rv.get (i := j) (List.getElem?_eq_getElem hj)
      rw [hx] at eu; cases eu
      refine wpAny_mono (KS.turn (i := j) (x := xs[j]) (u := x) I hD hK hDK T (List.getElem?_eq_getElem hj) ru (by omega) (by omega) k (fun Q' hc => ?_)) (fun r s3 hr => ?_) fun _ _ z => z
      · refine wpAny_bind (wpAny_attempt (wpAny_mono hc (fun kv s3 h3 => ?_) fun _ _ z => z.elim))
        obtain ⟨xs', n', o3, z3, q3⟩ := h3
        exact wpAny_bind (listUpdate_at o3 rfl (wpAny_pure q3) z3 (by rw [Array.size_push]; omega))
      · obtain ⟨e, kv, H3, k3⟩ := hr
        exact ⟨e, ks ++ [kv], H3, by rw [List.length_append, List.length_singleton]; omega, k3⟩
    · obtain ⟨ks, H2, hl, k⟩ := hJ
      have hlk : ks.length = its.length := by omega
      obtain ⟨eK, oK⟩ := k.oK
      refine wpAny_bind (listItems_at oK rfl ?_)
      have fin : ∀ (st : SortSt) (p : Array Nat), Arr its.length p → Up (klt ky) p its.length → (arrOf st).map (·.2) = (p.toList.map fun i => its.getD i Value.none).toArray → failedOf st = none →
          wpAny (model X.prog X.w) X.A.in1.in1 (ksk_tail g1.objs.size false e1 (.ref kS) st) (fun fin s' => ∃ v, fin = .done (.ret v) ∧ wpAny (model X.prog X.w) X.A.in1 (ret (.ref g1.objs.size)) (fun fin s' => ∃ v, fin = .done (.ret v) ∧ EP X pins σ Q v s') E s') E s2 := fun st p a u hout hf => by
        have hpl : p.toList.length = its.length := by rw [Array.length_toList]; exact a.size
        refine sort_tail I hD hK hDK k (by omega) hout (by rw [List.length_map]; omega) hf fun s3 os3 b3 st3 ok3 o3 => ⟨_, rfl, wpAny_pure ⟨_, rfl, ?_⟩⟩
        obtain ⟨c, o3⟩ := o3
        have hv : Vals (p.toList.map fun i => xs.getD i .non) (p.toList.map fun i => its.getD i Value.none) := vals_perm rv _ fun i hi => by
          have := (Array.perm_iff_toList_perm.mp a.perm).mem_iff.mp hi
          rw [hlen]
          simpa using this
        obtain ⟨st4, ok4⟩ := track (o := .lst (p.toList.map fun i => xs.getD i .non)) I hD st3 ok3 k.nD ⟨by rw [List.length_map, hpl]; exact hls, _, c, hv, o3⟩
        rw [← hlen] at a u
        exact ⟨.ref g1.objs.size, _, Stp.inv I st4 os3 ok4 b3, rfl, hQ _ H2 p k.same k.nD (I.hok.fresh hD) a u⟩
      unfold ksk_end
      simp only [Bool.false_eq_true, if_false]
      by_cases h2 : its.toArray.size < 2
      · rw [if_pos h2, if_pos h2]
        refine wpAny_bind (wpAny_pure ?_)
        rw [StateT.run_pure]
        refine wpAny_bind (wpAny_pure (fin _ (List.range its.length).toArray ⟨Array.Perm.refl _⟩ (fun i j hij hj => ?_) ?_ rfl))
        · rw [List.size_toArray] at h2; omega
        · show ((ks.toArray.zip its.toArray).map (·.2)) = _
          apply Array.toList_inj.mp
          rw [Array.toList_map, ksk_zip]
          simp only [List.toList_toArray, range_getD]
          exact List.map_snd_zip (by omega)
      · rw [if_neg h2, if_neg h2]
        rw [List.size_toArray] at h2
        refine wpAny_bind (wpAny_mono (keys_sorted (P := fun st s3 => s3 = s2 ∧ ∃ p, Arr its.length p ∧ Up (klt ky) p its.length ∧ (arrOf st).map (·.2) = (p.toList.map fun i => its.getD i Value.none).toArray ∧ failedOf st = none) (E := E) (k.inv I) hlk (by omega) hz64 (by rw [← hlen]; exact hord) k.key
          fun st p a u ho hf => ⟨rfl, p, a, u, ho, hf⟩) (fun κ s3 h3 => wpAny_bind (wpAny_mono h3 (fun r s4 h4 => ?_) fun _ _ z => z)) fun _ _ z => z)
        obtain ⟨⟨⟩, st⟩ := r
        obtain ⟨rfl, p, a, u, ho, hf⟩ := h4
        exact fin st p a u ho hf
end
end L3

namespace L3
open PySem PySem.Spec PyProof.Rows L2
/-! ### min(xs, key=f, default=None), the keys pairs of ints -/
/-- the state between two turns: the best so far stands at S -/
structure MS (X : Cx) (H : Hp) (s : Shared) (l it S : Addr) (xs : List V) (ky : Nat → Int × Int) (j : Nat) (best : Option Nat) (H' : Hp) (s' : Shared) : Prop where
  os : s'.os = s.os
  bare : AllBare s'.gens
  stp : Stp X H H' s.heap s'.heap
  hok : HOk X.prog X.w H' s'.heap
  same : Same H H'
  nI : H' it = none
  nS : H' S = none
  oI : s'.heap.IsListIter it l j
  oS : ∃ c ws, s'.heap.get? S = some (seqObj "list" ws c) ∧ match best with
    | none => ws = #[]
    | some i => ∃ x u p, xs[i]? = some x ∧ RelV x u ∧ ws = #[u, .ref p] ∧ H' p = some (.tup [.int (ky i).1, .int (ky i).2])
section
variable {X : Cx} {pins : List (Addr × Obj)} {σ : L2.St} {H H' : Hp} {s s' : Shared} {l it S f : Addr} {xs : List V} {ky : Nat → Int × Int}
theorem MS.inv (I : Inv X pins σ H s) {j : Nat} {b : Option Nat} (k : MS X H s l it S xs ky j b H' s') : Inv X pins σ H' s' := Stp.inv I k.stp k.os k.hok k.bare
end
end L3

namespace L3
open PySem PySem.Spec PyProof.Rows L2
/-! ### a comprehension [elt for tg in iter], [.. if c] -/
section
variable {prog : Program} {w : World} {A : Around} {R : Result → Shared → Prop} {s : Shared}
theorem comp_loop {elt tg iter : Expr} {ifs : List Expr} {scope : Scope} {pos : Pos} {it acc : Value} {env : Env} (In : Nat → Shared → Prop)
    (turn : ∀ n s, In n s → wpAny (model prog w) A (pyNext it) (fun r s₁ => match r with
      | none => R (.ok .next) s₁
      | some v => wpAny (model prog w) A (letOwnedTupleGo tg it v) (fun _ s₂ => wpAny (model prog w) A (assign tg env v) (fun _ s₃ =>
          wpAny (model prog w) A (forIn ifs true fun c r => if r = true then do let ok ← isTrue c env (eval c env); pure (ForInStep.yield ok) else pure (ForInStep.yield r)) (fun ok s₄ =>
            if ok = true then wpAny (model prog w) A (eval elt env) (fun x s₅ => wpAny (model prog w) A (call (.builtin "list.append") [acc, x]) (fun _ s₆ => ∃ m, m < n ∧ In m s₆) (fun _ _ => False) s₅) (fun _ _ => False) s₄
            else ∃ m, m < n ∧ In m s₄) (fun _ _ => False) s₃) (fun _ _ => False) s₂) (fun _ _ => False) s₁) (fun _ _ => False) s)
    (n : Nat) (h : In n s) : codeAny (model prog w) A (.compLoop (.ListComp elt [⟨tg, iter, ifs, 0⟩] scope pos) 0 it acc env) R s := by
  refine codeAny_loop rfl In (fun n s hI => ?_) n h
  show wpAny _ A ((compTurn (.ListComp elt [⟨tg, iter, ifs, 0⟩] scope pos) 0 it acc env).onRaise (fun x => do noteFrame x env; theTreesLotGoes x)) _ _ s
  refine wpAny_noted ?_
  rw [compTurn_list]
  refine wpAny_bind (wpAny_standAt (wpAny_bind (wpAny_mono (turn n s hI) (fun r s₁ h₁ => ?_) fun _ _ z => z.elim)))
  cases r with
  | none => exact wpAny_pure h₁
  | some v =>
    refine wpAny_bind (wpAny_mono h₁ (fun _ s₂ h₂ => wpAny_bind (wpAny_mono h₂ (fun _ s₃ h₃ => wpAny_bind (wpAny_mono h₃ (fun ok s₄ h₄ => ?_) fun _ _ z => z.elim)) fun _ _ z => z.elim)) fun _ _ z => z.elim)
    cases ok with
    | false => exact wpAny_pure ⟨rfl, h₄⟩
    | true =>
      rw [if_pos rfl] at h₄
      refine wpAny_bind (wpAny_bind (wpAny_mono h₄ (fun x s₅ h₅ => wpAny_bind (wpAny_mono h₅ (fun _ s₆ h₆ => ?_) fun _ _ z => z.elim)) fun _ _ z => z.elim))
      exact wpAny_pure (wpAny_pure ⟨rfl, h₆⟩)
end
/-- its block -/
def cxComp (X : Cx) (N : List Str) (scope : Scope) (cl : List (Str × Addr)) (fp : List Addr) (C : Addr) (s : Shared) (H : Hp) : Cx where
  prog := X.prog
  w := X.w
  K := X.K
  mg := X.mg
  base := X.base
  A := X.A
  N := N
  s₀ := s
  H₀ := H
  env := compEnvC scope cl C X.env
  outer := X.stack
  stack := X.stack
  ex := fp
  fn := fun _ => false
  calm := X.calm
  pn := []
  xe := fun _ _ => False
/-- names: those of the targets, then the free ones -/
structure CompSc (X : Cx) (ts fvs : List Str) (scope : Scope) (cl : List (Str × Addr)) : Prop where
  clos : closureFor scope X.env = pure cl
  kind : scope.kind = .function
  nocell : ∀ y ∈ scope.names, y.2 ≠ .cell
  names : ∀ y ∈ scope.names, y.2 = .local → scope.names.lookup y.1 = some .local
  vis : ∀ x, ((relabel scope X.env).names.lookup x = some .cell ∨ (relabel scope X.env).names.lookup x = some .free) → x ∈ fvs
  isf : ∀ x ∈ fvs, (relabel scope X.env).names.lookup x = some .cell ∨ (relabel scope X.env).names.lookup x = some .free
  sub : ∀ x c, cl.lookup x = some c → ∃ y, X.env.cells.lookup y = some c
section
variable {X : Cx} {pins : List (Addr × Obj)} {σ : L2.St} {H H' : Hp} {s s' : Shared} {ts fvs : List Str} {scope : Scope} {cl : List (Str × Addr)} {fp : List Addr} {fs : List V}
theorem comp_inv {h₁ : Heap} {tk : Nat} (I : Inv X pins σ H s) (S : CompSc X ts fvs scope cl) (Cl : Clo cl fvs fs H s.heap) (hf : ∀ b ∈ fp, FpOk X pins H b) (ho : ∀ b ∈ fp, ∃ o, s.heap.get? b = some o)
    (hns : h₁.Ns (s.heap.objs.size + 1) (fun _ => none)) (hD : h₁.get? s.heap.objs.size = some { cls := .type "list", data := .seq #[] }) (hk : ∀ b o, s.heap.get? b = some o → h₁.get? b = some o) :
    Inv (cxComp X (ts ++ fvs) scope cl fp (s.heap.objs.size + 1) s H) [] (List.replicate ts.length none ++ fs.map some) (upd H s.heap.objs.size (.lst [])) { s with heap := h₁, toks := tk } := by
  have nst : ∀ b ∈ fp, b ∉ frs X.stack := fun b hb z => (List.mem_cons.mp (I.stkSub b z)).elim (hf b hb).2.1 (hf b hb).2.2.1
  have hnD : H s.heap.objs.size = none := I.hok.fresh (Nat.le_refl _)
  have lt : ∀ x c, cl.lookup x = some c → c < s.heap.objs.size := fun x c e => by
    obtain ⟨⟨v, hv⟩, _⟩ := Cl.all x c e
    exact hv.lt
  refine ⟨⟨I.ok.mod, S.kind, I.ok.glob, I.ok.blt, Nat.le_succ _, Cl.inj, fun y hy => Cl.has y (S.vis y hy), fun y c z _ => absurd (show false = true from z) Bool.false_ne_true, I.ok.hd, I.ok.frames, .inl rfl, fun b hb => ?_, I.bs, Nat.le_trans I.ok.bsz I.sz, fun b o e hb => ?_, nst, I.stack, I.stkFree⟩,
    rfl, I.bare, Un.laid hk (Nat.le_refl _) hnD, ⟨_, hns, fun i x v h1 h2 h3 => ?_⟩, fun y c h => ?_, ?_, fun y c h => ?_, fun p hp => absurd (show p ∈ ([] : List (Addr × Obj)) from hp) (by simp), I.hok.laid hk (Nat.le_refl _) ?_, ?_⟩
  · obtain ⟨o, e⟩ := ho b hb
    refine ⟨Nat.ne_of_lt (Nat.lt_succ_of_lt (Heap.lt_size e)), fun x c hc z => ?_⟩
    obtain ⟨y, hy⟩ := S.sub x c hc
    exact (hf b hb).2.2.2.2.1 y c hy z
  · have := (I.bs b o e).2
    rcases (hf b hb).2.2.2.1 with z | z
    · exact I.ok.noex b o e z
    · exact absurd (Nat.lt_of_lt_of_le (Heap.lt_size (I.ok.bs b o e).1) z) (Nat.lt_irrefl _)
  · by_cases hi : i < ts.length
    · rw [List.getElem?_append_left (by simpa using hi), List.getElem?_replicate, if_pos hi] at h2
      cases h2
    · rw [List.getElem?_append_right (by simpa using hi)] at h2
      have h1' : (ts ++ fvs)[i]? = some x := h1
      rw [List.getElem?_append_right (by omega)] at h1'
      simp only [List.length_replicate] at h2
      have h2' : fs[i - ts.length]? = some v := by
        rw [List.getElem?_map] at h2
        cases e : fs[i - ts.length]? with
        | none => rw [e] at h2; cases h2
        | some a => rw [e] at h2; cases h2; rfl
      obtain ⟨c, u, hc, hcell, r⟩ := Cl.get _ x v h1' h2'
      exact ⟨u, r, .inr ⟨S.isf x (List.mem_of_getElem? h1'), c, hc, hcell.keeps hk⟩⟩
  · obtain ⟨⟨v, hv⟩, _⟩ := Cl.all y c h
    exact ⟨v, hv.keeps hk⟩
  · show upd H s.heap.objs.size (.lst []) (s.heap.objs.size + 1) = none
    rw [upd_ne (Nat.succ_ne_self _)]
    exact I.hok.fresh (Nat.le_succ _)
  · rw [upd_ne (Nat.ne_of_lt (lt y c h))]
    exact (Cl.all y c h).2
  · exact ⟨Nat.zero_le _, [], 0, .nil, hD⟩
  · show (List.replicate ts.length none ++ fs.map some).length = (ts ++ fvs).length
    rw [List.length_append, List.length_replicate, List.length_map, List.length_append, Cl.len]
/-- back from the block -/
theorem comp_back {σ' : L2.St} {D C : Addr} {h' : Heap} (I : Inv X pins σ H s) (hC : s.heap.objs.size ≤ C) (hf : ∀ b ∈ fp, FpOk X pins H b) (J : Inv (cxComp X (ts ++ fvs) scope cl fp C s H) [] σ' H' s')
    (hs : ∀ b o, b ≠ C → s'.heap.get? b = some o → h'.get? b = some o) : Inv X pins σ H' { s' with heap := h' } := by
  have u : Un (frs X.stack) fp H H' s.heap s'.heap := J.base
  have nC : ∀ b o, s.heap.get? b = some o → b ≠ C := fun b o e => Nat.ne_of_lt (Nat.lt_of_lt_of_le (Heap.lt_size e) hC)
  have hCn : H' C = none := J.free
  refine I.call' (s' := { s' with heap := h' }) J.os ⟨fun b o e n h1 h2 => hs b o (nC b o e) (u.keep b o e n h1 h2), fun b o e n h1 h2 => ?_, u.free, fun b o e h2 => ?_, u.tups, u.frzs, u.tbls⟩
    (HOk.but J.hok fun b o hb e => hs b o (fun z => hb (by rw [z]; exact hCn)) e) J.bare fun b hb => ⟨(hf b hb).2.2.2.1, (hf b hb).2.1, (hf b hb).2.2.2.2.1, (hf b hb).2.2.2.2.2⟩
  · obtain ⟨sl, q⟩ := u.slot b o e n h1 h2
    exact ⟨sl, hs b _ (nC b o e) q⟩
  · obtain ⟨o', q⟩ := u.there b o e h2
    exact ⟨o', hs b _ (nC b o e) q⟩
end
/-- the tests of a comprehension: none, or one -/
def PIfs (X : Cx) (ifs : List Expr) (t : TT) : Prop :=
  ∀ (pins : List (Addr × Obj)) (s : Shared) (σ : L2.St) (H : Hp) (Q : Bool → Hp → Prop), Inv X pins σ H s → t σ H Q →
    wpAny (model X.prog X.w) X.A (forIn ifs true fun c r => if r = true then do let ok ← isTrue c X.env (eval c X.env); pure (ForInStep.yield ok) else pure (ForInStep.yield r)) (TP X pins σ Q) X.xe s
theorem pif_nil {X : Cx} : PIfs X [] (fun _ H Q => Q true H) := fun _ _ _ H _ I h => wpAny_tests_nil ⟨H, I, h⟩
theorem pif_one {X : Cx} {c : Expr} {t : TT} (h : PT X c t) : PIfs X [c] t := fun pins s σ H Q I hq => wpAny_tests_one (h pins s σ H Q I hq)
/-- the reading: W holds between two turns, of the items made so far and the heap; the block's names start as none, then the free ones' values -/
def tComp (k : Nat) (js : List Nat) (wi : TI) (g : TG) (tc : TT) (te : TE) : TE := fun σ H Q => wi σ H fun J H1 => ∃ fs : List V, js.map (fun j => σ[j]?) = fs.map (fun v => some (some v)) ∧ ∀ D, H1 D = none →
  ∃ W : Nat → Nat → List V → Hp → Prop, (∃ m, W 0 m [] (upd H1 D (.lst []))) ∧ ∀ i m ys H2, W i m ys H2 → H2 D = some (.lst ys) ∧ ys.length < sizeLine ∧
    ((J.stop i H2 ∧ Q (.ref D) H2) ∨ (J.go i H2 ∧ ∀ x H3, J.yld i H2 x H3 → g x (List.replicate k none ++ fs.map some) H3 fun σ1 H4 => σ1.length = k + fs.length ∧ σ1.drop k = fs.map some ∧ tc σ1 H4 fun c H5 => if c = true
      then te σ1 H5 fun y H6 => H6 D = some (.lst ys) ∧ ∃ m', m' < m ∧ W (i + 1) m' (ys ++ [y]) (upd H6 D (.lst (ys ++ [y])))
      else ∃ m', m' < m ∧ W (i + 1) m' ys H5))
theorem drop_get {α : Type} {l : List (Option α)} {k : Nat} {fs : List α} (h : l.drop k = fs.map some) (i : Nat) (v : α) (e : (List.replicate k none ++ fs.map some)[i]? = some (some v)) : l[i]? = some (some v) := by
  by_cases hi : i < k
  · rw [List.getElem?_append_left (by simpa using hi), List.getElem?_replicate, if_pos hi] at e
    cases e
  · rw [List.getElem?_append_right (by simpa using hi), List.length_replicate, ← h, List.getElem?_drop] at e
    rw [show k + (i - k) = i by omega] at e
    exact e
section
variable {X : Cx} {pins : List (Addr × Obj)} {σ : L2.St} {H H' : Hp} {s s' : Shared} {ts fvs : List Str} {scope : Scope} {cl : List (Str × Addr)} {fp : List Addr} {fs : List V} {tg elt iter : Expr} {ifs : List Expr} {pos : Pos} {J : It} {it : Addr} {tn : Nat → Heap → Prop} {g : TG} {tc : TT} {te : TE}
theorem comp_block {E : Value → Shared → Prop} {Q : VK} {RR : Value → Addr → Result → Shared → Prop} (I : Inv X pins σ H s) (hcalm : X.calm = true) (S : CompSc X ts fvs scope cl) (Cl : Clo cl fvs fs H s.heap) (T : Turn X.prog X.w X.K tg J fp it tn) (t0 : tn 0 s.heap) (hf : ∀ b ∈ fp, FpOk X pins H b)
    (hg : ∀ fp C s H, PG (cxComp X (ts ++ fvs) scope cl fp C s H) tg g) (hi : ∀ fp C s H, PIfs (cxComp X (ts ++ fvs) scope cl fp C s H) ifs tc) (he : ∀ fp C s H, PE (cxComp X (ts ++ fvs) scope cl fp C s H) elt te)
    (W : Nat → Nat → List V → Hp → Prop) (w0 : ∃ m, W 0 m [] (upd H s.heap.objs.size (.lst [])))
    (hW : ∀ i m ys H2, W i m ys H2 → H2 s.heap.objs.size = some (.lst ys) ∧ ys.length < sizeLine ∧
      ((J.stop i H2 ∧ Q (.ref s.heap.objs.size) H2) ∨ (J.go i H2 ∧ ∀ x H3, J.yld i H2 x H3 → g x (List.replicate ts.length none ++ fs.map some) H3 fun σ1 H4 => σ1.length = ts.length + fs.length ∧ σ1.drop ts.length = fs.map some ∧ tc σ1 H4 fun c H5 => if c = true
        then te σ1 H5 fun y H6 => H6 s.heap.objs.size = some (.lst ys) ∧ ∃ m', m' < m ∧ W (i + 1) m' (ys ++ [y]) (upd H6 s.heap.objs.size (.lst (ys ++ [y])))
        else ∃ m', m' < m ∧ W (i + 1) m' ys H5)))
    (hRR : ∀ σ' H' s', Inv (cxComp X (ts ++ fvs) scope cl fp (s.heap.objs.size + 1) s H) [] σ' H' s' → Q (.ref s.heap.objs.size) H' → RR (.ref s.heap.objs.size) (s.heap.objs.size + 1) (.ok .next) s') :
    wpAny (model X.prog X.w) X.A (newList []) (fun acc s₃ => wpAny (model X.prog X.w) X.A (newFunctionEnv scope X.env.globals cl [] X.env.qual none .none (some X.env)) (fun cenv s₄ =>
      codeAny (model X.prog X.w) X.A (.compStart (.ListComp elt [⟨tg, iter, ifs, 0⟩] scope pos) 0 (.ref it) acc { cenv with scope := relabel scope X.env }) (RR acc cenv.locals) s₄) E s₃) E s := by
  refine wpAny_newList (wpAny_newFunctionEnv S.nocell (by intro y hy; simp at hy) (fun h₁ hns hsb => ?_) S.kind) (Nat.zero_le _)
  have zC : (s.heap.push { cls := .type "list", dict := none, data := .seq ([] : List Value).toArray }).objs.size = s.heap.objs.size + 1 := Heap.size_push _ _
  dsimp only at hns hsb ⊢
  rw [zC] at hns hsb ⊢
  have hk : ∀ b o, s.heap.get? b = some o → h₁.get? b = some o := fun b o e => hsb.extBut b o (Nat.ne_of_lt (Nat.lt_succ_of_lt (Heap.lt_size e))) (Heap.get?_push_of_some _ (Heap.get?_push_of_some _ e))
  have hD : h₁.get? s.heap.objs.size = some { cls := .type "list", data := .seq #[] } := hsb.extBut _ _ (Nat.ne_of_lt (Nat.lt_succ_self _)) (Heap.get?_push_of_some _ (Heap.get?_push_size _ rfl))
  have t1 : tn 0 h₁ := T.keep _ _ _ t0 fun b _ o e => hk b o e
  have I0 := comp_inv (tk := s.toks + ([] : List (Str × Value)).length) I S Cl hf (fun b hb => let ⟨o, e, _⟩ := T.obj _ _ t0 b hb; ⟨o, e⟩) hns hD hk
  have loop : ∀ s₃ : Shared, s₃ = { s with heap := h₁, toks := s.toks + ([] : List (Str × Value)).length } →
      codeAny (model X.prog X.w) X.A (.compLoop (.ListComp elt [⟨tg, iter, ifs, 0⟩] scope pos) 0 (.ref it) (.ref s.heap.objs.size) (compEnvC scope cl (s.heap.objs.size + 1) X.env)) (RR (.ref s.heap.objs.size) (s.heap.objs.size + 1)) s₃ := by
    rintro s₃ rfl
    obtain ⟨m0, w0⟩ := w0
    refine comp_loop (fun n s' => ∃ i ys H2, Inv (cxComp X (ts ++ fvs) scope cl fp (s.heap.objs.size + 1) s H) [] (List.replicate ts.length none ++ fs.map some) H2 s' ∧ tn i s'.heap ∧ (∀ b ∈ fp, H2 b = none) ∧ W i n ys H2) ?_ m0
      ⟨0, [], _, I0, t1, fun b hb => ?_, w0⟩
    · rintro n s1 ⟨i, ys, H2, J1, tn1, n1, w1⟩
      have fpo : ∀ {H3 : Hp}, (∀ b ∈ fp, H3 b = none) → ∀ b ∈ fp, FpOk (cxComp X (ts ++ fvs) scope cl fp (s.heap.objs.size + 1) s H) [] H3 b := fun hn b hb =>
        ⟨hn b hb, (J1.ok.exf b hb).1, J1.ok.exfs b hb, .inl hb, (J1.ok.exf b hb).2, fun p hp => absurd (show p ∈ ([] : List (Addr × Obj)) from hp) (by simp)⟩
      obtain ⟨hD2, hz, step⟩ := hW i n ys H2 w1
      rcases step with ⟨stop, q⟩ | ⟨go, step⟩
      · refine wpAny_mono (T.done (cxComp X (ts ++ fvs) scope cl fp (s.heap.objs.size + 1) s H) rfl rfl rfl hcalm i [] s1 _ H2 (fun _ _ => False) J1 (fpo n1) tn1 stop) (fun r s2 h2 => ?_) fun _ _ z => z
        obtain ⟨rfl, J2⟩ := h2
        exact hRR _ H2 s2 J2 q
      · refine wpAny_mono (T.item (cxComp X (ts ++ fvs) scope cl fp (s.heap.objs.size + 1) s H) rfl rfl rfl hcalm i [] s1 _ H2 (fun _ _ => False) J1 (fpo n1) tn1 go) (fun r s2 h2 => ?_) fun _ _ z => z
        obtain ⟨u, rfl, h2⟩ := h2
        refine wpAny_mono h2 (fun _ s3 h3 => ?_) fun _ _ z => z
        obtain ⟨x, H3, J3, rx, y3, tn3, n3⟩ := h3
        have J3' := J3.pinned (fpo n3) (T.obj _ _ tn3)
        refine thn (hg fp _ s H _ s3 _ H3 x u _ J3' rx (step x H3 y3)) fun _ s4 ⟨σ1, H4, J4, l4, d4, q4⟩ => ?_
        refine thn (hi fp _ s H _ s4 σ1 H4 _ J4 q4) fun c s5 ⟨H5, J5, q5⟩ => ?_
        have again : ∀ {H7 : Hp} {s7 : Shared} {ys7 : List V} {m7 : Nat}, Inv (cxComp X (ts ++ fvs) scope cl fp (s.heap.objs.size + 1) s H) ([] ++ pinsAt fp s3.heap) σ1 H7 s7 → m7 < n → W (i + 1) m7 ys7 H7 →
            ∃ m, m < n ∧ ∃ i ys H2, Inv (cxComp X (ts ++ fvs) scope cl fp (s.heap.objs.size + 1) s H) [] (List.replicate ts.length none ++ fs.map some) H2 s7 ∧ tn i s7.heap ∧ (∀ b ∈ fp, H2 b = none) ∧ W i m ys H2 := fun {H7 s7 ys7 m7} J7 hm w7 => by
          refine ⟨m7, hm, i + 1, ys7, H7, J7.unpinned.weak (by rw [l4, List.length_append, List.length_replicate, List.length_map]) (drop_get d4), T.keep _ _ _ tn3 fun b hb o e => (J7.pin (b, o) (List.mem_append_right _ (List.mem_append_right _ (mem_pinsAt hb e)))).1, fun b hb => ?_, w7⟩
          obtain ⟨o, e, _⟩ := T.obj _ _ tn3 b hb
          exact (J7.pin (b, o) (List.mem_append_right _ (List.mem_append_right _ (mem_pinsAt hb e)))).2.1
        cases c with
        | false =>
          rw [if_neg Bool.false_ne_true] at q5 ⊢
          obtain ⟨m7, hm, w7⟩ := q5
          exact again J5 hm w7
        | true =>
          rw [if_pos rfl] at q5 ⊢
          refine thn (he fp _ s H _ s5 σ1 H5 _ J5 q5) fun v s6 ⟨y, H6, J6, ry, hD6, m7, hm, w7⟩ => ?_
          refine thn (mt_append _ s6 σ1 H6 (.ref s.heap.objs.size) [y] (.ref s.heap.objs.size) [v] (fun _ H7 => W (i + 1) m7 (ys ++ [y]) H7) J6 rfl (.cons ry .nil) ⟨_, ys, y, rfl, rfl, hD6, hz, w7⟩) fun _ s7 ⟨_, H7, J7, _, w7⟩ => ?_
          exact again J7 hm w7
    · rw [upd_ne (Nat.ne_of_lt (by obtain ⟨o, e, _⟩ := T.obj _ _ t0 b hb; exact Heap.lt_size e))]
      exact (hf b hb).1
  exact codeAny_compStart_list (loop _ rfl) (T.self _ 0 _ _ _ t1 (loop _ rfl))
/-- the cells that the block takes, from the names' slots -/
theorem clo_of {js : List Nat} (I : Inv X pins σ H s) (hsub : ∀ x c, cl.lookup x = some c → ∃ y, X.env.cells.lookup y = some c) (hhas : ∀ x ∈ fvs, ∃ c, cl.lookup x = some c ∧ X.env.cells.lookup x = some c)
    (hinj : ∀ x y c, cl.lookup x = some c → cl.lookup y = some c → x = y) (hk : ∀ x ∈ fvs, X.env.kindOf x = some .cell ∨ X.env.kindOf x = some .free) (hj : js.map (fun j => X.N[j]?) = fvs.map some) (hv : js.map (fun j => σ[j]?) = fs.map (fun v => some (some v))) : Clo cl fvs fs H s.heap := by
  have l1 : js.length = fvs.length := by simpa using congrArg List.length hj
  have l2 : js.length = fs.length := by simpa using congrArg List.length hv
  refine ⟨fun i x v h1 h2 => ?_, fun x c e => ?_, hinj, fun x hx => let ⟨c, e, _⟩ := hhas x hx; ⟨c, e⟩, by omega⟩
  · obtain ⟨c, e1, e2⟩ := hhas x (List.mem_of_getElem? h1)
    have hi : i < js.length := by rw [l1]; exact (List.getElem?_eq_some_iff.mp h1).1
    have a1 : X.N[js[i]]? = some x := by
      have := congrArg (fun l => l[i]?) hj
      simp only [List.getElem?_map, List.getElem?_eq_getElem hi, h1, Option.map_some] at this
      exact Option.some.inj this
    have a2 : σ[js[i]]? = some (some v) := by
      have := congrArg (fun l => l[i]?) hv
      simp only [List.getElem?_map, List.getElem?_eq_getElem hi, h2, Option.map_some] at this
      exact Option.some.inj this
    obtain ⟨m, hn, hl⟩ := I.loc
    obtain ⟨u, r, l⟩ := hl _ x v a1 a2 (by rcases hk x (List.mem_of_getElem? h1) with z | z; exact .inr (.inl z); exact .inr (.inr z))
    rcases l with ⟨k, _⟩ | ⟨k, c', e3, q⟩
    · rcases hk x (List.mem_of_getElem? h1) with z | z <;> rw [k] at z <;> cases z
    · rw [e2] at e3; cases e3
      exact ⟨c, u, e1, q, r⟩
  · obtain ⟨y, hy⟩ := hsub x c e
    exact ⟨I.cell y c hy, I.freeC y c hy⟩
end
end L3

namespace L3
open PySem PySem.Spec PyProof.Rows L2
/-! ### the rules: sorted and min with a lambda as key; a comprehension -/
structure LamSite (X : Cx) (P c : Addr) (p : Str) (fvs : List Str) (js : List Nat) (scope : Scope) (params : Arguments) (cl : List (Str × Addr)) : Prop where
  sc : LamSc p fvs scope
  code : X.env.code = .ref c
  hd : PySem.W.CodeHd X.base c P
  bm : BMod X.mg X.base
  clos : closureFor scope X.env = pure cl
  dfl : defaultsOf params X.env = ([], [])
  bind : ∀ (body : Expr) (q : Str) (pm cd ctv u : Value), bindArgs (PySem.W.kla_fn "<lambda>" q params body scope cl pm cd ctv) ⟨[u], []⟩ = pure [(p, u)]
  has : ∀ x ∈ fvs, ∃ c, cl.lookup x = some c ∧ X.env.cells.lookup x = some c
  inj : ∀ x y c, cl.lookup x = some c → cl.lookup y = some c → x = y
  sub : ∀ x c, cl.lookup x = some c → ∃ y, X.env.cells.lookup y = some c
  knd : ∀ x ∈ fvs, X.env.kindOf x = some .cell ∨ X.env.kindOf x = some .free
  slots : js.map (fun j => X.N[j]?) = fvs.map some
/-- a key's own reading -/
def KeyRd (P : Addr) (tb : TE) (fs xs : List V) (ky : Nat → Int × Int) (H : Hp) : Prop :=
  ∀ (i : Nat) (v : V) (H2 : Hp), xs[i]? = some v → Kp P H H2 → tb (some v :: fs.map some) H2 fun kv H3 => ∃ p, kv = .ref p ∧ Same H2 H3 ∧ H3 p = some (.tup [.int (ky i).1, .int (ky i).2])
section
variable {X : Cx} {pins : List (Addr × Obj)} {σ : L2.St} {H H1 : Hp} {s s' : Shared} {P c : Addr} {p : Str} {fvs : List Str} {js : List Nat} {scope : Scope} {params : Arguments} {cl : List (Str × Addr)} {body : Expr} {tb : TE} {k : Nat}
theorem key_turn {A : Around} {f c' : Addr} {ctv pm : Value} {fs xs : List V} {ky : Nat → Int × Int} {q : Str} (L : LamSite X P c p fvs js scope params cl) (hr : Room (k + 1) A) (hA : ∀ s1 H2, Env0 X.prog X.w X.K X.mg X.base X.A X.stack s1 H2 → Env0 X.prog X.w X.K X.mg X.base A X.stack s1 H2)
    (I : Inv X pins σ H1 s') (hv : js.map (fun j => σ[j]?) = fs.map (fun v => some (some v))) (hf : s'.heap.get? f = some (PySem.W.kla_obj "<lambda>" q params body scope cl pm c' ctv)) (nf : H1 f = none) (fL : f ≠ X.env.locals) (fF : f ∉ X.fs) (hc' : H1 c' = some (CodeAt c' q))
    (hb : ∀ (f : Addr) (c' : Addr) (A' : Around) (s'' : Shared) (H'' : Hp), Room k (A'.deeper (PySem.W.envX q scope s''.heap.objs.size f (.ref c') cl)) → PE (cxLam X.prog X.w X.K X.mg X.base (p :: fvs) q scope f (.ref c') cl A' X.stack s'' H'') body tb)
    (hk : KeyRd P tb fs xs ky H1) : KeyTurn X pins σ H1 s' A f xs ky := by
  intro i x u s1 H2 hx ru J st sm
  have e0 := hA s1 H2 J.env0
  have hf1 := st.keep f _ fL fF hf nf
  have hcd : s1.heap.CodeRec (.ref c') q := (show ObjOk X.prog X.w H2 s1.heap c' (CodeAt c' q) from J.hok c' _ (sm _ _ hc')).1
  refine wpAny_call (codeAny_mono (lam_run (CX := CX0) (E := E0) hr e0 hf1 hcd L.sc (clo_of J L.sub L.has L.inj L.knd L.slots hv) ru (L.bind _ _ _ _ _ _) (hb f c' A s1 H2 (hr.deeper _)) (hk i x H2 hx (Kp.of_same sm))) fun r s2 h2 => ?_)
  cases r with
  | error e => exact h2
  | ok fl =>
    cases fl with
    | ret u => exact h2
    | next => exact h2
    | brk => exact h2
    | cont => exact h2
theorem KeyRd.kp {fs xs : List V} {ky : Nat → Int × Int} {H H1 : Hp} (h : KeyRd P tb fs xs ky H) (e : Kp P H H1) : KeyRd P tb fs xs ky H1 := fun i v H2 hx k2 => h i v H2 hx (e.trans k2)
theorem one_of {vs : List V} {R : V → Prop} (h : match vs with | [x] => R x | _ => False) : ∃ x, vs = [x] ∧ R x := by
  match vs, h with
  | [x], h => exact ⟨x, rfl, h⟩
/-- sorted(e, key=lambda p: body) -/
def SortR (K : PySem.W.Frag) (P : Addr) (lpos : Pos) (q : Str) (js : List Nat) (tb : TE) (σ : L2.St) (Q : VK) (x : V) (H1 : Hp) : Prop := ∃ a xs fs ky, x = .ref a ∧ SqL K H1 a xs ∧ xs.length < 64 ∧ js.map (fun j => σ[j]?) = fs.map (fun v => some (some v)) ∧ Tab H1 P lpos q ∧ Ord xs.length (klt ky) ∧ KeyRd P tb fs xs ky H1 ∧
  ∀ (D : Addr) (H2 : Hp) (p : Array Nat), Kp P H1 H2 → Tab H2 P lpos q → H2 D = none → Arr xs.length p → Up (klt ky) p xs.length → Q (.ref D) (upd H2 D (.lst (p.toList.map fun i => xs.getD i .non)))
def tSortK (K : PySem.W.Frag) (P : Addr) (lpos : Pos) (q : Str) (js : List Nat) (ta tb : TE) : TE := fun σ H Q => ta σ H fun x H1 => SortR K P lpos q js tb σ Q x H1
theorem pe_sortedK {e : Expr} {te : TE} {lpos kpos np pos : Pos} (hr : Room (k + 3) X.A) (hm : X.mg "sorted" = none) (he : PE X e te) (L : LamSite X P c p fvs js scope params cl)
    (hb : ∀ (f : Addr) (c' : Addr) (A' : Around) (s'' : Shared) (H'' : Hp), Room k (A'.deeper (PySem.W.envX (X.env.qual ++ "<lambda>") scope s''.heap.objs.size f (.ref c') cl)) → PE (cxLam X.prog X.w X.K X.mg X.base (p :: fvs) (X.env.qual ++ "<lambda>") scope f (.ref c') cl A' X.stack s'' H'') body tb)
    (hg : Gl X "sorted" := by rfl) (hst : starEach [e] X.env = (false, eval e X.env) :: starEach [] X.env := by rfl) :
    PE X (.Call (.Name "sorted" np) [e] [⟨some "key", .Lambda params body scope lpos, kpos⟩] pos) (tSortK X.K P lpos (X.env.qual ++ "<lambda>") js te tb) := by
  intro pins s σ H Q I h
  refine wpAny_Call_Name_kw (ld_blt I hg hm boot_sorted ?_)
  refine callWith_builtin_kwB (by rw [hst]; rfl) rfl (evalArgs_kw2 rfl ?_ hst)
  refine thn (pa_cons he pa_nil hst pos pins s σ H (fun vs H1 => match vs with | [x] => SortR X.K P lpos (X.env.qual ++ "<lambda>") js tb σ Q x H1 | _ => False) I h) fun us s1 ⟨vs, H1, I1, r1, q1⟩ => ?_
  obtain ⟨x, rfl, a, xs, fs, ky, rfl, hq, h64, hv, hT, hord, hk, q⟩ := one_of q1
  obtain ⟨u, rfl, ru⟩ := vals1 r1
  cases ru
  show wpAny _ _ (evalAll [(do let v ← eval (.Lambda params body scope lpos) X.env; standAt pos; pure v)]) _ _ s1
  refine wpAny_evalAll_cons (wpAny_bind (lam_make I1 L.hd L.bm L.code L.clos L.dfl hT fun f c' ctv pm s2 H2 I2 st2 kp2 hT2 hf nf fsz hc' => wpAny_bind (wpAny_standAt (wpAny_pure (wpAny_evalAll_nil ?_)))))
  have fL : f ≠ X.env.locals := Nat.ne_of_gt (Nat.lt_of_lt_of_le I1.lt fsz)
  have fF : f ∉ X.fs := I1.nofs fsz
  have hr1 : Room (k + 1) X.A.in1.in1 := (Room.in1 (k := k + 2) hr).in1
  exact sorted_run I2 (kp2.seq hT hq) h64 hord (key_turn L hr1 (fun s1 H2 e => e.in1.in1) I2 hv hf nf fL fF hc' hb (hk.kp kp2)) fun D H3 pp sm nD _ a u => q D H3 pp (kp2.trans (Kp.of_same sm)) (hT2.same sm) nD a u
end

/-! a comprehension -/
structure CompSite (X : Cx) (ts fvs : List Str) (js : List Nat) (scope : Scope) (cl : List (Str × Addr)) : Prop where
  sc : CompSc X ts fvs scope cl
  has : ∀ x ∈ fvs, ∃ c, cl.lookup x = some c ∧ X.env.cells.lookup x = some c
  inj : ∀ x y c, cl.lookup x = some c → cl.lookup y = some c → x = y
  knd : ∀ x ∈ fvs, X.env.kindOf x = some .cell ∨ X.env.kindOf x = some .free
  slots : js.map (fun j => X.N[j]?) = fvs.map some
section
variable {X : Cx} {ts fvs : List Str} {js : List Nat} {scope : Scope} {cl : List (Str × Addr)} {tg elt iter : Expr} {ifs : List Expr} {pos : Pos} {wi : TI} {g : TG} {tc : TT} {te : TE}
theorem pe_comp (hcalm : X.calm = true) (S : CompSite X ts fvs js scope cl) (hi : PI X tg iter wi) (hg : ∀ fp C s H, PG (cxComp X (ts ++ fvs) scope cl fp C s H) tg g) (hif : ∀ fp C s H, PIfs (cxComp X (ts ++ fvs) scope cl fp C s H) ifs tc)
    (he : ∀ fp C s H, PE (cxComp X (ts ++ fvs) scope cl fp C s H) elt te) (hs : ∀ x, foldedSetIterable iter X.env x = pure x := by intro _; rfl) :
    PE X (.ListComp elt [⟨tg, iter, ifs, 0⟩] scope pos) (tComp ts.length js wi g tc te) := by
  intro pins s σ H Q I h
  rw [eval_ListComp]
  refine wpAny_comprehension_free (use := none) rfl hs S.sc.clos S.sc.kind S.sc.names (thn (hi pins s σ H _ I h) fun xv s1 h1 => thn h1 fun itv s2 h2 => ?_)
  obtain ⟨it, fp, tn, J, H2, rfl, I2, T, st2, f2, fs, hfs, hD⟩ := h2
  obtain ⟨W, w0, hW⟩ := hD s2.heap.objs.size (I2.hok.fresh (Nat.le_refl _))
  refine comp_block (RR := fun acc C => compPost (model X.prog X.w) X.A X.xe none (EP X pins σ Q) acc C) (Q := Q) I2 hcalm S.sc (clo_of I2 S.sc.sub S.has S.inj S.knd S.slots hfs) T st2 f2 hg hif he W w0 hW fun σ' H' s' J' q => ?_
  obtain ⟨m, hn, _⟩ := J'.loc
  exact ⟨m, hn, fun h' hs' => ⟨.ref _, H', comp_back (D := s2.heap.objs.size) I2 (Nat.le_succ _) f2 J' (fun b o hb e => hs'.extBut b o hb e), rfl, q⟩⟩
end
end L3

namespace L3
open PySem PySem.Spec PyProof.Rows L2
/-! ### the head, where defs make lambdas: their code tables (tabs: code object, table) are tracked from the start -/
def TabsAre (tabs : List (Addr × Addr)) (H : Hp) : Prop := ∀ q ∈ tabs, H q.2 = some (.tbl #[])
theorem law_callT {P : Program} {w : World} {K : PySem.W.Frag} {mg mb : Str → Option Value} {CX : Heap → CXT} {k : Nat} {fa a : Addr} {nm x : Str} {sp : Sp} {s₁ : Shared} {vs : List Value} {ns : List Int} {tabs : List (Addr × Addr)}
    (KX : K.In s₁.heap) (hns : s₁.heap.Ns mainGlobals mg) (hb : s₁.heap.Ns builtinsNs mb) (hbb : ∀ x : Str, x ≠ "__name__" → mb x = bootBuiltins x) (hlim : s₁.heap.NoLimit) (hg : s₁.gens = #[])
    (ha : s₁.heap.get? a = some { cls := .type "list", data := .seq vs.toArray }) (hi : IntsAre vs ns) (hl : ns.length ≤ sizeLine) (hr : Room k callerA)
    (hT : PySem.W.TabsAt tabs s₁.heap) (hK : PySem.W.noTabs K = true) (hbm : BMod mg s₁.heap)
    (F : ∀ base : Heap, K.In base → base.Ns mainGlobals mg → BMod mg base → (∀ q ∈ tabs, PySem.W.CodeHd base q.1 q.2) → Fu P w K mg base (CX base) k nm [x] sp) (hmg : mg nm = some (.ref fa))
    (hsp : ∀ H : Hp, SqL K H a (ns.map V.int) → TabsAre tabs H → sp [.ref a] H (fun v _ => v = .bl true) fun _ _ _ => False)
    (hCX : ∀ base H e s', CX base [] H s₁ (fun _ _ _ => False) e s' → False) :
    codeAny (model P w) callerA (.call (.ref fa) ⟨[.ref a], []⟩) (fun r s' => r = .ok (.ret (.bool true)) ∧ OldK s₁.heap s'.heap ∧ s'.os = s₁.os ∧ AllBare s'.gens) s₁ := by
  have rv := vals_ints hi
  have lenV := hi.length
  have aT : a ∉ tabs.map (·.2) := fun z => by
    obtain ⟨q, hq, e⟩ := List.mem_map.mp z
    have := (hT q hq).2
    rw [e, ha] at this
    cases this
  -- what is tracked: the tables, and the script where the module does not hold it
  have core : ∀ H : Hp, (∀ b, b ∈ tabs.map (·.2) → H b = some (.tbl #[])) → (∀ b, b ∉ tabs.map (·.2) → H b = none ∨ (b = a ∧ K.lookup a = none ∧ H b = some (.frz { cls := .type "list", data := .seq vs.toArray } (.lst (ns.map V.int))))) → SqL K H a (ns.map V.int) →
      codeAny (model P w) callerA (.call (.ref fa) ⟨[.ref a], []⟩) (fun r s' => r = .ok (.ret (.bool true)) ∧ OldK s₁.heap s'.heap ∧ s'.os = s₁.os ∧ AllBare s'.gens) s₁ := by
    intro H h1 h2 hS
    have hok : HOk P w H s₁.heap := fun b u e => by
      by_cases hbt : b ∈ tabs.map (·.2)
      · rw [h1 b hbt] at e; cases e
        obtain ⟨q, hq, rfl⟩ := List.mem_map.mp hbt
        exact (hT q hq).2
      · rcases h2 b hbt with z | ⟨rfl, _, z⟩
        · rw [z] at e; cases e
        · rw [z] at e; cases e
          exact ⟨ha, by rw [List.length_map]; exact hl, vs, _, rv, ha⟩
    have free : ∀ {b : Addr} {o : Obj}, s₁.heap.get? b = some o → o ≠ PySem.W.tabObj #[] → (∀ its n, o.data = .seq its n → b = a → K.lookup a ≠ none) → H b = none := fun {b o} e nt ns' => by
      by_cases hbt : b ∈ tabs.map (·.2)
      · obtain ⟨q, hq, e2⟩ := List.mem_map.mp hbt
        have := (hT q hq).2
        rw [e2, e] at this
        exact absurd (Option.some.inj this) nt
      · rcases h2 b hbt with z | ⟨eb, ek, z⟩
        · exact z
        · subst eb
          rw [ha] at e; cases e
          exact absurd ek (ns' _ _ rfl rfl)
    have nsK : ∀ {b : Addr} {m : Str → Option Value}, s₁.heap.Ns b m → (hidT s₁.heap H).Ns b m := fun {b m} ⟨o, es, ep, e, d, r⟩ =>
      ⟨o, es, ep, hidT_get e (free e (fun z => by rw [z] at d; cases d) fun its n q _ => by rw [d] at q; cases q), d, r⟩
    have hKb : K.In (hidT s₁.heap H) := fun b o e => hidT_get (KX b o e) (free (KX b o e) (fun z => by
      have q := List.all_eq_true.mp hK (b, o) (PySem.W.mem_of_lookupK e)
      subst z
      exact absurd (show false = true from q) Bool.false_ne_true) fun its n _ eb z => by rw [eb, z] at e; cases e)
    have hbm' : BMod mg (hidT s₁.heap H) := by
      obtain ⟨bm, ob, b1, b2, b3, b4, b5, b6⟩ := hbm
      exact ⟨bm, ob, b1, b2, hidT_get b3 (free b3 (fun z => by rw [z] at b4; cases b4) fun its n q _ => by rw [b6] at q; cases q), b4, b5, b6⟩
    have hcd : ∀ q ∈ tabs, PySem.W.CodeHd (hidT s₁.heap H) q.1 q.2 := fun q hq => by
      obtain ⟨o, vs', file, tf, flags, tg, inF, text, tt, e1, r1, r2, r⟩ := (hT q hq).1
      exact ⟨o, vs', file, tf, flags, tg, inF, text, tt, hidT_get e1 (free e1 (fun z => by rw [z] at r1; cases r1) fun its n q' _ => by rw [r2] at q'; cases q'), r1, r2, r⟩
    have hM : Mod K mg (hidT s₁.heap H) := ⟨hKb, nsK hns, ⟨mb, nsK hb, hbb⟩, let ⟨mc, h1, h2⟩ := hlim; ⟨mc, nsK h1, h2⟩⟩
    have e0 : Env0 P w K mg (hidT s₁.heap H) callerA [] s₁ H := ⟨rfl, hM, fun b o e => of_hidT e, Nat.le_of_eq (hidT_size _ _), trivial, fun b hb => absurd (show b ∈ ([] : List Addr) from hb) (by simp), hok, .of_eq hg⟩
    obtain ⟨f, fd, FF, hm, _, hbn⟩ := (F _ hKb (nsK hns) hbm' hcd).ex
    rw [hmg] at hm
    cases hm
    refine codeAny_mono (FF.run callerA [] s₁ H ⟨[.ref a], []⟩ [.ref a] [.ref a] _ _ hr e0 (hbn s₁ [.ref a] KX rfl) (.cons rfl .nil) (hsp H hS fun q hq => h1 _ (List.mem_map_of_mem hq))) fun r s' h => ?_
    cases r with
    | error e => exact (hCX _ H e s' h).elim
    | ok fl =>
      cases fl with
      | next => exact False.elim h
      | brk => exact False.elim h
      | cont => exact False.elim h
      | ret u =>
        obtain ⟨v, H', os, bare, un, hok', r', q⟩ := h
        have q' : v = .bl true := q
        subst q'
        obtain rfl : u = Value.bool true := r'
        have tb : ∀ b, b ∈ tabs.map (·.2) → ∃ ps, s'.heap.get? b = some (PySem.W.tabObj ps) := fun b hbt => by
          obtain ⟨more, e⟩ := un.tbls b _ (h1 b hbt)
          exact ⟨_, hok' b _ e⟩
        have kp : ∀ b o, b ∉ tabs.map (·.2) → s₁.heap.get? b = some o → s'.heap.get? b = some o := fun b o hbt e => by
          rcases h2 b hbt with z | ⟨rfl, _, z⟩
          · exact un.keep b o e z (by intro z; exact absurd (show b ∈ ([] : List Addr) from z) (by simp)) (by simp)
          · obtain ⟨e1, _⟩ := hok b _ z
            obtain ⟨e2, _⟩ := hok' b _ (un.frzs b _ _ z)
            rw [e] at e1; cases e1
            exact e2
        refine ⟨rfl, ⟨fun b o e => ?_, fun b o e => ?_⟩, os, bare⟩
        · by_cases hbt : b ∈ tabs.map (·.2)
          · obtain ⟨ps, hp⟩ := tb b hbt
            obtain ⟨q, hq, rfl⟩ := List.mem_map.mp hbt
            have e2 := (hT q hq).2
            rw [e] at e2; cases e2
            exact .inr (.inl ⟨((hT q hq).1.tab (hT q hq).2).isCodeTable, rfl, #[], ps, rfl, by rw [Array.empty_append]; exact hp⟩)
          · exact .inl (kp b o hbt e)
        · by_cases hbt : b ∈ tabs.map (·.2)
          · obtain ⟨ps, hp⟩ := tb b hbt
            exact ⟨_, hp⟩
          · exact ⟨o, kp b o hbt e⟩
  cases hk : K.lookup a with
  | some o =>
    have e := KX a o hk
    rw [ha] at e
    cases e
    refine core (fun b => if b ∈ tabs.map (·.2) then some (.tbl #[]) else none) (fun b hbt => if_pos hbt) (fun b hbt => .inl (if_neg hbt)) (.inr ⟨_, vs.toArray, _, hk, rfl, rfl, rfl, by rw [List.size_toArray, lenV]; exact hl, by simpa using rv⟩)
  | none =>
    refine core (fun b => if b ∈ tabs.map (·.2) then some (.tbl #[]) else if b = a then some (.frz { cls := .type "list", data := .seq vs.toArray } (.lst (ns.map V.int))) else none) (fun b hbt => if_pos hbt) (fun b hbt => ?_)
      (.inl (.inr ⟨{ cls := .type "list", data := .seq vs.toArray }, by dsimp only; rw [if_neg aT, if_pos rfl]⟩))
    by_cases hba : b = a
    · exact .inr ⟨hba, hk, by rw [if_neg hbt, if_pos hba]⟩
    · exact .inl (by rw [if_neg hbt, if_neg hba])
/-- the goal that k_head leaves, where defs make lambdas -/
theorem walk_ofT {l : PySem.W.OpenLaw} {n k : Nat} {q : Program} {loose : List Str} {XP : (Str → Option Value) → Heap → Prop} {YP : World → Heap → Prop} {d : DefRec} {K : Params → PySem.W.Frag} {CX : World → Heap → CXT} {sp : PySem.W.Frag → Sp} {x : Str} {tabs : List (Addr × Addr)}
    (hn : l.most = some n) (hn2 : n ≤ sizeLine) (hdf : d.params.defaults = []) (hr : Room k callerA)
    (hY : ∀ (w : World) (h : Heap), YP w h → (K w.params).In h) (hT : ∀ (w : World) (h : Heap), YP w h → PySem.W.TabsAt tabs h) (hK : ∀ p : Params, PySem.W.noTabs (K p) = true)
    (F : ∀ (w : World) (mg : Str → Option Value) (h : Heap), (K w.params).In h → h.Ns mainGlobals mg → ∀ base : Heap, (K w.params).In base → base.Ns mainGlobals mg → BMod mg base → (∀ q ∈ tabs, PySem.W.CodeHd base q.1 q.2) →
      Fu l.prog w (K w.params) mg base (CX w base) k d.name [x] (sp (K w.params)))
    (hsp : ∀ (K : PySem.W.Frag) (H : Hp) (a : Addr) (ns : List Int), ns.length ≤ n → SqL K H a (ns.map V.int) → TabsAre tabs H → sp K [.ref a] H (fun v _ => v = .bl true) fun _ _ _ => False)
    (hCX : ∀ (w : World) (base : Heap) (H : Hp) (s : Shared) (e : Value) (s' : Shared), CX w base [] H s (fun _ _ _ => False) e s' → False) :
    PySem.W.WalkO q loose XP YP l.row.toRowW d [] (fun f vs => PySem.call f vs) := by
  refine Att.attach_call hn hdf fun w s₀ s₁ mg mb fa o pm cd doc a vs ns G Y ho hd hcd hmg hobj hints hlen hg => ?_
  have KX := hY w _ Y
  exact law_callT (CX := CX w) KX G.T.g G.T.b G.T.builtins G.T.nolimit hg hobj hints (Nat.le_trans hlen hn2) hr (hT w _ Y) (hK _) G.T.bmain (F w mg _ KX G.T.g) hmg (fun H hS hT' => hsp _ H a ns hlen hS hT') fun base H e s' => hCX w base H s₁ e s'
/-! the facts of one def, as k_is finds them -/
end L3

namespace L3
open PySem PySem.Spec PyProof.Rows L2
/-! ### a def of the module, by its place -/
structure Def (K : PySem.W.Frag) (mg : Str → Option Value) (x : Str) (st : Stmt) (ps : List Str) : Prop where
  ex : ∃ f fd, Fun K x x st f fd ∧ mg x = some (.ref f) ∧ Binds K fd ps []
/-- .. whose code object is at c -/
structure DefC (K : PySem.W.Frag) (mg : Str → Option Value) (x : Str) (st : Stmt) (ps : List Str) (c : Addr) : Prop where
  ex : ∃ (f : Addr) (oc : Value) (od an : Option Addr) (osl : Array (Option Value)) (kV doc pm ct : Value), K.lookup f = some ⟨oc, od, .func (PySem.W.fnOf x x (defArgs st) (defBody st) (defScope st) .none kV doc pm an (.ref c) ct), osl⟩ ∧
    PySem.W.codeIn K (.ref c) x = true ∧ PySem.W.keepIn K (.ref f) = true ∧ mg x = some (.ref f) ∧ Binds K (PySem.W.fnOf x x (defArgs st) (defBody st) (defScope st) .none kV doc pm an (.ref c) ct) ps []
section
variable {P : Program} {w : World} {K : PySem.W.Frag} {mg : Str → Option Value} {base : Heap} {x : Str} {st : Stmt} {N ps : List Str} {k : Nat} {sp : Sp}
theorem Def.fu (D : Def K mg x st ps) (S : FnScope N ps (defScope st)) (len : ∀ vs H Q E, sp vs H Q E → vs.length = ps.length)
    (hbody : ∀ (f : Addr) (cdv : Value) (A : Around) (outer : List Env) (s : Shared) (H : Hp) (vs : List V) (Q : VK) (E : XK), Room k (A.deeper (envOfC x (defScope st) s.heap.objs.size f cdv)) → sp vs H Q E →
      ∃ t, PSs (cxOf CX0 P w K mg base N x (defScope st) f cdv A outer s H E).nox (defBody st) t ∧ t { nx := fun _ H' => Q .non H', rt := Q } (start N vs) H) : Fu P w K mg base CX0 (k + 1) x ps sp := by
  obtain ⟨f, fd, F, hm, hb⟩ := D.ex
  exact ⟨f, fd, F.ok S len fun cdv A outer s H vs Q E hr h => hbody f cdv A outer s H vs Q E hr h, hm, F.kp, hb⟩
theorem DefC.fu {c : Addr} (D : DefC K mg x st ps c) (S : FnScope N ps (defScope st)) (len : ∀ vs H Q E, sp vs H Q E → vs.length = ps.length)
    (hbody : ∀ (f : Addr) (A : Around) (outer : List Env) (s : Shared) (H : Hp) (vs : List V) (Q : VK) (E : XK), Room k (A.deeper (envOfC x (defScope st) s.heap.objs.size f (.ref c))) → sp vs H Q E →
      ∃ t, PSs (cxOf CX0 P w K mg base N x (defScope st) f (.ref c) A outer s H E).nox (defBody st) t ∧ t { nx := fun _ H' => Q .non H', rt := Q } (start N vs) H) : Fu P w K mg base CX0 (k + 1) x ps sp := by
  obtain ⟨f, oc, od, an, osl, kV, doc, pm, ct, lk, hcd, hk, hm, hb⟩ := D.ex
  refine ⟨f, _, fn_of lk hcd S len fun A outer s H vs Q E hr hsp => ?_, hm, hk, hb⟩
  obtain ⟨t, h, q⟩ := hbody f A outer s H vs Q E hr hsp
  exact ⟨t, h.nox, q⟩
end
/-! ### a def, of what the top has written -/
theorem Def.of {K : PySem.W.Frag} {mg : Str → Option Value} {h : Heap} {x : Str} {st : Stmt} {ps : List Str} {f : Addr} {oc : Value} {od an : Option Addr} {osl : Array (Option Value)} {kV doc pm cdv ct : Value} (X : K.In h) (G : h.Ns mainGlobals mg)
    (b : ∀ (kV doc pm : Value) (an : Option Addr) (cdv ct : Value) (us : List Value), us.length = ps.length → bindArgs (PySem.W.fnOf x x (defArgs st) (defBody st) (defScope st) .none kV doc pm an cdv ct) ⟨us, []⟩ = pure (ps.zip us))
    (a : PySem.W.nsIn K mainGlobals x = some (some (.ref f))) (l : K.lookup f = some ⟨oc, od, .func (PySem.W.fnOf x x (defArgs st) (defBody st) (defScope st) .none kV doc pm an cdv ct), osl⟩)
    (c : PySem.W.codeIn K cdv x = true) (k : PySem.W.keepIn K (.ref f) = true) : Def K mg x st ps :=
  ⟨f, _, fun_mk (st := st) l c k, PySem.W.mg_of X G a, (fun_mk (st := st) l c k).binds b⟩
theorem DefC.of {K : PySem.W.Frag} {mg : Str → Option Value} {h : Heap} {x : Str} {st : Stmt} {ps : List Str} {f cd : Addr} {oc : Value} {od an : Option Addr} {osl : Array (Option Value)} {kV doc pm ct : Value} (X : K.In h) (G : h.Ns mainGlobals mg)
    (b : ∀ (kV doc pm : Value) (an : Option Addr) (cdv ct : Value) (us : List Value), us.length = ps.length → bindArgs (PySem.W.fnOf x x (defArgs st) (defBody st) (defScope st) .none kV doc pm an cdv ct) ⟨us, []⟩ = pure (ps.zip us))
    (a : PySem.W.nsIn K mainGlobals x = some (some (.ref f))) (l : K.lookup f = some ⟨oc, od, .func (PySem.W.fnOf x x (defArgs st) (defBody st) (defScope st) .none kV doc pm an (.ref cd) ct), osl⟩)
    (c : PySem.W.codeIn K (.ref cd) x = true) (k : PySem.W.keepIn K (.ref f) = true) : DefC K mg x st ps cd :=
  ⟨f, oc, od, an, osl, kV, doc, pm, ct, l, c, k, PySem.W.mg_of X G a, (fun_mk (st := st) l c k).binds b⟩
/-! ### short words for builtins -/
theorem boot_int' : bootBuiltins "int" = some (.type "int") := by decide +kernel
theorem boot_bool' : bootBuiltins "bool" = some (.type "bool") := by decide +kernel
theorem boot_list' : bootBuiltins "list" = some (.type "list") := by decide +kernel
theorem boot_tuple' : bootBuiltins "tuple" = some (.type "tuple") := by decide +kernel
section
variable {X : Cx} {a e : Expr} {es : List Expr} {ta : TE} {t : TA} {p pos : Pos}
theorem p_len (hm : X.mg "len" = none) (ha : PE X a ta) (hg : Gl X "len" := by rfl) (hst : starEach [a] X.env = (false, eval a X.env) :: starEach [] X.env := by rfl) : PE X (.Call (.Name "len" p) [a] [] pos) (tCB (fun xs H Q => ∃ p ys, xs = [.ref p] ∧ (SqL X.K H p ys ∨ SqT X.K H p ys) ∧ Q (.int ys.length) H) (tCons ta tNil)) :=
  pe_callB call_len_seq hg hm PySem.boot_len (pa_cons ha pa_nil hst) (he := hst)
theorem p_list (hm : X.mg "list" = none) (ha : PE X a ta) (hg : Gl X "list" := by rfl) (hst : starEach [a] X.env = (false, eval a X.env) :: starEach [] X.env := by rfl) : PE X (.Call (.Name "list" p) [a] [] pos) (tCB (fun xs H Q => ∃ p ys, xs = [.ref p] ∧ (SqL X.K H p ys ∨ SqT X.K H p ys) ∧ ∀ l, H l = none → Q (.ref l) (upd H l (.lst ys))) (tCons ta tNil)) :=
  pe_callTy call_list_of hg hm boot_list' (pa_cons ha pa_nil hst) (he := hst)
/-- isinstance(a, T), T a builtin type's name -/
theorem p_isi {T : Str} {n : String} {q : Pos} (hm : X.mg "isinstance" = none) (hmT : X.mg T = none) (hv : bootBuiltins T = some (.type n)) (ha : PE X a ta) (hg : Gl X "isinstance" := by rfl) (hgT : Gl X T := by rfl) (hn : T ≠ "__name__" := by decide) (hd : (T == ("__debug__" : Str)) = false := by decide)
    (hst : starEach [a, .Name T q] X.env = (false, eval a X.env) :: starEach [.Name T q] X.env := by rfl) (hst2 : starEach [.Name T q] X.env = (false, eval (.Name T q) X.env) :: starEach [] X.env := by rfl) :
    PE X (.Call (.Name "isinstance" p) [a, .Name T q] [] pos) (tCB (rIsi X.K) (tCons ta (tCons (tC (.ty n)) tNil))) :=
  pe_callB call_isi hg hm boot_isinstance (pa_cons ha (pa_cons (pe_bltn hgT hmT hv rfl hn hd) pa_nil hst2) hst) (he := hst) (hpl := by rw [hst2]; rfl)
end
/-- a list of ints that is read -/
abbrev LI (K : PySem.W.Frag) (H : Hp) (a : Addr) (ns : List Int) : Prop := SqL K H a (ns.map V.int)
theorem LI.of {K : PySem.W.Frag} {H : Hp} {a : Addr} {ns : List Int} (h : H a = some (.lst (ns.map V.int))) : LI K H a ns := SqL.of h
theorem atI_int {ns : List Int} {i : Int} (h0 : 0 ≤ i) (h1 : i < ns.length) : atI (ns.map V.int) i = some (.int (ns.getD i.toNat 0)) := by
  have hi : i.toNat < ns.length := by omega
  have := atI_nat (xs := ns.map V.int) (j := i.toNat) (v := .int (ns.getD i.toNat 0)) (by rw [List.getElem?_map, List.getElem?_eq_getElem hi]; simp [List.getD, hi])
  rwa [Int.toNat_of_nonneg h0] at this
/-- a place from the end -/
theorem atI_neg {ns : List Int} {i : Int} (h0 : i < 0) (h1 : 0 ≤ i + ns.length) : atI (ns.map V.int) i = some (.int (ns.getD (i + ns.length).toNat 0)) := by
  have hi : (i + ns.length).toNat < ns.length := by omega
  unfold atI ixN
  rw [if_neg (by omega), List.length_map, if_pos (by omega)]
  show (ns.map V.int)[(i + ns.length).toNat]? = _
  rw [List.getElem?_map, List.getElem?_eq_getElem hi]
  simp [List.getD, hi]
/-- a new object next to what is there -/
theorem Same.new {H : Hp} {p : Addr} {o : HO} (h : H p = none) : Same H (upd H p o) := fun b u e => by rw [upd_ne (ne_of_none e h)]; exact e
theorem SqL.new {K : PySem.W.Frag} {H : Hp} {p : Addr} {xs : List V} : SqL K (upd H p (.lst xs)) p xs := SqL.of upd_same
end L3

namespace L3
open PySem PySem.Spec PyProof.Rows L2
/-! ### exceptions of own classes: raised, passed on -/
theorem there_of {P : Program} {w : World} {H : Hp} {h : Heap} {b : Addr} {u : HO} (x : ObjOk P w H h b u) : ∃ o, h.get? b = some o := by
  cases u with
  | lst xs => obtain ⟨_, _, _, _, e⟩ := x; exact ⟨_, e⟩
  | tup xs => obtain ⟨_, _, _, o, e, _⟩ := x; exact ⟨_, e⟩
  | dK kvs => obtain ⟨_, _, _, _, o, _, _, e, _⟩ := x; exact ⟨_, e⟩
  | dT kvs => obtain ⟨_, _, _, _, o, _, _, e, _⟩ := x; exact ⟨_, e⟩
  | set S n => obtain ⟨o, _, _, _, e, _⟩ := x; exact ⟨_, e⟩
  | ins C dx fs => obtain ⟨_, _, _, e, _⟩ := x; exact ⟨_, e⟩
  | own y => exact x
  | xd fs => obtain ⟨_, ⟨_, _, _, e, _⟩, _⟩ := x; exact ⟨_, e⟩
  | rng lo hi => obtain ⟨_, _, _, e⟩ := x; exact ⟨_, e⟩
  | frz o u => exact ⟨_, x.1⟩
  | tbl ps => exact ⟨_, x⟩
  | met f y => exact ⟨_, x⟩
  | ext φ => exact x.2.1
theorem HOk.there {P : Program} {w : World} {H : Hp} {h : Heap} (ok : HOk P w H h) {b : Addr} (hb : H b ≠ none) : ∃ o, h.get? b = some o := by
  cases e : H b with
  | none => exact absurd e hb
  | some u => exact there_of (ok b u e)
/-- an exception at a, of the class at C, leaves a call; B: what stands while it flies -/
structure Fly (P : Program) (w : World) (outer : List Env) (H H' : Hp) (s s' : Shared) (a C : Addr) (B : Heap) : Prop where
  os : s'.os = s.os
  bare : AllBare s'.gens
  un : Un (frs outer) [] H H' s.heap s'.heap
  hok : HOk P w H' s'.heap
  new : s.heap.get? a = none
  nt : H' a = none
  fly : ∃ a0, Heap.FlyingW B outer a (.ref C) a0 s'.heap
  cov : ∀ b o, s'.heap.get? b = some o → (H' b ≠ none ∨ ∃ o', s.heap.get? b = some o') → b ∉ frs outer → B.get? b = some o
def CX1 (P : Program) (w : World) : CXT := fun outer H s E e s' => ∃ (a C : Addr) (B : Heap) (H' : Hp), e = .ref a ∧ Fly P w outer H H' s s' a C B ∧ E (.ref C) none H'
section
variable {X : Cx} {pins : List (Addr × Obj)} {σ : L2.St} {H H' : Hp} {s s' : Shared} {a C : Addr} {B : Heap} {h' : Heap} {a0 : Value}
/-- out of the frame: what the frame's own caller sees -/
theorem Fly.out (I : Inv X pins σ H' s') (hex : X.ex = []) (hst : X.stack = X.env :: X.outer) (hfr : X.env.frame = some X.env.locals) (new : X.s₀.heap.get? a = none) (nt : H' a = none)
    (cov : ∀ b o, s'.heap.get? b = some o → (H' b ≠ none ∨ ∃ o', X.s₀.heap.get? b = some o') → b ∉ frs X.stack → B.get? b = some o)
    (fl : Heap.FlyingW B X.outer a (.ref C) a0 h') (up : s'.heap.UpToSlots h') : Fly X.prog X.w X.outer X.H₀ H' X.s₀ { s' with heap := h' } a C B := by
  have frs_eq : frs X.stack = X.env.locals :: frs X.outer := by rw [hst]; unfold frs; rw [List.filterMap_cons, hfr]
  have nst : ∀ b o, X.s₀.heap.get? b = some o → b ∉ frs X.outer → b ∉ frs X.stack := fun b o e hb z => by
    rw [frs_eq] at z
    rcases List.mem_cons.mp z with z | z
    · rw [z] at e
      exact absurd (Nat.lt_of_lt_of_le (Heap.lt_size e) I.ok.above) (Nat.lt_irrefl _)
    · exact hb z
  have nx : ∀ b, b ∉ X.ex := fun b z => by rw [hex] at z; cases z
  have tr : ∀ b, H' b ≠ none → b ∉ frs X.stack := fun b hb z => hb (I.stkFree b z)
  have slot : ∀ b o, X.s₀.heap.get? b = some o → b ∈ frs X.outer → ∃ sl, h'.get? b = some { o with slots := sl } := fun b o e hb => by
    obtain ⟨sl, e1⟩ := I.base.slot b o e (I.ok.frf b hb) hb (nx b)
    obtain ⟨_, o', ho', hd⟩ := I.ok.funs.mem hb
    rw [e] at ho'
    cases ho'
    obtain ⟨sl2, q⟩ := up b { o with slots := sl } e1 hd
    exact ⟨sl2, q⟩
  refine ⟨I.os, I.bare, ⟨fun b o e n h1 _ => ?_, fun b o e n h1 _ => slot b o e h1, fun b o e n _ => I.base.free b o e n (nx b), fun b o e _ => ?_, I.base.tups, I.base.frzs, I.base.tbls⟩, HOk.but I.hok fun b o hb e => fl.1 b o (cov b o e (.inl hb) (tr b hb)), new, nt, ⟨a0, fl⟩, fun b o e hb n => ?_⟩
  · exact fl.1 b o (cov b o (I.base.keep b o e n h1 (nx b)) (.inr ⟨o, e⟩) (nst b o e h1))
  · by_cases hb : b ∈ frs X.outer
    · obtain ⟨sl, q⟩ := slot b o e hb
      exact ⟨_, q⟩
    · obtain ⟨o', e1⟩ := I.base.there b o e (nx b)
      exact ⟨o', fl.1 b o' (cov b o' e1 (.inr ⟨o, e⟩) (nst b o e hb))⟩
  · have hb' : b ∉ frs X.stack ∧ ∃ o1, s'.heap.get? b = some o1 := by
      rcases hb with hb | ⟨o', e'⟩
      · exact ⟨tr b hb, HOk.there I.hok hb⟩
      · exact ⟨nst b o' e' n, I.base.there b o' e' (nx b)⟩
    obtain ⟨n', o1, e1⟩ := hb'
    have q := cov b o1 e1 hb n'
    have z := fl.1 b o1 q
    have e' : h'.get? b = some o := e
    rw [z] at e'
    cases e'
    exact q
end
section
variable {P : Program} {w : World} {K : PySem.W.Frag} {mg : Str → Option Value} {base : Heap} {N : List Str} {qual : Str} {scope : Scope} {f : Addr} {cd : Value} {A : Around} {outer : List Env} {s₀ : Shared} {H₀ : Hp} {E : XK}
/-- a call's exception goes on -/
theorem pass1 : Passes (CX1 P w) (cxOf (CX1 P w) P w K mg base N qual scope f cd A outer s₀ H₀ E) E := by
  intro pins σ H s e s' I h
  obtain ⟨a, C, B, H', rfl, F, q⟩ := h
  have I' : Inv (cxOf (CX1 P w) P w K mg base N qual scope f cd A outer s₀ H₀ E) pins σ H' s' := I.call' F.os F.un F.hok F.bare fun b hb => absurd hb (by simp)
  obtain ⟨a0, fl⟩ := F.fly
  have there : ∀ b o, s₀.heap.get? b = some o → ∃ o', s.heap.get? b = some o' := fun b o e => I.base.there b o e fun z => absurd (show b ∈ ([] : List Addr) from z) (by simp)
  refine wpAny_leaves_onW I.ok.frames rfl fl fun h' fl' up => ⟨a, C, B, H', rfl, Fly.out I' rfl rfl rfl ?_ F.nt (fun b o e hb n => F.cov b o e (hb.imp id fun ⟨o', e'⟩ => there b o' e') n) fl' up, q⟩
  cases z : s₀.heap.get? a with
  | none => exact z
  | some o =>
    obtain ⟨o', e⟩ := there a o z
    rw [F.new] at e
    cases e
end
/-! ### raise C(e, ..), C an own class whose __init__ is the built-in one -/
/-- the class at C, as the top has written it -/
structure ExcC (K : PySem.W.Frag) (mg : Str → Option Value) (x : Str) (C : Addr) : Prop where
  bound : mg x = some (.ref C)
  keep : PySem.W.keepIn K (.ref C) = true
  cls : PySem.W.excIn K C [.type "ValueError", .type "Exception", .type "BaseException", .type "object"] "ValueError.__new__" = true
theorem ExcC.own {K : PySem.W.Frag} {mg : Str → Option Value} {x : Str} {C : Addr} {h : Heap} (D : ExcC K mg x C) (X : K.In h) : OwnCls x C [.type "ValueError", .type "Exception", .type "BaseException", .type "object"] "ValueError.__new__" mg h := by
  refine ⟨D.bound, ?_⟩
  have q := D.cls
  unfold PySem.W.excIn at q
  split at q
  case h_2 => cases q
  case h_1 dd cd sl ho =>
    split at q
    case h_2 => cases q
    case h_1 C' bm k0 k1 k2 k3 n k5 hm hs =>
      obtain ⟨l⟩ := sl
      obtain ⟨nm, bs, mro, ns, qn, hd, sn, sub, ab, col, del⟩ := cd
      have hs' : l = [k0, k1, k2, k3, some (.builtin n), k5] := hs
      have hm' : mro = .ref C' :: bm := hm
      subst hs' hm'
      rw [Bool.and_eq_true, Bool.and_eq_true, Bool.and_eq_true, Bool.and_eq_true, Bool.and_eq_true] at q
      obtain ⟨⟨⟨⟨⟨q1, q2⟩, q3⟩, q4⟩, q5⟩, q6⟩ := q
      have e1 : C' = C := beq_iff_eq.mp q1
      have e2 : n = "ValueError.__new__" := beq_iff_eq.mp q2
      have e3 : del = false := by simpa using q3
      subst e1 e2 e3
      exact ⟨bm, ns, nm, qn, bs, hd, sn, sub, ab, col, dd, k0, k1, k2, k3, k5, _, X _ _ ho, .of_isNs (PySem.W.isNs_of_in X q5), PySem.W.nsMap_none_of_in X q5 (beq_iff_eq.mp q6), PySem.W.tail_of_in X q4⟩
section
variable {P : Program} {w : World} {K : PySem.W.Frag} {mg : Str → Option Value} {base : Heap} {N : List Str} {qual : Str} {scope : Scope} {f : Addr} {cd : Value} {A : Around} {outer : List Env} {s₀ : Shared} {H₀ : Hp} {E : XK} {x : Str} {C : Addr} {e : Expr} {es : List Expr} {t : TA} {p pos cpos : Pos}
def tRaise (E : XK) (C : Addr) (t : TA) : TS := fun _ σ H => t σ H fun vs H1 => vs.length ≤ sizeLine ∧ E (.ref C) none H1
theorem ps_raise (D : ExcC K mg x C) (hh : (A.deeper (envOfC qual scope s₀.heap.objs.size f cd)).handled = none) (ha : PA (cxOf (CX1 P w) P w K mg base N qual scope f cd A outer s₀ H₀ E) (e :: es) t) (hg : Gl (cxOf (CX1 P w) P w K mg base N qual scope f cd A outer s₀ H₀ E) x := by rfl) (hdb : (x == ("__debug__" : Str)) = false := by decide)
    (he : starEach (e :: es) (cxOf (CX1 P w) P w K mg base N qual scope f cd A outer s₀ H₀ E).env = (false, eval e (cxOf (CX1 P w) P w K mg base N qual scope f cd A outer s₀ H₀ E).env) :: starEach es (cxOf (CX1 P w) P w K mg base N qual scope f cd A outer s₀ H₀ E).env := by rfl)
    (hpl : (backTo cpos (starEach es (cxOf (CX1 P w) P w K mg base N qual scope f cd A outer s₀ H₀ E).env)).any (·.1) = false := by rfl) :
    PS (cxOf (CX1 P w) P w K mg base N qual scope f cd A outer s₀ H₀ E) (.Raise (some (.Call (.Name x p) (e :: es) [] cpos)) none pos) (tRaise E C t) := by
  intro pins s σ H Dn I h
  obtain ⟨bm, N', nm, q, bs, hdct, sn, sub, ab, col, dd, k0, k1, k2, k3, k5, mN, hC, hN, hni, T⟩ := (D.own I.ok.mod.kin).obj
  refine wpAny_Raise_call_subT (C := C) (nm := nm) (q := q) (N := N') (bs := bs) (bm := bm) (hdct := hdct) (sn := sn) (sub := sub) (ab := ab) (col := col) (dd := dd) (k0 := k0) (k1 := k1) (k2 := k2) (k3 := k3) (k5 := k5)
    PySem.F.excBase_ValueError (mN := mN) (T.hasType PySem.F.excBase_ValueError.hasBase) hh (by rw [he]; show (false || (backTo cpos (starEach es _)).any (·.1)) = false; rw [hpl]; rfl) hni (ld_glob I hg D.bound ⟨rfl, ?_⟩ hdb)
  have hs := ha cpos pins s σ H _ I h
  rw [he] at hs ⊢
  refine Calls.evalArgs_plain (wpAny_mono hs (fun us s1 ⟨vs, H1, I1, r1, z, q1⟩ => ⟨rfl, by show us.length ≤ _; rw [← r1.length]; exact z, I1.bk _ _ hC, hN.keeps I1.bk, T.keeps I1.bk, fun h' e' hm => ?_⟩) fun _ _ y => y)
  have hin : ∀ env ∈ (envOfC qual scope s₀.heap.objs.size f cd :: outer), ∀ b, env.frame = some b → b ∈ frs (envOfC qual scope s₀.heap.objs.size f cd :: outer) := fun env he b hb => List.mem_filterMap.mpr ⟨env, he, hb⟩
  have nx : ∀ b, b ∉ ([] : List Addr) := fun b z => by cases z
  have new : H1 e' = none := by
    cases z : H1 e' with
    | none => rfl
    | some u =>
      obtain ⟨o, q⟩ := there_of (I1.hok _ _ z)
      rw [hm.new] at q
      cases q
  have I2 : Inv (cxOf (CX1 P w) P w K mg base N qual scope f cd A outer s₀ H₀ E) pins σ H1 { s1 with heap := h' } := I1.kept (t' := s1.toks) hm.keeps
  show wpAny _ _ (leaving (envOfC qual scope s₀.heap.objs.size f cd) (.ref e')) _ _ { s1 with heap := h' }
  refine wpAny_leaves_madeW (base := PySem.W.hideAll s1.heap (frs (envOfC qual scope s₀.heap.objs.size f cd :: outer))) (h := s1.heap) I.ok.frames rfl (fun b o q => PySem.W.of_hideAll _ q) (PySem.W.funFrames_hide I1.stack hin) hm fun h2 t x1 x2 x3 x4 => ?_
  refine ⟨e', C, _, H1, rfl, Fly.out (a0 := .ref t) I2 rfl rfl rfl ?_ new (fun b o e1 hb n => ?_) x1 x4, q1⟩
  · cases z : s₀.heap.get? e' with
    | none => exact z
    | some o =>
      obtain ⟨o', q⟩ := I1.base.there e' o z (nx e')
      rw [hm.new] at q
      cases q
  · have q : ∃ o1, s1.heap.get? b = some o1 := by
      rcases hb with hb | ⟨o', e2⟩
      · exact HOk.there I1.hok hb
      · exact I1.base.there b o' e2 (nx b)
    obtain ⟨o1, q⟩ := q
    have q2 := hm.keeps b o1 q
    have e1' : h'.get? b = some o := e1
    rw [q2] at e1'
    cases e1'
    exact PySem.W.hideAll_get _ q n
end
end L3

namespace L3
open PySem PySem.Spec PyProof.Rows L2 PySem.W Builtin.Getset_descriptor
section
variable {prog : Program} {w : World} {A : Around} {E : Value → Shared → Prop} {s : Shared} {K : Frag} {x C : Addr} {ox : Obj} {odo : Option Obj} {name : Str}
/-- an object at x, of the own class at C -/
def IsOf (h : Heap) (x C : Addr) : Prop := ∃ ox, h.get? x = some ox ∧ ox.cls = .ref C
theorem IsOf.type {M : Model} {h : Heap} (I : IsOf h x C) : Looks M h (typeOf (.ref x)) (.ref C) := by
  obtain ⟨ox, e, c⟩ := I
  exact c ▸ (Looks.ld e).andThen .now
/-- a data descriptor of the class goes ahead of all -/
theorem find_data {M : Model} {h : Heap} {a g : Value} (X : K.In h) (ha : findIn K (.ref C) name = some (some a)) (hg : specialIn K a "__get__" = some (some g)) (ht : takesIn K a = some true) : Looks M h (Builtin.ObjectAttr.find (.ref x) (.ref C) name) (.bind g a) := by
  have F1 := looks_findIn (M := M) X ha
  have F2 : Looks M h (Builtin.ObjectAttr.getOf (some a)) (some g) := looks_specialIn X hg
  have F3 : Looks M h (Builtin.ObjectAttr.dataDescriptor? (some a) (some g)) (some (g, a)) := (looks_takesIn (M := M) X ht).andThen .now
  exact F1.andThen (F2.andThen (F3.andThen (Looks.tag .now)))
/-- object.__getattribute__ of an instance, where the class binds -/
theorem ga_bind {tk : Tok} {g a : Value} {Q : Fin → Shared → Prop} (I : IsOf s.heap x C) (L1 : Looks (model prog w) s.heap (Builtin.ObjectAttr.find (.ref x) (.ref C) name) (.bind g a))
    (h : wpAny (model prog w) A (call g [a, .ref x, .ref C]) (fun v s' => Q (.done (.ret v)) s') E s) : wpAny (model prog w) A (Builtin.«object.__getattribute__» ⟨[.ref x, .str name tk], []⟩) Q E s := by
  obtain ⟨hh, gg, d, t, os⟩ := s
  have L0 := I.type (M := model prog w)
  refine wpAny_bind (wpAny_pure ?_)
  refine wpAny_bind (wpAny_pure (wpAny_bind (L0.at (wpAny_bind (L1.at ?_)))))
  show wpAny _ _ (holding [a] (call g [a, .ref x, .ref C]) >>= ret) _ _ _
  exact wpAny_bind (wpAny_holding (wpAny_mono h (fun v s' q => wpAny_pure q) fun _ _ q => q))
/-- o.__class__ by its descriptor -/
theorem class_by {R : Result → Shared → Prop} {tp : Value} (X : K.In s.heap) (I : IsOf s.heap x C) (hm : mroIn K C (.type "object") = some true) (hr : R (.ok (.ret (.ref C))) s) :
    codeAny (model prog w) A (.call (.builtin "getset_descriptor.__get__") ⟨[.builtin "object.__class__", .ref x, tp], []⟩) R s := by
  obtain ⟨hh, gg, dd, tt, oo⟩ := s
  have l0 := I.type (M := model prog w)
  have l1 := looks_mroIn (M := model prog w) X hm
  refine codeAny_call_builtin KF.slot_gs.plain KF.entry_gs (KF.slot_gs.check _ _ _ _ _ _ _ _ KF.type_class (KF.args_gs _ _ _) ?_)
  unfold Builtin.«getset_descriptor.__get__» descrGet
  rw [dga_obj]
  refine wpAny_bind (wpAny_pure ?_)
  unfold descrGetter descrCheckInstance descrNameAndClass isInstance
  simp only [KF.owner_class]
  repeat lk
  refine ⟨Code.quiet_builtin _ (by decide +kernel), codeAny_builtin KF.entry_class ?_⟩
  unfold Builtin.«object.__class__» shownTypeOf
  repeat lk
  exact hr
/-- an exception's attribute -/
theorem exc_own {tk : Tok} {fill expr : Bool} {Q : Value → Shared → Prop} (X : K.In s.heap) (I : IsOf s.heap x C) (hgh : findIn K (.ref C) "__getattr__" = some none) (hm : mroIn K C (.type "BaseException") = some true)
    (h : ∀ A', wpAny (model prog w) A' (Builtin.«object.__getattribute__» ⟨[.ref x, .str name tk], []⟩) (fun fin s' => match fin with | .done (.ret v) => handedIn v = true ∧ Q v s' | _ => False) (fun _ _ => False) s) :
    wpAny (model prog w) A (getAttrByItsOwn (.ref x) (.str name tk) (.ref C) (.builtin "BaseException.__getattribute__") fill expr) Q E s := by
  obtain ⟨hh, g, d, t, os⟩ := s
  have L0 := I.type (M := model prog w)
  have L2 := looks_findIn (M := model prog w) X hgh
  have L3 := looks_mroIn (M := model prog w) X hm
  have f3 := PySem.F.attrBase_ValueError.ga.bind (.ref x)
  have hx0 : (expr && onTheHeap (Value.builtin "BaseException.__getattribute__")) = false := by cases expr <;> rfl
  unfold getAttrByItsOwn
  refine wpAny_bind ?_
  show wpAny _ _ (typeLookup (.ref C) "__getattr__") _ _ _
  refine L2.at ?_
  refine wpAny_bind (wpAny_attempt (wpAny_holding ?_))
  unfold callGetattribute
  rw [if_neg (by rw [hx0]; exact Bool.false_ne_true)]
  unfold boundAndCalled
  repeat (any_goals (first | assumption | wp_step))
  refine codeAny_call_builtin PySem.F.attrBase_ValueError.ga.plain F.entry_bexc_ga ?_
  have k1 : builtinKind "BaseException.__getattribute__" = some .slot := by decide +kernel
  have k2 : splitId "BaseException.__getattribute__" = some ("BaseException", "__getattribute__") := by decide +kernel
  have k3 := F.args_bexc_ga (.ref x) (.str name tk)
  show wpAny _ _ (checkBuiltinCall "BaseException.__getattribute__" ⟨[.ref x, .str name tk], []⟩) _ _ _
  simp only [checkBuiltinCall, k1, k2]
  refine wpAny_bind ?_
  unfold isInstance
  refine wpAny_bind (L0.at (L3.at ?_))
  repeat (first | assumption | with_reducible refine wpAny_mono (h _) (fun fin s' q => ?_) (fun _ _ z => z.elim) | wp_step)
  cases fin with
  | again c' => exact q.elim
  | done f =>
    cases f with
    | ret v => exact handed_on q.1 q.2
    | next => exact q.elim
    | brk => exact q.elim
    | cont => exact q.elim
/-- what an own exception class must have, so that isinstance and attributes go -/
structure ExcG (K : Frag) (C : Addr) : Prop where
  ga : findIn K (.ref C) "__getattribute__" = some (some (.builtin "BaseException.__getattribute__"))
  gh : findIn K (.ref C) "__getattr__" = some none
  be : mroIn K C (.type "BaseException") = some true
  ob : mroIn K C (.type "object") = some true
  cl : findIn K (.ref C) "__class__" = some (some (.builtin "object.__class__"))
  cg : specialIn K (.builtin "object.__class__") "__get__" = some (some (.builtin "getset_descriptor.__get__"))
  ct : takesIn K (.builtin "object.__class__") = some true
theorem clsIn_of {C : Addr} {v : Value} {b : Bool} (h : mroIn K C v = some b) : ∃ cd, clsIn K C = some cd := by
  obtain ⟨cd, a, _⟩ := Option.bind_eq_some_iff.mp h
  exact ⟨cd, a⟩
theorem exc_class {Q : Option Value → Shared → Prop} (X : K.In s.heap) (I : IsOf s.heap x C) (G : ExcG K C) (h : Q (some (.ref C)) { s with toks := s.toks + 1 }) : wpAny (model prog w) A (getAttr? (.ref x) "__class__") Q E s := by
  obtain ⟨hh, g, d, t, os⟩ := s
  have L0 := I.type (M := model prog w)
  have L1 := looks_findIn (M := model prog w) X G.ga
  unfold getAttr? getAttrBy? getAttrBy
  refine wpAny_bind (wpAny_mkText (wpAny_bind (wpAny_attempt (wpAny_holding (wpAny_bind (L0.at (wpAny_bind (L1.at ?_))))))))
  show wpAny _ _ (getAttrByItsOwn (.ref x) (.str "__class__" t) (.ref C) (.builtin "BaseException.__getattribute__") false false) _ _ _
  refine exc_own (s := ⟨hh, g, d, t + 1, os⟩) X I G.gh G.be fun A' => ?_
  exact ga_bind (s := ⟨hh, g, d, t + 1, os⟩) I (find_data X G.cl G.cg G.ct) (wpAny_call (class_by (s := ⟨hh, g, d, t + 1, os⟩) X I G.ob ⟨rfl, wpAny_pure h⟩))
theorem kitx_exc (G : ExcG K C) : KitX K (.ref x) (.ref C) (fun h => IsOf h x C) where
  ty := fun _ _ _ I => I.type
  it := fun _ _ X _ => by
    obtain ⟨cd, hcd⟩ := clsIn_of G.ob
    unfold clsIn at hcd
    split at hcd
    · rename_i ho
      intro A' Q' E' s' k q
      unfold isType loadHead
      exact wpAny_bind (wpAny_loadPart (k _ _ (X _ _ ho)) (wpAny_pure q))
    · cases hcd
  ne := fun h tp dd its n sl X htp => by
    obtain ⟨cd, hcd⟩ := clsIn_of G.ob
    refine Bool.eq_false_iff.mpr fun q => ?_
    have e : C = tp := Value.ref.inj (beq_iff_eq.mp q)
    subst e
    unfold clsIn at hcd
    split at hcd
    · rename_i ho
      have z := (X _ _ ho).symm.trans htp
      cases z
    · cases hcd
  ca := fun X I k => exc_class X I G k
end
end L3

namespace L3
open PySem PySem.Spec PyProof.Rows L2
/-! ### try .. except -/
/-- what a state leans on, beside the frames -/
def Need (X : Cx) (pins : List (Addr × Obj)) (H : Hp) (b : Addr) : Prop := H b ≠ none ∨ (∃ o, X.s₀.heap.get? b = some o) ∨ (∃ x, X.env.cells.lookup x = some b) ∨ ∃ p ∈ X.pn ++ pins, p.1 = b
/-- X: the body of a def -/
structure Body (X : Cx) : Prop where
  ex : X.ex = []
  st : X.stack = X.env :: X.outer
  fr : X.env.frame = some X.env.locals
  fn : ∀ x, X.fn x = true
section
variable {X : Cx} {pins : List (Addr × Obj)} {σ : L2.St} {H H' : Hp} {s s' : Shared} {a C : Addr} {B h' : Heap}
theorem Inv.cnf (I : Inv X pins σ H s) (b : Body X) {x : Str} {c : Addr} (e : X.env.cells.lookup x = some c) : c ∉ frs X.stack := fun z => by
  rcases List.mem_cons.mp (I.stkSub c z) with z | z
  · exact I.cne x c e z
  · obtain ⟨_, o, ho, _⟩ := I.ok.funs.mem z
    exact absurd (Nat.lt_of_lt_of_le (Heap.lt_size ho) (I.ok.cab x c (b.fn x) e)) (Nat.lt_irrefl _)
theorem Inv.snf (I : Inv X pins σ H s) {b : Addr} {o : Obj} (e : X.s₀.heap.get? b = some o) (hb : b ∉ X.fs) : b ∉ frs X.stack := fun z => by
  rcases List.mem_cons.mp (I.stkSub b z) with z | z
  · rw [z] at e
    exact absurd (Nat.lt_of_lt_of_le (Heap.lt_size e) I.ok.above) (Nat.lt_irrefl _)
  · exact hb z
theorem Inv.pnf (I : Inv X pins σ H s) {p : Addr × Obj} (hp : p ∈ X.pn ++ pins) : p.1 ∉ frs X.stack := fun z => by
  obtain ⟨_, _, ne, nf, _⟩ := I.pin p hp
  rcases List.mem_cons.mp (I.stkSub p.1 z) with z | z
  · exact ne z
  · exact nf z
/-- needed things are there -/
theorem Inv.needed (I : Inv X pins σ H s) (b : Body X) {c : Addr} (h : Need X pins H c) : ∃ o, s.heap.get? c = some o := by
  rcases h with h | ⟨o, h⟩ | ⟨x, h⟩ | ⟨p, hp, rfl⟩
  · exact HOk.there I.hok h
  · exact I.base.there c o h (by rw [b.ex]; intro z; cases z)
  · obtain ⟨v, o, e, _⟩ := I.cell x c h
    exact ⟨o, e⟩
  · exact ⟨_, (I.pin p hp).1⟩
theorem Inv.moved (I : Inv X pins σ H s) (b : Body X) (k : ∀ c o, s.heap.get? c = some o → Need X pins H c → c ∉ frs X.stack → h'.get? c = some o) (up : s.heap.UpToSlots h') : Inv X pins σ H { s with heap := h' } := by
  have nx : ∀ c, c ∉ X.ex := fun c z => by rw [b.ex] at z; cases z
  have slot : ∀ c o, X.s₀.heap.get? c = some o → c ∈ X.fs → ∃ sl, h'.get? c = some { o with slots := sl } := fun c o e hc => by
    obtain ⟨sl, e1⟩ := I.base.slot c o e (I.ok.frf c hc) hc (nx c)
    obtain ⟨_, o', ho', hd⟩ := I.ok.funs.mem hc
    rw [e] at ho'
    cases ho'
    obtain ⟨sl2, q⟩ := up c { o with slots := sl } e1 hd
    exact ⟨sl2, q⟩
  have cell : ∀ {x : Str} {c : Addr} {v : Option Value}, X.env.cells.lookup x = some c → s.heap.IsCell c v → h'.IsCell c v := fun {x c v} hc z => by
    obtain ⟨o, e, r⟩ := z
    exact ⟨o, k c o e (.inr (.inr (.inl ⟨x, hc⟩))) (Inv.cnf I b hc), r⟩
  refine ⟨I.ok, I.os, I.bare, ⟨fun c o e n h1 _ => k c o (I.base.keep c o e n h1 (nx c)) (.inr (.inl ⟨o, e⟩)) (Inv.snf I e h1), fun c o e n h1 _ => slot c o e h1, I.base.free, fun c o e _ => ?_, I.base.tups, I.base.frzs, I.base.tbls⟩, ?_, fun x c e => ?_, I.free, I.freeC, fun p hp => ?_,
    HOk.but I.hok fun c o hc e => k c o e (.inl hc) fun z => hc (I.stkFree c z), I.len⟩
  · by_cases hc : c ∈ X.fs
    · obtain ⟨sl, q⟩ := slot c o e hc
      exact ⟨_, q⟩
    · obtain ⟨o', e1⟩ := I.base.there c o e (nx c)
      exact ⟨o', k c o' e1 (.inr (.inl ⟨o, e⟩)) (Inv.snf I e hc)⟩
  · obtain ⟨m, hn, hl⟩ := I.loc
    refine ⟨m, up.ns hn, fun i x v h1 h2 h3 => ?_⟩
    obtain ⟨u, r, l⟩ := hl i x v h1 h2 h3
    refine ⟨u, r, ?_⟩
    rcases l with l | ⟨k1, c, hc, q⟩
    · exact .inl l
    · exact .inr ⟨k1, c, hc, cell hc q⟩
  · obtain ⟨v, q⟩ := I.cell x c e
    exact ⟨v, cell e q⟩
  · obtain ⟨e, r⟩ := I.pin p hp
    exact ⟨k p.1 p.2 e (.inr (.inr (.inr ⟨p, hp, rfl⟩))) (Inv.pnf I hp), r⟩
/-- an exception in the air, as the frame that looks at it sees it -/
structure Air (X : Cx) (pins : List (Addr × Obj)) (σ : L2.St) (H : Hp) (s : Shared) (a C : Addr) : Prop where
  inv : Inv X pins σ H s
  new : X.s₀.heap.get? a = none
  nt : H a = none
  nneed : ¬ Need X pins H a
  nfs : a ∉ frs X.stack
  nloc : a ≠ X.env.locals
  fly : ∃ a0 B, Heap.FlyingW B X.stack a (.ref C) a0 s.heap ∧ ∀ c o, s.heap.get? c = some o → Need X pins H c → c ∉ frs X.stack → B.get? c = some o
theorem Air.on (R : Air X pins σ H s a C) (b : Body X) {B : Heap} {a0 : Value} (cov : ∀ c o, s.heap.get? c = some o → Need X pins H c → c ∉ frs X.stack → B.get? c = some o) (fl : Heap.FlyingW B X.stack a (.ref C) a0 h') (up : s.heap.UpToSlots h') : Air X pins σ H { s with heap := h' } a C := by
  refine ⟨Inv.moved R.inv b (fun c o e n f => fl.1 c o (cov c o e n f)) up, R.new, R.nt, R.nneed, R.nfs, R.nloc, a0, B, fl, fun c o e n f => ?_⟩
  obtain ⟨o1, e1⟩ := Inv.needed R.inv b n
  have q := cov c o1 e1 n f
  have z := fl.1 c o1 q
  have e' : h'.get? c = some o := e
  rw [z] at e'
  cases e'
  exact q
end
def cxTry (X : Cx) (pins : List (Addr × Obj)) (Ex : Addr → L2.St → Hp → Prop) : Cx :=
  { X with pn := X.pn ++ pins, xe := fun e s' => ∃ a C σ' H', e = .ref a ∧ Air X pins σ' H' s' a C ∧ Ex C σ' H' }
section
variable {X : Cx} {pins pins' : List (Addr × Obj)} {σ : L2.St} {H H' : Hp} {s s' : Shared} {a C : Addr} {B h' : Heap} {Ex : Addr → L2.St → Hp → Prop}
theorem try_in (I : Inv X pins σ H s) : Inv (cxTry X pins Ex) [] σ H s :=
  ⟨⟨I.ok.mod, I.ok.kind, I.ok.glob, I.ok.blt, I.ok.above, I.ok.inj, I.ok.has, I.ok.cab, I.ok.hd, I.ok.frames, I.ok.stk, I.ok.exf, I.ok.bs, I.ok.bsz, I.ok.noex, I.ok.exfs, I.ok.funs, I.ok.frf⟩, I.os, I.bare, I.base, I.loc, I.cell, I.free, I.freeC, fun p hp => I.pin p (by have hp' : p ∈ (X.pn ++ pins) ++ [] := hp; rwa [List.append_nil] at hp'), I.hok, I.len⟩
theorem try_out (I : Inv (cxTry X pins Ex) pins' σ H s) : Inv X pins σ H s :=
  ⟨⟨I.ok.mod, I.ok.kind, I.ok.glob, I.ok.blt, I.ok.above, I.ok.inj, I.ok.has, I.ok.cab, I.ok.hd, I.ok.frames, I.ok.stk, I.ok.exf, I.ok.bs, I.ok.bsz, I.ok.noex, I.ok.exfs, I.ok.funs, I.ok.frf⟩, I.os, I.bare, I.base, I.loc, I.cell, I.free, I.freeC, fun p hp => I.pin p (List.mem_append_left _ hp), I.hok, I.len⟩
/-- a call's exception comes to the try -/
theorem passT (b : Body X) {e : Value} {E : XK} (I : Inv (cxTry X pins Ex) pins' σ H s) (hE : ∀ C H', E (.ref C) none H' → Ex C σ H') (h : CX1 X.prog X.w (cxTry X pins Ex).stack H s E e s') : (cxTry X pins Ex).xe e s' := by
  obtain ⟨a, C, B, H', rfl, F, q⟩ := h
  have I0 := try_out I
  have I' : Inv X pins σ H' s' := I0.call' F.os F.un F.hok F.bare fun b hb => absurd hb (by simp)
  obtain ⟨a0, fl⟩ := F.fly
  have nx : ∀ c, c ∉ X.ex := fun c z => by rw [b.ex] at z; cases z
  have hneed : ∀ c, Need X pins H' c → H' c ≠ none ∨ ∃ o', s.heap.get? c = some o' := fun c n => by
    rcases n with n | ⟨o, n⟩ | ⟨x, n⟩ | ⟨p, hp, rfl⟩
    · exact .inl n
    · exact .inr (I0.base.there c o n (nx c))
    · obtain ⟨v, o, e, _⟩ := I0.cell x c n
      exact .inr ⟨o, e⟩
    · exact .inr ⟨_, (I0.pin p hp).1⟩
  refine ⟨a, C, σ, H', rfl, ⟨I', ?_, F.nt, fun n => ?_, fun z => ?_, fun z => ?_, a0, B, fl, fun c o e n f => F.cov c o e (hneed c n) f⟩, hE C H' q⟩
  · cases z : X.s₀.heap.get? a with
    | none => rfl
    | some o =>
      obtain ⟨o', e⟩ := I0.base.there a o z (nx a)
      rw [F.new] at e
      cases e
  · rcases hneed a n with n | ⟨o, n⟩
    · exact n F.nt
    · rw [F.new] at n
      cases n
  · obtain ⟨_, o, e, _⟩ := I0.stack.mem z
    rw [F.new] at e
    cases e
  · obtain ⟨m, ⟨o, _, _, e, _⟩, _⟩ := I0.loc
    rw [z] at F
    have := F.new
    rw [e] at this
    cases this
end
def tMakeS (C : Addr) (sp : Sp) (E : L2.St → XK) (t : TA) : TE := fun σ H Q => t σ H fun vs H1 => ∀ x dx, H1 x = none → H1 dx = none → dx ≠ x → sp (.ref x :: vs) (upd (upd H1 dx (.own x)) x (.ins C dx [])) (fun v H2 => v = .non ∧ Q (.ref x) H2) (E σ)
def PassS (CX : CXT) (X : Cx) (E : L2.St → XK) : Prop := ∀ (pins : List (Addr × Obj)) (σ : L2.St) (H : Hp) (s : Shared) (e : Value) (s' : Shared), Inv X pins σ H s → CX X.stack H s (E σ) e s' → X.xe e s'
/-- the try's own wish -/
def exS (Ex : Addr → L2.St → Hp → Prop) : L2.St → XK := fun σ c _ H' => ∀ C, c = .ref C → Ex C σ H'
theorem passS {X : Cx} {pins : List (Addr × Obj)} {Ex : Addr → L2.St → Hp → Prop} (b : Body X) : PassS (CX1 X.prog X.w) (cxTry X pins Ex) (exS Ex) := fun _ _ _ _ _ _ I h => passT b I (fun C _ q => q C rfl) h
section
variable {X : Cx} {CX : CXT} {j k : Nat} {f C : Addr} {fd : FuncData} {ps : List Str} {sp : Sp} {E : L2.St → XK} {x m : Str} {p pos apos : Pos} {e o : Expr} {es : List Expr} {ta : TE} {t : TA} {pins : List (Addr × Obj)} {σ : L2.St} {H : Hp} {s : Shared} {Q : VK} {us : List Value} {vs : List V}
theorem makeS (M : Mk X.K C f) (F : FnOk X.prog X.w X.K X.mg X.base CX k f fd ps sp) (hr : Room (k + 1) X.A) (hg : Gl X x) (hm : X.mg x = some (.ref C)) (hb : Binds X.K fd ps []) (hx : PassS CX X E)
    (ha : PA X (e :: es) t) (hdb : (x == ("__debug__" : Str)) = false := by decide) (he : starEach (e :: es) X.env = (false, eval e X.env) :: starEach es X.env := by rfl) (hpl : (backTo pos (starEach es X.env)).any (·.1) = false := by rfl) :
    PE X (.Call (.Name x p) (e :: es) [] pos) (tMakeS C sp E t) := by
  intro pins s σ H Q I h
  refine wpAny_Call_Name_kw (ld_glob I hg hm ?_ hdb)
  refine PySem.W.callWith_K (h₀ := X.base) I.ok.mod.kin M.kp (thn (ha pos pins s σ H _ I h) fun us s1 ⟨vs, H1, I1, r, q⟩ => ⟨I1.kIn, ?_⟩) he hpl
  have hq := q (s1.heap.objs.size + 1) s1.heap.objs.size (I1.hok.fresh (Nat.le_succ _)) (I1.hok.fresh (Nat.le_refl _)) (Nat.ne_of_lt (Nat.lt_succ_self _))
  have I2 := Inv.made (C := C) I1
  have r2 : Vals (V.ref (s1.heap.objs.size + 1) :: vs) (Value.ref (s1.heap.objs.size + 1) :: us) := .cons rfl r
  have hl : (Value.ref (s1.heap.objs.size + 1) :: us ++ []).length = ps.length := by
    have z := r2.length
    rw [F.len _ _ _ _ hq] at z
    rw [List.append_nil]
    exact z.symm
  have hb' := hb _ (Value.ref (s1.heap.objs.size + 1) :: us) I2.kIn hl
  rw [List.append_nil] at hb'
  refine wpAny_call (make_map (f := f) I1.kIn M.makes M.init (beq_iff_eq.mp M.fn) (codeAny_mono (F.run _ X.stack _ _ _ _ _ _ (E σ) (hr.make C us []) (I2.env0.make C us []) hb' r2 hq) fun res s' hq' => ?_))
  cases res with
  | error e => exact hx pins σ _ _ e s' I2 hq'
  | ok fl =>
    cases fl with
    | ret u =>
      obtain ⟨v, H', I3, rv, ev, q3⟩ := I2.after hq'
      subst ev
      exact ⟨rv, ⟨V.ref (s1.heap.objs.size + 1), H', I3, rfl, q3⟩⟩
    | next => exact hq'.elim
    | brk => exact hq'.elim
    | cont => exact hq'.elim
end
/-! ### the handlers -/
def cxHand (X : Cx) (a : Addr) : Cx := { X with A := X.A.mark (some (.ref a)), calm := false, xe := fun _ _ => False }
section
variable {X : Cx} {pins : List (Addr × Obj)} {σ : L2.St} {H : Hp} {s : Shared} {a C : Addr}
theorem hand_in (I : Inv X pins σ H s) : Inv (cxHand X a) pins σ H s :=
  ⟨⟨I.ok.mod, I.ok.kind, I.ok.glob, I.ok.blt, I.ok.above, I.ok.inj, I.ok.has, I.ok.cab, fun z => absurd (show false = true from z) Bool.false_ne_true, I.ok.frames, I.ok.stk, I.ok.exf, I.ok.bs, I.ok.bsz, I.ok.noex, I.ok.exfs, I.ok.funs, I.ok.frf⟩, I.os, I.bare, I.base, I.loc, I.cell, I.free, I.freeC, I.pin, I.hok, I.len⟩
theorem hand_out (hd : X.calm = true → X.A.handled = none) (I : Inv (cxHand X a) pins σ H s) : Inv X pins σ H s :=
  ⟨⟨I.ok.mod, I.ok.kind, I.ok.glob, I.ok.blt, I.ok.above, I.ok.inj, I.ok.has, I.ok.cab, hd, I.ok.frames, I.ok.stk, I.ok.exf, I.ok.bs, I.ok.bsz, I.ok.noex, I.ok.exfs, I.ok.funs, I.ok.frf⟩, I.os, I.bare, I.base, I.loc, I.cell, I.free, I.freeC, I.pin, I.hok, I.len⟩
/-- an exception that is held by a name: its class -/
def ExcAt (a C : Addr) : HO := .ext fun h => IsOf h a C
/-- the exception is tracked from now on -/
theorem Air.held (R : Air X pins σ H s a C) : Inv X pins σ (upd H a (ExcAt a C)) s := by
  have I := R.inv
  have ne : ∀ b u, H b = some u → b ≠ a := fun b u e z => by rw [z, R.nt] at e; cases e
  refine ⟨I.ok, I.os, I.bare, ⟨I.base.keep, I.base.slot, fun b o e n hx => ?_, I.base.there, fun b xs e => ?_, fun b o u e => ?_, fun b ps e => ?_⟩, I.loc, I.cell, ?_, fun x c e => ?_, fun p hp => ?_, fun b u e => ?_, I.len⟩
  · rw [upd_ne (fun z => by rw [z, R.new] at e; cases e)]
    exact I.base.free b o e n hx
  · have q := I.base.tups b xs e
    rw [upd_ne (ne b _ q)]
    exact q
  · have q := I.base.frzs b o u e
    rw [upd_ne (ne b _ q)]
    exact q
  · obtain ⟨more, q⟩ := I.base.tbls b ps e
    exact ⟨more, by rw [upd_ne (ne b _ q)]; exact q⟩
  · rw [upd_ne (Ne.symm R.nloc)]
    exact I.free
  · rw [upd_ne (fun z => R.nneed (.inr (.inr (.inl ⟨x, by rw [← z]; exact e⟩))))]
    exact I.freeC x c e
  · obtain ⟨e, n, r⟩ := I.pin p hp
    exact ⟨e, by rw [upd_ne (fun z => R.nneed (.inr (.inr (.inr ⟨p, hp, z⟩))))]; exact n, r⟩
  · by_cases hb : b = a
    · subst hb
      rw [upd_same] at e
      cases e
      obtain ⟨a0, B, fl, _⟩ := R.fly
      obtain ⟨ox, hx, hc⟩ := fl.there
      exact ⟨⟨ox, hx, hc⟩, ⟨ox, hx⟩, fun h1 h2 ⟨ox1, i1, c1⟩ k => ⟨ox1, k _ i1, c1⟩⟩
    · rw [upd_ne hb] at e
      refine (I.hok b u e).stay (fun _ _ _ q => q) (fun c q => ?_) fun c xs q => ?_
      · rw [upd_ne (ne c _ q)]
        exact q
      · rw [upd_ne (ne c _ q)]
        exact q
end
end L3

namespace L3
open PySem PySem.Spec PyProof.Rows L2 PySem.W
section
variable {prog : Program} {w : World} {A : Around} {E : Value → Shared → Prop} {s : Shared} {K : Frag} {e C Cb : Addr} {b : Bool}
theorem matches_in {Q : Bool → Shared → Prop} (X : K.In s.heap) (I : IsOf s.heap e C) (hty : typeIn K (.ref Cb) = some (.type "type")) (hbe : mroIn K Cb (.type "BaseException") = some true) (hc : mroIn K C (.ref Cb) = some b) (hq : Q b s) :
    wpAny (model prog w) A (excMatches (.ref e) (.ref Cb)) Q E s := by
  obtain ⟨hh, gg, dd, tt, oo⟩ := s
  have L0 := I.type (M := model prog w)
  have L1 := looks_typeIn (M := model prog w) X hty
  have L2 := looks_mroIn (M := model prog w) X hbe
  have L3 := looks_mroIn (M := model prog w) X hc
  have L4 : Looks (model prog w) hh (isType (.ref Cb)) true := by
    obtain ⟨cd, hcd⟩ := clsIn_of hbe
    unfold clsIn at hcd
    split at hcd
    · rename_i ho
      intro A' Q' E' s' k q
      unfold isType loadHead
      exact wpAny_bind (wpAny_loadPart (k _ _ (X _ _ ho)) (wpAny_pure q))
    · cases hcd
  have f := tc_notTuple
  unfold excMatches isInstance isExcClass
  refine wpAny_bind (wpAny_bind (L1.at ?_))
  rw [f]
  refine wpAny_pure ?_
  rw [if_neg Bool.false_ne_true]
  refine wpAny_bind (wpAny_pure (wpAny_bind ?_))
  rw [List.forIn_cons]
  refine wpAny_bind (wpAny_bind (wpAny_bind (L4.at ?_)))
  rw [if_pos rfl]
  refine L2.at ?_
  refine wpAny_pure ?_
  refine wpAny_pure ?_
  refine wpAny_bind (L0.at ?_)
  refine wpAny_bind ?_
  rw [List.forIn_cons]
  refine wpAny_bind (wpAny_bind (L3.at ?_))
  cases b with
  | true => exact wpAny_pure (wpAny_pure (wpAny_pure hq))
  | false => exact wpAny_pure (wpAny_pure (wpAny_pure hq))
end
/-- the name of a handler goes -/
theorem gone_ok {X : Cx} {M : Model} {A : Around} {E : Value → Shared → Prop} {pins : List (Addr × Obj)} {σ : L2.St} {H : Hp} {s : Shared} {i : Nat} {n : Str} {pos : Pos} {Q : Unit → Shared → Prop} (I : Inv X pins σ H s) (hN : X.N.Nodup) (hi : X.N[i]? = some n) (hk : X.env.scope.names.lookup n = some .local)
    (h : ∀ s', Inv X pins (σ.set i none) H s' → Q () s') : wpAny M A (do bindName X.env n .none; unbindBehindTheSuite X.env n pos) Q E s := by
  obtain ⟨m, hn, hl⟩ := id I.loc
  have hcls : (X.env.scope.kind == .class || (X.env.scope.kind == .module && X.env.locals != X.env.globals)) = false := by rw [I.ok.kind]; rfl
  have hiσ : i < σ.length := by rw [I.len]; exact (List.getElem?_eq_some_iff.mp hi).1
  refine wpAny_nameGoes_keeps hk hn hcls fun h' v hn' hs => h _ ?_
  have old : ∀ {b : Addr} {o : Obj}, X.s₀.heap.get? b = some o → b ≠ X.env.locals := fun e => Nat.ne_of_lt (Nat.lt_of_lt_of_le (Heap.lt_size e) I.ok.above)
  refine ⟨I.ok, I.os, I.bare, ⟨fun b o e n hb hx => (hs.2 b (old e)).trans (I.base.keep b o e n hb hx), fun b o e n hb hx => ?_, I.base.free, fun b o e hx => ?_, I.base.tups, I.base.frzs, I.base.tbls⟩, ⟨_, hn', fun j y v' e1 e2 e3 => ?_⟩, fun y c e => ?_, I.free, I.freeC, fun p hp => ?_, ?_, by simpa using I.len⟩
  · obtain ⟨sl, e1⟩ := I.base.slot b o e n hb hx
    exact ⟨sl, (hs.2 b (old e)).trans e1⟩
  · obtain ⟨o', e1⟩ := I.base.there b o e hx
    exact ⟨o', (hs.2 b (old e)).trans e1⟩
  · by_cases hj : j = i
    · subst hj
      rw [List.getElem?_set_self hiσ] at e2
      cases e2
    · rw [List.getElem?_set_ne (Ne.symm hj)] at e2
      obtain ⟨u', r', q⟩ := hl j y v' e1 e2 e3
      refine ⟨u', r', ?_⟩
      rcases q with ⟨k, e⟩ | ⟨k, c, e, z⟩
      · have : y ≠ n := fun e => hj (nodup_ix hN e1 (e ▸ hi))
        exact .inl ⟨k, by simp [this, e]⟩
      · exact .inr ⟨k, c, e, z.sameBut hs (I.cne y c e)⟩
  · obtain ⟨w', z⟩ := I.cell y c e
    exact ⟨w', z.sameBut hs (I.cne y c e)⟩
  · obtain ⟨e, n', ne, r⟩ := I.pin p hp
    exact ⟨(hs.2 p.1 ne).trans e, n', ne, r⟩
  · exact HOk.but I.hok fun b o hb e => (hs.2 b (fun z => hb (by rw [z]; exact I.free))).trans e
/-- the clauses of a try -/
def PH (X : Cx) (hs : List ExceptHandler) (th : Addr → TS) : Prop := ∀ (pins : List (Addr × Obj)) (σ : L2.St) (H : Hp) (s : Shared) (a C : Addr) (D : Ends), Air X pins σ H s a C → th C D σ H → wpAny (model X.prog X.w) X.A (handleBy (.ref a) X.env hs) (SP X pins D) X.xe s
def goneD (D : Ends) (i : Nat) : Ends := { nx := fun σ H => D.nx (σ.set i none) H, rt := D.rt, bk := fun σ H => D.bk (σ.set i none) H, ct := fun σ H => D.ct (σ.set i none) H }
/-- except T as n: .. -/
def tExcept (K : Frag) (Cb : Addr) (i : Nat) (th : TS) (rest : Addr → TS) : Addr → TS := fun C D σ H => ∃ b, mroIn K C (.ref Cb) = some b ∧
  if b = true then ∀ a, H a = none → th (goneD D i) (σ.set i (some (.ref a))) (upd H a (ExcAt a C)) else rest C D σ H
section
variable {X : Cx} {x n : Str} {Cb : Addr} {i : Nat} {np pos : Pos} {b₀ : Stmt} {suite : List Stmt} {rest : List ExceptHandler} {th : TS} {thr : Addr → TS}
theorem SP.hand {a : Addr} {pins : List (Addr × Obj)} {D : Ends} {f : Flow} {s : Shared} (hd : X.calm = true → X.A.handled = none) (h : SP (cxHand X a) pins D f s) : SP X pins D f s := by
  cases f with
  | next => obtain ⟨σ', H', I, q⟩ := h; exact ⟨σ', H', hand_out hd I, q⟩
  | brk => obtain ⟨σ', H', I, q⟩ := h; exact ⟨σ', H', hand_out hd I, q⟩
  | cont => obtain ⟨σ', H', I, q⟩ := h; exact ⟨σ', H', hand_out hd I, q⟩
  | ret u => obtain ⟨v, σ', H', I, r, q⟩ := h; exact ⟨v, σ', H', hand_out hd I, r, q⟩
theorem ph_as (b : Body X) (hN : X.N.Nodup) (hi : X.N[i]? = some n) (hk : X.env.scope.names.lookup n = some .local) (hg : Gl X x) (hm : X.mg x = some (.ref Cb)) (hty : typeIn X.K (.ref Cb) = some (.type "type")) (hbe : mroIn X.K Cb (.type "BaseException") = some true)
    (hs : ∀ a, PSs (cxHand X a) (b₀ :: suite) th) (hr : PH X rest thr) (hdb : (x == ("__debug__" : Str)) = false := by decide) : PH X (.ExceptHandler (some (.Name x np)) (some n) (b₀ :: suite) pos :: rest) (tExcept X.K Cb i th thr) := by
  intro pins σ H s a C D R h
  obtain ⟨bb, hc, h⟩ := h
  obtain ⟨a0, B, fl, cov⟩ := R.fly
  refine wpAny_handleBy_cons (codeAny_handlers_test (ld_glob (X := cxHand X a) (hand_in R.inv) hg hm (matches_in R.inv.kIn fl.there hty hbe hc ?_) hdb)) (by intro q; cases q)
  cases bb with
  | false => exact hr pins σ H s a C D R h
  | true =>
    have h1 := h
    rw [if_pos rfl] at h1
    refine codeAny_handlers_suite_as (lands_againW fl fun h' fl' up => ?_)
    have R' := Air.on R b cov fl' up
    refine store_ok (Air.held R') hN hi (.inl hk) (show RelV (.ref a) (.ref a) from rfl) (fun s2 I2 => ?_) (.inr hk)
    refine wpAny_mono (hs a pins s2 _ _ (goneD D i) (hand_in I2) (h1 a R.nt)) (fun f s3 q => ?_) fun _ _ z => False.elim z
    have q' := SP.hand R.inv.ok.hd q
    show wpAny _ X.A (do bindName X.env n .none; unbindBehindTheSuite X.env n pos) (fun _ s4 => SP X pins D f s4) X.xe s3
    cases f with
    | next => obtain ⟨σ', H', I3, q3⟩ := q'; exact gone_ok I3 hN hi hk fun s4 I4 => ⟨_, H', I4, q3⟩
    | brk => obtain ⟨σ', H', I3, q3⟩ := q'; exact gone_ok I3 hN hi hk fun s4 I4 => ⟨_, H', I4, q3⟩
    | cont => obtain ⟨σ', H', I3, q3⟩ := q'; exact gone_ok I3 hN hi hk fun s4 I4 => ⟨_, H', I4, q3⟩
    | ret u => obtain ⟨v, σ', H', I3, r3, q3⟩ := q'; exact gone_ok I3 hN hi hk fun s4 I4 => ⟨v, _, H', I4, r3, q3⟩
/-- no clause left: not here -/
theorem ph_nil : PH X [] (fun _ _ _ _ => False) := fun _ _ _ _ _ _ _ _ h => h.elim
/-- try: .. except ..: .. -/
def tTry (tb : (Addr → L2.St → Hp → Prop) → TS) (th : Addr → TS) : TS := fun D σ H => ∃ Ex, tb Ex D σ H ∧ ∀ C σ' H', Ex C σ' H' → th C D σ' H'
theorem ps_try {body : List Stmt} {h₀ : ExceptHandler} {hs : List ExceptHandler} {tb : (Addr → L2.St → Hp → Prop) → TS} {th : Addr → TS} (b : Body X) (hb : ∀ pins Ex, PSs (cxTry X pins Ex) body (tb Ex)) (hh : PH X (h₀ :: hs) th) : PS X (.Try body (h₀ :: hs) [] [] pos) (tTry tb th) := by
  intro pins s σ H D I h
  obtain ⟨Ex, h1, h2⟩ := h
  refine wpAny_Try_except (wpAny_mono (hb pins Ex [] s σ H D (try_in I) h1) (fun f s1 q => ?_) fun e s1 q => ?_)
  · cases f with
    | next => obtain ⟨σ', H', J, q⟩ := q; exact wpAny_execs_nil ⟨σ', H', try_out J, q⟩
    | brk => obtain ⟨σ', H', J, q⟩ := q; exact ⟨σ', H', try_out J, q⟩
    | cont => obtain ⟨σ', H', J, q⟩ := q; exact ⟨σ', H', try_out J, q⟩
    | ret u => obtain ⟨v, σ', H', J, r, q⟩ := q; exact ⟨v, σ', H', try_out J, r, q⟩
  · obtain ⟨a, C, σ', H', rfl, R, q⟩ := q
    obtain ⟨a0, B, fl, cov⟩ := R.fly
    have fl0 := fl
    rw [b.st] at fl0
    refine wpAny_looks_onW (by rw [R.inv.ok.frames, b.st]) b.fr fl0 fun h4 hh4 up4 => wpAny_landsW hh4 fun h5 fl5 up5 => ?_
    rw [← b.st] at fl5
    have R5 := Air.on R b cov fl5 (up4.trans up5)
    exact hh pins σ' H' { s1 with heap := h5 } a C D R5 (h2 C σ' H' q)
end
/-! ### isinstance(e, T) of a held exception -/
section
variable {X : Cx}
def rIsiX (K : Frag) : List V → Hp → VK → Prop := fun xs H Q => ∃ (a C : Addr) (c : V) (u : Value) (b : Bool), xs = [.ref a, c] ∧ H a = some (ExcAt a C) ∧ ExcG K C ∧ (∀ v, RelV c v → v = u) ∧ kitOne K (.ref C) u = some b ∧ Q (.bl b) H
theorem call_isiX : CallR X (.builtin "isinstance") (rIsiX X.K) := by
  intro pins s σ H xs us Q I r h
  obtain ⟨a, C, c, u, b, rfl, ha, G, hu, e, q⟩ := h
  obtain ⟨u1, u2, rfl, r1, r2⟩ := vals2 r
  cases (show u1 = Value.ref a from r1)
  cases hu u2 r2
  obtain ⟨i, _, _⟩ := (show ObjOk X.prog X.w H s.heap a (ExcAt a C) from I.hok a _ ha)
  exact kia_one (kitx_exc G) I.kIn i e (fun z => nomatch z) fun tk => ⟨.bl b, H, I.tok _, rfl, q⟩
end
end L3

namespace L3
open PySem PySem.Spec PyProof.Rows L2
/-! ### methods -/
structure FuM (P : Program) (w : World) (K : PySem.W.Frag) (mg : Str → Option Value) (base : Heap) (CX : CXT) (k : Nat) (C : Addr) (m : Str) (ps : List Str) (sp : Sp) : Prop where
  ex : ∃ f fd, FnOk P w K mg base CX k f fd ps sp ∧ Meth K C m f ∧ Binds K fd ps []
/-- a method of the text -/
structure MDef (K : PySem.W.Frag) (C : Addr) (m qual : Str) (st : Stmt) (ps : List Str) : Prop where
  ex : ∃ f fd, Fun K m qual st f fd ∧ Meth K C m f ∧ Binds K fd ps []
section
variable {X : Cx} {CX : CXT} {j k : Nat} {C : Addr} {m x : Str} {ps : List Str} {sp : Sp} {E : XK} {p pos apos : Pos} {o e : Expr} {es : List Expr} {ta : TE} {t : TA}
theorem pm {pl : Sem Bool} (F : FuM X.prog X.w X.K X.mg X.base CX j C m ps sp) (c : Cls X.K C) (hr : Room k X.A) (hx : Passes CX X E) (he : PE X o ta) (ha : PA X (e :: es) t) (hj : j ≤ k := by decide)
    (hst : starEach (e :: es) X.env = (false, eval e X.env) :: starEach es X.env := by rfl) (hpl : (backTo pos (starEach es X.env)).any (·.1) = false := by rfl)
    (ht : eval (.Call (.Attribute o m apos) (e :: es) [] pos) X.env = (do
      let ov ← eval o X.env
      standAt apos.atName
      let (g, first) ← holding [ov] (getMethod ov m pl)
      callWith pos g first (backTo pos (starEach (e :: es) X.env)) (backToKw pos (keywordEach [] X.env))) := by rfl) : PE X (.Call (.Attribute o m apos) (e :: es) [] pos) (tMeth C m sp [] E ta t) := by
  obtain ⟨f, fd, G, hm, hb⟩ := F.ex
  exact pe_meth (pl := pl) he c hm G (hr.mono hj) hb .nil hx ha hst hpl ht
theorem pm0 {pl : Sem Bool} (F : FuM X.prog X.w X.K X.mg X.base CX j C m ps sp) (c : Cls X.K C) (hr : Room k X.A) (hx : Passes CX X E) (he : PE X o ta) (hj : j ≤ k := by decide)
    (ht : eval (.Call (.Attribute o m apos) [] [] pos) X.env = (do
      let ov ← eval o X.env
      standAt apos.atName
      let (g, first) ← holding [ov] (getMethod ov m pl)
      callWith pos g first (backTo pos (starEach [] X.env)) (backToKw pos (keywordEach [] X.env))) := by rfl) : PE X (.Call (.Attribute o m apos) [] [] pos) (tMeth C m sp [] E ta tNil) := by
  obtain ⟨f, fd, G, hm, hb⟩ := F.ex
  exact pe_meth0 (pl := pl) he c hm G (hr.mono hj) hb .nil hx ht
/-- C(e, ..) -/
structure FuK (P : Program) (w : World) (K : PySem.W.Frag) (mg : Str → Option Value) (base : Heap) (CX : CXT) (k : Nat) (C : Addr) (ps : List Str) (sp : Sp) : Prop where
  ex : ∃ f fd, FnOk P w K mg base CX k f fd ps sp ∧ Mk K C f ∧ Binds K fd ps []
theorem pmk (F : FuK X.prog X.w X.K X.mg X.base CX j C ps sp) (hr : Room (k + 1) X.A) (hm : X.mg x = some (.ref C)) (hx : Passes CX X E) (ha : PA X (e :: es) t) (hj : j ≤ k := by decide) (hg : Gl X x := by rfl) (hdb : (x == ("__debug__" : Str)) = false := by decide)
    (he : starEach (e :: es) X.env = (false, eval e X.env) :: starEach es X.env := by rfl) (hpl : (backTo pos (starEach es X.env)).any (·.1) = false := by rfl) : PE X (.Call (.Name x p) (e :: es) [] pos) (tMake C sp [] E t) := by
  obtain ⟨f, fd, G, hk, hb⟩ := F.ex
  exact pe_make hk (G.mono hj) hr hg hm hb .nil hx ha hdb he hpl
theorem pmkS {E : L2.St → XK} (F : FuK X.prog X.w X.K X.mg X.base CX j C ps sp) (hr : Room (k + 1) X.A) (hm : X.mg x = some (.ref C)) (hx : PassS CX X E) (ha : PA X (e :: es) t) (hj : j ≤ k := by decide) (hg : Gl X x := by rfl) (hdb : (x == ("__debug__" : Str)) = false := by decide)
    (he : starEach (e :: es) X.env = (false, eval e X.env) :: starEach es X.env := by rfl) (hpl : (backTo pos (starEach es X.env)).any (·.1) = false := by rfl) : PE X (.Call (.Name x p) (e :: es) [] pos) (tMakeS C sp E t) := by
  obtain ⟨f, fd, G, hk, hb⟩ := F.ex
  exact makeS hk (G.mono hj) hr hg hm hb hx ha hdb he hpl
end
section
variable {P : Program} {w : World} {K : PySem.W.Frag} {mg : Str → Option Value} {base : Heap} {C : Addr} {x m qual : Str} {st : Stmt} {N ps : List Str} {k : Nat} {sp : Sp}
theorem MDef.fu (D : MDef K C m qual st ps) (S : FnScope N ps (defScope st)) (len : ∀ vs H Q E, sp vs H Q E → vs.length = ps.length)
    (hbody : ∀ (f : Addr) (cdv : Value) (A : Around) (outer : List Env) (s : Shared) (H : Hp) (vs : List V) (Q : VK) (E : XK), Room k (A.deeper (envOfC qual (defScope st) s.heap.objs.size f cdv)) → sp vs H Q E →
      ∃ t, PSs (cxOf CX0 P w K mg base N qual (defScope st) f cdv A outer s H E).nox (defBody st) t ∧ t { nx := fun _ H' => Q .non H', rt := Q } (start N vs) H) : FuM P w K mg base CX0 (k + 1) C m ps sp := by
  obtain ⟨f, fd, F, hm, hb⟩ := D.ex
  exact ⟨f, fd, F.ok S len fun cdv A outer s H vs Q E hr h => hbody f cdv A outer s H vs Q E hr h, hm, hb⟩
/-- .. that may raise -/
theorem Fun.okx {f : Addr} {fd : FuncData} (F : Fun K x qual st f fd) (S : FnScope N ps (defScope st)) (len : ∀ vs H Q E, sp vs H Q E → vs.length = ps.length)
    (hbody : ∀ (cdv : Value) (A : Around) (outer : List Env) (s : Shared) (H : Hp) (vs : List V) (Q : VK) (E : XK), Room k (A.deeper (envOfC qual (defScope st) s.heap.objs.size f cdv)) → sp vs H Q E →
      ∃ t, PSs (cxOf (CX1 P w) P w K mg base N qual (defScope st) f cdv A outer s H E) (defBody st) t ∧ t { nx := fun _ H' => Q .non H', rt := Q } (start N vs) H) : FnOk P w K mg base (CX1 P w) (k + 1) f fd ps sp := by
  obtain ⟨oc, od, kV, doc, pm, an, cdv, ct, osl, rfl, lk, hcd⟩ := F.ex
  exact fn_of lk hcd S len fun A outer s H vs Q E hr hsp => hbody cdv A outer s H vs Q E hr hsp
theorem MDef.fux (D : MDef K C m qual st ps) (S : FnScope N ps (defScope st)) (len : ∀ vs H Q E, sp vs H Q E → vs.length = ps.length)
    (hbody : ∀ (f : Addr) (cdv : Value) (A : Around) (outer : List Env) (s : Shared) (H : Hp) (vs : List V) (Q : VK) (E : XK), Room k (A.deeper (envOfC qual (defScope st) s.heap.objs.size f cdv)) → sp vs H Q E →
      ∃ t, PSs (cxOf (CX1 P w) P w K mg base N qual (defScope st) f cdv A outer s H E) (defBody st) t ∧ t { nx := fun _ H' => Q .non H', rt := Q } (start N vs) H) : FuM P w K mg base (CX1 P w) (k + 1) C m ps sp := by
  obtain ⟨f, fd, F, hm, hb⟩ := D.ex
  exact ⟨f, fd, Fun.okx F S len fun cdv A outer s H vs Q E hr h => hbody f cdv A outer s H vs Q E hr h, hm, hb⟩
theorem Def.fux (D : Def K mg x st ps) (S : FnScope N ps (defScope st)) (len : ∀ vs H Q E, sp vs H Q E → vs.length = ps.length)
    (hbody : ∀ (f : Addr) (cdv : Value) (A : Around) (outer : List Env) (s : Shared) (H : Hp) (vs : List V) (Q : VK) (E : XK), Room k (A.deeper (envOfC x (defScope st) s.heap.objs.size f cdv)) → sp vs H Q E →
      ∃ t, PSs (cxOf (CX1 P w) P w K mg base N x (defScope st) f cdv A outer s H E) (defBody st) t ∧ t { nx := fun _ H' => Q .non H', rt := Q } (start N vs) H) : Fu P w K mg base (CX1 P w) (k + 1) x ps sp := by
  obtain ⟨f, fd, F, hm, hb⟩ := D.ex
  exact ⟨f, fd, Fun.okx F S len fun cdv A outer s H vs Q E hr h => hbody f cdv A outer s H vs Q E hr h, hm, F.kp, hb⟩
/-- an __init__ of the text -/
structure KDef (K : PySem.W.Frag) (C : Addr) (qual : Str) (st : Stmt) (ps : List Str) : Prop where
  ex : ∃ f fd, Fun K "__init__" qual st f fd ∧ Mk K C f ∧ Binds K fd ps []
theorem KDef.fux (D : KDef K C qual st ps) (S : FnScope N ps (defScope st)) (len : ∀ vs H Q E, sp vs H Q E → vs.length = ps.length)
    (hbody : ∀ (f : Addr) (cdv : Value) (A : Around) (outer : List Env) (s : Shared) (H : Hp) (vs : List V) (Q : VK) (E : XK), Room k (A.deeper (envOfC qual (defScope st) s.heap.objs.size f cdv)) → sp vs H Q E →
      ∃ t, PSs (cxOf (CX1 P w) P w K mg base N qual (defScope st) f cdv A outer s H E) (defBody st) t ∧ t { nx := fun _ H' => Q .non H', rt := Q } (start N vs) H) : FuK P w K mg base (CX1 P w) (k + 1) C ps sp := by
  obtain ⟨f, fd, F, hm, hb⟩ := D.ex
  exact ⟨f, fd, Fun.okx F S len fun cdv A outer s H vs Q E hr h => hbody f cdv A outer s H vs Q E hr h, hm, hb⟩
end
end L3

namespace L3
open PySem PySem.Spec PyProof.Rows L2
/-! ### a method and an __init__, of what the top has written -/
theorem MDef.of {K : PySem.W.Frag} {C : Addr} {m qual : Str} {st : Stmt} {ps : List Str} {f : Addr} {oc : Value} {od an : Option Addr} {osl : Array (Option Value)} {kV doc pm cdv ct : Value}
    (b : ∀ (kV doc pm : Value) (an : Option Addr) (cdv ct : Value) (us : List Value), us.length = ps.length → bindArgs (PySem.W.fnOf m qual (defArgs st) (defBody st) (defScope st) .none kV doc pm an cdv ct) ⟨us, []⟩ = pure (ps.zip us))
    (a : PySem.W.findIn K (.ref C) m = some (some (.ref f))) (i : PySem.W.isFn K (.ref f) = true) (l : K.lookup f = some ⟨oc, od, .func (PySem.W.fnOf m qual (defArgs st) (defBody st) (defScope st) .none kV doc pm an cdv ct), osl⟩)
    (c : PySem.W.codeIn K cdv qual = true) (k : PySem.W.keepIn K (.ref f) = true) : MDef K C m qual st ps :=
  ⟨f, _, fun_mk (st := st) l c k, ⟨a, i, k⟩, (fun_mk (st := st) l c k).binds b⟩
theorem KDef.of {K : PySem.W.Frag} {C : Addr} {qual : Str} {st : Stmt} {ps : List Str} {f : Addr} {oc : Value} {od an : Option Addr} {osl : Array (Option Value)} {kV doc pm cdv ct : Value}
    (b : ∀ (kV doc pm : Value) (an : Option Addr) (cdv ct : Value) (us : List Value), us.length = ps.length → bindArgs (PySem.W.fnOf "__init__" qual (defArgs st) (defBody st) (defScope st) .none kV doc pm an cdv ct) ⟨us, []⟩ = pure (ps.zip us))
    (mk : PySem.W.makesIn K C = true) (kc : PySem.W.keepIn K (.ref C) = true)
    (a : PySem.W.findIn K (.ref C) "__init__" = some (some (.ref f))) (i : PySem.W.isFn K (.ref f) = true) (l : K.lookup f = some ⟨oc, od, .func (PySem.W.fnOf "__init__" qual (defArgs st) (defBody st) (defScope st) .none kV doc pm an cdv ct), osl⟩)
    (c : PySem.W.codeIn K cdv qual = true) (k : PySem.W.keepIn K (.ref f) = true) : KDef K C qual st ps :=
  ⟨f, _, fun_mk (st := st) l c k, ⟨mk, a, i, kc⟩, (fun_mk (st := st) l c k).binds b⟩
end L3

namespace L3
open PySem PySem.Spec PyProof.Rows L2
section
variable {X : Cx} {pins : List (Addr × Obj)} {σ : L2.St} {H : Hp} {s : Shared} {h' : Heap}
/-- some of our own untracked records have turned -/
theorem turnedL {t' : Nat} {ch : List Addr} (I : Inv X pins σ H s) (k : ∀ b o, b ∉ ch → s.heap.get? b = some o → h'.get? b = some o) (hf : ∀ b ∈ ch, FpOk X pins H b) : Inv X pins σ H { s with heap := h', toks := t' } := by
  have nit : ∀ b u, H b = some u → b ∉ ch := fun b u e z => by rw [(hf b z).1] at e; cases e
  refine I.step (g' := s.gens) (d' := s.drawn) (ch := ch) (fun b hb => ?_) (fun b o _ _ hc e _ => k b o hc e) (fun b o _ _ hc e _ => ⟨o.slots, k b o hc e⟩) (fun _ _ _ _ n => n)
    (fun b o hc e => ⟨o, k b o hc e⟩) (fun _ _ e => e) (fun _ _ _ e => e) (fun b ps e => ⟨#[], by rw [e]; simp⟩) (fun m hm => ?_) (fun b u e => ?_) I.bare
  · obtain ⟨f0, f1, f2, f3, f4, f5⟩ := hf b hb
    exact ⟨f3, f1, f4, f5⟩
  · obtain ⟨o, es, ep, ho, r⟩ := hm
    exact ⟨o, es, ep, k _ o (fun z => (hf _ z).2.1 rfl) ho, r⟩
  · refine (I.hok b u e).stay (fun c v hc q => k c v ?_ q) (fun _ q => q) fun _ _ q => q
    rcases hc with z | z
    · rw [z]; exact nit b u e
    · exact nit c _ z
/-- .. and a new tuple is laid -/
theorem turnedT {t' : Nat} {ch : List Addr} {xs : List V} {its : List Value} (I : Inv X pins σ H s) (rv : Vals xs its) (hz : xs.length ≤ sizeLine) (k : ∀ b o, b ∉ ch → s.heap.get? b = some o → h'.get? b = some o)
    (hT : h'.get? s.heap.objs.size = some { cls := .type "tuple", data := .seq its.toArray }) (hf : ∀ b ∈ ch, FpOk X pins H b) (hlt : ∀ b ∈ ch, b < s.heap.objs.size) : Inv X pins σ (upd H s.heap.objs.size (.tup xs)) { s with heap := h', toks := t' } := by
  have I1 : Inv X pins σ (upd H s.heap.objs.size (.tup xs)) { s with heap := s.heap.push { cls := .type "tuple", data := .seq its.toArray }, toks := s.toks } :=
    I.laid (fun b o e => Heap.get?_push_of_some _ e) (Nat.le_refl _) (show ObjOk X.prog X.w _ _ _ (.tup xs) from ⟨hz, its, rv, IsTup.new _ _⟩)
  refine turnedL (s := { s with heap := s.heap.push { cls := .type "tuple", data := .seq its.toArray }, toks := s.toks }) (h' := h') (t' := t') I1 (ch := ch) (fun b o hb e => ?_) fun b hb => ?_
  · rcases Heap.get?_push_cases e with ⟨e1, e2⟩ | e1
    · rw [e1, e2]; exact hT
    · exact k b o hb e1
  · obtain ⟨f0, f1⟩ := hf b hb
    exact ⟨by rw [upd_ne (Nat.ne_of_lt (hlt b hb))]; exact f0, f1⟩
end
/-! ### enumerate(xs) -/
def Ite (K : PySem.W.Frag) (a : Addr) : It :=
  ⟨fun i H => ∃ xs x, SqL K H a xs ∧ xs[i]? = some x, fun i H x H' => ∃ T v, H T = none ∧ x = .ref T ∧ H' = upd H T (.tup [.int i, v]) ∧ ∀ xs, SqL K H a xs → xs[i]? = some v, fun i H => ∃ xs, SqL K H a xs ∧ xs.length ≤ i⟩
theorem turn_enum {P : Program} {w : World} {K : PySem.W.Frag} {elts : List Expr} {x1 : Nat} {tpos : Pos} (a e it : Addr) (hne : e ≠ it) : Turn P w K (.Tuple elts x1 tpos) (Ite K a) [e, it] e (fun i h => (∃ old, IsEnum h e it i old) ∧ h.IsListIter it a i) where
  mem := by simp
  obj := fun i h st b hb => by
    obtain ⟨⟨old, he⟩, hit⟩ := st
    simp only [List.mem_cons, List.not_mem_nil, or_false] at hb
    rcases hb with rfl | rfl
    · exact ⟨_, he, fun v z => by cases z⟩
    · obtain ⟨o, e, c, d⟩ := hit
      exact ⟨o, e, fun v z => by rw [d] at z; cases z⟩
  keep := fun i h h' st k => by
    obtain ⟨⟨old, he⟩, hit⟩ := st
    exact ⟨⟨old, k e (by simp) _ he⟩, hit.at fun o x => k it (by simp) o x⟩
  item := by
    intro X hP hw hK hc i pins s σ H E I hf st hg
    subst hP hw hK
    obtain ⟨⟨old, he⟩, hit⟩ := st
    obtain ⟨xs, x, hq, hx⟩ := hg
    obtain ⟨its, rv, p, hz⟩ := I.list hq
    obtain ⟨u, hu, ru⟩ := rv.get hx
    have helt : e < s.heap.objs.size := Heap.lt_size he
    have hilt : it < s.heap.objs.size := by obtain ⟨_, y, _⟩ := hit; exact Heap.lt_size y
    refine wpAny_pyNext_enum_item he hit p.isList (x := u) (by simpa using hu) hne fun h' ho hit' hT hsz hk => ?_
    have lt : ∀ b ∈ [e, it], b < s.heap.objs.size := by
      intro b hb
      simp only [List.mem_cons, List.not_mem_nil, or_false] at hb
      rcases hb with rfl | rfl
      · exact helt
      · exact hilt
    have I1 : Inv X pins σ (upd H s.heap.objs.size (.tup [.int i, x])) { s with heap := h', toks := s.toks + 1 } :=
      turnedT (ch := [e, it]) (its := [.int i s.toks, u]) I (.cons ⟨_, rfl⟩ (.cons ru .nil)) (by show 2 ≤ sizeLine; decide) (fun b o hb q => hk b o (fun z => hb (by simp [z])) (fun z => hb (by simp [z])) q) hT hf lt
    have hf1 : ∀ b ∈ [e, it], FpOk X pins (upd H s.heap.objs.size (.tup [.int i, x])) b := fun b hb => by
      obtain ⟨f0, f1⟩ := hf b hb
      exact ⟨by rw [upd_ne (Nat.ne_of_lt (lt b hb))]; exact f0, f1⟩
    refine ⟨_, rfl, wpAny_letOwnedTupleGo_enum (s := { s with heap := h', toks := s.toks + 1 }) ho fun h2 he2 sb => ?_⟩
    have I2 : Inv X pins σ (upd H s.heap.objs.size (.tup [.int i, x])) { s with heap := h2, toks := s.toks + 1 } := turnedL (s := { s with heap := h', toks := s.toks + 1 }) (t' := s.toks + 1) (ch := [e, it]) I1 (fun b o hb q => (sb.2 b (fun z => hb (by simp [z]))).trans q) hf1
    exact ⟨.ref s.heap.objs.size, _, I2, rfl, ⟨_, x, I.fresh, rfl, rfl, fun ys hy => by rw [I.list_inj hy hq]; exact hx⟩, ⟨⟨_, by simpa using he2⟩, hit'.at fun o y => (sb.2 it (Ne.symm hne)).trans y⟩, fun b hb => (hf1 b hb).1⟩
  done := by
    intro X hP hw hK hc i pins s σ H E I hf st hg
    subst hP hw hK
    obtain ⟨⟨old, he⟩, hit⟩ := st
    obtain ⟨xs, hq, hx⟩ := hg
    obtain ⟨its, rv, p, hz⟩ := I.list hq
    have hl := rv.length
    exact wpAny_pyNext_enum_end (I.ok.hd hc) he hit p.isList (by simp; omega) fun h' eb => ⟨rfl, turnedL (t' := s.toks) (ch := [e, it]) I (fun b o hb q => eb b o (fun z => hb (by simp [z])) q) hf⟩
  self := fun _ _ _ _ _ st h => by
    obtain ⟨⟨old, he⟩, hit⟩ := st
    exact wpAny_pyIter_enum he h
section
variable {X : Cx} {elts : List Expr} {x1 : Nat} {tpos : Pos} {l : Expr} {ta : TA} {p pos : Pos}
def iEnum (K : PySem.W.Frag) (ta : TA) : TI := fun σ H R => ta σ H fun vs H1 => ∃ a, vs = [.ref a] ∧ (∃ xs, SqL K H1 a xs) ∧ R (Ite K a) H1
theorem boot_enum' : bootBuiltins "enumerate" = some (.type "enumerate") := by decide +kernel
theorem boot_zip' : bootBuiltins "zip" = some (.type "zip") := by decide +kernel
theorem boot_rev' : bootBuiltins "reversed" = some (.type "reversed") := by decide +kernel
theorem boot_all' : bootBuiltins "all" = some (.builtin "all") := by decide +kernel
theorem pi_enum (hm : X.mg "enumerate" = none) (ha : PA X [l] ta) (hg : Gl X "enumerate" := by rfl) (hs : starEach [l] X.env = [(false, eval l X.env)] := by rfl) : PI X (.Tuple elts x1 tpos) (.Call (.Name "enumerate" p) [l] [] pos) (iEnum X.K ta) := by
  intro pins s σ H R I h
  refine Call_ (ld_blt I hg hm boot_enum' (PyProof.Rows.callWith_type1 (thn (ha pos pins s σ H _ I h) fun us s1 ⟨vs, H1, I1, r1, q1⟩ => ?_) hs rfl))
  obtain ⟨a, e, ⟨xs, hq⟩, q⟩ := q1
  subst e
  obtain ⟨u, rfl, ru⟩ := vals1 r1
  cases ru
  obtain ⟨its, rv, pl, hz⟩ := I1.list hq
  refine call_enumerate_list pl.isList fun h' he hit hsz hk => ?_
  have I2 : Inv X pins σ H1 { s1 with heap := h' } := I1.kept (t' := s1.toks) hk
  refine wpAny_pyIter_enum (s := { s1 with heap := h' }) he ⟨_, [s1.heap.objs.size + 1, s1.heap.objs.size], _, _, H1, rfl, I2, turn_enum a (s1.heap.objs.size + 1) s1.heap.objs.size (Nat.succ_ne_self _), ⟨⟨_, he⟩, hit⟩, fun b hb => ?_, q⟩
  simp only [List.mem_cons, List.not_mem_nil, or_false] at hb
  rcases hb with rfl | rfl
  · exact I1.fpOk (by omega) (I1.hok.fresh (by omega))
  · exact I1.fpOk (Nat.le_refl _) (I1.hok.fresh (Nat.le_refl _))
end
/-! ### zip(xs, ys) -/
def Itz (K : PySem.W.Frag) (a b : Addr) : It :=
  ⟨fun i H => ∃ xs x ys y, SqL K H a xs ∧ xs[i]? = some x ∧ SqL K H b ys ∧ ys[i]? = some y, fun i H x H' => ∃ T v u, H T = none ∧ x = .ref T ∧ H' = upd H T (.tup [v, u]) ∧ (∀ xs, SqL K H a xs → xs[i]? = some v) ∧ ∀ ys, SqL K H b ys → ys[i]? = some u,
    fun i H => ∃ xs ys, SqL K H a xs ∧ SqL K H b ys ∧ (xs.length ≤ i ∨ ys.length ≤ i)⟩
def ZSt (z TI TO i1 i2 a b : Addr) (i : Nat) (h : Heap) : Prop := IsZip h z TI TO .none ∧ IsPair h TI (.ref i1) (.ref i2) ∧ (∃ u v, IsPair h TO u v) ∧ h.IsListIter i1 a i ∧ h.IsListIter i2 b i
theorem turn_zip {P : Program} {w : World} {K : PySem.W.Frag} {elts : List Expr} {x1 : Nat} {tpos : Pos} {z TI TO i1 i2 a b : Addr} (D : ZipApart z TI TO i1 i2 a b) : Turn P w K (.Tuple elts x1 tpos) (Itz K a b) [z, TI, TO, i1, i2] z (ZSt z TI TO i1 i2 a b) where
  mem := by simp
  obj := fun i h st c hc => by
    obtain ⟨hz, h1, ⟨u, v, h2⟩, h3, h4⟩ := st
    simp only [List.mem_cons, List.not_mem_nil, or_false] at hc
    rcases hc with rfl | rfl | rfl | rfl | rfl
    · exact ⟨_, hz, fun v z => by cases z⟩
    · exact ⟨_, h1, fun v z => by cases z⟩
    · exact ⟨_, h2, fun v z => by cases z⟩
    · obtain ⟨o, e, c, d⟩ := h3
      exact ⟨o, e, fun v z => by rw [d] at z; cases z⟩
    · obtain ⟨o, e, c, d⟩ := h4
      exact ⟨o, e, fun v z => by rw [d] at z; cases z⟩
  keep := fun i h h' st k => by
    obtain ⟨hz, h1, ⟨u, v, h2⟩, h3, h4⟩ := st
    exact ⟨k z (by simp) _ hz, k TI (by simp) _ h1, ⟨u, v, k TO (by simp) _ h2⟩, h3.at fun o x => k i1 (by simp) o x, h4.at fun o x => k i2 (by simp) o x⟩
  item := by
    intro X hP hw hK hc i pins s σ H E I hf st hg
    subst hP hw hK
    obtain ⟨hz, h1, ⟨u0, v0, h2⟩, h3, h4⟩ := st
    obtain ⟨xs, x, ys, y, hq, hx, hq2, hy⟩ := hg
    obtain ⟨its, rv, p, hzl⟩ := I.list hq
    obtain ⟨its2, rv2, p2, hzl2⟩ := I.list hq2
    obtain ⟨u, hu, ru⟩ := rv.get hx
    obtain ⟨v, hv, rv'⟩ := rv2.get hy
    have lt : ∀ b ∈ [z, TI, TO, i1, i2], b < s.heap.objs.size := by
      intro b hb
      simp only [List.mem_cons, List.not_mem_nil, or_false] at hb
      rcases hb with rfl | rfl | rfl | rfl | rfl
      · exact Heap.lt_size hz
      · exact Heap.lt_size h1
      · exact Heap.lt_size h2
      · obtain ⟨_, y, _⟩ := h3; exact Heap.lt_size y
      · obtain ⟨_, y, _⟩ := h4; exact Heap.lt_size y
    refine wpAny_pyNext_zip_item D hz h1 h2 h3 h4 p.isList p2.isList (x := u) (y := v) (by simpa using hu) (by simpa using hv) fun h' hz' hTO' h3' h4' hT hsz hk => ?_
    have I1 : Inv X pins σ (upd H s.heap.objs.size (.tup [x, y])) { s with heap := h', toks := s.toks } :=
      turnedT (ch := [z, TI, TO, i1, i2]) (its := [u, v]) I (.cons ru (.cons rv' .nil)) (by show 2 ≤ sizeLine; decide) (fun b o hb q => hk b o (fun z => hb (by simp [z])) (fun z => hb (by simp [z])) (fun z => hb (by simp [z])) (fun z => hb (by simp [z])) q) hT hf lt
    have hf1 : ∀ b ∈ [z, TI, TO, i1, i2], FpOk X pins (upd H s.heap.objs.size (.tup [x, y])) b := fun b hb => by
      obtain ⟨f0, f1⟩ := hf b hb
      exact ⟨by rw [upd_ne (Nat.ne_of_lt (lt b hb))]; exact f0, f1⟩
    refine ⟨_, rfl, wpAny_letOwnedTupleGo_zip (s := { s with heap := h', toks := s.toks }) hz' fun h2' hz2 sb => ?_⟩
    have I2 : Inv X pins σ (upd H s.heap.objs.size (.tup [x, y])) { s with heap := h2', toks := s.toks } := turnedL (s := { s with heap := h', toks := s.toks }) (t' := s.toks) (ch := [z, TI, TO, i1, i2]) I1 (fun b o hb q => (sb.2 b (fun z => hb (by simp [z]))).trans q) hf1
    refine ⟨.ref s.heap.objs.size, _, I2, rfl, ⟨_, x, y, I.fresh, rfl, rfl, fun ys hy => by rw [I.list_inj hy hq]; exact hx, fun ys' hy' => by rw [I.list_inj hy' hq2]; exact hy⟩, ⟨hz2, (sb.2 TI D.TIz).trans (hk TI _ D.TIz D.TITO D.TIi1 D.TIi2 h1), ⟨u, v, (sb.2 TO D.TOz).trans hTO'⟩, h3'.at fun o y => (sb.2 i1 D.i1z).trans y, h4'.at fun o y => (sb.2 i2 D.i2z).trans y⟩, fun b hb => (hf1 b hb).1⟩
  done := by
    intro X hP hw hK hc i pins s σ H E I hf st hg
    subst hP hw hK
    obtain ⟨hz, h1, ⟨u0, v0, h2⟩, h3, h4⟩ := st
    obtain ⟨xs, ys, hq, hq2, hend⟩ := hg
    obtain ⟨its, rv, p, _⟩ := I.list hq
    obtain ⟨its2, rv2, p2, _⟩ := I.list hq2
    have hl := rv.length
    have hl2 := rv2.length
    exact wpAny_pyNext_zip_end (I.ok.hd hc) D hz h1 h2 h3 h4 p.isList p2.isList (by rcases hend with q | q; exact .inl (by simp; omega); exact .inr (by simp; omega)) fun h' eb => ⟨rfl, turnedL (t' := s.toks) (ch := [z, TI, TO, i1, i2]) I (fun b o hb q => eb b o (fun z => hb (by simp [z])) (fun z => hb (by simp [z])) (fun z => hb (by simp [z])) (fun z => hb (by simp [z])) q) hf⟩
  self := fun _ _ _ _ _ st h => wpAny_pyIter_zip st.1 h
section
variable {X : Cx} {elts : List Expr} {x1 : Nat} {tpos : Pos} {l m : Expr} {ta : TA} {p pos : Pos}
def iZip (K : PySem.W.Frag) (ta : TA) : TI := fun σ H R => ta σ H fun vs H1 => ∃ a b, vs = [.ref a, .ref b] ∧ (∃ xs, SqL K H1 a xs) ∧ (∃ ys, SqL K H1 b ys) ∧ R (Itz K a b) H1
theorem pi_zip (hm : X.mg "zip" = none) (ha : PA X [l, m] ta) (hg : Gl X "zip" := by rfl) (hs : starEach [l, m] X.env = [(false, eval l X.env), (false, eval m X.env)] := by rfl) (hs2 : starEach [m] X.env = [(false, eval m X.env)] := by rfl) : PI X (.Tuple elts x1 tpos) (.Call (.Name "zip" p) [l, m] [] pos) (iZip X.K ta) := by
  intro pins s σ H R I h
  refine Call_ (ld_blt I hg hm boot_zip' (PyProof.Rows.callWith_type1 (thn (ha pos pins s σ H _ I h) fun us s1 ⟨vs, H1, I1, r1, q1⟩ => ?_) (by rw [hs, hs2]) (by rw [hs2]; rfl)))
  obtain ⟨a, b, e, ⟨xs, hq⟩, ⟨ys, hq2⟩, q⟩ := q1
  subst e
  obtain ⟨u, v, rfl, ru, rv'⟩ := vals2 r1
  cases ru
  cases rv'
  obtain ⟨its, rv, pl, hz⟩ := I1.list hq
  obtain ⟨its2, rv2, pl2, hz2⟩ := I1.list hq2
  have la : a < s1.heap.objs.size := by obtain ⟨o, e, _⟩ := pl.isList; exact Heap.lt_size e
  have lb : b < s1.heap.objs.size := by obtain ⟨o, e, _⟩ := pl2.isList; exact Heap.lt_size e
  refine call_zip_2 pl.isList pl2.isList fun h' hzz hTI hTO h1 h2 hsz hk => ?_
  have I2 : Inv X pins σ H1 { s1 with heap := h' } := I1.kept (t' := s1.toks) hk
  refine wpAny_pyIter_zip (s := { s1 with heap := h' }) hzz ⟨_, [s1.heap.objs.size + 4, s1.heap.objs.size + 2, s1.heap.objs.size + 3, s1.heap.objs.size, s1.heap.objs.size + 1], _, _, H1, rfl, I2, turn_zip (a := a) (b := b) (zipApart_new la lb), ⟨hzz, hTI, ⟨_, _, hTO⟩, h1, h2⟩, fun c hc => ?_, q⟩
  simp only [List.mem_cons, List.not_mem_nil, or_false] at hc
  rcases hc with rfl | rfl | rfl | rfl | rfl
  · exact I1.fpOk (by omega) (I1.hok.fresh (by omega))
  · exact I1.fpOk (by omega) (I1.hok.fresh (by omega))
  · exact I1.fpOk (by omega) (I1.hok.fresh (by omega))
  · exact I1.fpOk (Nat.le_refl _) (I1.hok.fresh (Nat.le_refl _))
  · exact I1.fpOk (by omega) (I1.hok.fresh (by omega))
end
/-! ### reversed(xs) -/
def Itv (K : PySem.W.Frag) (a : Addr) (n : Nat) : It :=
  ⟨fun i H => ∃ xs x, SqL K H a xs ∧ xs.length = n ∧ i < n ∧ xs[n - 1 - i]? = some x, fun i H x H' => H' = H ∧ ∀ xs, SqL K H a xs → xs[n - 1 - i]? = some x, fun i H => n ≤ i⟩
theorem turn_rev {P : Program} {w : World} {K : PySem.W.Frag} {tg : Expr} (a it : Addr) (n : Nat) : Turn P w K tg (Itv K a n) [it] it (fun i h => i ≤ n ∧ h.IsRevIter it a ((n : Int) - 1 - (i : Int))) where
  mem := by simp
  obj := fun i h st b hb => by
    have e : b = it := by simpa using hb
    subst e
    obtain ⟨_, o, e, c, d⟩ := st
    exact ⟨o, e, fun v z => by rw [d] at z; cases z⟩
  keep := fun i h h' st k => ⟨st.1, st.2.at fun o e => k it (by simp) o e⟩
  item := by
    intro X hP hw hK hc i pins s σ H E I hf st hg
    subst hP hw hK
    obtain ⟨xs, x, hq, hn, hi, hx⟩ := hg
    obtain ⟨its, rv, p, hz⟩ := I.list hq
    obtain ⟨u, hu, ru⟩ := rv.get hx
    obtain ⟨f0, f1, f2, f3, f4, f5⟩ := hf it (by simp)
    have st2 := st.2
    rw [show (n : Int) - 1 - (i : Int) = ((n - 1 - i : Nat) : Int) by omega] at st2
    refine wpAny_pyNext_rev_item st2 p.isList (x := u) (by simpa using hu) fun h' st' sb => ?_
    have I1 : Inv X pins σ H { s with heap := h' } := I.turned (t' := s.toks) (fun b o hb e => (sb.2 b hb).trans e) f0 f1 f3 f4 f5
    rw [show ((n - 1 - i : Nat) : Int) - 1 = (n : Int) - 1 - ((i + 1 : Nat) : Int) by omega] at st'
    obtain ⟨o, e, c, d⟩ := id st'
    exact ⟨u, rfl, go_of (s := { s with heap := h' }) e c d (by decide) ⟨x, H, I1, ru, ⟨rfl, fun ys hy => by rw [I.list_inj hy hq]; exact hx⟩, ⟨by omega, st'⟩, fun b hb => (hf b hb).1⟩⟩
  done := by
    intro X hP hw hK hc i pins s σ H E I hf st hg
    subst hP hw hK
    obtain ⟨f0, f1, f2, f3, f4, f5⟩ := hf it (by simp)
    have hg' : n ≤ i := hg
    have st2 := st.2
    have hi := st.1
    rw [show (n : Int) - 1 - (i : Int) = -1 by omega] at st2
    exact wpAny_pyNext_rev_end (I.ok.hd hc) st2 fun h' eb => ⟨rfl, I.turned (t' := s.toks) (fun b o hb e => eb b o hb e) f0 f1 f3 f4 f5⟩
  self := fun _ _ _ _ _ st h => wpAny_pyIter_revIter st.2 h
section
variable {X : Cx} {tg l : Expr} {ta : TA} {p pos : Pos}
def iRev (K : PySem.W.Frag) (ta : TA) : TI := fun σ H R => ta σ H fun vs H1 => ∃ a xs, vs = [.ref a] ∧ SqL K H1 a xs ∧ R (Itv K a xs.length) H1
theorem pi_rev (hm : X.mg "reversed" = none) (ha : PA X [l] ta) (hg : Gl X "reversed" := by rfl) (hs : starEach [l] X.env = [(false, eval l X.env)] := by rfl) : PI X tg (.Call (.Name "reversed" p) [l] [] pos) (iRev X.K ta) := by
  intro pins s σ H R I h
  refine Call_ (ld_blt I hg hm boot_rev' (PyProof.Rows.callWith_type1 (thn (ha pos pins s σ H _ I h) fun us s1 ⟨vs, H1, I1, r1, q1⟩ => ?_) hs rfl))
  obtain ⟨a, xs, e, hq, q⟩ := q1
  subst e
  obtain ⟨u, rfl, ru⟩ := vals1 r1
  cases ru
  obtain ⟨its, rv, pl, hz⟩ := I1.list hq
  have hl := rv.length
  refine call_reversed_list pl.isList ?_
  have hit : (s1.heap.push (revObj a ((its.toArray.size : Int) - 1))).IsRevIter s1.heap.objs.size a ((xs.length : Int) - 1 - ((0 : Nat) : Int)) := ⟨_, Heap.get?_push_size _ rfl, rfl, by rw [hl]; simp [revObj]⟩
  refine wpAny_pyIter_revIter (s := { s1 with heap := s1.heap.push (revObj a ((its.toArray.size : Int) - 1)) }) hit ⟨_, [s1.heap.objs.size], _, _, H1, rfl, I1.kept (t' := s1.toks) fun b o e => Heap.get?_push_of_some _ e, turn_rev a _ xs.length, ⟨Nat.zero_le _, hit⟩, fun b hb => ?_, q⟩
  have e : b = s1.heap.objs.size := by simpa using hb
  subst e
  exact I1.fpOk (Nat.le_refl _) (I1.hok.fresh (Nat.le_refl _))
/-! ### all(xs), xs a list of bools -/
theorem all_get {bs : List Bool} : (List.range bs.length).all (fun i => bs.getD i false) = bs.all id := by
  rw [Bool.eq_iff_iff, List.all_eq_true, List.all_eq_true]
  constructor
  · intro h x hx
    obtain ⟨i, hi, e⟩ := List.getElem_of_mem hx
    have := h i (by simpa using hi)
    simp [List.getD, hi, e] at this
    simpa using this
  · intro h i hi
    have hi' : i < bs.length := by simpa using hi
    simp [List.getD, hi']
    exact h _ (List.getElem_mem hi')
theorem call_all : CallR X (.builtin "all") (fun xs H Q => ∃ (p : Addr) (bs : List Bool), xs = [.ref p] ∧ SqL X.K H p (bs.map V.bl) ∧ X.calm = true ∧ Q (.bl (bs.all id)) H) := by
  intro pins s σ H xs us Q I r h
  obtain ⟨p, bs, rfl, hq, hc, q⟩ := h
  obtain ⟨u, rfl, ru⟩ := vals1 r
  cases ru
  obtain ⟨its, rv, pl, hz⟩ := I.list hq
  have hl := rv.length
  rw [List.length_map] at hl
  have hlt : p < s.heap.objs.size := by obtain ⟨o, e, _⟩ := pl.isList; exact Heap.lt_size e
  refine call_all_walk (wpAny_pyIter_list pl.isList ?_)
  refine ⟨s.heap.objs.size, _, _, its.toArray.size, _, _, fun i => bs.getD i false, rfl, Walks.list (show X.A.in1.handled = none from I.ok.hd hc) s.heap.objs.size p (Nat.ne_of_lt hlt) its.toArray, ?_, ?_, ?_⟩
  · exact ⟨⟨_, Heap.get?_push_size _ rfl, rfl, rfl⟩, by obtain ⟨o, e, r⟩ := pl.isList; exact ⟨o, Heap.get?_push_of_some _ e, r⟩⟩
  · intro i v s' Q' E' hP hQ
    have hP' : its[i]? = some v := by simpa using hP
    have hi : i < bs.length := by have := (List.getElem?_eq_some_iff.mp hP').1; omega
    have hb : (bs.map V.bl)[i]? = some (.bl bs[i]) := by simp [hi]
    obtain ⟨v', hv', rb⟩ := rv.get hb
    rw [hP'] at hv'
    cases hv'
    cases rb
    refine wpAny_truthy_bool ?_
    simpa [List.getD, hi] using hQ
  · intro h' tk hk
    refine ⟨.bl (bs.all id), H, I.kept (t' := tk) fun b o e => hk b o ?_ (Heap.get?_push_of_some _ e), ?_, q⟩
    · intro hb
      have e2 : b = s.heap.objs.size := by simpa using hb
      exact absurd (Heap.lt_size e) (by rw [e2]; exact Nat.lt_irrefl _)
    · show Value.bool _ = Value.bool _
      rw [show its.toArray.size = bs.length by simp; omega, all_get]
theorem p_all {K : PySem.W.Frag} (hm : X.mg "all" = none) (hc : X.calm = true) (ha : PA X [l] ta) (hg : Gl X "all" := by rfl) (hst : starEach [l] X.env = (false, eval l X.env) :: starEach [] X.env := by rfl) (hK : X.K = K := by rfl) :
    PE X (.Call (.Name "all" p) [l] [] pos) (tCB (fun xs H Q => ∃ (p : Addr) (bs : List Bool), xs = [.ref p] ∧ SqL K H p (bs.map V.bl) ∧ Q (.bl (bs.all id)) H) ta) := by
  subst hK
  refine pe_callB (r := fun xs H Q => ∃ (p : Addr) (bs : List Bool), xs = [.ref p] ∧ SqL X.K H p (bs.map V.bl) ∧ Q (.bl (bs.all id)) H) (fun pins s σ H xs us Q I r h => ?_) hg hm boot_all' ha (he := hst)
  obtain ⟨p, bs, e, hq, q⟩ := h
  exact call_all pins s σ H xs us Q I r ⟨p, bs, e, hq, hc, q⟩
end
end L3

namespace L3
open PySem PySem.Spec PyProof.Rows L2
theorem cut_take (ns : List Int) (n : Nat) : cutV (ns.map V.int) none (some (n : Int)) = (ns.take n).map V.int := by
  unfold cutV
  rw [HT.sIx_none, HT.sIx_nat, List.length_map, Nat.sub_zero, List.drop_zero, ← List.map_take]
  congr 1
  by_cases h : n ≤ ns.length
  · rw [Nat.min_eq_left h]
  · rw [Nat.min_eq_right (by omega), List.take_of_length_le (Nat.le_refl _), List.take_of_length_le (by omega)]
theorem cut_drop (ns : List Int) (n : Nat) : cutV (ns.map V.int) (some (n : Int)) none = (ns.drop n).map V.int := by
  unfold cutV
  rw [HT.sIx_none, HT.sIx_nat, List.length_map, ← List.map_drop, ← List.map_take]
  congr 1
  by_cases h : n ≤ ns.length
  · rw [Nat.min_eq_left h, List.take_of_length_le (by rw [List.length_drop]; omega)]
  · rw [Nat.min_eq_right (by omega), List.drop_of_length_le (Nat.le_refl _), List.drop_of_length_le (by omega)]
    simp
theorem cut_takeI (ns : List Int) {n : Int} (h : 0 ≤ n) : cutV (ns.map V.int) none (some n) = (ns.take n.toNat).map V.int := by
  have := cut_take ns n.toNat
  rwa [Int.toNat_of_nonneg h] at this
theorem cut_dropI (ns : List Int) {n : Int} (h : 0 ≤ n) : cutV (ns.map V.int) (some n) none = (ns.drop n.toNat).map V.int := by
  have := cut_drop ns n.toNat
  rwa [Int.toNat_of_nonneg h] at this
def KeepBut (S : List Addr) (H H' : Hp) : Prop := ∀ x o, H x = some o → x ∉ S → H' x = some o
theorem KeepBut.refl (S : List Addr) (H : Hp) : KeepBut S H H := fun _ _ e _ => e
theorem KeepBut.trans {S : List Addr} {H H1 H2 : Hp} (a : KeepBut S H H1) (b : KeepBut S H1 H2) : KeepBut S H H2 := fun x o e n => b x o (a x o e n) n
theorem KeepBut.upd {S : List Addr} {H H1 : Hp} {x : Addr} {o : HO} (a : KeepBut S H H1) (h : x ∈ S ∨ H x = none) : KeepBut S H (upd H1 x o) := fun y u e n => by
  rw [upd_ne]
  · exact a y u e n
  · intro z
    subst z
    rcases h with h | h
    · exact n h
    · rw [h] at e; cases e
theorem KeepBut.more {S T : List Addr} {H H1 : Hp} (a : KeepBut S H H1) (h : ∀ x ∈ S, x ∈ T) : KeepBut T H H1 := fun y u e n => a y u e fun z => n (h y z)
theorem KeepBut.kp {P : Addr} {S : List Addr} {H H1 : Hp} (a : Kp P H H1) (h : P ∈ S) : KeepBut S H H1 := fun y u e n => a y u e fun z => n (z ▸ h)
theorem passF {X : Cx} {P : Program} {w : World} : Passes (CX1 P w) X E0 := fun _ _ _ _ _ _ _ ⟨_, _, _, _, _, _, q⟩ => q.elim
section
variable {K : PySem.W.Frag}
theorem Sh.same {H H' : Hp} (sm : Same H H') {x : V} {d : PyData} (h : Sh K H x d) : Sh K H' x d := by
  refine Sh.rec (motive_1 := fun x d _ => Sh K H' x d) (motive_2 := fun xs ds _ => ShL K H' xs ds) ?_ ?_ ?_ ?_ ?_ ?_ ?_ ?_ h
  · exact .non
  · exact fun b => .bl b
  · exact fun i => .int i
  · exact fun x => .str x
  · exact fun hq _ ih => .lst (sm.seq hq) ih
  · intro a xs ds hq _ ih
    refine .tup ?_ ih
    rcases hq with (hq | ⟨o, hq⟩) | hq
    · exact .inl (.inl (sm _ _ hq))
    · exact .inl (.inr ⟨o, sm _ _ hq⟩)
    · exact .inr hq
  · exact .nil
  · exact fun _ _ i1 i2 => .cons i1 i2
theorem ShL.same {H H' : Hp} (sm : Same H H') : ∀ {xs : List V} {ds : List PyData}, ShL K H xs ds → ShL K H' xs ds
  | _, _, .nil => .nil
  | _, _, .cons h r => .cons (Sh.same sm h) (ShL.same sm r)
theorem vis_of (l : List (Str × NameKind)) (fvs : List Str) (h : (l.all fun y => (y.2 != .free && y.2 != .cell) || fvs.contains y.1) = true) : ∀ x, (l.lookup x = some .cell ∨ l.lookup x = some .free) → x ∈ fvs := fun x e => by
  rcases e with e | e
  · have := List.all_eq_true.mp h _ (PySem.mem_of_lookup e)
    simpa using this
  · have := List.all_eq_true.mp h _ (PySem.mem_of_lookup e)
    simpa using this
end
theorem iteFe {b : Bool} {A B : Prop} (e : b = false) (h : B) : if b = true then A else B := by subst e; exact iteF h
theorem iteTe {b : Bool} {A B : Prop} (e : b = true) (h : A) : if b = true then A else B := by subst e; exact iteT h
theorem pg_tupK {X : Cx} {es : List Expr} {k : Nat} {t : TGs} {n : Nat} {K : PySem.W.Frag} {pos : Pos} (hc : X.calm = true) (h : PGs X es t) (hn : (assignEach es X.env).length = n := by rfl) (hst : (assignEach es X.env).findIdx? (·.1) = none := by rfl) (hK : X.K = K := by rfl) : PG X (.Tuple es k pos) (gTup K n t) := by
  subst hK
  exact pg_tup hc h hn hst
theorem pe_ixK {X : Cx} {a b : Expr} {ta tb : TE} {K : PySem.W.Frag} {pos : Pos} (ha : PE X a ta) (hb : PE X b tb) (hs : PlainIx b) (hK : X.K = K := by rfl) : PE X (.Subscript a b pos) (tOp (rIxL K) ta tb) := by
  subst hK
  exact pe_ix ix_list ha hb hs
theorem p_inK {X : Cx} {a b : Expr} {ta tb : TE} {K : PySem.W.Frag} {pos : Pos} (ha : PE X a ta) (hb : PE X b tb) (hm : behindInMarks .In b = false) (hK : X.K = K := by rfl) : PE X (.Compare a [.In] [b] pos) (tOp (rIn K false) ta tb) := by
  subst hK
  exact pe_cmpR op_in_seq ha hb hm
/-! ### an __init__ with defaults -/
structure KDefD (K : PySem.W.Frag) (C : Addr) (qual : Str) (st : Stmt) (ps : List Str) (ds : List Value) : Prop where
  ex : ∃ (f : Addr) (oc : Value) (od : Option Addr) (dV kV doc pm : Value) (an : Option Addr) (cdv ct : Value) (osl : Array (Option Value)), K.lookup f = some ⟨oc, od, .func (PySem.W.fnOf "__init__" qual (defArgs st) (defBody st) (defScope st) dV kV doc pm an cdv ct), osl⟩ ∧ PySem.W.codeIn K cdv qual = true ∧ Mk K C f ∧
    Binds K (PySem.W.fnOf "__init__" qual (defArgs st) (defBody st) (defScope st) dV kV doc pm an cdv ct) ps ds
structure FuKD (P : Program) (w : World) (K : PySem.W.Frag) (mg : Str → Option Value) (base : Heap) (CX : CXT) (k : Nat) (C : Addr) (ps : List Str) (ds : List Value) (sp : Sp) : Prop where
  ex : ∃ f fd, FnOk P w K mg base CX k f fd ps sp ∧ Mk K C f ∧ Binds K fd ps ds
theorem KDefD.fu {P : Program} {w : World} {K : PySem.W.Frag} {mg : Str → Option Value} {base : Heap} {C : Addr} {qual : Str} {st : Stmt} {N ps : List Str} {ds : List Value} {k : Nat} {sp : Sp} (D : KDefD K C qual st ps ds) (S : FnScope N ps (defScope st)) (len : ∀ vs H Q E, sp vs H Q E → vs.length = ps.length)
    (hbody : ∀ (f : Addr) (cdv : Value) (A : Around) (outer : List Env) (s : Shared) (H : Hp) (vs : List V) (Q : VK) (E : XK), Room k (A.deeper (envOfC qual (defScope st) s.heap.objs.size f cdv)) → sp vs H Q E →
      ∃ t, PSs (cxOf CX0 P w K mg base N qual (defScope st) f cdv A outer s H E).nox (defBody st) t ∧ t { nx := fun _ H' => Q .non H', rt := Q } (start N vs) H) : FuKD P w K mg base CX0 (k + 1) C ps ds sp := by
  obtain ⟨f, oc, od, dV, kV, doc, pm, an, cdv, ct, osl, lk, hcd, hm, hb⟩ := D.ex
  refine ⟨f, _, fn_of lk hcd S len fun A outer s H vs Q E hr hsp => ?_, hm, hb⟩
  obtain ⟨t, h, q⟩ := hbody f cdv A outer s H vs Q E hr hsp
  exact ⟨t, h.nox, q⟩
theorem KDefD.of {K : PySem.W.Frag} {C : Addr} {qual : Str} {st : Stmt} {ps : List Str} {ds : List Value} {f td : Addr} {oc tc : Value} {od an tod : Option Addr} {osl tsl : Array (Option Value)} {kV doc pm cdv ct : Value} {items : Array Value} {tn : Nat}
    (b : ∀ (kV doc pm : Value) (an : Option Addr) (cdv ct : Value) (s : Shared) (us : List Value) (o : Obj), s.heap.get? td = some o → o.data = .seq items tn → us.length + ds.length = ps.length → BindsTo s (PySem.W.fnOf "__init__" qual (defArgs st) (defBody st) (defScope st) (.ref td) kV doc pm an cdv ct) ⟨us, []⟩ (ps.zip (us ++ ds)))
    (mk : PySem.W.makesIn K C = true) (kc : PySem.W.keepIn K (.ref C) = true) (a : PySem.W.findIn K (.ref C) "__init__" = some (some (.ref f))) (i : PySem.W.isFn K (.ref f) = true)
    (l : K.lookup f = some ⟨oc, od, .func (PySem.W.fnOf "__init__" qual (defArgs st) (defBody st) (defScope st) (.ref td) kV doc pm an cdv ct), osl⟩) (c : PySem.W.codeIn K cdv qual = true) (l2 : K.lookup td = some ⟨tc, tod, .seq items tn, tsl⟩) : KDefD K C qual st ps ds :=
  ⟨f, oc, od, .ref td, kV, doc, pm, an, cdv, ct, osl, l, c, ⟨mk, a, i, kc⟩, fun s us KX hl => b kV doc pm an cdv ct s us _ (KX _ _ l2) rfl (by rw [← hl, List.length_append])⟩
theorem pmkD {X : Cx} {CX : CXT} {j k : Nat} {C : Addr} {x : Str} {ps : List Str} {ds : List Value} {dvs : List V} {sp : Sp} {E : XK} {p pos : Pos} {e : Expr} {es : List Expr} {t : TA} (F : FuKD X.prog X.w X.K X.mg X.base CX j C ps ds sp) (hr : Room (k + 1) X.A) (hm : X.mg x = some (.ref C)) (hd : Vals dvs ds) (hx : Passes CX X E) (ha : PA X (e :: es) t) (hj : j ≤ k := by decide) (hg : Gl X x := by rfl) (hdb : (x == ("__debug__" : Str)) = false := by decide)
    (he : starEach (e :: es) X.env = (false, eval e X.env) :: starEach es X.env := by rfl) (hpl : (backTo pos (starEach es X.env)).any (·.1) = false := by rfl) : PE X (.Call (.Name x p) (e :: es) [] pos) (tMake C sp dvs E t) := by
  obtain ⟨f, fd, G, hk, hb⟩ := F.ex
  exact pe_make hk (G.mono hj) hr hg hm hb hd hx ha hdb he hpl
/-! ### a comprehension's site -/
section
variable {X : Cx} {ts : List Str} {scope : Scope}
theorem site0 (h1 : closureFor scope X.env = pure []) (h2 : scope.kind = .function) (h3 : ∀ y ∈ scope.names, y.2 ≠ .cell) (h4 : ∀ y ∈ scope.names, y.2 = .local → scope.names.lookup y.1 = some .local)
    (hv : ((relabel scope X.env).names.all fun y => (y.2 != .free && y.2 != .cell) || ([] : List Str).contains y.1) = true) : CompSite X ts [] [] scope [] :=
  ⟨⟨h1, h2, h3, h4, vis_of _ _ hv, fun x hx => absurd hx (by simp), fun x c h1 => (by cases h1)⟩, fun x hx => absurd hx (by simp), fun x y c h1 h2 => (by cases h1), fun x hx => absurd hx (by simp), rfl⟩
theorem site1 {v : Str} {j : Nat} {c : Addr} (h1 : closureFor scope X.env = pure [(v, c)]) (h2 : scope.kind = .function) (h3 : ∀ y ∈ scope.names, y.2 ≠ .cell) (h4 : ∀ y ∈ scope.names, y.2 = .local → scope.names.lookup y.1 = some .local)
    (hv : ((relabel scope X.env).names.all fun y => (y.2 != .free && y.2 != .cell) || [v].contains y.1) = true) (hf : (relabel scope X.env).names.lookup v = some .cell ∨ (relabel scope X.env).names.lookup v = some .free)
    (hc : X.env.cells.lookup v = some c) (hk : X.env.kindOf v = some .cell ∨ X.env.kindOf v = some .free) (hs : X.N[j]? = some v) : CompSite X ts [v] [j] scope [(v, c)] := by
  refine ⟨⟨h1, h2, h3, h4, vis_of _ _ hv, fun x hx => ?_, fun x d e => ?_⟩, fun x hx => ?_, fun x y d e1 e2 => ?_, fun x hx => ?_, by simp [hs]⟩
  · have e : x = v := by simpa using hx
    subst e; exact hf
  · have e1 := PySem.mem_of_lookup e
    simp at e1
    exact ⟨v, by rw [e1.2]; exact hc⟩
  · have e : x = v := by simpa using hx
    subst e
    exact ⟨c, by simp [List.lookup], hc⟩
  · have e1 := PySem.mem_of_lookup e1
    have e2 := PySem.mem_of_lookup e2
    simp at e1 e2
    exact e1.1.trans e2.1.symm
  · have e : x = v := by simpa using hx
    subst e; exact hk
end
/-- a comprehension by its turns -/
theorem comp_it {D : Addr} {H0 : Hp} {A : Nat → List V → Hp → Prop} {B : (Nat → Nat → List V → Hp → Prop) → Nat → Nat → List V → Hp → Prop} (n : Nat) (hn : n < sizeLine) (Pv : Nat → List V → Hp → Prop) (h0 : Pv 0 [] (upd H0 D (.lst []))) (hD : ∀ i ys H2, Pv i ys H2 → H2 D = some (.lst ys) ∧ ys.length ≤ i)
    (hgo : ∀ (i : Nat) (ys : List V) (H2 : Hp) (N : Nat × (Nat → Nat → List V → Hp → Prop)), i < n → Pv i ys H2 → (∀ ys' H', Pv (i + 1) ys' H' → ∃ m', m' < N.1 ∧ N.2 (i + 1) m' ys' H') → B N.2 i N.1 ys H2)
    (hend : ∀ ys H2, Pv n ys H2 → A n ys H2) :
    ∃ W : Nat → Nat → List V → Hp → Prop, (∃ m, W 0 m [] (upd H0 D (.lst []))) ∧ ∀ i m ys H2, W i m ys H2 → H2 D = some (.lst ys) ∧ ys.length < sizeLine ∧ (A i ys H2 ∨ B W i m ys H2) := by
  refine ⟨fun i m ys H => m = n - i ∧ i ≤ n ∧ Pv i ys H, ⟨n, by simp, Nat.zero_le _, h0⟩, ?_⟩
  rintro i m ys H2 ⟨rfl, hi, p⟩
  obtain ⟨hd, hl⟩ := hD i ys H2 p
  refine ⟨hd, by omega, ?_⟩
  by_cases hlt : i < n
  · exact .inr (hgo i ys H2 (n - i, fun i m ys H => m = n - i ∧ i ≤ n ∧ Pv i ys H) hlt p fun ys' H' q => ⟨_, by show n - (i + 1) < n - i; omega, rfl, hlt, q⟩)
  · have e : i = n := by omega
    subst e
    exact .inl (hend ys H2 p)
end L3

namespace L3
open PySem PySem.Spec PyProof.Rows L2
/-! ### a def of a class, called through the class: D.m(e, ..) -/
structure ClsFn (K : PySem.W.Frag) (D : Addr) (m : Str) (f : Addr) : Prop where
  ga : PySem.W.specialIn K (.ref D) "__getattribute__" = some (some (.builtin "type.__getattribute__"))
  rd : PySem.W.readsIn K D (.type "type") = true
  fi : PySem.W.findCls K (.ref D) (.type "type") m = some (.val (.ref f))
  hd : PySem.W.handedIn (.ref f) = true
  kp : PySem.W.keepIn K (.ref f) = true
structure FuB (P : Program) (w : World) (K : PySem.W.Frag) (mg : Str → Option Value) (base : Heap) (CX : CXT) (k : Nat) (D : Addr) (m : Str) (ps : List Str) (sp : Sp) : Prop where
  ex : ∃ f fd, FnOk P w K mg base CX k f fd ps sp ∧ ClsFn K D m f ∧ Binds K fd ps []
structure BDef (K : PySem.W.Frag) (D : Addr) (m qual : Str) (st : Stmt) (ps : List Str) : Prop where
  ex : ∃ (f : Addr) (oc : Value) (od : Option Addr) (dV kV doc pm : Value) (an : Option Addr) (cdv ct : Value) (osl : Array (Option Value)), K.lookup f = some ⟨oc, od, .func (PySem.W.fnOf m qual (defArgs st) (defBody st) (defScope st) dV kV doc pm an cdv ct), osl⟩ ∧ PySem.W.codeIn K cdv qual = true ∧ ClsFn K D m f ∧
    Binds K (PySem.W.fnOf m qual (defArgs st) (defBody st) (defScope st) dV kV doc pm an cdv ct) ps []
theorem BDef.fu {P : Program} {w : World} {K : PySem.W.Frag} {mg : Str → Option Value} {base : Heap} {D : Addr} {m qual : Str} {st : Stmt} {N ps : List Str} {k : Nat} {sp : Sp} (B : BDef K D m qual st ps) (S : FnScope N ps (defScope st)) (len : ∀ vs H Q E, sp vs H Q E → vs.length = ps.length)
    (hbody : ∀ (f : Addr) (cdv : Value) (A : Around) (outer : List Env) (s : Shared) (H : Hp) (vs : List V) (Q : VK) (E : XK), Room k (A.deeper (envOfC qual (defScope st) s.heap.objs.size f cdv)) → sp vs H Q E →
      ∃ t, PSs (cxOf CX0 P w K mg base N qual (defScope st) f cdv A outer s H E).nox (defBody st) t ∧ t { nx := fun _ H' => Q .non H', rt := Q } (start N vs) H) : FuB P w K mg base CX0 (k + 1) D m ps sp := by
  obtain ⟨f, oc, od, dV, kV, doc, pm, an, cdv, ct, osl, lk, hcd, hm, hb⟩ := B.ex
  refine ⟨f, _, fn_of lk hcd S len fun A outer s H vs Q E hr hsp => ?_, hm, hb⟩
  obtain ⟨t, h, q⟩ := hbody f cdv A outer s H vs Q E hr hsp
  exact ⟨t, h.nox, q⟩
theorem BDef.of {K : PySem.W.Frag} {D : Addr} {m qual : Str} {st : Stmt} {ps : List Str} {f td : Addr} {oc tc : Value} {od an tod : Option Addr} {osl tsl : Array (Option Value)} {kV doc pm cdv ct : Value} {items : Array Value} {tn : Nat}
    (b : ∀ (kV doc pm : Value) (an : Option Addr) (cdv ct : Value) (s : Shared) (us : List Value) (o : Obj), s.heap.get? td = some o → o.data = .seq items tn → us.length = ps.length → BindsTo s (PySem.W.fnOf m qual (defArgs st) (defBody st) (defScope st) (.ref td) kV doc pm an cdv ct) ⟨us, []⟩ (ps.zip us))
    (ga : PySem.W.specialIn K (.ref D) "__getattribute__" = some (some (.builtin "type.__getattribute__"))) (rd : PySem.W.readsIn K D (.type "type") = true) (fi : PySem.W.findCls K (.ref D) (.type "type") m = some (.val (.ref f))) (kp : PySem.W.keepIn K (.ref f) = true)
    (l : K.lookup f = some ⟨oc, od, .func (PySem.W.fnOf m qual (defArgs st) (defBody st) (defScope st) (.ref td) kV doc pm an cdv ct), osl⟩) (c : PySem.W.codeIn K cdv qual = true) (l2 : K.lookup td = some ⟨tc, tod, .seq items tn, tsl⟩) : BDef K D m qual st ps :=
  ⟨f, oc, od, .ref td, kV, doc, pm, an, cdv, ct, osl, l, c, ⟨ga, rd, fi, rfl, kp⟩, fun s us KX hl => by
    rw [List.append_nil] at hl ⊢
    exact b kV doc pm an cdv ct s us _ (KX _ _ l2) rfl hl⟩
section
variable {X : Cx} {CX : CXT} {j k : Nat} {f D : Addr} {ps : List Str} {sp : Sp} {E : XK} {x m : Str} {p pos apos : Pos} {e : Expr} {es : List Expr} {t : TA}
theorem pb {pl : Sem Bool} (F : FuB X.prog X.w X.K X.mg X.base CX j D m ps sp) (hr : Room k X.A) (hm : X.mg x = some (.ref D)) (hx : Passes CX X E) (ha : PA X (e :: es) t) (hj : j ≤ k := by decide) (hg : Gl X x := by rfl) (hdb : (x == ("__debug__" : Str)) = false := by decide)
    (hst : starEach (e :: es) X.env = (false, eval e X.env) :: starEach es X.env := by rfl) (hpl : (backTo pos (starEach es X.env)).any (·.1) = false := by rfl)
    (ht : eval (.Call (.Attribute (.Name x p) m apos) (e :: es) [] pos) X.env = (do
      let ov ← eval (.Name x p) X.env
      standAt apos.atName
      let (f, first) ← holding [ov] (getMethod ov m pl)
      callWith pos f first (backTo pos (starEach (e :: es) X.env)) (backToKw pos (keywordEach [] X.env))) := by rfl) :
    PE X (.Call (.Attribute (.Name x p) m apos) (e :: es) [] pos) (tCall sp [] E t) := by
  obtain ⟨f, fd, G, c, hb⟩ := F.ex
  intro pins s σ H Q I h
  refine PySem.W.methodCall_KW (pl := pl) (thn (pe_glob (v := .ref D) hg hm rfl hdb pins s σ H (fun v H1 => v = .ref D ∧ H1 = H) I ⟨rfl, rfl⟩) fun u s1 ⟨y, H1, I1, rx, e1, e2⟩ => ?_) ht
  subst e1
  subst e2
  obtain rfl : u = Value.ref D := rx
  refine PySem.W.method_cls I1.kIn c.ga (PySem.W.cls_value I1.kIn c.rd c.fi c.hd ?_)
  have I2 := I1.tok (s1.toks + 1)
  refine PySem.W.callWith_K (first := []) (h₀ := X.base) I.ok.mod.kin c.kp (thn (ha pos pins _ σ H1 _ I2 h) fun us s2 ⟨vs, H2, I3, r, q2⟩ => ⟨I3.kIn, ?_⟩) hst hpl
  exact run_fn G (hr.mono hj) hb .nil hx I3 r q2
end
end L3

namespace L3
open PySem PySem.Spec PyProof.Rows L2
theorem int_of {K : PySem.W.Frag} {mg : Str → Option Value} {h : Heap} {x : Str} {i : Int} {t : Tok} (X : K.In h) (G : h.Ns mainGlobals mg) (a : PySem.W.nsIn K mainGlobals x = some (some (.int i t))) : ∃ u, mg x = some u ∧ RelV (.int i) u := ⟨_, PySem.W.mg_of X G a, t, rfl⟩
end L3

namespace L3
open PySem PySem.Spec PyProof.Rows L2 PySem.W
/-! ### an own exception class with an __init__ of its own -/
abbrev veTail : List Value := [.type "ValueError", .type "Exception", .type "BaseException", .type "object"]
def excIn1 (K : Frag) (C : Addr) : Bool := match K.lookup C with
  | some ⟨.type "type", _, .cls k, slots⟩ => (match k.mro, slots.toList with
    | .ref D :: rest, [_, _, _, _, some (.builtin n), _] => D == C && n == "ValueError.__new__" && !k.hasDel && tailIn K veTail rest
    | _, _ => false)
  | _ => false
section
variable {prog : Program} {w : World} {A : Around} {K : Frag} {C f : Addr} {R : Result → Shared → Prop} {us : List Value}
end
end L3

namespace L3
open PySem PySem.Spec PyProof.Rows L2 PySem.W Builtin Builtin.ObjectAttr
section
variable {prog : Program} {w : World} {A : Around} {E : Value → Shared → Prop} {K : Frag} {C x : Addr} {name : Str} {v : Value}
end
/-! ### one more, one less tracked -/
def del (H : Hp) (a : Addr) : Hp := fun b => if b = a then none else H b
theorem del_same {H : Hp} {a : Addr} : del H a a = none := by unfold del; rw [if_pos rfl]
theorem del_ne {H : Hp} {a b : Addr} (h : b ≠ a) : del H a b = H b := by unfold del; rw [if_neg h]
section
variable {X : Cx} {pins : List (Addr × Obj)} {σ : L2.St} {H : Hp} {s : Shared} {n : Addr} {o : HO}
theorem Inv.track (I : Inv X pins σ H s) (hn : H n = none) (h0 : X.s₀.heap.get? n = none) (hl : n ≠ X.env.locals) (hc : ∀ x c, X.env.cells.lookup x = some c → c ≠ n) (hp : ∀ p ∈ X.pn ++ pins, p.1 ≠ n) (ok : ObjOk X.prog X.w (upd H n o) s.heap n o) : Inv X pins σ (upd H n o) s := by
  have ne : ∀ b u, H b = some u → b ≠ n := fun b u e z => by rw [z, hn] at e; cases e
  refine ⟨I.ok, I.os, I.bare, ⟨I.base.keep, I.base.slot, fun b o e k hx => ?_, I.base.there, fun b xs e => ?_, fun b o u e => ?_, fun b ps e => ?_⟩, I.loc, I.cell, ?_, fun x c e => ?_, fun p hp' => ?_, fun b u e => ?_, I.len⟩
  · rw [upd_ne (fun z => by rw [z, h0] at e; cases e)]
    exact I.base.free b o e k hx
  · have q := I.base.tups b xs e
    rw [upd_ne (ne b _ q)]
    exact q
  · have q := I.base.frzs b o u e
    rw [upd_ne (ne b _ q)]
    exact q
  · obtain ⟨more, q⟩ := I.base.tbls b ps e
    exact ⟨more, by rw [upd_ne (ne b _ q)]; exact q⟩
  · rw [upd_ne (Ne.symm hl)]
    exact I.free
  · rw [upd_ne (hc x c e)]
    exact I.freeC x c e
  · obtain ⟨e, k, r⟩ := I.pin p hp'
    exact ⟨e, by rw [upd_ne (hp p hp')]; exact k, r⟩
  · by_cases hb : b = n
    · subst hb
      rw [upd_same] at e
      cases e
      exact ok
    · rw [upd_ne hb] at e
      refine (I.hok b u e).stay (fun _ _ _ q => q) (fun c q => ?_) fun c xs q => ?_
      · rw [upd_ne (ne c _ q)]
        exact q
      · rw [upd_ne (ne c _ q)]
        exact q
/-- what is fresh for a state -/
theorem Inv.fresh (I : Inv X pins σ H s) : H s.heap.objs.size = none ∧ X.s₀.heap.get? s.heap.objs.size = none ∧ s.heap.objs.size ≠ X.env.locals ∧ (∀ x c, X.env.cells.lookup x = some c → c ≠ s.heap.objs.size) ∧ ∀ p ∈ X.pn ++ pins, p.1 ≠ s.heap.objs.size := by
  refine ⟨I.hok.fresh (Nat.le_refl _), Heap.get?_none_of_le I.sz, Nat.ne_of_gt I.lt, fun x c e => ?_, fun p hp => ?_⟩
  · obtain ⟨v, hv⟩ := I.cell x c e
    exact Nat.ne_of_lt hv.lt
  · exact Nat.ne_of_lt (Heap.lt_size (I.pin p hp).1)
theorem Inv.drop {φ : Heap → Prop} (I : Inv X pins σ H s) (e : H n = some (.ext φ)) : Inv X pins σ (del H n) s := by
  have ne : ∀ b u, H b = some u → (∀ ψ, u ≠ .ext ψ) → b ≠ n := fun b u e' hu z => by rw [z, e] at e'; cases e'; exact hu _ rfl
  refine ⟨I.ok, I.os, I.bare, ⟨I.base.keep, I.base.slot, fun b o e' k hx => ?_, I.base.there, fun b xs e' => ?_, fun b o u e' => ?_, fun b ps e' => ?_⟩, I.loc, I.cell, ?_, fun x c e' => ?_, fun p hp' => ?_, fun b u e' => ?_, I.len⟩
  · unfold del; split
    · rfl
    · exact I.base.free b o e' k hx
  · have q := I.base.tups b xs e'
    rw [del_ne (ne b _ q (fun _ z => by cases z))]
    exact q
  · have q := I.base.frzs b o u e'
    rw [del_ne (ne b _ q (fun _ z => by cases z))]
    exact q
  · obtain ⟨more, q⟩ := I.base.tbls b ps e'
    exact ⟨more, by rw [del_ne (ne b _ q (fun _ z => by cases z))]; exact q⟩
  · unfold del; split
    · rfl
    · exact I.free
  · unfold del; split
    · rfl
    · exact I.freeC x c e'
  · obtain ⟨e1, k, r⟩ := I.pin p hp'
    refine ⟨e1, ?_, r⟩
    unfold del; split
    · rfl
    · exact k
  · have hb : b ≠ n := fun z => by rw [z, del_same] at e'; cases e'
    rw [del_ne hb] at e'
    refine (I.hok b u e').stay (fun _ _ _ q => q) (fun c q => ?_) fun c xs q => ?_
    · rw [del_ne (ne c _ q (fun _ z => by cases z))]
      exact q
    · rw [del_ne (ne c _ q (fun _ z => by cases z))]
      exact q
end
end L3

namespace L3
open PySem PySem.Spec PyProof.Rows L2 PySem.W
/-- what the class must have -/
structure XCls (K : Frag) (C : Addr) : Prop where
  ex : excIn1 K C = true
  sa : findIn K (.ref C) "__setattr__" = some (some (.builtin "object.__setattr__"))
  ob : mroIn K C (.type "object") = some true
  be : mroIn K C (.type "BaseException") = some true
  hd : hasDictIn K C = true
section
variable {P : Program} {w : World} {H : Hp} {h : Heap} {a C : Addr} {od : Option Addr} {fs : List (Str × V)}
end
section
variable {X : Cx} {o value : Expr} {f : Str} {pos pos' : Pos} {ta tv : TE}
end
end L3

namespace L3
open PySem PySem.Spec PyProof.Rows L2 PySem.W
section
variable {prog : Program} {w : World} {A : Around} {E : Value → Shared → Prop} {s : Shared} {env : Env} {K : Frag}
end
/-- the class at C, as the top has written it: an exception with an __init__ of its own at f -/
structure ExcI (K : Frag) (mg : Str → Option Value) (x : Str) (C f : Addr) : Prop where
  bound : mg x = some (.ref C)
  keep : keepIn K (.ref C) = true
  cls : XCls K C
  typ : typeIn K (.ref C) = some (.type "type")
  init : findIn K (.ref C) "__init__" = some (some (.ref f))
  fn : typeIn K (.ref f) = some (.type "function")
section
variable {P : Program} {w : World} {K : PySem.W.Frag} {mg : Str → Option Value} {base : Heap} {N : List Str} {qual : Str} {scope : Scope} {g : Addr} {cd : Value} {A : Around} {outer : List Env} {s₀ : Shared} {H₀ : Hp} {E : XK} {x : Str} {C f : Addr} {fd : FuncData} {ps : List Str} {sp : Sp} {k : Nat} {e : Expr} {es : List Expr} {t : TA} {p pos cpos : Pos}
end
/-! ### the same by the class's name -/
structure FuX (P : Program) (w : World) (K : Frag) (mg : Str → Option Value) (base : Heap) (k : Nat) (x : Str) (C : Addr) (ps : List Str) (sp : Sp) : Prop where
  ex : ∃ f fd, ExcI K mg x C f ∧ FnOk P w K mg base CX0 k f fd ps sp ∧ Binds K fd ps []
structure DefX (K : Frag) (mg : Str → Option Value) (x : Str) (C : Addr) (qual : Str) (st : Stmt) (ps : List Str) : Prop where
  ex : ∃ f fd, ExcI K mg x C f ∧ Fun K "__init__" qual st f fd ∧ Binds K fd ps []
theorem DefX.fu {P : Program} {w : World} {K : Frag} {mg : Str → Option Value} {base : Heap} {x qual : Str} {C : Addr} {st : Stmt} {N ps : List Str} {k : Nat} {sp : Sp} (D : DefX K mg x C qual st ps) (S : FnScope N ps (defScope st)) (len : ∀ vs H Q E, sp vs H Q E → vs.length = ps.length)
    (hbody : ∀ (f : Addr) (cdv : Value) (A : Around) (outer : List Env) (s : Shared) (H : Hp) (vs : List V) (Q : VK) (E : XK), Room k (A.deeper (envOfC qual (defScope st) s.heap.objs.size f cdv)) → sp vs H Q E →
      ∃ t, PSs (cxOf CX0 P w K mg base N qual (defScope st) f cdv A outer s H E).nox (defBody st) t ∧ t { nx := fun _ H' => Q .non H', rt := Q } (start N vs) H) : FuX P w K mg base (k + 1) x C ps sp := by
  obtain ⟨f, fd, hx, F, hb⟩ := D.ex
  exact ⟨f, fd, hx, F.ok S len fun cdv A outer s H vs Q E hr h => hbody f cdv A outer s H vs Q E hr h, hb⟩
theorem DefX.of {K : Frag} {mg : Str → Option Value} {x qual : Str} {C f : Addr} {st : Stmt} {ps : List Str} {oc : Value} {od an : Option Addr} {osl : Array (Option Value)} {kV doc pm cdv ct : Value} (hx : ExcI K mg x C f)
    (b : ∀ (kV doc pm : Value) (an : Option Addr) (cdv ct : Value) (us : List Value), us.length = ps.length → bindArgs (PySem.W.fnOf "__init__" qual (defArgs st) (defBody st) (defScope st) .none kV doc pm an cdv ct) ⟨us, []⟩ = pure (ps.zip us))
    (l : K.lookup f = some ⟨oc, od, .func (PySem.W.fnOf "__init__" qual (defArgs st) (defBody st) (defScope st) .none kV doc pm an cdv ct), osl⟩) (c : PySem.W.codeIn K cdv qual = true) (k : PySem.W.keepIn K (.ref f) = true) : DefX K mg x C qual st ps :=
  ⟨f, _, hx, fun_mk (st := st) l c k, (fun_mk (st := st) l c k).binds b⟩
section
variable {P : Program} {w : World} {K : PySem.W.Frag} {mg : Str → Option Value} {base : Heap} {N : List Str} {qual : Str} {scope : Scope} {g : Addr} {cd : Value} {A : Around} {outer : List Env} {s₀ : Shared} {H₀ : Hp} {E : XK} {x : Str} {C : Addr} {ps : List Str} {sp : Sp} {j k : Nat} {e : Expr} {es : List Expr} {t : TA} {p pos cpos : Pos}
end
end L3

namespace L3
open PySem PySem.Spec PyProof.Rows L2
/-! ### C(k = v, ..): the keywords fill the parameters behind self in order, then the defaults -/
def WBinds (K : PySem.W.Frag) (fd : FuncData) (ps ks : List Str) (ds : List Value) : Prop :=
  ∀ (s : Shared) (x : Value) (ws : List Value), K.In s.heap → (x :: (ws ++ ds)).length = ps.length → BindsTo s fd ⟨[x], ks.zip ws⟩ (ps.zip (x :: (ws ++ ds)))
structure FuKW (P : Program) (w : World) (K : PySem.W.Frag) (mg : Str → Option Value) (base : Heap) (CX : CXT) (k : Nat) (C : Addr) (ps ks : List Str) (ds : List Value) (sp : Sp) : Prop where
  ex : ∃ f fd, FnOk P w K mg base CX k f fd ps sp ∧ Mk K C f ∧ WBinds K fd ps ks ds
structure KDefW (K : PySem.W.Frag) (C : Addr) (qual : Str) (st : Stmt) (ps ks : List Str) (ds : List Value) : Prop where
  ex : ∃ (f : Addr) (oc : Value) (od : Option Addr) (dV kV doc pm : Value) (an : Option Addr) (cdv ct : Value) (osl : Array (Option Value)), K.lookup f = some ⟨oc, od, .func (PySem.W.fnOf "__init__" qual (defArgs st) (defBody st) (defScope st) dV kV doc pm an cdv ct), osl⟩ ∧ PySem.W.codeIn K cdv qual = true ∧ Mk K C f ∧
    WBinds K (PySem.W.fnOf "__init__" qual (defArgs st) (defBody st) (defScope st) dV kV doc pm an cdv ct) ps ks ds
theorem KDefW.fu {P : Program} {w : World} {K : PySem.W.Frag} {mg : Str → Option Value} {base : Heap} {C : Addr} {qual : Str} {st : Stmt} {N ps ks : List Str} {ds : List Value} {k : Nat} {sp : Sp} (D : KDefW K C qual st ps ks ds) (S : FnScope N ps (defScope st)) (len : ∀ vs H Q E, sp vs H Q E → vs.length = ps.length)
    (hbody : ∀ (f : Addr) (cdv : Value) (A : Around) (outer : List Env) (s : Shared) (H : Hp) (vs : List V) (Q : VK) (E : XK), Room k (A.deeper (envOfC qual (defScope st) s.heap.objs.size f cdv)) → sp vs H Q E →
      ∃ t, PSs (cxOf CX0 P w K mg base N qual (defScope st) f cdv A outer s H E).nox (defBody st) t ∧ t { nx := fun _ H' => Q .non H', rt := Q } (start N vs) H) : FuKW P w K mg base CX0 (k + 1) C ps ks ds sp := by
  obtain ⟨f, oc, od, dV, kV, doc, pm, an, cdv, ct, osl, lk, hcd, hm, hb⟩ := D.ex
  refine ⟨f, _, fn_of lk hcd S len fun A outer s H vs Q E hr hsp => ?_, hm, hb⟩
  obtain ⟨t, h, q⟩ := hbody f cdv A outer s H vs Q E hr hsp
  exact ⟨t, h.nox, q⟩
theorem KDefW.of {K : PySem.W.Frag} {C : Addr} {qual : Str} {st : Stmt} {ps ks : List Str} {ds : List Value} {f td : Addr} {oc tc : Value} {od an tod : Option Addr} {osl tsl : Array (Option Value)} {kV doc pm cdv ct : Value} {items : Array Value} {tn : Nat}
    (b : ∀ (kV doc pm : Value) (an : Option Addr) (cdv ct : Value) (s : Shared) (x : Value) (ws : List Value) (o : Obj), s.heap.get? td = some o → o.data = .seq items tn → ws.length + ds.length + 1 = ps.length → BindsTo s (PySem.W.fnOf "__init__" qual (defArgs st) (defBody st) (defScope st) (.ref td) kV doc pm an cdv ct) ⟨[x], ks.zip ws⟩ (ps.zip (x :: (ws ++ ds))))
    (mk : PySem.W.makesIn K C = true) (kc : PySem.W.keepIn K (.ref C) = true) (a : PySem.W.findIn K (.ref C) "__init__" = some (some (.ref f))) (i : PySem.W.isFn K (.ref f) = true)
    (l : K.lookup f = some ⟨oc, od, .func (PySem.W.fnOf "__init__" qual (defArgs st) (defBody st) (defScope st) (.ref td) kV doc pm an cdv ct), osl⟩) (c : PySem.W.codeIn K cdv qual = true) (l2 : K.lookup td = some ⟨tc, tod, .seq items tn, tsl⟩) : KDefW K C qual st ps ks ds :=
  ⟨f, oc, od, .ref td, kV, doc, pm, an, cdv, ct, osl, l, c, ⟨mk, a, i, kc⟩, fun s x ws KX hl => b kV doc pm an cdv ct s x ws _ (KX _ _ l2) rfl (by rw [← hl, List.length_cons, List.length_append])⟩
section
variable {X : Cx} {CX : CXT} {j k : Nat} {f C : Addr} {fd : FuncData} {ps ks : List Str} {sp : Sp} {E : XK} {x : Str} {p pos : Pos} {kws : List Keyword} {tk : TA} {ds : List Value} {dvs : List V}
end
theorem FuM.mono {P : Program} {w : World} {K : PySem.W.Frag} {mg : Str → Option Value} {base : Heap} {CX : CXT} {j k : Nat} {C : Addr} {m : Str} {ps : List Str} {sp : Sp} (F : FuM P w K mg base CX j C m ps sp) (h : j ≤ k) : FuM P w K mg base CX k C m ps sp := by
  obtain ⟨f, fd, G, a, b⟩ := F.ex
  exact ⟨f, fd, G.mono h, a, b⟩
/-- a table in a later heap -/
theorem Tab.kb {S : List Addr} {H H' : Hp} {P : Addr} {pos : Pos} {q : Str} (t : Tab H P pos q) (kp : KeepBut S H H') (hs : ∀ z ∈ S, (∃ xs, H z = some (.lst xs)) ∨ (∃ C dx fs, H z = some (.ins C dx fs)) ∨ (z ≠ P ∧ ∃ ps, H z = some (.tbl ps))) : Tab H' P pos q := by
  have h1 : P ∉ S := fun hz => by
    rcases hs P hz with ⟨xs, e⟩ | ⟨C, dx, fs, e⟩ | ⟨e, _⟩
    · exact t.ne e (fun _ z => by cases z) rfl
    · exact t.ne e (fun _ z => by cases z) rfl
    · exact e rfl
  rcases t with t | ⟨c, t, u⟩
  · exact .inl (kp _ _ t h1)
  · refine .inr ⟨c, kp _ _ t h1, kp _ _ u fun hz => ?_⟩
    rcases hs c hz with ⟨xs, e⟩ | ⟨C, dx, fs, e⟩ | ⟨_, ps, e⟩
    · rw [u] at e; cases e
    · rw [u] at e; cases e
    · rw [u] at e; cases e
theorem Tab.tbl {H : Hp} {P : Addr} {pos : Pos} {q : Str} (t : Tab H P pos q) : ∃ ps, H P = some (.tbl ps) := by
  rcases t with t | ⟨c, t, u⟩
  · exact ⟨_, t⟩
  · exact ⟨_, t⟩
end L3

namespace K07
open PySem L2 L3
def top (i : Nat) : Stmt := PySem.Challenge.pw_fewpegs_k07_refused_makings.main.body.getD i (.Pass ⟨0, 0, 0, 0⟩)
/-! the order of lines -/
def rkAt (rk : List Int) (l : Int) : Int := rk.getD l.toNat 0
def lt (rk : List Int) (x y : Int) : Bool := HT.lexLt [rkAt rk x, x] [rkAt rk y, y]
theorem lt_iff (rk : List Int) (x y : Int) : lt rk x y = true ↔ rkAt rk x < rkAt rk y ∨ (rkAt rk x = rkAt rk y ∧ x < y) := by
  unfold lt
  rw [HT.lexLt_cons]
  by_cases h : rkAt rk x = rkAt rk y
  · rw [if_pos h, HT.lexLt_cons]
    by_cases h2 : x = y
    · subst h2
      rw [if_pos rfl, HT.lexLt_nil_nil]
      constructor
      · intro z; cases z
      · intro z; omega
    · rw [if_neg h2, decide_eq_true_iff]
      omega
  · rw [if_neg h, decide_eq_true_iff]
    omega
theorem lt_irr (rk : List Int) (x : Int) : lt rk x x = false := by
  cases h : lt rk x x with
  | false => rfl
  | true => rw [lt_iff] at h; omega
theorem lt_tr {rk : List Int} {x y z : Int} (a : lt rk x y = true) (b : lt rk y z = true) : lt rk x z = true := by
  rw [lt_iff] at *
  omega
theorem lt_tot (rk : List Int) {x y : Int} (h : x ≠ y) : lt rk x y = true ∨ lt rk y x = true := by
  rw [lt_iff, lt_iff]
  omega
/-- ys are just the lines ls, in order -/
structure Sorted (rk ls ys : List Int) : Prop where
  perm : ys.Perm ls
  pw : ys.Pairwise fun x y => lt rk x y = true
def kyOf (rk ls : List Int) (i : Nat) : Int × Int := (rkAt rk (ls.getD i 0), ls.getD i 0)
theorem ord_of {rk ls : List Int} (nd : ls.Nodup) : Ord ls.length (klt (kyOf rk ls)) :=
  ⟨fun i => lt_irr rk _, fun i j k a b => lt_tr (rk := rk) a b, fun i j hi hj hne => lt_tot rk fun e => hne (by
    have e' : ls[i] = ls[j] := by simpa [List.getD, hi, hj] using e
    exact (List.getElem_inj nd).mp e')⟩
theorem sorted_of {rk ls : List Int} {p : Array Nat} (a : Arr ls.length p) (u : Up (klt (kyOf rk ls)) p ls.length) : Sorted rk ls (p.toList.map fun i => ls.getD i 0) := by
  refine ⟨?_, ?_⟩
  · have h := (Array.perm_iff_toList_perm.mp a.perm).map (fun i => ls.getD i 0)
    simp only [List.toList_toArray, range_getD] at h
    exact h
  · rw [List.pairwise_map, List.pairwise_iff_getElem]
    intro i j hi hj hij
    have hs : p.toList.length = ls.length := by rw [Array.length_toList]; exact a.size
    have q := u i j hij (by omega)
    have e1 : pg p i = p.toList[i] := by simp [pg, Array.getD, show i < p.size by simpa using hi]
    have e2 : pg p j = p.toList[j] := by simp [pg, Array.getD, show j < p.size by simpa using hj]
    rw [e1, e2] at q
    exact q
theorem getD_map (ls : List Int) (l : List Nat) (h : ∀ i ∈ l, i < ls.length) : (l.map fun i => (ls.map V.int).getD i .non) = (l.map fun i => ls.getD i 0).map V.int := by
  rw [List.map_map]
  refine List.map_congr_left fun i hi => ?_
  have := h i hi
  simp [List.getD, this]
/-! what the walk asks of the module -/
structure Txt (K : PySem.W.Frag) (mg : Str → Option Value) : Prop where
  isi : mg "isinstance" = none
  int : mg "int" = none
  bool : mg "bool" = none
  list : mg "list" = none
  len : mg "len" = none
  range : mg "range" = none
  sorted : mg "sorted" = none
  min : mg "min" = none
  all : mg "all" = none
  zip : mg "zip" = none
  rev : mg "reversed" = none
  enum : mg "enumerate" = none
  tuple : mg "tuple" = none
section
variable {P : Program} {w : World} {K : PySem.W.Frag} {mg : Str → Option Value} {base : Heap}
/-! ### is_whole, _law_whole -/
def WholeV (K : PySem.W.Frag) (H : Hp) (x : V) (b : Bool) : Prop := ∃ t b1 b2, TyOf K H x t ∧ PySem.W.kitOne K t (.type "int") = some b1 ∧ PySem.W.kitOne K t (.type "bool") = some b2 ∧ b = (b1 && !b2)
theorem whole_int {H : Hp} (i : Int) : WholeV K H (.int i) true := ⟨_, true, false, .int i, rfl, rfl, rfl⟩
theorem whole_bl {H : Hp} (c : Bool) : WholeV K H (.bl c) false := ⟨_, true, true, .bl c, rfl, rfl, rfl⟩
theorem whole_non {H : Hp} : WholeV K H .non false := ⟨_, false, false, .non, rfl, rfl, rfl⟩
theorem whole_str {H : Hp} (x : Str) : WholeV K H (.str x) false := ⟨_, false, false, .str x, rfl, rfl, rfl⟩
theorem whole_lst {H : Hp} {a : Addr} {xs : List V} (e : H a = some (.lst xs)) : WholeV K H (.ref a) false := ⟨_, false, false, .lst e, rfl, rfl, rfl⟩
theorem whole_tup {H : Hp} {a : Addr} {xs : List V} (e : H a = some (.tup xs)) : WholeV K H (.ref a) false := ⟨_, false, false, .tup e, rfl, rfl, rfl⟩
def spWhole (K : PySem.W.Frag) : Sp := fun vs H Q _ => ∃ x b, vs = [x] ∧ WholeV K H x b ∧ Q (.bl b) H
theorem sc1 : FnScope ["thing"] ["thing"] (defScope (top 11)) := ⟨rfl, rfl, rfl, by decide +kernel, rfl, by decide +kernel, by decide +kernel⟩
theorem f_is_whole (D : Def K mg "is_whole" (top 11) ["thing"]) (T : Txt K mg) : Fu P w K mg base CX0 1 "is_whole" ["thing"] (spWhole K) := by
  refine D.fu sc1 (fun vs H Q E h => ?_) (fun f cdv A outer s H vs Q E hr h => ?_)
  · obtain ⟨x, b, rfl, _⟩ := h
    rfl
  · obtain ⟨x, b, rfl, ⟨t, b1, b2, ty, e1, e2, rfl⟩, k⟩ := h
    refine ⟨_, pss_one (ps_ret (pe_and (p_isi T.isi T.int boot_int' (pv 0)) (pe_one (pe_not (p_isi T.isi T.bool boot_bool' (pv 0)))))), ?_⟩
    refine ⟨_, rfl, x, "int", t, b1, rfl, ty, e1, b1, rfl, ?_⟩
    cases b1 with
    | false => exact iteF k
    | true =>
      refine iteT ?_
      exact ⟨_, rfl, x, "bool", t, b2, rfl, ty, e2, b2, rfl, k⟩
/-! ### standing, before -/
def spStanding (K : PySem.W.Frag) : Sp := fun vs H Q _ => ∃ a rk l, vs = [.ref a, .int l] ∧ LI K H a rk ∧ 0 ≤ l ∧ l < rk.length ∧ ∀ p, H p = none → Q (.ref p) (upd H p (.tup [.int (rkAt rk l), .int l]))
theorem sc2 : FnScope ["ranks", "line"] ["ranks", "line"] (defScope (top 12)) := ⟨rfl, rfl, rfl, by decide +kernel, rfl, by decide +kernel, by decide +kernel⟩
theorem f_standing (D : Def K mg "standing" (top 12) ["ranks", "line"]) : Fu P w K mg base CX0 1 "standing" ["ranks", "line"] (spStanding K) := by
  refine D.fu sc2 (fun vs H Q E h => ?_) (fun f cdv A outer s H vs Q E hr h => ?_)
  · obtain ⟨a, rk, l, rfl, _⟩ := h
    rfl
  · obtain ⟨a, rk, l, rfl, hq, h0, h1, k⟩ := h
    refine ⟨_, pss_one (ps_ret (pe_tup (pa_cons (pe_ix ix_list (pv 0) (pv 1) (fun _ _ => rfl)) (pa_cons (pv 1) pa_nil)))), ?_⟩
    exact ⟨_, rfl, _, rfl, a, _, _, _, rfl, rfl, hq, atI_int h0 h1, _, rfl, (by show 2 ≤ sizeLine; decide), fun p hp => k p hp⟩
/-! ### in_order, first_of -/
def lamAt (st : Stmt) : Pos := match defBody st with
  | [.Return (some (.Call _ _ (⟨_, .Lambda _ _ _ p, _⟩ :: _) _)) _] => p
  | _ => ⟨0, 0, 0, 0⟩
theorem free_of (l : List (Str × NameKind)) (fvs : List Str) (h : (l.all fun y => y.2 != .free || fvs.contains y.1) = true) : ∀ x, l.lookup x = some .free → x ∈ fvs := fun x e => by
  have := List.all_eq_true.mp h _ (PySem.mem_of_lookup e)
  simpa using this
theorem key_rd {P4 a : Addr} {H : Hp} {rk ls : List Int} {pos : Pos} {q : Str} (hq : LI K H a rk) (hl : ∀ l ∈ ls, 0 ≤ l ∧ l < rk.length) (hT : Tab H P4 pos q) :
    KeyRd P4 (tCall (spStanding K) [] E0 (tCons (tVar 1) (tCons (tVar 0) tNil))) [.ref a] (ls.map V.int) (kyOf rk ls) H := by
  intro i v H2 hx kp
  rw [List.getElem?_map] at hx
  cases e : ls[i]? with
  | none => rw [e] at hx; cases hx
  | some l =>
    rw [e] at hx; cases hx
    have hb := hl l (List.mem_of_getElem? e)
    have eg : ls.getD i 0 = l := by simp [List.getD, e]
    refine ⟨_, rfl, _, rfl, a, rk, l, rfl, kp.seq hT hq, hb.1, hb.2, fun p hp => ⟨p, rfl, Same.new hp, ?_⟩⟩
    rw [upd_same]
    simp only [kyOf, eg]
/-! ### in_order -/
def q4 : Str := (("in_order" : Str) ++ ".<locals>.") ++ "<lambda>"
def spInOrder (K : PySem.W.Frag) (P4 : Addr) : Sp := fun vs H Q _ => ∃ a b rk ls, vs = [.ref a, .ref b] ∧ LI K H a rk ∧ LI K H b ls ∧ ls.Nodup ∧ (∀ l ∈ ls, 0 ≤ l ∧ l < rk.length) ∧ ls.length < 64 ∧ Tab H P4 (lamAt (top 13)) q4 ∧
  ∀ D H' ys, Kp P4 H H' → Tab H' P4 (lamAt (top 13)) q4 → H' D = none → Sorted rk ls ys → Q (.ref D) (upd H' D (.lst (ys.map V.int)))
theorem sc4 : FnScope ["ranks", "lines"] ["ranks", "lines"] (defScope (top 13)) := ⟨rfl, rfl, rfl, by decide +kernel, rfl, by decide +kernel, by decide +kernel⟩
theorem f_in_order {c4 P4 : Addr} (D : DefC K mg "in_order" (top 13) ["ranks", "lines"] c4) (T : Txt K mg) (G : Fu P w K mg base CX0 1 "standing" ["ranks", "line"] (spStanding K)) (hC : PySem.W.CodeHd base c4 P4) (hB : BMod mg base) :
    Fu P w K mg base CX0 5 "in_order" ["ranks", "lines"] (spInOrder K P4) := by
  refine D.fu sc4 (fun vs H Q E h => ?_) (fun f A outer s H vs Q E hr h => ?_)
  · obtain ⟨a, b, rk, ls, rfl, _⟩ := h
    rfl
  · obtain ⟨a, b, rk, ls, rfl, hqa, hqb, nd, hl, h64, hT, k⟩ := h
    refine ⟨_, pss_one (ps_ret (pe_sortedK (k := 1) (P := P4) (c := c4) (p := "line") (fvs := ["ranks"]) (js := [0]) (cl := [("ranks", s.heap.objs.size + 1)]) hr T.sorted (pv 1) ?L fun f' c' A' s'' H'' hr' => pc G hr' pass0 (pa_cons (pv 1) (pa_cons (pv 0) pa_nil)))), ?_⟩
    case L =>
      refine ⟨⟨rfl, rfl, rfl, by decide +kernel, rfl, free_of _ _ (by decide +kernel), by decide +kernel⟩, rfl, hC, hB, rfl, rfl, fun _ _ _ _ _ _ => rfl, fun x hx => ?_, fun x y c h1 h2 => ?_, fun x c h1 => ?_, fun x hx => ?_, rfl⟩
      · have e : x = "ranks" := by simpa using hx
        subst e
        exact ⟨_, rfl, rfl⟩
      · have e1 := PySem.mem_of_lookup h1
        have e2 := PySem.mem_of_lookup h2
        simp at e1 e2
        exact e1.1.trans e2.1.symm
      · have e1 := PySem.mem_of_lookup h1
        simp at e1
        exact ⟨"ranks", by rw [e1.2]; rfl⟩
      · have e : x = "ranks" := by simpa using hx
        subst e
        exact .inl rfl
    refine ⟨_, rfl, b, ls.map V.int, [.ref a], kyOf rk ls, rfl, hqb, by rw [List.length_map]; exact h64, rfl, hT, by rw [List.length_map]; exact ord_of nd, key_rd hqa hl hT, fun Dd H2 p kp hT2 nD ar u => ?_⟩
    rw [List.length_map] at ar u
    have e : (p.toList.map fun i => (ls.map V.int).getD i .non) = (p.toList.map fun i => ls.getD i 0).map V.int := getD_map ls _ fun i hi => by
      have := (Array.perm_iff_toList_perm.mp ar.perm).mem_iff.mp hi
      simpa using this
    rw [e]
    exact k Dd H2 _ kp hT2 nD (sorted_of ar u)
end
end K07

namespace K07
open PySem L2 L3
/-! ### Pegs: what it holds -/
def pf (r : Addr) (n : Int) (h b : Addr) (c l k : Int) : List (Str × V) := [("ranks", .ref r), ("many", .int n), ("hung", .ref h), ("book", .ref b), ("came", .int c), ("laid", .int l), ("calls", .int k)]
section
variable {r h b h' b' : Addr} {n c l k x : Int}
theorem pf_len : (pf r n h b c l k).length < 1000 := by show 7 < 1000; decide
theorem put_hung : putF "hung" (.ref h') (pf r n h b c l k) = pf r n h' b c l k := by
  simp only [pf, putF]
  rw [if_neg (by decide), if_neg (by decide), if_pos trivial]
theorem put_book : putF "book" (.ref b') (pf r n h b c l k) = pf r n h b' c l k := by
  simp only [pf, putF]
  rw [if_neg (by decide), if_neg (by decide), if_neg (by decide), if_pos trivial]
theorem put_laid : putF "laid" (.int x) (pf r n h b c l k) = pf r n h b c x k := by
  simp only [pf, putF]
  rw [if_neg (by decide), if_neg (by decide), if_neg (by decide), if_neg (by decide), if_neg (by decide), if_pos trivial]
end
structure PegsAt (C : Addr) (H : Hp) (p r h b : Addr) (rk : List Int) (n : Int) (hg bk : List Int) (c l k : Int) : Prop where
  at_ : ∃ dx, H p = some (.ins C dx (pf r n h b c l k))
  rk : H r = some (.lst (rk.map V.int))
  hg : H h = some (.lst (hg.map V.int))
  bk : H b = some (.lst (bk.map V.int))
  rh : r ≠ h
  rb : r ≠ b
  hb : h ≠ b
theorem PegsAt.ne {C : Addr} {H : Hp} {p r h b : Addr} {rk : List Int} {n : Int} {hg bk : List Int} {c l k : Int} (A : PegsAt C H p r h b rk n hg bk c l k) : r ≠ p ∧ h ≠ p ∧ b ≠ p := by
  obtain ⟨dx, e⟩ := A.at_
  exact ⟨ne_of A.rk e (by intro z; cases z), ne_of A.hg e (by intro z; cases z), ne_of A.bk e (by intro z; cases z)⟩
section
variable {C : Addr} {H H' : Hp} {p r h b h1 b1 dx : Addr} {rk : List Int} {n : Int} {hg bk ys : List Int} {c l k x : Int}
/-- the pegs in a later heap -/
theorem PegsAt.to (A : PegsAt C H p r h b rk n hg bk c l k) (kp : ∀ a o, (a = p ∨ a = r ∨ a = h ∨ a = b) → H a = some o → H' a = some o) : PegsAt C H' p r h b rk n hg bk c l k := by
  obtain ⟨dx, e⟩ := A.at_
  exact ⟨⟨dx, kp _ _ (.inl rfl) e⟩, kp _ _ (.inr (.inl rfl)) A.rk, kp _ _ (.inr (.inr (.inl rfl))) A.hg, kp _ _ (.inr (.inr (.inr rfl))) A.bk, A.rh, A.rb, A.hb⟩
theorem PegsAt.newHung (A : PegsAt C H p r h b rk n hg bk c l k) (kr : H' r = some (.lst (rk.map V.int))) (kb : H' b = some (.lst (bk.map V.int))) (kh : H' h1 = some (.lst (ys.map V.int))) (n1 : h1 ≠ p) (n2 : r ≠ h1) (n3 : h1 ≠ b) :
    PegsAt C (upd H' p (.ins C dx (putF "hung" (.ref h1) (pf r n h b c l k)))) p r h1 b rk n ys bk c l k := by
  obtain ⟨z1, z2, z3⟩ := A.ne
  rw [put_hung]
  exact ⟨⟨dx, upd_same⟩, by rw [upd_ne z1]; exact kr, by rw [upd_ne n1]; exact kh, by rw [upd_ne z3]; exact kb, n2, A.rb, n3⟩
theorem PegsAt.newBook (A : PegsAt C H p r h b rk n hg bk c l k) (kr : H' r = some (.lst (rk.map V.int))) (kh : H' h = some (.lst (hg.map V.int))) (kb : H' b1 = some (.lst (ys.map V.int))) (n1 : b1 ≠ p) (n2 : r ≠ b1) (n3 : h ≠ b1) :
    PegsAt C (upd H' p (.ins C dx (putF "book" (.ref b1) (pf r n h b c l k)))) p r h b1 rk n hg ys c l k := by
  obtain ⟨z1, z2, z3⟩ := A.ne
  rw [put_book]
  exact ⟨⟨dx, upd_same⟩, by rw [upd_ne z1]; exact kr, by rw [upd_ne z2]; exact kh, by rw [upd_ne n1]; exact kb, A.rh, n2, n3⟩
theorem PegsAt.newLaid (A : PegsAt C H p r h b rk n hg bk c l k) : PegsAt C (upd H p (.ins C dx (putF "laid" (.int x) (pf r n h b c l k)))) p r h b rk n hg bk c x k := by
  obtain ⟨z1, z2, z3⟩ := A.ne
  rw [put_laid]
  exact ⟨⟨dx, upd_same⟩, by rw [upd_ne z1]; exact A.rk, by rw [upd_ne z2]; exact A.hg, by rw [upd_ne z3]; exact A.bk, A.rh, A.rb, A.hb⟩
theorem PegsAt.fresh (A : PegsAt C H p r h b rk n hg bk c l k) {x : Addr} (hx : H x = none) : x ≠ p ∧ r ≠ x ∧ h ≠ x ∧ b ≠ x := by
  obtain ⟨dx, e⟩ := A.at_
  exact ⟨Ne.symm (ne_of_none e hx), ne_of_none A.rk hx, ne_of_none A.hg hx, ne_of_none A.bk hx⟩
theorem PegsAt.new (A : PegsAt C H p r h b rk n hg bk c l k) {x : Addr} {o : HO} (hx : H x = none) : PegsAt C (upd H x o) p r h b rk n hg bk c l k := A.to fun a u _ e => by
  rw [upd_ne (ne_of_none e hx)]; exact e
end
/-- what the class has -/
structure PTxt (K : PySem.W.Frag) (C : Addr) : Prop where
  cl : Cls K C
  nR : NoAttr K C "ranks"
  nM : NoAttr K C "many"
  nH : NoAttr K C "hung"
  nB : NoAttr K C "book"
  nC : NoAttr K C "came"
  nL : NoAttr K C "laid"
  nK : NoAttr K C "calls"
section
variable {P : Program} {w : World} {K : PySem.W.Frag} {mg : Str → Option Value} {base : Heap} {C : Addr}
def mt (j : Nat) : Stmt := inClass (top 32) j
/-! lay_from_book -/
def spLFB (C : Addr) : Sp := fun vs H Q _ => ∃ (p r h b : Addr) (rk : List Int) (n : Int) (hg bk : List Int) (c l k : Int), vs = [.ref p] ∧ PegsAt C H p r h b rk n hg bk c l k ∧ 1 ≤ n ∧
  ∀ H' h' b', KeepBut [p] H H' → H h' = none → H b' = none → PegsAt C H' p r h' b' rk n (bk.take n.toNat) (bk.drop n.toNat) c (l + (bk.take n.toNat).length) k → Q .non H'
theorem scLFB : FnScope ["self"] ["self"] (defScope (mt 9)) := ⟨rfl, rfl, rfl, by decide +kernel, rfl, by decide +kernel, by decide +kernel⟩
theorem f_lfb (D : MDef K C "lay_from_book" "Pegs.lay_from_book" (mt 9) ["self"]) (T : Txt K mg) (TP : PTxt K C) : FuM P w K mg base CX0 1 C "lay_from_book" ["self"] (spLFB C) := by
  refine D.fu scLFB (fun vs H Q E h => ?_) (fun f cdv A outer s H vs Q E hr h => ?_)
  · obtain ⟨p, r, h, b, rk, n, hg, bk, c, l, k, rfl, _⟩ := h
    rfl
  · obtain ⟨p, r, h, b, rk, n, hg, bk, c, l, k, rfl, A0, hn, kk⟩ := h
    refine ⟨_, pss_cons (ps_fld (pv 0) (pe_slice sl_list (pe_fld (pv 0) rfl) po_none (po_some (pe_fld (pv 0) rfl))) rfl)
      (pss_cons (ps_fld (pv 0) (pe_slice sl_list (pe_fld (pv 0) rfl) (po_some (pe_fld (pv 0) rfl)) po_none) rfl)
      (pss_one (ps_fldaug (pv 0) (p_len T.len (pe_fld (pv 0) rfl)) in_add))), ?_⟩
    obtain ⟨dx, e0⟩ := A0.at_
    refine ⟨_, rfl, p, C, dx, _, _, rfl, e0, TP.cl, TP.nB, rfl, _, rfl, p, C, dx, _, _, rfl, e0, TP.cl, TP.nM, rfl, _, rfl, b, _, rfl, SqL.of A0.bk, fun h1 nh1 => ?_⟩
    rw [cut_takeI bk (show (0 : Int) ≤ n by omega)]
    obtain ⟨f1, f2, f3, f4⟩ := A0.fresh nh1
    have A1 := A0.new (o := .lst ((bk.take n.toNat).map V.int)) nh1
    have e1 : upd H h1 (.lst ((bk.take n.toNat).map V.int)) p = some (.ins C dx (pf r n h b c l k)) := by rw [upd_ne (Ne.symm f1)]; exact e0
    refine ⟨_, rfl, p, C, dx, _, rfl, e1, TP.cl, TP.nH, pf_len, ?_⟩
    have A2 := A1.newHung (dx := dx) (h1 := h1) (ys := bk.take n.toNat) A1.rk A1.bk upd_same f1 f2 (Ne.symm f4)
    have K2 : KeepBut [p] H (upd (upd H h1 (.lst ((bk.take n.toNat).map V.int))) p (.ins C dx (putF "hung" (.ref h1) (pf r n h b c l k)))) := ((KeepBut.refl _ _).upd (.inr nh1)).upd (.inl (by simp))
    generalize upd (upd H h1 (.lst ((bk.take n.toNat).map V.int))) p (.ins C dx (putF "hung" (.ref h1) (pf r n h b c l k))) = H2 at A2 K2 ⊢
    obtain ⟨dx2, e2⟩ := A2.at_
    refine ⟨_, rfl, p, C, dx2, _, _, rfl, e2, TP.cl, TP.nB, rfl, _, rfl, p, C, dx2, _, _, rfl, e2, TP.cl, TP.nM, rfl, _, rfl, b, _, rfl, SqL.of A2.bk, fun b1 nb1 => ?_⟩
    have nb0 : H b1 = none := by
      cases z : H b1 with
      | none => rfl
      | some o =>
        by_cases hp : b1 = p
        · rw [hp, e2] at nb1; cases nb1
        · rw [K2 b1 o z (by simpa using hp)] at nb1; cases nb1
    rw [cut_dropI bk (show (0 : Int) ≤ n by omega)]
    obtain ⟨g1, g2, g3, g4⟩ := A2.fresh nb1
    have A3 := A2.new (o := .lst ((bk.drop n.toNat).map V.int)) nb1
    have e3 : upd H2 b1 (.lst ((bk.drop n.toNat).map V.int)) p = some (.ins C dx2 (pf r n h1 b c l k)) := by rw [upd_ne (Ne.symm g1)]; exact e2
    refine ⟨_, rfl, p, C, dx2, _, rfl, e3, TP.cl, TP.nB, pf_len, ?_⟩
    have A4 := A3.newBook (dx := dx2) (b1 := b1) (ys := bk.drop n.toNat) A3.rk A3.hg upd_same g1 g2 g3
    have K4 : KeepBut [p] H (upd (upd H2 b1 (.lst ((bk.drop n.toNat).map V.int))) p (.ins C dx2 (putF "book" (.ref b1) (pf r n h1 b c l k)))) := (K2.upd (.inr nb0)).upd (.inl (by simp))
    generalize upd (upd H2 b1 (.lst ((bk.drop n.toNat).map V.int))) p (.ins C dx2 (putF "book" (.ref b1) (pf r n h1 b c l k))) = H4 at A4 K4 ⊢
    obtain ⟨dx4, e4⟩ := A4.at_
    refine ⟨_, rfl, p, C, dx4, _, _, rfl, e4, TP.cl, TP.nL, rfl, _, rfl, p, C, dx4, _, _, rfl, e4, TP.cl, TP.nH, rfl, h1, _, rfl, .inl (SqL.of A4.hg), _, _, rfl, rfl, dx4, _, e4, pf_len, ?_⟩
    rw [List.length_map]
    exact kk _ h1 b1 (K4.upd (.inl (by simp))) nh1 nb0 A4.newLaid
end
end K07

namespace K07
open PySem L2 L3
section
variable {P : Program} {w : World} {K : PySem.W.Frag} {mg : Str → Option Value} {base : Heap} {C : Addr}
end
end K07

namespace K07
open PySem L2 L3
section
variable {P : Program} {w : World} {K : PySem.W.Frag} {mg : Str → Option Value} {base : Heap} {C P4 : Addr}
/-! lay -/
abbrev TabO (H : Hp) (P4 : Addr) : Prop := Tab H P4 (lamAt (top 13)) q4
theorem TabO.off {H : Hp} (t : TabO H P4) {x : Addr} {o : HO} (hx : ∃ u, H x = some u ∧ ∀ ps, u ≠ .tbl ps) (hc : ∀ c q, H x ≠ some (CodeAt c q)) : TabO (upd H x o) P4 := by
  obtain ⟨u, e, hu⟩ := hx
  have h1 : P4 ≠ x := Ne.symm (t.ne e hu)
  rcases t with t | ⟨c, t, r⟩
  · exact .inl (by rw [upd_ne h1]; exact t)
  · refine .inr ⟨c, by rw [upd_ne h1]; exact t, ?_⟩
    rw [upd_ne (fun z => by rw [z] at r; exact hc _ _ r)]
    exact r
theorem TabO.lst {H : Hp} (t : TabO H P4) {x : Addr} {o : HO} {xs : List V} (e : H x = some (.lst xs)) : TabO (upd H x o) P4 := t.off ⟨_, e, by intro ps z; cases z⟩ fun c q z => by rw [e] at z; cases z
theorem TabO.ins {H : Hp} (t : TabO H P4) {x : Addr} {o : HO} {C dx : Addr} {fs : List (Str × V)} (e : H x = some (.ins C dx fs)) : TabO (upd H x o) P4 := t.off ⟨_, e, by intro ps z; cases z⟩ fun c q z => by rw [e] at z; cases z
theorem TabO.new {H : Hp} (t : TabO H P4) {x : Addr} {o : HO} (e : H x = none) : TabO (upd H x o) P4 := t.same (Same.new e)
theorem PegsAt.kp {H H' : Hp} {p r h b : Addr} {rk : List Int} {n : Int} {hg bk : List Int} {c l k : Int} (A : PegsAt C H p r h b rk n hg bk c l k) (t : TabO H P4) (kp : Kp P4 H H') : PegsAt C H' p r h b rk n hg bk c l k := by
  obtain ⟨dx, e⟩ := A.at_
  exact ⟨⟨dx, kp _ _ e (t.ne e fun _ z => by cases z)⟩, kp _ _ A.rk (t.ne A.rk fun _ z => by cases z), kp _ _ A.hg (t.ne A.hg fun _ z => by cases z), kp _ _ A.bk (t.ne A.bk fun _ z => by cases z), A.rh, A.rb, A.hb⟩
theorem _root_.L3.KeepBut.none {S : List Addr} {H H' : Hp} (k : KeepBut S H H') {x : Addr} (h : H' x = none) (hs : ∀ y ∈ S, H' y ≠ none) : H x = none := by
  cases z : H x with
  | none => rfl
  | some o =>
    by_cases hx : x ∈ S
    · exact absurd h (hs x hx)
    · rw [k x o z hx] at h; cases h
end
end K07

namespace K07
open PySem L2 L3
section
variable {P : Program} {w : World} {K : PySem.W.Frag} {mg : Str → Option Value} {base : Heap} {C P4 : Addr}
/-! go -/
def hg1 (hg : List Int) (line : Int) : List Int := if line ∈ hg then delFirst line hg else hg
theorem inV_ints (n : Int) (ns : List Int) : inV (.int n) (ns.map V.int) = decide (n ∈ ns) := by
  unfold inV
  rw [List.any_map, Bool.eq_iff_iff, List.any_eq_true, decide_eq_true_iff]
  constructor
  · rintro ⟨m, hm, e⟩
    have e' : (m == n) = true := e
    rw [← beq_iff_eq.mp e']
    exact hm
  · intro h
    exact ⟨n, h, by show (n == n) = true; simp⟩
theorem flat_ints (ns : List Int) : (ns.map V.int).all flatV = true := by
  rw [List.all_map, List.all_eq_true]
  intro _ _
  rfl
end
end K07

namespace K07
open PySem L2 L3
section
variable {P : Program} {w : World} {K : PySem.W.Frag} {mg : Str → Option Value} {base : Heap} {C P4 CN : Addr}
/-! is_count_of_pegs -/
def spCount (K : PySem.W.Frag) : Sp := fun vs H Q _ => ∃ x b, vs = [x] ∧ WholeV K H x b ∧ ((b = true ∧ ∃ i, x = .int i ∧ Q (.bl (decide (1 ≤ i) && decide (i ≤ 16))) H) ∨ (b = false ∧ Q (.bl false) H))
theorem scCnt : FnScope ["thing"] ["thing"] (defScope (top 31)) := ⟨rfl, rfl, rfl, by decide +kernel, rfl, by decide +kernel, by decide +kernel⟩
theorem f_count (D : Def K mg "is_count_of_pegs" (top 31) ["thing"]) (GW : Fu P w K mg base CX0 1 "is_whole" ["thing"] (spWhole K)) {u : Value} (hm : mg "MOST_PEGS" = some u) (hu : RelV (.int 16) u) : Fu P w K mg base CX0 2 "is_count_of_pegs" ["thing"] (spCount K) := by
  refine D.fu scCnt (fun vs H Q E h => ?_) (fun f cdv A outer s H vs Q E hr h => ?_)
  · obtain ⟨x, b, rfl, _⟩ := h
    rfl
  · obtain ⟨x, b, rfl, wv, hq⟩ := h
    refine ⟨_, pss_one (ps_ret (pe_and (pc GW hr pass0 (pa_cons (pv 0) pa_nil)) (pe_one (pe_chain op_le op_le pe_int (pv 0) (pe_glob rfl hm hu))))), ?_⟩
    refine ⟨_, rfl, x, b, rfl, wv, b, rfl, ?_⟩
    rcases hq with ⟨rfl, i, rfl, q⟩ | ⟨rfl, q⟩
    · refine iteT ⟨_, rfl, _, _, rfl, rfl, _, rfl, ?_⟩
      cases h1 : decide ((1 : Int) ≤ i) with
      | true =>
        rw [h1, Bool.true_and] at q
        exact iteT ⟨_, _, rfl, rfl, q⟩
      | false =>
        rw [h1, Bool.false_and] at q
        exact iteF q
    · exact iteF q
/-! Pegs(ranks, many, lines) -/
theorem mk_pf {r h b : Addr} {n c l k : Int} : putF "calls" (.int k) (putF "laid" (.int l) (putF "came" (.int c) (putF "book" (.ref b) (putF "hung" (.ref h) (putF "many" (.int n) (putF "ranks" (.ref r) [])))))) = pf r n h b c l k := by
  simp only [putF]
  repeat rw [if_neg (by decide)]
  rfl
def spPInit (K : PySem.W.Frag) (C P4 CN : Addr) : Sp := fun vs H Q E => ∃ (p : Addr) (ra mv la : V), vs = [.ref p, ra, mv, la] ∧ (∃ dx, H p = some (.ins C dx [])) ∧
  ((∃ (n : Int) (a1 a2 : Addr) (rk ls : List Int), mv = .int n ∧ 1 ≤ n ∧ n ≤ 16 ∧ ra = .ref a1 ∧ la = .ref a2 ∧ LI K H a1 rk ∧ LI K H a2 ls ∧ ls.Nodup ∧ (∀ x ∈ ls, 0 ≤ x ∧ x < rk.length) ∧ ls.length < 64 ∧ TabO H P4 ∧
      ∀ H' r h b ys, KeepBut [p, P4] H H' → H r = none → H h = none → H b = none → TabO H' P4 → Sorted rk ls ys → PegsAt C H' p r h b rk n (ys.take n.toNat) (ys.drop n.toNat) ys.length ((ys.take n.toNat).length) 0 → Q .non H') ∨
   (∃ b, WholeV K H mv b ∧ (b = true → ∃ i, mv = .int i ∧ ¬ (1 ≤ i ∧ i ≤ 16)) ∧ E (.ref CN) none H))
theorem scPInit : FnScope ["self", "ranks", "many", "lines"] ["self", "ranks", "many", "lines"] (defScope (mt 0)) := ⟨rfl, rfl, rfl, by decide +kernel, rfl, by decide +kernel, by decide +kernel⟩
theorem f_pinit (D : KDef K C "Pegs.__init__" (mt 0) ["self", "ranks", "many", "lines"]) (T : Txt K mg) (TP : PTxt K C) (XN : ExcC K mg "NoPegs" CN) (GC : Fu P w K mg base CX0 2 "is_count_of_pegs" ["thing"] (spCount K)) (GO : Fu P w K mg base CX0 5 "in_order" ["ranks", "lines"] (spInOrder K P4))
    (GF : FuM P w K mg base CX0 1 C "lay_from_book" ["self"] (spLFB C)) : FuK P w K mg base (CX1 P w) 6 C ["self", "ranks", "many", "lines"] (spPInit K C P4 CN) := by
  refine D.fux scPInit (fun vs H Q E h => ?_) (fun f cdv A outer s H vs Q E hr h => ?_)
  · obtain ⟨p, ra, mv, la, rfl, _⟩ := h
    rfl
  · obtain ⟨p, ra, mv, la, rfl, ⟨dx, e0⟩, hq⟩ := h
    refine ⟨_, pss_cons (ps_if (pt_not (pt_val (pc GC hr pass0 (pa_cons (pv 2) pa_nil)))) (pss_one (ps_raise XN hr.hd (pa_cons pe_str pa_nil))) pss_nil)
      (pss_cons (ps_fld (pv 0) (p_list T.list (pv 1)) rfl)
      (pss_cons (ps_fld (pv 0) (pv 2) rfl)
      (pss_cons (ps_fld (pv 0) (pe_lst pa_nil) rfl)
      (pss_cons (ps_fld (pv 0) (pc GO hr pass0 (pa_cons (pe_fld (pv 0) rfl) (pa_cons (pv 3) pa_nil))) rfl)
      (pss_cons (ps_fld (pv 0) (p_len T.len (pe_fld (pv 0) rfl)) rfl)
      (pss_cons (ps_fld (pv 0) pe_int rfl)
      (pss_cons (ps_fld (pv 0) pe_int rfl)
      (pss_one (ps_expr (pm0 GF TP.cl hr pass0 (pv 0))))))))))), ?_⟩
    rcases hq with ⟨n, a1, a2, rk, ls, rfl, hn1, hn2, rfl, rfl, hq1, hq2, nd, hrng, h64, t0, kk⟩ | ⟨b, wv, hb, hE⟩
    · refine ⟨_, rfl, _, _, rfl, whole_int n, .inl ⟨rfl, n, rfl, _, rfl, ?_⟩⟩
      have z : (decide (1 ≤ n) && decide (n ≤ 16)) = true := by rw [decide_eq_true hn1, decide_eq_true hn2]; rfl
      rw [z]
      refine iteF ?_
      refine ⟨_, rfl, a1, _, rfl, .inl hq1, fun r nr => ?_⟩
      have ne1 : p ≠ r := ne_of_none e0 nr
      refine ⟨_, rfl, p, C, dx, _, rfl, by rw [upd_ne ne1]; exact e0, TP.cl, TP.nR, by show 0 < 1000; decide, ?_⟩
      have K1 : KeepBut [p, P4] H (upd (upd H r (.lst (rk.map V.int))) p (.ins C dx (putF "ranks" (.ref r) []))) := ((KeepBut.refl _ _).upd (.inr nr)).upd (.inl (by simp))
      have r1 : upd (upd H r (.lst (rk.map V.int))) p (.ins C dx (putF "ranks" (.ref r) [])) r = some (.lst (rk.map V.int)) := by rw [upd_ne (Ne.symm ne1)]; exact upd_same
      have t1 : TabO (upd (upd H r (.lst (rk.map V.int))) p (.ins C dx (putF "ranks" (.ref r) []))) P4 := TabO.ins (TabO.new t0 nr) (by rw [upd_ne ne1]; exact e0)
      have e1 : upd (upd H r (.lst (rk.map V.int))) p (.ins C dx (putF "ranks" (.ref r) [])) p = some (.ins C dx (putF "ranks" (.ref r) [])) := upd_same
      generalize upd (upd H r (.lst (rk.map V.int))) p (.ins C dx (putF "ranks" (.ref r) [])) = H1 at K1 r1 t1 e1 ⊢
      refine ⟨_, rfl, _, rfl, p, C, dx, _, rfl, e1, TP.cl, TP.nM, by show 1 < 1000; decide, ?_⟩
      have K2 := K1.upd (x := p) (o := .ins C dx (putF "many" (.int n) (putF "ranks" (.ref r) []))) (.inl (by simp))
      have r2 : upd H1 p (.ins C dx (putF "many" (.int n) (putF "ranks" (.ref r) []))) r = some (.lst (rk.map V.int)) := by rw [upd_ne (Ne.symm ne1)]; exact r1
      have t2 := t1.ins (o := .ins C dx (putF "many" (.int n) (putF "ranks" (.ref r) []))) e1
      have e2 : upd H1 p (.ins C dx (putF "many" (.int n) (putF "ranks" (.ref r) []))) p = some (.ins C dx (putF "many" (.int n) (putF "ranks" (.ref r) []))) := upd_same
      generalize upd H1 p (.ins C dx (putF "many" (.int n) (putF "ranks" (.ref r) []))) = H2 at K2 r2 t2 e2 ⊢
      refine ⟨(by show 0 ≤ sizeLine; decide), fun h0 nh0 => ?_⟩
      have ne2 : p ≠ h0 := ne_of_none e2 nh0
      have ne3 : r ≠ h0 := ne_of_none r2 nh0
      refine ⟨_, rfl, p, C, dx, _, rfl, by rw [upd_ne ne2]; exact e2, TP.cl, TP.nH, by show 2 < 1000; decide, ?_⟩
      have st : ∀ {Hx : Hp} {fs : List (Str × V)}, TabO Hx P4 → Hx p = some (.ins C dx fs) → ∀ y ∈ [p, P4], Hx y ≠ none := fun {Hx fs} t e y hy => by
        simp only [List.mem_cons, List.not_mem_nil, or_false] at hy
        rcases hy with rfl | rfl
        · rw [e]; simp
        · rcases t with t | ⟨_, t, _⟩ <;> rw [t] <;> simp
      have nh : H h0 = none := K2.none nh0 (st t2 e2)
      have K3 : KeepBut [p, P4] H (upd (upd H2 h0 (.lst [])) p (.ins C dx (putF "hung" (.ref h0) (putF "many" (.int n) (putF "ranks" (.ref r) []))))) := (K2.upd (.inr nh)).upd (.inl (by simp))
      have r3 : upd (upd H2 h0 (.lst [])) p (.ins C dx (putF "hung" (.ref h0) (putF "many" (.int n) (putF "ranks" (.ref r) [])))) r = some (.lst (rk.map V.int)) := by rw [upd_ne (Ne.symm ne1), upd_ne ne3]; exact r2
      have h3 : upd (upd H2 h0 (.lst [])) p (.ins C dx (putF "hung" (.ref h0) (putF "many" (.int n) (putF "ranks" (.ref r) [])))) h0 = some (.lst (([] : List Int).map V.int)) := by rw [upd_ne (Ne.symm ne2)]; exact upd_same
      have t3 : TabO (upd (upd H2 h0 (.lst [])) p (.ins C dx (putF "hung" (.ref h0) (putF "many" (.int n) (putF "ranks" (.ref r) []))))) P4 := TabO.ins (TabO.new t2 nh0) (by rw [upd_ne ne2]; exact e2)
      have e3 : upd (upd H2 h0 (.lst [])) p (.ins C dx (putF "hung" (.ref h0) (putF "many" (.int n) (putF "ranks" (.ref r) [])))) p = some (.ins C dx (putF "hung" (.ref h0) (putF "many" (.int n) (putF "ranks" (.ref r) [])))) := upd_same
      have q3 : LI K (upd (upd H2 h0 (.lst [])) p (.ins C dx (putF "hung" (.ref h0) (putF "many" (.int n) (putF "ranks" (.ref r) []))))) a2 ls := by
        rcases hq2 with (hq2 | ⟨o, hq2⟩) | hq2
        · refine .inl (.inl (K3 _ _ hq2 ?_))
          simp only [List.mem_cons, List.not_mem_nil, or_false, not_or]
          exact ⟨ne_of hq2 e0 (by intro z; cases z), t0.ne hq2 fun _ z => by cases z⟩
        · refine .inl (.inr ⟨o, K3 _ _ hq2 ?_⟩)
          simp only [List.mem_cons, List.not_mem_nil, or_false, not_or]
          exact ⟨ne_of hq2 e0 (by intro z; cases z), t0.ne hq2 fun _ z => by cases z⟩
        · exact .inr hq2
      generalize upd (upd H2 h0 (.lst [])) p (.ins C dx (putF "hung" (.ref h0) (putF "many" (.int n) (putF "ranks" (.ref r) [])))) = H3 at K3 r3 h3 t3 e3 q3 ⊢
      refine ⟨_, rfl, p, C, dx, _, _, rfl, e3, TP.cl, TP.nR, rfl, _, rfl, r, a2, rk, ls, rfl, SqL.of r3, q3, nd, hrng, h64, t3, fun Dn H5 ys kp t5 nD so => ?_⟩
      have e5 := kp _ _ e3 (t3.ne e3 fun _ z => by cases z)
      have r5 := kp _ _ r3 (t3.ne r3 fun _ z => by cases z)
      have h5 := kp _ _ h3 (t3.ne h3 fun _ z => by cases z)
      have K5 : KeepBut [p, P4] H H5 := K3.trans (KeepBut.kp kp (by simp))
      have ne4 : p ≠ Dn := ne_of_none e5 nD
      have ne5 : r ≠ Dn := ne_of_none r5 nD
      have ne6 : h0 ≠ Dn := ne_of_none h5 nD
      have nDn : H Dn = none := K5.none nD (st t5 e5)
      refine ⟨_, rfl, p, C, dx, _, rfl, by rw [upd_ne ne4]; exact e5, TP.cl, TP.nB, by show 3 < 1000; decide, ?_⟩
      refine ⟨_, rfl, p, C, dx, _, _, rfl, upd_same, TP.cl, TP.nB, rfl, Dn, _, rfl, .inl (SqL.of (by rw [upd_ne (Ne.symm ne4)]; exact upd_same)), _, rfl, p, C, dx, _, rfl, upd_same, TP.cl, TP.nC, by show 4 < 1000; decide, ?_⟩
      refine ⟨_, rfl, p, C, dx, _, rfl, upd_same, TP.cl, TP.nL, by show 5 < 1000; decide, ?_⟩
      refine ⟨_, rfl, p, C, dx, _, rfl, upd_same, TP.cl, TP.nK, by show 6 < 1000; decide, ?_⟩
      rw [List.length_map, mk_pf]
      have tE : TabO (upd (upd (upd (upd (upd H5 Dn (.lst (ys.map V.int))) p (.ins C dx (putF "book" (.ref Dn) (putF "hung" (.ref h0) (putF "many" (.int n) (putF "ranks" (.ref r) [])))))) p (.ins C dx (putF "came" (.int ys.length) (putF "book" (.ref Dn) (putF "hung" (.ref h0) (putF "many" (.int n) (putF "ranks" (.ref r) []))))))) p (.ins C dx (putF "laid" (.int 0) (putF "came" (.int ys.length) (putF "book" (.ref Dn) (putF "hung" (.ref h0) (putF "many" (.int n) (putF "ranks" (.ref r) [])))))))) p (.ins C dx (pf r n h0 Dn ys.length 0 0))) P4 :=
        TabO.ins (TabO.ins (TabO.ins (TabO.ins (TabO.new t5 nD) (by rw [upd_ne ne4]; exact e5)) upd_same) upd_same) upd_same
      have KE : KeepBut [p, P4] H (upd (upd (upd (upd (upd H5 Dn (.lst (ys.map V.int))) p (.ins C dx (putF "book" (.ref Dn) (putF "hung" (.ref h0) (putF "many" (.int n) (putF "ranks" (.ref r) [])))))) p (.ins C dx (putF "came" (.int ys.length) (putF "book" (.ref Dn) (putF "hung" (.ref h0) (putF "many" (.int n) (putF "ranks" (.ref r) []))))))) p (.ins C dx (putF "laid" (.int 0) (putF "came" (.int ys.length) (putF "book" (.ref Dn) (putF "hung" (.ref h0) (putF "many" (.int n) (putF "ranks" (.ref r) [])))))))) p (.ins C dx (pf r n h0 Dn ys.length 0 0))) :=
        ((((K5.upd (.inr nDn)).upd (.inl (by simp))).upd (.inl (by simp))).upd (.inl (by simp))).upd (.inl (by simp))
      have AE : PegsAt C (upd (upd (upd (upd (upd H5 Dn (.lst (ys.map V.int))) p (.ins C dx (putF "book" (.ref Dn) (putF "hung" (.ref h0) (putF "many" (.int n) (putF "ranks" (.ref r) [])))))) p (.ins C dx (putF "came" (.int ys.length) (putF "book" (.ref Dn) (putF "hung" (.ref h0) (putF "many" (.int n) (putF "ranks" (.ref r) []))))))) p (.ins C dx (putF "laid" (.int 0) (putF "came" (.int ys.length) (putF "book" (.ref Dn) (putF "hung" (.ref h0) (putF "many" (.int n) (putF "ranks" (.ref r) [])))))))) p (.ins C dx (pf r n h0 Dn ys.length 0 0))) p r h0 Dn rk n [] ys ys.length 0 0 := by
        refine ⟨⟨dx, upd_same⟩, ?_, ?_, ?_, ne3, ne5, ne6⟩
        · rw [upd_ne (Ne.symm ne1), upd_ne (Ne.symm ne1), upd_ne (Ne.symm ne1), upd_ne (Ne.symm ne1), upd_ne ne5]; exact r5
        · rw [upd_ne (Ne.symm ne2), upd_ne (Ne.symm ne2), upd_ne (Ne.symm ne2), upd_ne (Ne.symm ne2), upd_ne ne6]; exact h5
        · rw [upd_ne (Ne.symm ne4), upd_ne (Ne.symm ne4), upd_ne (Ne.symm ne4), upd_ne (Ne.symm ne4)]; exact upd_same
      generalize upd (upd (upd (upd (upd H5 Dn (.lst (ys.map V.int))) p (.ins C dx (putF "book" (.ref Dn) (putF "hung" (.ref h0) (putF "many" (.int n) (putF "ranks" (.ref r) [])))))) p (.ins C dx (putF "came" (.int ys.length) (putF "book" (.ref Dn) (putF "hung" (.ref h0) (putF "many" (.int n) (putF "ranks" (.ref r) []))))))) p (.ins C dx (putF "laid" (.int 0) (putF "came" (.int ys.length) (putF "book" (.ref Dn) (putF "hung" (.ref h0) (putF "many" (.int n) (putF "ranks" (.ref r) [])))))))) p (.ins C dx (pf r n h0 Dn ys.length 0 0)) = HE at tE KE AE ⊢
      obtain ⟨dxE, eE⟩ := AE.at_
      refine ⟨_, rfl, p, dxE, _, rfl, eE, rfl, p, r, h0, Dn, rk, n, [], ys, _, _, _, rfl, AE, hn1, fun H9 h9 b9 K9 nh9 nb9 A9 => ?_⟩
      have sE : ∀ y ∈ [p, P4], HE y ≠ none := fun y hy => by
        simp only [List.mem_cons, List.not_mem_nil, or_false] at hy
        rcases hy with rfl | rfl
        · rw [eE]; simp
        · rcases tE with t | ⟨_, t, _⟩ <;> rw [t] <;> simp
      have t9 : TabO H9 P4 := by
        have nP : P4 ≠ p := Ne.symm (tE.ne eE fun _ z => by cases z)
        rcases tE with t | ⟨c, t, u⟩
        · exact .inl (K9 _ _ t (by simpa using nP))
        · exact .inr ⟨c, K9 _ _ t (by simpa using nP), K9 _ _ u (by simp only [List.mem_cons, List.not_mem_nil, or_false]; exact ne_of u eE (by intro z; cases z))⟩
      rw [Int.zero_add] at A9
      exact kk H9 r h9 b9 ys (KE.trans (K9.more (by simp))) nr (KE.none nh9 sE) (KE.none nb9 sE) t9 so A9
    · have bad : (!(match mv with | .int i => b && (decide (1 ≤ i) && decide (i ≤ 16)) | _ => false)) = true := by
        cases b with
        | false => cases mv <;> rfl
        | true =>
          obtain ⟨i, rfl, hi⟩ := hb rfl
          simp
          omega
      refine ⟨_, rfl, mv, b, rfl, wv, ?_⟩
      cases b with
      | false => exact .inr ⟨rfl, _, rfl, iteT ⟨by show 1 ≤ sizeLine; decide, hE⟩⟩
      | true =>
        obtain ⟨i, rfl, hi⟩ := hb rfl
        refine .inl ⟨rfl, i, rfl, _, rfl, ?_⟩
        have z : (decide (1 ≤ i) && decide (i ≤ 16)) = false := by
          cases q : (decide (1 ≤ i) && decide (i ≤ 16)) with
          | false => rfl
          | true =>
            rw [Bool.and_eq_true, decide_eq_true_iff, decide_eq_true_iff] at q
            exact absurd q hi
        rw [z]
        exact iteT ⟨by show 1 ≤ sizeLine; decide, hE⟩
end
end K07

namespace K07
open PySem L2 L3
section
variable {P : Program} {w : World} {K : PySem.W.Frag} {mg : Str → Option Value} {base : Heap} {C P4 CN : Addr}
end
end K07

namespace K07
open PySem L2 L3
def M60 : Int := 10 ^ (60 : Int).toNat
theorem cpow (i j : Int) (h : (decide (0 ≤ j) && decide (j ≤ 1000000) && decide (i.natAbs < 2 ^ 64)) = true) : CPow i j := by
  simp only [Bool.and_eq_true, decide_eq_true_iff] at h
  exact ⟨h.1.1, h.1.2, h.2⟩
theorem M60_pos : 1000000 < M60 := by decide +kernel
theorem atI_bl {bs : List Bool} {i : Int} (h0 : 0 ≤ i) (h1 : i < bs.length) : atI (bs.map V.bl) i = some (.bl (bs.getD i.toNat false)) := by
  have hi : i.toNat < bs.length := by omega
  have := atI_nat (xs := bs.map V.bl) (j := i.toNat) (v := .bl (bs.getD i.toNat false)) (by rw [List.getElem?_map, List.getElem?_eq_getElem hi]; simp [List.getD, hi])
  rwa [Int.toNat_of_nonneg h0] at this
theorem last_atI {hg : List Int} {x : Int} (h : hg.getLast? = some x) : atI (hg.map V.int) (-1) = some (.int x) := by
  have hne : hg ≠ [] := by intro e; rw [e] at h; cases h
  have hl := List.length_pos_iff.mpr hne
  have := atI_neg (ns := hg) (i := -1) (by omega) (by omega)
  rw [this]
  congr 2
  rw [List.getLast?_eq_getElem?] at h
  have e : (-1 + (hg.length : Int)).toNat = hg.length - 1 := by omega
  rw [e]
  simp [List.getD, h]
section
variable {P : Program} {w : World} {K : PySem.W.Frag} {mg : Str → Option Value} {base : Heap}
def spUpTo (K : PySem.W.Frag) : Sp := fun vs H Q _ => ∃ (m : Int) (x : V), vs = [.int m, x] ∧ ((∃ i, x = .int i ∧ Q (.bl (decide (0 ≤ i) && decide (i ≤ m))) H) ∨ (WholeV K H x false ∧ Q (.bl false) H))
theorem sc13 : FnScope ["most", "thing"] ["most", "thing"] (defScope (top 16)) := ⟨rfl, rfl, rfl, by decide +kernel, rfl, by decide +kernel, by decide +kernel⟩
theorem f_up_to (D : Def K mg "is_up_to" (top 16) ["most", "thing"]) (GW : Fu P w K mg base CX0 1 "is_whole" ["thing"] (spWhole K)) : Fu P w K mg base CX0 2 "is_up_to" ["most", "thing"] (spUpTo K) := by
  refine D.fu sc13 (fun vs H Q E h => ?_) (fun f cdv A outer s H vs Q E hr h => ?_)
  · obtain ⟨m, x, rfl, _⟩ := h
    rfl
  · obtain ⟨m, x, rfl, hq⟩ := h
    refine ⟨_, pss_one (ps_ret (pe_and (pc GW hr pass0 (pa_cons (pv 1) pa_nil)) (pe_one (pe_chain op_le op_le pe_int (pv 1) (pv 0))))), ?_⟩
    rcases hq with ⟨i, rfl, q⟩ | ⟨wv, q⟩
    · refine ⟨_, rfl, _, true, rfl, whole_int i, true, rfl, iteT ⟨_, rfl, _, _, rfl, rfl, _, rfl, ?_⟩⟩
      cases h1 : decide ((0 : Int) ≤ i) with
      | true =>
        rw [h1, Bool.true_and] at q
        exact iteT ⟨_, rfl, _, _, rfl, rfl, q⟩
      | false =>
        rw [h1, Bool.false_and] at q
        exact iteF q
    · exact ⟨_, rfl, _, false, rfl, wv, false, rfl, iteF q⟩
def spRank : Sp := fun vs H Q _ => ∃ i : Int, vs = [.int i] ∧ 0 ≤ i ∧ i < M60 ∧ Q (.bl true) H
theorem sc14 : FnScope ["thing"] ["thing"] (defScope (top 17)) := ⟨rfl, rfl, rfl, by decide +kernel, rfl, by decide +kernel, by decide +kernel⟩
theorem f_rank (D : Def K mg "is_rank" (top 17) ["thing"]) (GU : Fu P w K mg base CX0 2 "is_up_to" ["most", "thing"] (spUpTo K)) : Fu P w K mg base CX0 3 "is_rank" ["thing"] spRank := by
  refine D.fu sc14 (fun vs H Q E h => ?_) (fun f cdv A outer s H vs Q E hr h => ?_)
  · obtain ⟨i, rfl, _⟩ := h
    rfl
  · obtain ⟨i, rfl, h0, h1, q⟩ := h
    refine ⟨_, pss_one (ps_ret (pc GU hr pass0 (pa_cons (pe_op op_sub (pe_op op_pow pe_int pe_int) pe_int) (pa_cons (pv 0) pa_nil)))), ?_⟩
    refine ⟨_, _, rfl, rfl, cpow _ _ (by decide +kernel), _, _, rfl, rfl, _, rfl, _, _, rfl, .inl ⟨i, rfl, ?_⟩⟩
    have e1 : decide ((0 : Int) ≤ i) = true := decide_eq_true h0
    have e2 : decide (i ≤ 10 ^ (60 : Int).toNat - 1) = true := decide_eq_true (by have : i < 10 ^ (60 : Int).toNat := h1; omega)
    rw [e1, e2]
    exact q
def BarV (v : V) : Prop := v = .non ∨ ∃ z : Int, v = .int z ∧ 0 ≤ z ∧ z ≤ M60
def spBar : Sp := fun vs H Q _ => ∃ v : V, vs = [v] ∧ BarV v ∧ Q (.bl true) H
theorem sc15 : FnScope ["thing"] ["thing"] (defScope (top 18)) := ⟨rfl, rfl, rfl, by decide +kernel, rfl, by decide +kernel, by decide +kernel⟩
theorem f_bar (D : Def K mg "is_bar" (top 18) ["thing"]) (GU : Fu P w K mg base CX0 2 "is_up_to" ["most", "thing"] (spUpTo K)) : Fu P w K mg base CX0 3 "is_bar" ["thing"] spBar := by
  refine D.fu sc15 (fun vs H Q E h => ?_) (fun f cdv A outer s H vs Q E hr h => ?_)
  · obtain ⟨v, rfl, _⟩ := h
    rfl
  · obtain ⟨v, rfl, hv, q⟩ := h
    refine ⟨_, pss_one (ps_ret (pe_or (pe_cmp (pc_isN (pv 0))) (pe_one (pc GU hr pass0 (pa_cons (pe_op op_pow pe_int pe_int) (pa_cons (pv 0) pa_nil)))))), ?_⟩
    rcases hv with rfl | ⟨z, rfl, h0, h1⟩
    · exact ⟨_, rfl, true, rfl, iteT q⟩
    · refine ⟨_, rfl, false, rfl, iteF ⟨_, _, rfl, rfl, cpow _ _ (by decide +kernel), _, rfl, _, _, rfl, .inl ⟨z, rfl, ?_⟩⟩⟩
      have e1 : decide ((0 : Int) ≤ z) = true := decide_eq_true h0
      have e2 : decide (z ≤ 10 ^ (60 : Int).toNat) = true := decide_eq_true h1
      rw [e1, e2]
      exact q
def spIsLine (K : PySem.W.Frag) : Sp := fun vs H Q _ => ∃ (a : Addr) (rk : List Int) (x : V), vs = [.ref a, x] ∧ LI K H a rk ∧ ((∃ i, x = .int i ∧ Q (.bl (decide (0 ≤ i) && decide (i ≤ (rk.length : Int) - 1))) H) ∨ (WholeV K H x false ∧ Q (.bl false) H))
theorem sc16 : FnScope ["ranks", "thing"] ["ranks", "thing"] (defScope (top 19)) := ⟨rfl, rfl, rfl, by decide +kernel, rfl, by decide +kernel, by decide +kernel⟩
theorem f_is_line (D : Def K mg "is_line" (top 19) ["ranks", "thing"]) (T : Txt K mg) (GU : Fu P w K mg base CX0 2 "is_up_to" ["most", "thing"] (spUpTo K)) : Fu P w K mg base CX0 3 "is_line" ["ranks", "thing"] (spIsLine K) := by
  refine D.fu sc16 (fun vs H Q E h => ?_) (fun f cdv A outer s H vs Q E hr h => ?_)
  · obtain ⟨a, rk, x, rfl, _⟩ := h
    rfl
  · obtain ⟨a, rk, x, rfl, hq, q⟩ := h
    refine ⟨_, pss_one (ps_ret (pc GU hr pass0 (pa_cons (pe_op op_sub (p_len T.len (pv 0)) pe_int) (pa_cons (pv 1) pa_nil)))), ?_⟩
    refine ⟨_, rfl, a, _, rfl, .inl hq, _, _, rfl, rfl, _, rfl, _, _, rfl, ?_⟩
    rw [List.length_map]
    exact q
/-- where it is a line -/
theorem line_true {n : Nat} {i : Int} (h0 : 0 ≤ i) (h1 : i < n) : (decide (0 ≤ i) && decide (i ≤ (n : Int) - 1)) = true := by
  rw [decide_eq_true h0, decide_eq_true (by omega : i ≤ (n : Int) - 1)]; rfl
/-! are_ranks -/
def spAreRanks : Sp := fun vs H Q _ => ∃ (a : Addr) (rk : List Int), vs = [.ref a] ∧ H a = some (.lst (rk.map V.int)) ∧ 1 ≤ rk.length ∧ rk.length ≤ 60 ∧ (∀ x ∈ rk, 0 ≤ x ∧ x < M60) ∧ ∀ H', Same H H' → Q (.bl true) H'
theorem sc17 : FnScope ["thing"] ["thing"] (defScope (top 20)) := ⟨rfl, rfl, rfl, by decide +kernel, rfl, by decide +kernel, by decide +kernel⟩
theorem trues {n : Nat} : (List.replicate n true).all id = true := by simp
theorem kit_list : PySem.W.kitOne K (.type "list") (.type "list") = some true := by unfold PySem.W.kitOne; rw [if_pos (by simp)]
theorem kit_tuple : PySem.W.kitOne K (.type "tuple") (.type "tuple") = some true := by unfold PySem.W.kitOne; rw [if_pos (by simp)]
theorem f_are_ranks (D : Def K mg "are_ranks" (top 20) ["thing"]) (T : Txt K mg) (GR : Fu P w K mg base CX0 3 "is_rank" ["thing"] spRank) {u : Value} (hm : mg "MOST_LINES" = some u) (hu : RelV (.int 60) u) : Fu P w K mg base CX0 4 "are_ranks" ["thing"] spAreRanks := by
  refine D.fu sc17 (fun vs H Q E h => ?_) (fun f cdv A outer s H vs Q E hr h => ?_)
  · obtain ⟨a, rk, rfl, _⟩ := h
    rfl
  · obtain ⟨a, rk, rfl, hq, l1, l2, hrk, kk⟩ := h
    refine' ⟨_, pss_cons (ps_if (pt_not (pt_val (p_isi T.isi T.list boot_list' (pv 0)))) (pss_one (ps_ret pe_bl)) pss_nil)
      (pss_one (ps_ret (pe_and (pe_chain op_le op_le pe_int (p_len T.len (pv 0)) (pe_glob rfl hm hu)) (pe_one (p_all (K := K) T.all rfl (pa_cons (pe_comp (ts := ["part"]) (fvs := []) (js := []) (cl := []) rfl ?S (pi_list (pv 0)) (fun _ _ _ _ => pg_name (i := 0) (show List.Nodup (["part"] : List Str) from by decide +kernel) rfl (Or.inl rfl) (Or.inr rfl)) (fun _ _ _ _ => pif_nil)
        (fun _ _ _ _ => pc GR hr pass0 (pa_cons (pv 0) pa_nil))) pa_nil)))))), ?main⟩
    case S => exact site0 rfl rfl (by decide +kernel) (by decide +kernel) rfl
    case main =>
      refine ⟨_, rfl, _, "list", _, true, rfl, .lst hq, kit_list, _, rfl, iteF ?_⟩
      refine ⟨_, rfl, a, _, rfl, .inl (SqL.of hq), _, _, rfl, rfl, _, rfl, ?_⟩
      rw [List.length_map]
      have e1 : decide ((1 : Int) ≤ (rk.length : Int)) = true := decide_eq_true (by omega)
      have e2 : decide ((rk.length : Int) ≤ 60) = true := decide_eq_true (by omega)
      rw [e1]
      refine iteT ⟨_, _, rfl, rfl, _, rfl, ?_⟩
      rw [e2]
      refine iteT ⟨_, rfl, a, rfl, ⟨_, SqL.of hq⟩, [], rfl, fun d nd => ?_⟩
      refine comp_it rk.length (by rw [sizeLine_eq]; omega) (fun i ys H2 => ys = List.replicate i (.bl true) ∧ Same H H2 ∧ H2 d = some (.lst ys)) ⟨rfl, Same.new nd, upd_same⟩ (fun i ys H2 ⟨e, _, e2⟩ => ⟨e2, by rw [e]; simp⟩) ?_ ?_
      · rintro i ys H2 N hi ⟨rfl, sm, hD⟩ rest
        refine ⟨⟨_, .int rk[i], sm.seq (SqL.of hq), by rw [List.getElem?_map, List.getElem?_eq_getElem hi]; rfl⟩, ?_⟩
        rintro x H3 ⟨rfl, hx⟩
        have hx' := hx _ (sm.seq (SqL.of hq))
        rw [List.getElem?_map, List.getElem?_eq_getElem hi] at hx'
        cases hx'
        have hb := hrk _ (List.getElem_mem hi)
        refine ⟨rfl, rfl, iteT ⟨_, rfl, _, rfl, hb.1, hb.2, hD, rest _ _ ⟨by rw [List.replicate_succ'], fun b o e => ?_, upd_same⟩⟩⟩
        rw [upd_ne (ne_of_none e nd)]
        exact sm b o e
      · rintro ys H2 ⟨rfl, sm, hD⟩
        refine ⟨⟨_, sm.seq (SqL.of hq), by rw [List.length_map]; exact Nat.le_refl _⟩, d, List.replicate rk.length true, rfl, SqL.of (by rw [hD, List.map_replicate]), ?_⟩
        rw [trues]
        exact kk _ sm
/-! are_lines -/
def spAreLines : Sp := fun vs H Q _ => ∃ (a b : Addr) (rk ls : List Int), vs = [.ref a, .ref b] ∧ H a = some (.lst (rk.map V.int)) ∧ H b = some (.lst (ls.map V.int)) ∧ ls.length ≤ 100 ∧ (∀ x ∈ ls, 0 ≤ x ∧ x < rk.length) ∧ ∀ H', Same H H' → Q (.bl true) H'
theorem sc18 : FnScope ["ranks", "thing"] ["ranks", "thing"] (defScope (top 21)) := ⟨rfl, rfl, rfl, by decide +kernel, rfl, by decide +kernel, by decide +kernel⟩
theorem f_are_lines (D : Def K mg "are_lines" (top 21) ["ranks", "thing"]) (T : Txt K mg) (GL : Fu P w K mg base CX0 3 "is_line" ["ranks", "thing"] (spIsLine K)) : Fu P w K mg base CX0 4 "are_lines" ["ranks", "thing"] spAreLines := by
  refine D.fu sc18 (fun vs H Q E h => ?_) (fun f cdv A outer s H vs Q E hr h => ?_)
  · obtain ⟨a, b, rk, ls, rfl, _⟩ := h
    rfl
  · obtain ⟨a, b, rk, ls, rfl, hq, hl, l1, hin, kk⟩ := h
    refine' ⟨_, pss_one (ps_ret (pe_and (p_isi T.isi T.list boot_list' (pv 1)) (pe_one (p_all (K := K) T.all rfl (pa_cons (pe_comp (ts := ["part"]) (fvs := ["ranks"]) (js := [0]) (cl := [("ranks", s.heap.objs.size + 1)]) rfl ?S (pi_list (pv 1)) (fun _ _ _ _ => pg_name (i := 0) (show List.Nodup (["part", "ranks"] : List Str) from by decide +kernel) rfl (Or.inl rfl) (Or.inr rfl)) (fun _ _ _ _ => pif_nil)
        (fun _ _ _ _ => pc GL hr pass0 (pa_cons (pv 1) (pa_cons (pv 0) pa_nil)))) pa_nil))))), ?main⟩
    case S => exact site1 rfl rfl (by decide +kernel) (by decide +kernel) rfl (.inl rfl) rfl (.inl rfl) rfl
    case main =>
      refine ⟨_, rfl, _, "list", _, true, rfl, .lst hl, kit_list, _, rfl, iteT ?_⟩
      refine ⟨_, rfl, b, rfl, ⟨_, SqL.of hl⟩, [.ref a], rfl, fun d nd => ?_⟩
      refine comp_it ls.length (by rw [sizeLine_eq]; omega) (fun i ys H2 => ys = List.replicate i (.bl true) ∧ Same H H2 ∧ H2 d = some (.lst ys)) ⟨rfl, Same.new nd, upd_same⟩ (fun i ys H2 ⟨e, _, e2⟩ => ⟨e2, by rw [e]; simp⟩) ?_ ?_
      · rintro i ys H2 N hi ⟨rfl, sm, hD⟩ rest
        refine ⟨⟨_, .int ls[i], sm.seq (SqL.of hl), by rw [List.getElem?_map, List.getElem?_eq_getElem hi]; rfl⟩, ?_⟩
        rintro x H3 ⟨rfl, hx⟩
        have hx' := hx _ (sm.seq (SqL.of hl))
        rw [List.getElem?_map, List.getElem?_eq_getElem hi] at hx'
        cases hx'
        have hb := hin _ (List.getElem_mem hi)
        refine ⟨rfl, rfl, iteT ⟨_, rfl, _, rfl, a, rk, _, rfl, sm.seq (SqL.of hq), .inl ⟨_, rfl, ?_⟩⟩⟩
        rw [line_true hb.1 hb.2]
        refine ⟨hD, rest _ _ ⟨by rw [List.replicate_succ'], fun b o e => ?_, upd_same⟩⟩
        rw [upd_ne (ne_of_none e nd)]
        exact sm b o e
      · rintro ys H2 ⟨rfl, sm, hD⟩
        refine ⟨⟨_, sm.seq (SqL.of hl), by rw [List.length_map]; exact Nat.le_refl _⟩, d, List.replicate ls.length true, rfl, SqL.of (by rw [hD, List.map_replicate]), ?_⟩
        rw [trues]
        exact kk _ sm
/-! rises -/
def Up (ns : List Int) : Prop := ∀ i, i + 1 < ns.length → ns.getD i 0 < ns.getD (i + 1) 0
def spRises (K : PySem.W.Frag) : Sp := fun vs H Q _ => ∃ (a : Addr) (ns : List Int), vs = [.ref a] ∧ H a = some (.lst (ns.map V.int)) ∧ ns.length ≤ 100 ∧ Up ns ∧ ∀ H', Same H H' → Q (.bl true) H'
theorem sc19 : FnScope ["numbers"] ["numbers"] (defScope (top 22)) := ⟨rfl, rfl, rfl, by decide +kernel, rfl, by decide +kernel, by decide +kernel⟩
theorem f_rises (D : Def K mg "rises" (top 22) ["numbers"]) (T : Txt K mg) : Fu P w K mg base CX0 1 "rises" ["numbers"] (spRises K) := by
  refine D.fu sc19 (fun vs H Q E h => ?_) (fun f cdv A outer s H vs Q E hr h => ?_)
  · obtain ⟨a, ns, rfl, _⟩ := h
    rfl
  · obtain ⟨a, ns, rfl, hq, l1, up, kk⟩ := h
    refine' ⟨_, pss_one (ps_ret (p_all (K := K) T.all rfl (pa_cons (pe_comp (ts := ["one", "other"]) (fvs := []) (js := []) (cl := []) rfl ?S (pi_zip T.zip (pa_cons (pv 0) (pa_cons (pe_slice sl_list (pv 0) (po_some pe_int) po_none) pa_nil)))
        (fun _ _ _ _ => pg_tupK (K := K) (n := 2) rfl (pgs_cons (pg_name (i := 0) (show List.Nodup (["one", "other"] : List Str) from by decide +kernel) rfl (Or.inl rfl) (Or.inr rfl)) (pgs_cons (pg_name (i := 1) (show List.Nodup (["one", "other"] : List Str) from by decide +kernel) rfl (Or.inl rfl) (Or.inr rfl)) pgs_nil))) (fun _ _ _ _ => pif_nil)
        (fun _ _ _ _ => pe_cmpR op_lt (pv 0) (pv 1) (nomark _))) pa_nil))), ?main⟩
    case S => exact site0 rfl rfl (by decide +kernel) (by decide +kernel) rfl
    case main =>
      refine ⟨_, rfl, _, rfl, _, rfl, a, _, rfl, SqL.of hq, fun b nb => ?_⟩
      rw [cut_dropI ns (by decide : (0 : Int) ≤ 1)]
      have s1 := Same.new (o := .lst ((ns.drop (1 : Int).toNat).map V.int)) nb
      refine ⟨a, b, rfl, ⟨_, s1.seq (SqL.of hq)⟩, ⟨_, SqL.new⟩, [], rfl, fun d nd => ?_⟩
      have hb : upd H b (.lst ((ns.drop 1).map V.int)) b = some (.lst ((ns.drop 1).map V.int)) := upd_same
      have ha : upd H b (.lst ((ns.drop 1).map V.int)) a = some (.lst (ns.map V.int)) := s1 _ _ hq
      refine comp_it (ns.length - 1) (by rw [sizeLine_eq]; omega) (fun i ys H2 => ys = List.replicate i (.bl true) ∧ Same (upd H b (.lst ((ns.drop 1).map V.int))) H2 ∧ H2 d = some (.lst ys)) ⟨rfl, Same.new nd, upd_same⟩ (fun i ys H2 ⟨e, _, e2⟩ => ⟨e2, by rw [e]; simp⟩) ?_ ?_
      · rintro i ys H2 N hi ⟨rfl, sm, hD⟩ rest
        have i1 : i < ns.length := by omega
        have i2 : i + 1 < ns.length := by omega
        have g1 : (ns.map V.int)[i]? = some (.int (ns.getD i 0)) := by simp [i1]
        have g2 : ((ns.drop 1).map V.int)[i]? = some (.int (ns.getD (i + 1) 0)) := by
          rw [List.getElem?_map, List.getElem?_drop, Nat.add_comm 1 i, List.getElem?_eq_getElem i2]
          simp [i2]
        refine ⟨⟨_, _, _, _, sm.seq (SqL.of ha), g1, sm.seq (SqL.of hb), g2⟩, ?_⟩
        rintro x H3 ⟨t, v, v', nt, rfl, rfl, hv, hv'⟩
        have e1 := hv _ (sm.seq (SqL.of ha))
        have e2 := hv' _ (sm.seq (SqL.of hb))
        rw [g1] at e1
        rw [g2] at e2
        cases e1
        cases e2
        refine ⟨t, _, rfl, SqT.of upd_same, rfl, _, _, rfl, _, _, rfl, rfl, rfl, rfl, iteT ⟨_, rfl, _, rfl, _, _, rfl, rfl, ?_⟩⟩
        dsimp only
        rw [decide_eq_true (up i i2)]
        have nt' : d ≠ t := ne_of_none hD nt
        refine ⟨by rw [upd_ne nt']; exact hD, rest _ _ ⟨by rw [List.replicate_succ'], fun c o e => ?_, upd_same⟩⟩
        rw [upd_ne (ne_of_none e nd), upd_ne (ne_of_none (sm _ _ e) nt)]
        exact sm c o e
      · rintro ys H2 ⟨rfl, sm, hD⟩
        refine ⟨⟨_, _, sm.seq (SqL.of ha), sm.seq (SqL.of hb), .inr (by rw [List.length_map, List.length_drop]; exact Nat.le_refl _)⟩, d, List.replicate (ns.length - 1) true, rfl, SqL.of (by rw [hD, List.map_replicate]), ?_⟩
        rw [trues]
        exact kk _ (s1.trans sm)
end
end K07

namespace K07
open PySem L2 L3
section
variable {P : Program} {w : World} {K : PySem.W.Frag} {mg : Str → Option Value} {base : Heap}
def spRisingLines : Sp := fun vs H Q _ => ∃ (a b : Addr) (rk ls : List Int), vs = [.ref a, .ref b] ∧ H a = some (.lst (rk.map V.int)) ∧ H b = some (.lst (ls.map V.int)) ∧ ls.length ≤ 100 ∧ (∀ x ∈ ls, 0 ≤ x ∧ x < rk.length) ∧ Up ls ∧ ∀ H', Same H H' → Q (.bl true) H'
theorem sc20 : FnScope ["ranks", "thing"] ["ranks", "thing"] (defScope (top 23)) := ⟨rfl, rfl, rfl, by decide +kernel, rfl, by decide +kernel, by decide +kernel⟩
theorem f_rising_lines (D : Def K mg "are_rising_lines" (top 23) ["ranks", "thing"]) (GL : Fu P w K mg base CX0 4 "are_lines" ["ranks", "thing"] spAreLines) (GR : Fu P w K mg base CX0 1 "rises" ["numbers"] (spRises K)) : Fu P w K mg base CX0 5 "are_rising_lines" ["ranks", "thing"] spRisingLines := by
  refine D.fu sc20 (fun vs H Q E h => ?_) (fun f cdv A outer s H vs Q E hr h => ?_)
  · obtain ⟨a, b, rk, ls, rfl, _⟩ := h
    rfl
  · obtain ⟨a, b, rk, ls, rfl, hq, hl, l1, hin, up, kk⟩ := h
    refine ⟨_, pss_one (ps_ret (pe_and (pc GL hr pass0 (pa_cons (pv 0) (pa_cons (pv 1) pa_nil))) (pe_one (pc GR hr pass0 (pa_cons (pv 1) pa_nil))))), ?_⟩
    exact ⟨_, rfl, _, rfl, a, b, rk, ls, rfl, hq, hl, l1, hin, fun H1 s1 => ⟨true, rfl, iteT ⟨_, rfl, b, ls, rfl, s1 _ _ hl, l1, up, fun H2 s2 => kk _ (s1.trans s2)⟩⟩⟩
def spIsPile : Sp := fun vs H Q _ => ∃ (a b : Addr) (rk pl : List Int), vs = [.ref a, .ref b] ∧ H a = some (.lst (rk.map V.int)) ∧ H b = some (.lst (pl.map V.int)) ∧ pl.length ≤ 100 ∧ (∀ x ∈ pl, 0 ≤ x ∧ x < rk.length) ∧ Up (pl.reverse.map (rkAt rk)) ∧ ∀ H', Same H H' → Q (.bl true) H'
theorem sc21 : FnScope ["ranks", "thing"] ["ranks", "thing"] (defScope (top 24)) := ⟨rfl, rfl, rfl, by decide +kernel, rfl, by decide +kernel, by decide +kernel⟩
theorem f_is_pile (D : Def K mg "is_pile" (top 24) ["ranks", "thing"]) (T : Txt K mg) (GL : Fu P w K mg base CX0 4 "are_lines" ["ranks", "thing"] spAreLines) (GR : Fu P w K mg base CX0 1 "rises" ["numbers"] (spRises K)) : Fu P w K mg base CX0 5 "is_pile" ["ranks", "thing"] spIsPile := by
  refine D.fu sc21 (fun vs H Q E h => ?_) (fun f cdv A outer s H vs Q E hr h => ?_)
  · obtain ⟨a, b, rk, ls, rfl, _⟩ := h
    rfl
  · obtain ⟨a, b, rk, pl, rfl, hq, hl, l1, hin, up, kk⟩ := h
    refine' ⟨_, pss_one (ps_ret (pe_and (pc GL hr pass0 (pa_cons (pv 0) (pa_cons (pv 1) pa_nil))) (pe_one (pc GR hr pass0 (pa_cons (pe_comp (ts := ["line"]) (fvs := ["ranks"]) (js := [0]) (cl := [("ranks", s.heap.objs.size + 1)]) rfl ?S (pi_rev T.rev (pa_cons (pv 1) pa_nil)) (fun _ _ _ _ => pg_name (i := 0) (show List.Nodup (["line", "ranks"] : List Str) from by decide +kernel) rfl (Or.inl rfl) (Or.inr rfl)) (fun _ _ _ _ => pif_nil)
        (fun _ _ _ _ => pe_ixK (K := K) (pv 1) (pv 0) (fun _ _ => rfl))) pa_nil))))), ?main⟩
    case S => exact site1 rfl rfl (by decide +kernel) (by decide +kernel) rfl (.inl rfl) rfl (.inl rfl) rfl
    case main =>
      refine ⟨_, rfl, _, rfl, a, b, rk, pl, rfl, hq, hl, l1, hin, fun H1 s1 => ⟨true, rfl, iteT ?_⟩⟩
      have hq1 := s1 _ _ hq
      have hl1 := s1 _ _ hl
      refine ⟨_, rfl, b, _, rfl, SqL.of hl1, [.ref a], rfl, fun d nd => ?_⟩
      rw [List.length_map]
      refine comp_it pl.length (by rw [sizeLine_eq]; omega) (fun i ys H2 => ys = (pl.reverse.take i).map (fun l => V.int (rkAt rk l)) ∧ i ≤ pl.length ∧ Same H1 H2 ∧ H2 d = some (.lst ys)) ⟨rfl, Nat.zero_le _, Same.new nd, upd_same⟩ (fun i ys H2 ⟨e, hi, _, e2⟩ => ⟨e2, by rw [e]; simp; omega⟩) ?_ ?_
      · rintro i ys H2 N hi ⟨rfl, _, sm, hD⟩ rest
        have hj : pl.length - 1 - i < pl.length := by omega
        have g1 : (pl.map V.int)[pl.length - 1 - i]? = some (.int pl[pl.length - 1 - i]) := by simp [hj]
        refine ⟨⟨_, _, sm.seq (SqL.of hl1), by rw [List.length_map], hi, g1⟩, ?_⟩
        rintro x H3 ⟨rfl, hx⟩
        have hx' := hx _ (sm.seq (SqL.of hl1))
        rw [g1] at hx'
        cases hx'
        have hb := hin _ (List.getElem_mem hj)
        refine ⟨rfl, rfl, iteT ⟨_, rfl, _, rfl, a, _, _, _, rfl, rfl, sm.seq (SqL.of hq1), atI_int hb.1 hb.2, ?_⟩⟩
        refine ⟨hD, rest _ _ ⟨?_, hi, fun b o e => ?_, upd_same⟩⟩
        · have hr' : i < pl.reverse.length := by simpa using hi
          rw [List.take_succ_eq_append_getElem hr', List.map_append]
          simp [rkAt]
        · rw [upd_ne (ne_of_none e nd)]
          exact sm b o e
      · rintro ys H2 ⟨rfl, _, sm, hD⟩
        refine ⟨Nat.le_refl _, d, pl.reverse.map (rkAt rk), rfl, ?_, by simp; omega, up, fun H3 s3 => kk _ ((s1.trans sm).trans s3)⟩
        rw [hD, List.take_of_length_le (by simp)]
        simp
structure PicOk (rk l0 l1 pl : List Int) (v : V) : Prop where
  n0 : l0.length ≤ 100
  n1 : l1.length ≤ 100
  n2 : pl.length ≤ 100
  i0 : ∀ x ∈ l0, 0 ≤ x ∧ x < rk.length
  i1 : ∀ x ∈ l1, 0 ≤ x ∧ x < rk.length
  i2 : ∀ x ∈ pl, 0 ≤ x ∧ x < rk.length
  u0 : Up l0
  u1 : Up l1
  u2 : Up (pl.reverse.map (rkAt rk))
  b : BarV v
def spPicture : Sp := fun vs H Q _ => ∃ (a t p0 p1 p2 : Addr) (v : V) (rk l0 l1 pl : List Int), vs = [.ref a, .ref t] ∧ H a = some (.lst (rk.map V.int)) ∧ H t = some (.tup [.ref p0, .ref p1, .ref p2, v]) ∧ H p0 = some (.lst (l0.map V.int)) ∧ H p1 = some (.lst (l1.map V.int)) ∧ H p2 = some (.lst (pl.map V.int)) ∧
  PicOk rk l0 l1 pl v ∧ ∀ H', Same H H' → Q (.bl true) H'
theorem sc22 : FnScope ["ranks", "thing"] ["ranks", "thing"] (defScope (top 25)) := ⟨rfl, rfl, rfl, by decide +kernel, rfl, by decide +kernel, by decide +kernel⟩
theorem f_is_picture (D : Def K mg "is_picture" (top 25) ["ranks", "thing"]) (T : Txt K mg) (GL : Fu P w K mg base CX0 5 "are_rising_lines" ["ranks", "thing"] spRisingLines) (GP : Fu P w K mg base CX0 5 "is_pile" ["ranks", "thing"] spIsPile) (GB : Fu P w K mg base CX0 3 "is_bar" ["thing"] spBar) : Fu P w K mg base CX0 6 "is_picture" ["ranks", "thing"] spPicture := by
  refine D.fu sc22 (fun vs H Q E h => ?_) (fun f cdv A outer s H vs Q E hr h => ?_)
  · obtain ⟨a, t, p0, p1, p2, v, rk, l0, l1, pl, rfl, _⟩ := h
    rfl
  · obtain ⟨a, t, p0, p1, p2, v, rk, l0, l1, pl, rfl, hq, ht, h0, h1, h2, ok, kk⟩ := h
    refine ⟨_, pss_cons (ps_if (pw_or (pt_not (pt_val (p_isi T.isi T.tuple boot_tuple' (pv 1)))) (pw_or1 (pt_cmpR op_ne (p_len T.len (pv 1)) pe_int (nomark _)))).pt (pss_one (ps_ret pe_bl)) pss_nil)
      (pss_cons (ps_if (pw_or (pt_not (pt_val (pc GL hr pass0 (pa_cons (pv 0) (pa_cons (pe_ix ix_tup (pv 1) pe_int (fun _ _ => rfl)) pa_nil))))) (pw_or1 (pt_not (pt_val (pc GL hr pass0 (pa_cons (pv 0) (pa_cons (pe_ix ix_tup (pv 1) pe_int (fun _ _ => rfl)) pa_nil))))))).pt (pss_one (ps_ret pe_bl)) pss_nil)
      (pss_one (ps_ret (pe_and (pc GP hr pass0 (pa_cons (pv 0) (pa_cons (pe_ix ix_tup (pv 1) pe_int (fun _ _ => rfl)) pa_nil))) (pe_one (pc GB hr pass0 (pa_cons (pe_ix ix_tup (pv 1) pe_int (fun _ _ => rfl)) pa_nil))))))), ?_⟩
    refine ⟨_, rfl, _, "tuple", _, true, rfl, .tup ht, kit_tuple, _, rfl, iteF ⟨_, rfl, t, _, rfl, .inr (SqT.of ht), rfl, _, rfl, iteFe (by first | rfl | simp) ?_⟩⟩
    refine ⟨_, rfl, _, rfl, t, _, _, _, rfl, rfl, SqT.of ht, rfl, a, p0, rk, l0, rfl, hq, h0, ok.n0, ok.i0, ok.u0, fun H1 s1 => ⟨_, rfl, iteF ?_⟩⟩
    refine ⟨_, rfl, _, rfl, t, _, _, _, rfl, rfl, SqT.of (s1 _ _ ht), rfl, a, p1, rk, l1, rfl, s1 _ _ hq, s1 _ _ h1, ok.n1, ok.i1, ok.u1, fun H2 s2 => ⟨_, rfl, iteF ?_⟩⟩
    have s12 := s1.trans s2
    refine ⟨_, rfl, _, rfl, t, _, _, _, rfl, rfl, SqT.of (s12 _ _ ht), rfl, a, p2, rk, pl, rfl, s12 _ _ hq, s12 _ _ h2, ok.n2, ok.i2, ok.u2, fun H3 s3 => ⟨true, rfl, iteT ?_⟩⟩
    have s13 := s12.trans s3
    exact ⟨_, rfl, t, _, _, _, rfl, rfl, SqT.of (s13 _ _ ht), rfl, v, rfl, ok.b, kk _ s13⟩
/-! marks_of, marked -/
def marksL (n : Nat) (ls : List Int) : List Bool := (List.range n).map fun i : Nat => decide ((i : Int) ∈ ls)
def idxL (bs : List Bool) (n : Nat) : List Int := ((List.range n).filter fun i => bs.getD i false).map fun i : Nat => (i : Int)
def spMarksOf : Sp := fun vs H Q _ => ∃ (a b : Addr) (rk ls : List Int), vs = [.ref a, .ref b] ∧ H a = some (.lst (rk.map V.int)) ∧ H b = some (.lst (ls.map V.int)) ∧ rk.length ≤ 60 ∧ ∀ d H', Same H H' → H d = none → H' d = some (.lst ((marksL rk.length ls).map V.bl)) → Q (.ref d) H'
theorem sc23 : FnScope ["ranks", "lines"] ["ranks", "lines"] (defScope (top 26)) := ⟨rfl, rfl, rfl, by decide +kernel, rfl, by decide +kernel, by decide +kernel⟩
theorem f_marks_of (D : Def K mg "marks_of" (top 26) ["ranks", "lines"]) (T : Txt K mg) : Fu P w K mg base CX0 1 "marks_of" ["ranks", "lines"] spMarksOf := by
  refine D.fu sc23 (fun vs H Q E h => ?_) (fun f cdv A outer s H vs Q E hr h => ?_)
  · obtain ⟨a, b, rk, ls, rfl, _⟩ := h
    rfl
  · obtain ⟨a, b, rk, ls, rfl, hq, hl, l1, kk⟩ := h
    refine' ⟨_, pss_one (ps_ret (pe_comp (ts := ["line"]) (fvs := ["lines"]) (js := [1]) (cl := [("lines", s.heap.objs.size + 1)]) rfl ?S (pi_range1 rfl T.range (pa_cons (p_len T.len (pv 0)) pa_nil)) (fun _ _ _ _ => pg_name (i := 0) (show List.Nodup (["line", "lines"] : List Str) from by decide +kernel) rfl (Or.inl rfl) (Or.inr rfl)) (fun _ _ _ _ => pif_nil)
        (fun _ _ _ _ => p_inK (K := K) (pv 0) (pv 1) (by with_unfolding_all rfl)))), ?main⟩
    case S => exact site1 rfl rfl (by decide +kernel) (by decide +kernel) rfl (.inl rfl) rfl (.inl rfl) rfl
    case main =>
      refine ⟨_, rfl, a, _, rfl, .inl (SqL.of hq), _, rfl, by omega, by rw [List.length_map]; omega, [.ref b], rfl, fun d nd => ?_⟩
      rw [List.length_map]
      refine comp_it rk.length (by rw [sizeLine_eq]; omega) (fun i ys H2 => ys = (marksL i ls).map V.bl ∧ Same H H2 ∧ H2 d = some (.lst ys)) ⟨rfl, Same.new nd, upd_same⟩ (fun i ys H2 ⟨e, _, e2⟩ => ⟨e2, by rw [e]; simp [marksL]⟩) ?_ ?_
      · rintro i ys H2 N hi ⟨rfl, sm, hD⟩ rest
        refine ⟨hi, ?_⟩
        rintro x H3 ⟨rfl, rfl⟩
        refine ⟨rfl, rfl, iteT ⟨_, rfl, _, rfl, b, _, rfl, .inl (sm.seq (SqL.of hl)), rfl, flat_ints _, ?_⟩⟩
        refine ⟨hD, rest _ _ ⟨?_, fun b o e => ?_, upd_same⟩⟩
        · unfold marksL
          rw [List.range_succ, List.map_append, List.map_append]
          simp [inV_ints]
        · rw [upd_ne (ne_of_none e nd)]
          exact sm b o e
      · rintro ys H2 ⟨rfl, sm, hD⟩
        exact ⟨Nat.le_refl _, kk d _ sm nd hD⟩
def spMarked : Sp := fun vs H Q _ => ∃ (a : Addr) (bs : List Bool), vs = [.ref a] ∧ H a = some (.lst (bs.map V.bl)) ∧ bs.length ≤ 60 ∧ ∀ d H', Same H H' → H d = none → H' d = some (.lst ((idxL bs bs.length).map V.int)) → Q (.ref d) H'
theorem sc24 : FnScope ["marks"] ["marks"] (defScope (top 27)) := ⟨rfl, rfl, rfl, by decide +kernel, rfl, by decide +kernel, by decide +kernel⟩
theorem idxL_succ (bs : List Bool) (n : Nat) : idxL bs (n + 1) = if bs.getD n false = true then idxL bs n ++ [(n : Int)] else idxL bs n := by
  unfold idxL
  rw [List.range_succ, List.filter_append, List.map_append]
  rw [List.filter_cons, List.filter_nil]
  cases h : bs.getD n false with
  | true => rfl
  | false => simp
theorem idxL_len (bs : List Bool) (n : Nat) : (idxL bs n).length ≤ n := by
  unfold idxL
  rw [List.length_map]
  have := List.length_filter_le (fun i => bs.getD i false) (List.range n)
  rwa [List.length_range] at this
theorem f_marked (D : Def K mg "marked" (top 27) ["marks"]) (T : Txt K mg) : Fu P w K mg base CX0 1 "marked" ["marks"] spMarked := by
  refine D.fu sc24 (fun vs H Q E h => ?_) (fun f cdv A outer s H vs Q E hr h => ?_)
  · obtain ⟨a, bs, rfl, _⟩ := h
    rfl
  · obtain ⟨a, bs, rfl, hq, l1, kk⟩ := h
    refine' ⟨_, pss_one (ps_ret (pe_comp (ts := ["line", "mark"]) (fvs := []) (js := []) (cl := []) rfl ?S (pi_enum T.enum (pa_cons (pv 0) pa_nil)) (fun _ _ _ _ => pg_tupK (K := K) (n := 2) rfl (pgs_cons (pg_name (i := 0) (show List.Nodup (["line", "mark"] : List Str) from by decide +kernel) rfl (Or.inl rfl) (Or.inr rfl)) (pgs_cons (pg_name (i := 1) (show List.Nodup (["line", "mark"] : List Str) from by decide +kernel) rfl (Or.inl rfl) (Or.inr rfl)) pgs_nil)))
        (fun _ _ _ _ => pif_one (pt_val (pv 1))) (fun _ _ _ _ => pv 0))), ?main⟩
    case S => exact site0 rfl rfl (by decide +kernel) (by decide +kernel) rfl
    case main =>
      refine ⟨_, rfl, a, rfl, ⟨_, SqL.of hq⟩, [], rfl, fun d nd => ?_⟩
      refine comp_it bs.length (by rw [sizeLine_eq]; omega) (fun i ys H2 => ys = (idxL bs i).map V.int ∧ Same H H2 ∧ H2 d = some (.lst ys)) ⟨rfl, Same.new nd, upd_same⟩ (fun i ys H2 ⟨e, _, e2⟩ => ⟨e2, by rw [e, List.length_map]; exact idxL_len _ _⟩) ?_ ?_
      · rintro i ys H2 N hi ⟨rfl, sm, hD⟩ rest
        have g1 : (bs.map V.bl)[i]? = some (.bl (bs.getD i false)) := by simp [hi]
        refine ⟨⟨_, _, sm.seq (SqL.of hq), g1⟩, ?_⟩
        rintro x H3 ⟨t, v, nt, rfl, rfl, hv⟩
        have e1 := hv _ (sm.seq (SqL.of hq))
        rw [g1] at e1
        cases e1
        have nt' : d ≠ t := ne_of_none hD nt
        refine ⟨t, _, rfl, SqT.of upd_same, rfl, _, _, rfl, _, _, rfl, rfl, rfl, rfl, _, rfl, _, rfl, ?_⟩
        have sk : Same H (upd H2 t (.tup [.int i, .bl (bs.getD i false)])) := sm.trans (Same.new nt)
        have hD2 : upd H2 t (.tup [.int i, .bl (bs.getD i false)]) d = some (.lst ((idxL bs i).map V.int)) := by rw [upd_ne nt']; exact hD
        refine ite2 (fun hc => ?_) (fun hc => ?_)
        · refine ⟨_, rfl, hD2, rest _ _ ⟨?_, fun b o e => ?_, upd_same⟩⟩
          · rw [idxL_succ, if_pos hc, List.map_append]
            rfl
          · rw [upd_ne (ne_of_none e nd)]
            exact sk b o e
        · refine rest _ _ ⟨?_, sk, hD2⟩
          rw [idxL_succ, if_neg hc]
      · rintro ys H2 ⟨rfl, sm, hD⟩
        exact ⟨⟨_, sm.seq (SqL.of hq), by rw [List.length_map]; exact Nat.le_refl _⟩, kk d _ sm nd hD⟩
end
end K07

namespace K07
open PySem L2 L3
/-! ### a board: what it holds -/
def bf (r a m p : Addr) (lim : V) (ex : List (Str × V)) : List (Str × V) := ("ranks", .ref r) :: ("asks", .ref a) :: ("muted", .ref m) :: ("pile", .ref p) :: ("limit", lim) :: ex
section
variable {r a m p : Addr} {lim v : V} {ex : List (Str × V)}
theorem mk_bf : putF "limit" lim (putF "pile" (.ref p) (putF "muted" (.ref m) (putF "asks" (.ref a) (putF "ranks" (.ref r) [])))) = bf r a m p lim [] := by
  simp only [putF]
  repeat rw [if_neg (by decide)]
  rfl
end
/-- what a few board has beside -/
def rx (g : Addr) : List (Str × V) := [("rack", .ref g)]
def ExOk (ex : List (Str × V)) : Prop := ex = [] ∨ ∃ g : Addr, ex = rx g
structure BoardAt (C : Addr) (ex : List (Str × V)) (H : Hp) (x r a m p : Addr) (rk : List Int) (as ms : List Bool) (pl : List Int) (lim : V) : Prop where
  at_ : ∃ dx, H x = some (.ins C dx (bf r a m p lim ex))
  rk : H r = some (.lst (rk.map V.int))
  as : H a = some (.lst (as.map V.bl))
  ms : H m = some (.lst (ms.map V.bl))
  pl : H p = some (.lst (pl.map V.int))
  ra : r ≠ a
  rm : r ≠ m
  rp : r ≠ p
  am : a ≠ m
  ap : a ≠ p
  mp : m ≠ p
  exo : ExOk ex
section
variable {C : Addr} {ex : List (Str × V)} {H H' : Hp} {x r a m p dx : Addr} {rk : List Int} {as ms bs : List Bool} {pl ys : List Int} {lim v : V}
theorem BoardAt.ne (B : BoardAt C ex H x r a m p rk as ms pl lim) : r ≠ x ∧ a ≠ x ∧ m ≠ x ∧ p ≠ x := by
  obtain ⟨dx, e⟩ := B.at_
  exact ⟨ne_of B.rk e (by intro z; cases z), ne_of B.as e (by intro z; cases z), ne_of B.ms e (by intro z; cases z), ne_of B.pl e (by intro z; cases z)⟩
theorem BoardAt.to (B : BoardAt C ex H x r a m p rk as ms pl lim) (kp : ∀ b o, (b = x ∨ b = r ∨ b = a ∨ b = m ∨ b = p) → H b = some o → H' b = some o) : BoardAt C ex H' x r a m p rk as ms pl lim := by
  obtain ⟨dx, e⟩ := B.at_
  exact ⟨⟨dx, kp _ _ (.inl rfl) e⟩, kp _ _ (.inr (.inl rfl)) B.rk, kp _ _ (.inr (.inr (.inl rfl))) B.as, kp _ _ (.inr (.inr (.inr (.inl rfl)))) B.ms, kp _ _ (.inr (.inr (.inr (.inr rfl)))) B.pl, B.ra, B.rm, B.rp, B.am, B.ap, B.mp, B.exo⟩
theorem BoardAt.same (B : BoardAt C ex H x r a m p rk as ms pl lim) (sm : Same H H') : BoardAt C ex H' x r a m p rk as ms pl lim := B.to fun b o _ e => sm b o e
end
/-- what the class has -/
structure BTxt (K : PySem.W.Frag) (C : Addr) : Prop where
  cl : Cls K C
  nR : NoAttr K C "ranks"
  nA : NoAttr K C "asks"
  nM : NoAttr K C "muted"
  nP : NoAttr K C "pile"
  nL : NoAttr K C "limit"
def bm (j : Nat) : Stmt := inClass (top 28) j
def fm (j : Nat) : Stmt := inClass (top 34) j
section
variable {P : Program} {w : World} {K : PySem.W.Frag} {mg : Str → Option Value} {base : Heap} {C P5 : Addr}
/-! wants -/
def wantB (as ms : List Bool) (i : Nat) : Bool := as.getD i false && !ms.getD i false
def spWants (C : Addr) : Sp := fun vs H Q _ => ∃ (ex : List (Str × V)) (x r a m p : Addr) (rk : List Int) (as ms : List Bool) (pl : List Int) (lim : V) (i : Int), vs = [.ref x, .int i] ∧ BoardAt C ex H x r a m p rk as ms pl lim ∧ 0 ≤ i ∧ i < as.length ∧ i < ms.length ∧ Q (.bl (wantB as ms i.toNat)) H
theorem scWants : FnScope ["self", "line"] ["self", "line"] (defScope (bm 11)) := ⟨rfl, rfl, rfl, by decide +kernel, rfl, by decide +kernel, by decide +kernel⟩
theorem f_wants (D : MDef K C "wants" "Board.wants" (bm 11) ["self", "line"]) (TB : BTxt K C) : FuM P w K mg base CX0 1 C "wants" ["self", "line"] (spWants C) := by
  refine D.fu scWants (fun vs H Q E h => ?_) (fun f cdv A outer s H vs Q E hr h => ?_)
  · obtain ⟨ex, x, r, a, m, p, rk, as, ms, pl, lim, i, rfl, _⟩ := h
    rfl
  · obtain ⟨ex, x, r, a, m, p, rk, as, ms, pl, lim, i, rfl, B, h0, h1, h2, kk⟩ := h
    refine ⟨_, pss_one (ps_ret (pe_and (pe_ix ix_list (pe_fld (pv 0) rfl) (pv 1) (fun _ _ => rfl)) (pe_one (pe_not (pe_ix ix_list (pe_fld (pv 0) rfl) (pv 1) (fun _ _ => rfl)))))), ?_⟩
    obtain ⟨dx, e0⟩ := B.at_
    refine ⟨_, rfl, x, C, dx, _, _, rfl, e0, TB.cl, TB.nA, rfl, _, rfl, a, _, _, _, rfl, rfl, SqL.of B.as, atI_bl h0 h1, _, rfl, ?_⟩
    unfold wantB at kk
    cases e : as.getD i.toNat false with
    | false =>
      rw [e] at kk
      exact iteF kk
    | true =>
      rw [e] at kk
      refine iteT ⟨_, rfl, x, C, dx, _, _, rfl, e0, TB.cl, TB.nM, rfl, _, rfl, m, _, _, _, rfl, rfl, SqL.of B.ms, atI_bl h0 h2, _, rfl, kk⟩
/-! wanting -/
def wantL (as ms : List Bool) (n : Nat) : List Int := ((List.range n).filter fun i => wantB as ms i).map fun i : Nat => (i : Int)
theorem wantL_succ (as ms : List Bool) (n : Nat) : wantL as ms (n + 1) = if wantB as ms n = true then wantL as ms n ++ [(n : Int)] else wantL as ms n := by
  unfold wantL
  rw [List.range_succ, List.filter_append, List.map_append]
  rw [List.filter_cons, List.filter_nil]
  cases h : wantB as ms n with
  | true => rfl
  | false => simp
theorem wantL_len (as ms : List Bool) (n : Nat) : (wantL as ms n).length ≤ n := by
  unfold wantL
  rw [List.length_map]
  have := List.length_filter_le (fun i => wantB as ms i) (List.range n)
  rwa [List.length_range] at this
theorem wantL_mem {as ms : List Bool} {n : Nat} {x : Int} (h : x ∈ wantL as ms n) : 0 ≤ x ∧ x < n := by
  unfold wantL at h
  obtain ⟨i, hi, rfl⟩ := List.mem_map.mp h
  have := List.mem_range.mp (List.mem_filter.mp hi).1
  omega
theorem wantL_nd (as ms : List Bool) (n : Nat) : (wantL as ms n).Nodup := by
  unfold wantL
  exact List.pairwise_map.mpr ((List.nodup_range.filter _).imp fun h e => h (Int.ofNat_inj.mp e))
def spWanting (C : Addr) : Sp := fun vs H Q _ => ∃ (ex : List (Str × V)) (x r a m p : Addr) (rk : List Int) (as ms : List Bool) (pl : List Int) (lim : V), vs = [.ref x] ∧ BoardAt C ex H x r a m p rk as ms pl lim ∧ as.length = rk.length ∧ ms.length = rk.length ∧ rk.length ≤ 60 ∧ ∀ d H', Same H H' → H d = none → H' d = some (.lst ((wantL as ms rk.length).map V.int)) → Q (.ref d) H'
theorem scWanting : FnScope ["self"] ["self"] (defScope (bm 12)) := ⟨rfl, rfl, rfl, by decide +kernel, rfl, by decide +kernel, by decide +kernel⟩
theorem bf_no {r a m p : Addr} {lim : V} {ex : List (Str × V)} {f : Str} (hx : ExOk ex) (h : (["ranks", "asks", "muted", "pile", "limit", "rack"] : List Str).contains f = false) : (bf r a m p lim ex).lookup f = none := by
  simp only [List.contains_cons, Bool.or_eq_false_iff] at h
  simp only [bf, List.lookup]
  rw [h.1, h.2.1, h.2.2.1, h.2.2.2.1, h.2.2.2.2.1]
  rcases hx with rfl | ⟨g, rfl⟩
  · rfl
  · simp only [rx, List.lookup]
    rw [h.2.2.2.2.2.1]
theorem f_wanting (D : MDef K C "wanting" "Board.wanting" (bm 12) ["self"]) (T : Txt K mg) (TB : BTxt K C) (GW : FuM P w K mg base CX0 1 C "wants" ["self", "line"] (spWants C)) : FuM P w K mg base CX0 2 C "wanting" ["self"] (spWanting C) := by
  refine D.fu scWanting (fun vs H Q E h => ?_) (fun f cdv A outer s H vs Q E hr h => ?_)
  · obtain ⟨ex, x, r, a, m, p, rk, as, ms, pl, lim, rfl, _⟩ := h
    rfl
  · obtain ⟨ex, x, r, a, m, p, rk, as, ms, pl, lim, rfl, B, la, lm, l60, kk⟩ := h
    refine' ⟨_, pss_one (ps_ret (pe_comp (ts := ["line"]) (fvs := ["self"]) (js := [0]) (cl := [("self", s.heap.objs.size + 1)]) rfl ?S (pi_range1 rfl T.range (pa_cons (p_len T.len (pe_fld (pv 0) rfl)) pa_nil)) (fun _ _ _ _ => pg_name (i := 0) (show List.Nodup (["line", "self"] : List Str) from by decide +kernel) rfl (Or.inl rfl) (Or.inr rfl))
        (fun _ _ _ _ => pif_one (pt_val (pm GW TB.cl hr pass0 (pv 1) (pa_cons (pv 0) pa_nil)))) (fun _ _ _ _ => pv 0))), ?main⟩
    case S => exact site1 rfl rfl (by decide +kernel) (by decide +kernel) rfl (.inl rfl) rfl (.inl rfl) rfl
    case main =>
      obtain ⟨dx, e0⟩ := B.at_
      refine ⟨_, rfl, x, C, dx, _, _, rfl, e0, TB.cl, TB.nR, rfl, r, _, rfl, .inl (SqL.of B.rk), _, rfl, by omega, by rw [List.length_map]; omega, [.ref x], rfl, fun d nd => ?_⟩
      rw [List.length_map]
      refine comp_it rk.length (by rw [sizeLine_eq]; omega) (fun i ys H2 => ys = (wantL as ms i).map V.int ∧ Same H H2 ∧ H2 d = some (.lst ys)) ⟨rfl, Same.new nd, upd_same⟩ (fun i ys H2 ⟨e, _, e2⟩ => ⟨e2, by rw [e, List.length_map]; exact wantL_len _ _ _⟩) ?_ ?_
      · rintro i ys H2 N hi ⟨rfl, sm, hD⟩ rest
        refine ⟨hi, ?_⟩
        rintro y H3 ⟨rfl, rfl⟩
        have B2 := B.same sm
        obtain ⟨dx2, e2⟩ := B2.at_
        refine ⟨rfl, rfl, _, rfl, x, dx2, _, rfl, e2, bf_no B.exo (by decide +kernel), _, rfl, ex, x, r, a, m, p, rk, as, ms, pl, lim, _, rfl, B2, by omega, by omega, by omega, _, rfl, ?_⟩
        rw [show (0 + (i : Int)).toNat = i by omega]
        refine ite2 (fun hc => ?_) (fun hc => ?_)
        · refine ⟨_, rfl, hD, rest _ _ ⟨?_, fun b o e => ?_, upd_same⟩⟩
          · rw [wantL_succ, if_pos hc, List.map_append]
            simp
          · rw [upd_ne (ne_of_none e nd)]
            exact sm b o e
        · refine rest _ _ ⟨?_, sm, hD⟩
          rw [wantL_succ, if_neg hc]
      · rintro ys H2 ⟨rfl, sm, hD⟩
        exact ⟨Nat.le_refl _, kk d _ sm nd hD⟩
end
end K07

namespace K07
open PySem L2 L3
section
variable {P : Program} {w : World} {K : PySem.W.Frag} {mg : Str → Option Value} {base : Heap} {C : Addr}
/-! told -/
def spTold (C : Addr) : Sp := fun vs H Q _ => ∃ (ex : List (Str × V)) (x r a m p : Addr) (rk : List Int) (as ms : List Bool) (pl : List Int) (lim : V), vs = [.ref x] ∧ BoardAt C ex H x r a m p rk as ms pl lim ∧ as.length ≤ 60 ∧ ms.length ≤ 60 ∧
  ∀ t d0 d1 d2 H', Same H H' → H t = none → H d0 = none → H d1 = none → H d2 = none → d0 ≠ d1 → d0 ≠ d2 → d1 ≠ d2 → H' t = some (.tup [.ref d0, .ref d1, .ref d2, lim]) → H' d0 = some (.lst ((idxL as as.length).map V.int)) → H' d1 = some (.lst ((idxL ms ms.length).map V.int)) → H' d2 = some (.lst (pl.map V.int)) → Q (.ref t) H'
theorem scTold : FnScope ["self"] ["self"] (defScope (bm 8)) := ⟨rfl, rfl, rfl, by decide +kernel, rfl, by decide +kernel, by decide +kernel⟩
theorem f_told (D : MDef K C "told" "Board.told" (bm 8) ["self"]) (T : Txt K mg) (TB : BTxt K C) (GM : Fu P w K mg base CX0 1 "marked" ["marks"] spMarked) : FuM P w K mg base CX0 2 C "told" ["self"] (spTold C) := by
  refine D.fu scTold (fun vs H Q E h => ?_) (fun f cdv A outer s H vs Q E hr h => ?_)
  · obtain ⟨ex, x, r, a, m, p, rk, as, ms, pl, lim, rfl, _⟩ := h
    rfl
  · obtain ⟨ex, x, r, a, m, p, rk, as, ms, pl, lim, rfl, B, l1, l2, kk⟩ := h
    refine ⟨_, pss_one (ps_ret (pe_tup (pa_cons (pc GM hr pass0 (pa_cons (pe_fld (pv 0) rfl) pa_nil)) (pa_cons (pc GM hr pass0 (pa_cons (pe_fld (pv 0) rfl) pa_nil)) (pa_cons (p_list T.list (pe_fld (pv 0) rfl)) (pa_cons (pe_fld (pv 0) rfl) pa_nil)))))), ?_⟩
    obtain ⟨dx, e0⟩ := B.at_
    refine ⟨_, rfl, x, C, dx, _, _, rfl, e0, TB.cl, TB.nA, rfl, a, as, rfl, B.as, l1, fun d0 H1 s1 n0 g0 => ?_⟩
    have B1 := B.same s1
    refine ⟨_, rfl, x, C, dx, _, _, rfl, s1 _ _ e0, TB.cl, TB.nM, rfl, m, ms, rfl, B1.ms, l2, fun d1 H2 s2 n1 g1 => ?_⟩
    have s12 := s1.trans s2
    have B2 := B.same s12
    refine ⟨_, rfl, x, C, dx, _, _, rfl, s12 _ _ e0, TB.cl, TB.nP, rfl, p, _, rfl, .inl (SqL.of B2.pl), fun d2 n2 => ?_⟩
    have s3 := Same.new (o := .lst (pl.map V.int)) n2
    have s13 := s12.trans s3
    refine ⟨_, rfl, x, C, dx, _, _, rfl, s13 _ _ e0, TB.cl, TB.nL, rfl, (by show 4 ≤ sizeLine; decide), fun t nt => ?_⟩
    have s4 := Same.new (o := .tup [.ref d0, .ref d1, .ref d2, lim]) nt
    have d01 : d0 ≠ d1 := ne_of_none g0 n1
    have d02 : d0 ≠ d2 := ne_of_none (s2 _ _ g0) n2
    have d12 : d1 ≠ d2 := ne_of_none g1 n2
    exact kk t d0 d1 d2 _ (s13.trans s4) (s13.free nt) n0 (s1.free n1) (s12.free n2) d01 d02 d12 upd_same (s4 _ _ (s3 _ _ (s2 _ _ g0))) (s4 _ _ (s3 _ _ g1)) (s4 _ _ upd_same)
end
end K07

namespace K07
open PySem L2 L3
theorem seq_gen {t u : TS} {D : Ends} {σ : L2.St} {H : Hp} (h : ∀ N : L2.St → Hp → Prop, (∀ σ' H', u D σ' H' → N σ' H') → t { D with nx := N } σ H) : tSeq t u D σ H := h (u D) fun _ _ q => q
/-- a picture that is handed in or told -/
structure ScAt (H : Hp) (t p0 p1 p2 : Addr) (l0 l1 pl : List Int) (v : V) : Prop where
  at_ : H t = some (.tup [.ref p0, .ref p1, .ref p2, v])
  e0 : H p0 = some (.lst (l0.map V.int))
  e1 : H p1 = some (.lst (l1.map V.int))
  e2 : H p2 = some (.lst (pl.map V.int))
theorem ScAt.to {H H' : Hp} {t p0 p1 p2 : Addr} {l0 l1 pl : List Int} {v : V} (S : ScAt H t p0 p1 p2 l0 l1 pl v) (kp : ∀ b o, (b = t ∨ b = p0 ∨ b = p1 ∨ b = p2) → H b = some o → H' b = some o) : ScAt H' t p0 p1 p2 l0 l1 pl v :=
  ⟨kp _ _ (.inl rfl) S.at_, kp _ _ (.inr (.inl rfl)) S.e0, kp _ _ (.inr (.inr (.inl rfl))) S.e1, kp _ _ (.inr (.inr (.inr rfl))) S.e2⟩
theorem ScAt.same {H H' : Hp} {t p0 p1 p2 : Addr} {l0 l1 pl : List Int} {v : V} (S : ScAt H t p0 p1 p2 l0 l1 pl v) (sm : Same H H') : ScAt H' t p0 p1 p2 l0 l1 pl v := S.to fun b o _ e => sm b o e
def PicV (H : Hp) (pv : V) (l0 l1 pl : List Int) (v : V) : Prop := (pv = .non ∧ l0 = [] ∧ l1 = [] ∧ pl = [] ∧ v = .non) ∨ ∃ t p0 p1 p2 : Addr, pv = .ref t ∧ ScAt H t p0 p1 p2 l0 l1 pl v
theorem pic_nil (rk : List Int) : PicOk rk [] [] [] .non := ⟨by simp, by simp, by simp, by simp, by simp, by simp, fun i h => by simp at h, fun i h => by simp at h, fun i h => by simp at h, .inl rfl⟩
section
variable {P : Program} {w : World} {K : PySem.W.Frag} {mg : Str → Option Value} {base : Heap} {C : Addr}
/-! Board.__init__ -/
def spInit (C : Addr) : Sp := fun vs H Q _ => ∃ (x ra : Addr) (rk : List Int) (pv : V) (l0 l1 pl : List Int) (v : V), vs = [.ref x, .ref ra, pv] ∧ (∃ dx, H x = some (.ins C dx [])) ∧ H ra = some (.lst (rk.map V.int)) ∧ 1 ≤ rk.length ∧ rk.length ≤ 60 ∧ (∀ y ∈ rk, 0 ≤ y ∧ y < M60) ∧ PicV H pv l0 l1 pl v ∧ PicOk rk l0 l1 pl v ∧
  ∀ H' r a m p, KeepBut [x] H H' → H r = none → H a = none → H m = none → H p = none → BoardAt C [] H' x r a m p rk (marksL rk.length l0) (marksL rk.length l1) pl v → Q .non H'
theorem scInit : FnScope ["self", "ranks", "picture", "start"] ["self", "ranks", "picture"] (defScope (bm 0)) := ⟨rfl, rfl, rfl, by decide +kernel, rfl, by decide +kernel, by decide +kernel⟩
set_option maxHeartbeats 1000000 in
theorem init_body (T : Txt K mg) (TB : BTxt K C) (GR : Fu P w K mg base CX0 4 "are_ranks" ["thing"] spAreRanks) (GP : Fu P w K mg base CX0 6 "is_picture" ["ranks", "thing"] spPicture)
    (GM : Fu P w K mg base CX0 1 "marks_of" ["ranks", "lines"] spMarksOf) (f : Addr) (cdv : Value) (A : Around) (outer : List Env) (s : Shared) (H : Hp) (vs : List V) (Q : VK) (E : XK) (hr : Room 6 (A.deeper (PyProof.Rows.envOfC "Board.__init__" (defScope (bm 0)) s.heap.objs.size f cdv))) (h : spInit C vs H Q E) :
    ∃ t, PSs (cxOf CX0 P w K mg base ["self", "ranks", "picture", "start"] "Board.__init__" (defScope (bm 0)) f cdv A outer s H E).nox (defBody (bm 0)) t ∧ t { nx := fun _ H' => Q .non H', rt := Q } (start ["self", "ranks", "picture", "start"] vs) H := by
  obtain ⟨x, ra, rk, pv0, l0, ls1, pl, v, rfl, ⟨dx, e0⟩, hq, l1, l60, hrk, hpv, ok, kk⟩ := h
  refine ⟨_, pss_cons (ps_if (pt_not (pt_val (pc GR hr pass0 (pa_cons (pv 1) pa_nil)))) (pss_one ps_never) pss_nil)
    (pss_cons (ps_set (i := 3) scInit.nd rfl (Or.inl rfl) (pe_ifExp (pt_cmp (pc_isN (pv 2))) (pe_tup (pa_cons (pe_lst pa_nil) (pa_cons (pe_lst pa_nil) (pa_cons (pe_lst pa_nil) (pa_cons pe_non pa_nil))))) (pv 2)))
    (pss_cons (ps_if (pt_not (pt_val (pc GP hr pass0 (pa_cons (pv 1) (pa_cons (pv 3) pa_nil))))) (pss_one ps_never) pss_nil)
    (pss_cons (ps_fld (pv 0) (p_list T.list (pv 1)) rfl)
    (pss_cons (ps_fld (pv 0) (pc GM hr pass0 (pa_cons (pv 1) (pa_cons (pe_ix ix_tup (pv 3) pe_int (fun _ _ => rfl)) pa_nil))) rfl)
    (pss_cons (ps_fld (pv 0) (pc GM hr pass0 (pa_cons (pv 1) (pa_cons (pe_ix ix_tup (pv 3) pe_int (fun _ _ => rfl)) pa_nil))) rfl)
    (pss_cons (ps_fld (pv 0) (p_list T.list (pe_ix ix_tup (pv 3) pe_int (fun _ _ => rfl))) rfl)
    (pss_one (ps_fld (pv 0) (pe_ix ix_tup (pv 3) pe_int (fun _ _ => rfl)) rfl)))))))), ?_⟩
  refine ⟨_, rfl, ra, rk, rfl, hq, l1, l60, hrk, fun H1 s1 => ⟨_, rfl, iteF ?_⟩⟩
  refine seq_gen fun N0 h0 => h0 _ _ (seq_gen fun NS hNS => ?_)
  have rest : ∀ (t p0 p1 p2 : Addr) (H2 : Hp), Same H H2 → ScAt H2 t p0 p1 p2 l0 ls1 pl v → NS [some (.ref x), some (.ref ra), some pv0, some (.ref t)] H2 := by
    intro t p0 p1 p2 H2 s2 sc
    apply hNS
    refine ⟨_, rfl, _, rfl, ra, t, p0, p1, p2, v, rk, l0, ls1, pl, rfl, s2 _ _ hq, sc.at_, sc.e0, sc.e1, sc.e2, ok, fun H3 s3 => ⟨_, rfl, iteF ?_⟩⟩
    have s23 := s2.trans s3
    refine ⟨_, rfl, ra, _, rfl, .inl (SqL.of (s23 _ _ hq)), fun r nr => ?_⟩
    have u4 := Same.new (o := .lst (rk.map V.int)) nr
    have s4 := s23.trans u4
    refine ⟨_, rfl, x, C, dx, _, rfl, s4 _ _ e0, TB.cl, TB.nR, (by show 0 < 1000; decide), ?_⟩
    have xr : r ≠ x := Ne.symm (ne_of_none (s23 _ _ e0) nr)
    have zr : H r = none := s23.free nr
    -- from here on all but x is kept
    have k5 : KeepBut [x] H (upd (upd H3 r (.lst (rk.map V.int))) x (.ins C dx (putF "ranks" (.ref r) []))) := KeepBut.upd (fun b o e _ => s4 b o e) (.inl (by simp))
    have xt : t ≠ x := ne_of sc.at_ (s2 _ _ e0) (by intro z; cases z)
    have x0 : p0 ≠ x := ne_of sc.e0 (s2 _ _ e0) (by intro z; cases z)
    have x1 : p1 ≠ x := ne_of sc.e1 (s2 _ _ e0) (by intro z; cases z)
    have x2 : p2 ≠ x := ne_of sc.e2 (s2 _ _ e0) (by intro z; cases z)
    have xra : ra ≠ x := ne_of hq e0 (by intro z; cases z)
    have f34 := s3.trans u4
    have et5 : upd (upd H3 r (.lst (rk.map V.int))) x (.ins C dx (putF "ranks" (.ref r) [])) t = some (.tup [.ref p0, .ref p1, .ref p2, v]) := by rw [upd_ne xt]; exact f34 _ _ sc.at_
    have e05 : upd (upd H3 r (.lst (rk.map V.int))) x (.ins C dx (putF "ranks" (.ref r) [])) p0 = some (.lst (l0.map V.int)) := by rw [upd_ne x0]; exact f34 _ _ sc.e0
    have e15 : upd (upd H3 r (.lst (rk.map V.int))) x (.ins C dx (putF "ranks" (.ref r) [])) p1 = some (.lst (ls1.map V.int)) := by rw [upd_ne x1]; exact f34 _ _ sc.e1
    have e25 : upd (upd H3 r (.lst (rk.map V.int))) x (.ins C dx (putF "ranks" (.ref r) [])) p2 = some (.lst (pl.map V.int)) := by rw [upd_ne x2]; exact f34 _ _ sc.e2
    have er5 : upd (upd H3 r (.lst (rk.map V.int))) x (.ins C dx (putF "ranks" (.ref r) [])) r = some (.lst (rk.map V.int)) := by rw [upd_ne xr]; exact upd_same
    have ex5 : upd (upd H3 r (.lst (rk.map V.int))) x (.ins C dx (putF "ranks" (.ref r) [])) x = some (.ins C dx (putF "ranks" (.ref r) [])) := upd_same
    have eq5 : upd (upd H3 r (.lst (rk.map V.int))) x (.ins C dx (putF "ranks" (.ref r) [])) ra = some (.lst (rk.map V.int)) := by rw [upd_ne xra]; exact s4 _ _ hq
    generalize upd (upd H3 r (.lst (rk.map V.int))) x (.ins C dx (putF "ranks" (.ref r) [])) = H5 at k5 et5 e05 e15 e25 er5 ex5 eq5 ⊢
    clear f34 s4 u4 nr s23 s3 s2 s1
    -- asks
    refine ⟨_, rfl, _, rfl, t, _, _, _, rfl, rfl, SqT.of et5, rfl, ra, p0, rk, l0, rfl, eq5, e05, l60, fun a H6 s6 na ga => ?_⟩
    refine ⟨_, rfl, x, C, dx, _, rfl, s6 _ _ ex5, TB.cl, TB.nA, (by show 1 < 1000; decide), ?_⟩
    have xa : a ≠ x := Ne.symm (ne_of_none ex5 na)
    have ra' : r ≠ a := ne_of_none er5 na
    have hold : ∀ {b : Addr} {o : HO}, H5 b = some o → b ≠ x → upd H6 x (.ins C dx (putF "asks" (.ref a) (putF "ranks" (.ref r) []))) b = some o := fun e hb => by rw [upd_ne hb]; exact s6 _ _ e
    have k6 : KeepBut [x] H (upd H6 x (.ins C dx (putF "asks" (.ref a) (putF "ranks" (.ref r) [])))) := fun b o e hn => hold (k5 b o e hn) (by simpa using hn)
    have et6 := hold et5 xt
    have e16 := hold e15 x1
    have e26 := hold e25 x2
    have er6 := hold er5 xr
    have eq6 := hold eq5 xra
    have ea6 : upd H6 x (.ins C dx (putF "asks" (.ref a) (putF "ranks" (.ref r) []))) a = some (.lst ((marksL rk.length l0).map V.bl)) := by rw [upd_ne xa]; exact ga
    have ex6 : upd H6 x (.ins C dx (putF "asks" (.ref a) (putF "ranks" (.ref r) []))) x = some (.ins C dx (putF "asks" (.ref a) (putF "ranks" (.ref r) []))) := upd_same
    have za : H a = none := by
      cases e : H a with
      | none => rfl
      | some o => rw [k5 a o e (by simpa using xa)] at na; cases na
    generalize upd H6 x (.ins C dx (putF "asks" (.ref a) (putF "ranks" (.ref r) []))) = H7 at k6 et6 e16 e26 er6 eq6 ea6 ex6 ⊢
    clear hold s6 na ga k5 et5 e05 e15 e25 er5 ex5 eq5
    -- muted
    refine ⟨_, rfl, _, rfl, t, _, _, _, rfl, rfl, SqT.of et6, rfl, ra, p1, rk, ls1, rfl, eq6, e16, l60, fun m H8 s8 nm gm => ?_⟩
    refine ⟨_, rfl, x, C, dx, _, rfl, s8 _ _ ex6, TB.cl, TB.nM, (by show 2 < 1000; decide), ?_⟩
    have xm : m ≠ x := Ne.symm (ne_of_none ex6 nm)
    have rm' : r ≠ m := ne_of_none er6 nm
    have am' : a ≠ m := ne_of_none ea6 nm
    have hold : ∀ {b : Addr} {o : HO}, H7 b = some o → b ≠ x → upd H8 x (.ins C dx (putF "muted" (.ref m) (putF "asks" (.ref a) (putF "ranks" (.ref r) [])))) b = some o := fun e hb => by rw [upd_ne hb]; exact s8 _ _ e
    have k8 : KeepBut [x] H (upd H8 x (.ins C dx (putF "muted" (.ref m) (putF "asks" (.ref a) (putF "ranks" (.ref r) []))))) := fun b o e hn => hold (k6 b o e hn) (by simpa using hn)
    have et8 := hold et6 xt
    have e28 := hold e26 x2
    have er8 := hold er6 xr
    have ea8 := hold ea6 xa
    have em8 : upd H8 x (.ins C dx (putF "muted" (.ref m) (putF "asks" (.ref a) (putF "ranks" (.ref r) [])))) m = some (.lst ((marksL rk.length ls1).map V.bl)) := by rw [upd_ne xm]; exact gm
    have ex8 : upd H8 x (.ins C dx (putF "muted" (.ref m) (putF "asks" (.ref a) (putF "ranks" (.ref r) [])))) x = some (.ins C dx (putF "muted" (.ref m) (putF "asks" (.ref a) (putF "ranks" (.ref r) [])))) := upd_same
    have zm : H m = none := by
      cases e : H m with
      | none => rfl
      | some o => rw [k6 m o e (by simpa using xm)] at nm; cases nm
    generalize upd H8 x (.ins C dx (putF "muted" (.ref m) (putF "asks" (.ref a) (putF "ranks" (.ref r) [])))) = H9 at k8 et8 e28 er8 ea8 em8 ex8 ⊢
    clear hold s8 nm gm k6 et6 e16 e26 er6 eq6 ea6 ex6
    -- pile
    refine ⟨_, rfl, t, _, _, _, rfl, rfl, SqT.of et8, rfl, p2, _, rfl, .inl (SqL.of e28), fun p np => ?_⟩
    have s9 := Same.new (o := .lst (pl.map V.int)) np
    refine ⟨_, rfl, x, C, dx, _, rfl, s9 _ _ ex8, TB.cl, TB.nP, (by show 3 < 1000; decide), ?_⟩
    have xp : p ≠ x := Ne.symm (ne_of_none ex8 np)
    have rp' : r ≠ p := ne_of_none er8 np
    have ap' : a ≠ p := ne_of_none ea8 np
    have mp' : m ≠ p := ne_of_none em8 np
    have zp : H p = none := by
      cases e : H p with
      | none => rfl
      | some o => rw [k8 p o e (by simpa using xp)] at np; cases np
    refine ⟨_, rfl, t, _, _, _, rfl, rfl, SqT.of (by rw [upd_ne xt]; exact s9 _ _ et8), rfl, _, rfl, x, C, dx, _, rfl, upd_same, TB.cl, TB.nL, (by show 4 < 1000; decide), ?_⟩
    refine kk _ r a m p ?_ zr za zm zp ⟨⟨dx, by rw [upd_same, mk_bf]⟩, ?_, ?_, ?_, ?_, ra', rm', rp', am', ap', mp', .inl rfl⟩
    · intro b o e hn
      have hb : b ≠ x := by simpa using hn
      rw [upd_ne hb, upd_ne hb]
      exact s9 _ _ (k8 b o e hn)
    · rw [upd_ne xr, upd_ne xr]; exact s9 _ _ er8
    · rw [upd_ne xa, upd_ne xa]; exact s9 _ _ ea8
    · rw [upd_ne xm, upd_ne xm]; exact s9 _ _ em8
    · rw [upd_ne xp, upd_ne xp]; exact upd_same
  rcases hpv with ⟨rfl, rfl, rfl, rfl, rfl⟩ | ⟨t, p0, p1, p2, rfl, sc⟩
  · refine ⟨_, rfl, _, rfl, iteT ⟨(by show 0 ≤ sizeLine; decide), fun p0 n0 => ⟨(by show 0 ≤ sizeLine; decide), fun p1 n1 => ⟨(by show 0 ≤ sizeLine; decide), fun p2 n2 => ⟨(by show 4 ≤ sizeLine; decide), fun t nt => ?_⟩⟩⟩⟩⟩
    have u0 := Same.new (o := .lst []) n0
    have u1 := Same.new (o := .lst []) n1
    have u2 := Same.new (o := .lst []) n2
    have u3 := Same.new (o := .tup [.ref p0, .ref p1, .ref p2, .non]) nt
    exact rest t p0 p1 p2 _ ((((s1.trans u0).trans u1).trans u2).trans u3) ⟨upd_same, ((u1.trans u2).trans u3) _ _ (upd_same (H := H1) (a := p0) (o := .lst [])), (u2.trans u3) _ _ (upd_same (a := p1) (o := .lst [])), u3 _ _ (upd_same (a := p2) (o := .lst []))⟩
  · exact ⟨_, rfl, _, rfl, iteF ⟨_, rfl, rest t p0 p1 p2 H1 s1 (sc.same s1)⟩⟩
theorem init_len : ∀ vs H Q E, spInit C vs H Q E → vs.length = (["self", "ranks", "picture"] : List Str).length := fun vs H Q E h => by
  obtain ⟨x, ra, rk, pv0, l0, ls1, pl, v, rfl, _⟩ := h
  rfl
theorem f_binit {DB : Addr} (D : BDef K DB "__init__" "Board.__init__" (bm 0) ["self", "ranks", "picture"]) (T : Txt K mg) (TB : BTxt K C) (GR : Fu P w K mg base CX0 4 "are_ranks" ["thing"] spAreRanks) (GP : Fu P w K mg base CX0 6 "is_picture" ["ranks", "thing"] spPicture)
    (GM : Fu P w K mg base CX0 1 "marks_of" ["ranks", "lines"] spMarksOf) : FuB P w K mg base CX0 7 DB "__init__" ["self", "ranks", "picture"] (spInit C) := D.fu scInit init_len (init_body T TB GR GP GM)
end
end K07

namespace K07
open PySem L2 L3
/-! ### pegs and book, apart from the program -/
theorem pigeon : ∀ (m : Nat) (l : List Int), l.Nodup → (∀ x ∈ l, 0 ≤ x ∧ x < m) → l.length ≤ m
  | 0, l, _, h => by
    cases l with
    | nil => simp
    | cons x r => have := h x (by simp); omega
  | m + 1, l, nd, h => by
    by_cases hm : (m : Int) ∈ l
    · have := pigeon m (l.erase m) (nd.erase _) fun x hx => by
        have h1 := (List.Nodup.mem_erase_iff nd).mp hx
        have h2 := h x h1.2
        have : x ≠ m := h1.1
        omega
      rw [List.length_erase_of_mem hm] at this
      omega
    · have := pigeon m l nd fun x hx => by
        have h2 := h x hx
        have : x ≠ m := fun e => hm (e ▸ hx)
        omega
      omega
/-- only one list is in order -/
theorem Sorted.one {rk : List Int} : ∀ {ys zs : List Int}, ys.Perm zs → ys.Pairwise (fun x y => lt rk x y = true) → zs.Pairwise (fun x y => lt rk x y = true) → ys = zs
  | [], zs, p, _, _ => (List.nil_perm.mp p).symm
  | y :: ys, [], p, _, _ => by cases p.length_eq
  | y :: ys, z :: zs, p, h1, h2 => by
    obtain ⟨a1, a2⟩ := List.pairwise_cons.mp h1
    obtain ⟨b1, b2⟩ := List.pairwise_cons.mp h2
    have e : y = z := by
      by_cases e : y = z
      · exact e
      · exfalso
        have hy : y ∈ zs := by
          have : y ∈ z :: zs := p.mem_iff.mp (by simp)
          rcases List.mem_cons.mp this with q | q
          · exact absurd q e
          · exact q
        have hz : z ∈ ys := by
          have : z ∈ y :: ys := p.mem_iff.mpr (by simp)
          rcases List.mem_cons.mp this with q | q
          · exact absurd q.symm e
          · exact q
        have q := lt_tr (a1 z hz) (b1 y hy)
        rw [lt_irr] at q
        cases q
    subst e
    rw [Sorted.one ((List.perm_cons y).mp p) a2 b2]
theorem Sorted.eq {rk ls ys zs : List Int} (a : Sorted rk ls ys) (b : Sorted rk ls zs) : ys = zs := Sorted.one (a.perm.trans b.perm.symm) a.pw b.pw
structure GInv (rk : List Int) (n : Int) (hg bk : List Int) : Prop where
  pw : (hg ++ bk).Pairwise fun x y => lt rk x y = true
  len : (hg.length : Int) ≤ n
  ne : bk ≠ [] → hg ≠ []
theorem made_inv {rk ls ys : List Int} {n : Int} (hn : 1 ≤ n) (so : Sorted rk ls ys) : GInv rk n (ys.take n.toNat) (ys.drop n.toNat) := by
  refine ⟨by rw [List.take_append_drop]; exact so.pw, by rw [List.length_take]; omega, fun z y => ?_⟩
  have h1 := congrArg List.length y
  rw [List.length_take, List.length_nil] at h1
  have h2 := List.length_pos_iff.mpr z
  rw [List.length_drop] at h2
  omega
/-! ### what a board knows; pegs and book -/
structure BS where
  rk : List Int
  as : List Bool
  ms : List Bool
  pl : List Int
  lim : V
structure PG where
  n : Int
  hg : List Int
  bk : List Int
  c : Int
  l : Int
  k : Int
abbrev BS.want (b : BS) (i : Nat) : Bool := wantB b.as b.ms i
abbrev BS.wants (b : BS) : List Int := wantL b.as b.ms b.rk.length
structure BOk (b : BS) : Prop where
  la : b.as.length = b.rk.length
  lm : b.ms.length = b.rk.length
  l1 : 1 ≤ b.rk.length
  l60 : b.rk.length ≤ 60
  ro : ∀ y ∈ b.rk, 0 ≤ y ∧ y < M60
  pr : ∀ t ∈ b.pl, 0 ≤ t ∧ t < b.rk.length
  fl : Up (b.pl.reverse.map (rkAt b.rk))
  li : BarV b.lim
structure POk (b : BS) (p : PG) : Prop where
  n1 : 1 ≤ p.n
  n16 : p.n ≤ 16
  g : GInv b.rk p.n p.hg p.bk
  pm : (p.hg ++ p.bk).Perm b.wants
theorem POk.so {b : BS} {p : PG} (h : POk b p) : Sorted b.rk b.wants (p.hg ++ p.bk) := ⟨h.pm, h.g.pw⟩
/-- the pile's ranks fall: no line twice, so it is short -/
theorem up_pw {ns : List Int} (h : Up ns) : ns.Pairwise (· < ·) := by
  rw [List.pairwise_iff_getElem]
  intro i j hi hj hij
  have e : ∀ (k : Nat) (hk : i + k < ns.length), 0 < k → ns[i] < ns[i + k] := by
    intro k
    induction k with
    | zero => intro _ h0; omega
    | succ k ih =>
      intro hk _
      have s := h (i + k) (by omega)
      have e1 : ns.getD (i + k) 0 = ns[i + k] := by simp [show i + k < ns.length by omega]
      have e2 : ns.getD (i + k + 1) 0 = ns[i + k + 1] := by simp [show i + k + 1 < ns.length by omega]
      rw [e1, e2] at s
      by_cases hk0 : k = 0
      · subst hk0
        exact s
      · have := ih (by omega) (by omega)
        exact Int.lt_trans this s
  have := e (j - i) (by omega) (by omega)
  simpa [show i + (j - i) = j by omega] using this
theorem BOk.pnd {b : BS} (h : BOk b) : b.pl.Nodup := by
  have := up_pw h.fl
  rw [List.pairwise_map] at this
  have h2 : b.pl.reverse.Nodup := this.imp fun {x y} q e => by subst e; omega
  exact (List.pairwise_reverse.mp h2).imp Ne.symm
theorem BOk.plen {b : BS} (h : BOk b) : b.pl.length ≤ 60 := Nat.le_trans (pigeon b.rk.length b.pl h.pnd h.pr) h.l60
theorem up_cons {x : Int} {ns : List Int} (h : Up ns) (hx : ∀ y, ns.head? = some y → x < y) : Up (x :: ns) := by
  intro i hi
  cases i with
  | zero =>
    cases ns with
    | nil => simp at hi
    | cons y r => exact hx y rfl
  | succ i => exact h i (by simpa using hi)
/-! ### the tables of the codes that make lambdas -/
structure TT (P4 P5 : Addr) (H : Hp) : Prop where
  o : TabO H P4
def TL (P4 P5 : Addr) : List Addr := [P4]
/-- a list or an instance -/
def Solid (H : Hp) (z : Addr) : Prop := (∃ xs, H z = some (.lst xs)) ∨ (∃ C dx fs, H z = some (.ins C dx fs))
section
variable {P4 P5 a z : Addr} {S : List Addr} {H H' : Hp} {o : HO}
theorem TT.in4 : P4 ∈ TL P4 P5 := by unfold TL; simp
theorem TT.tbl (t : TT P4 P5 H) : ∀ z ∈ TL P4 P5, ∃ ps, H z = some (.tbl ps) := fun z hz => by
  unfold TL at hz
  rw [List.mem_singleton.mp hz]
  exact t.o.tbl
theorem TT.off (t : TT P4 P5 H) (e : H a = some o) (n : ∀ ps, o ≠ .tbl ps) : a ∉ TL P4 P5 := fun hz => by
  obtain ⟨ps, q⟩ := t.tbl a hz
  rw [e] at q
  cases q
  exact n _ rfl
theorem Solid.off (h : Solid H a) (t : TT P4 P5 H) : a ∉ TL P4 P5 := by
  rcases h with ⟨xs, e⟩ | ⟨C, dx, fs, e⟩
  · exact t.off e fun _ z => by cases z
  · exact t.off e fun _ z => by cases z
theorem TT.has (t : TT P4 P5 H) : ∀ y ∈ TL P4 P5, H y ≠ none := fun y hy => by
  obtain ⟨ps, q⟩ := t.tbl y hy
  rw [q]; simp
theorem TT.same (t : TT P4 P5 H) (s : Same H H') : TT P4 P5 H' :=
  ⟨t.o.same s⟩
theorem TT.kb (t : TT P4 P5 H) (k : KeepBut S H H') (hs : ∀ z ∈ S, Solid H z) : TT P4 P5 H' := by
  have h1 : ∀ z ∈ S, (∃ xs, H z = some (.lst xs)) ∨ (∃ C dx fs, H z = some (.ins C dx fs)) ∨ (z ≠ P4 ∧ ∃ ps, H z = some (.tbl ps)) := fun z hz => by
    rcases hs z hz with h | h
    · exact .inl h
    · exact .inr (.inl h)
  exact ⟨t.o.kb k h1⟩
theorem TT.p4 (t : TT P4 P5 H) (k : KeepBut (P4 :: S) H H') (o : TabO H' P4) (hs : ∀ z ∈ S, Solid H z) : TT P4 P5 H' :=
  ⟨o⟩
/-- kept but for the tables -/
abbrev KB (P4 P5 : Addr) (H H' : Hp) : Prop := KeepBut (TL P4 P5) H H'
theorem TT.at (t : TT P4 P5 H) (k : KB P4 P5 H H') (e : H a = some o) (n : ∀ ps, o ≠ .tbl ps) : H' a = some o := k a o e (t.off e n)
theorem TT.lst (t : TT P4 P5 H) (k : KB P4 P5 H H') {xs : List V} (e : H a = some (.lst xs)) : H' a = some (.lst xs) := t.at k e fun _ z => by cases z
theorem TT.tup (t : TT P4 P5 H) (k : KB P4 P5 H H') {xs : List V} (e : H a = some (.tup xs)) : H' a = some (.tup xs) := t.at k e fun _ z => by cases z
theorem TT.sc (t : TT P4 P5 H) (k : KB P4 P5 H H') {p p0 p1 p2 : Addr} {l0 l1 pl : List Int} {v : V} (S : ScAt H p p0 p1 p2 l0 l1 pl v) : ScAt H' p p0 p1 p2 l0 l1 pl v :=
  ⟨t.tup k S.at_, t.lst k S.e0, t.lst k S.e1, t.lst k S.e2⟩
theorem TT.free (t' : TT P4 P5 H') (k : KB P4 P5 H H') (h : H' z = none) : H z = none := KeepBut.none k h t'.has
end
/-! ### a board of either kind -/
def Off (S : List Addr) (x r a m p : Addr) : Prop := ∀ z ∈ S, z ≠ x ∧ z ≠ r ∧ z ≠ a ∧ z ≠ m ∧ z ≠ p
/-- the pegs of a few board; a wide one has none -/
structure Rk (fw : Bool) (CP : Addr) (ex : List (Str × V)) (S : List Addr) (H : Hp) (rk : List Int) (p : PG) : Prop where
  wide : fw = false → ex = [] ∧ S = []
  few : fw = true → ∃ (g r h b : Addr), ex = rx g ∧ S = [g, r, h, b] ∧ PegsAt CP H g r h b rk p.n p.hg p.bk p.c p.l p.k
theorem Rk.to {fw : Bool} {CP : Addr} {ex : List (Str × V)} {S : List Addr} {H H' : Hp} {rk : List Int} {p : PG} (R : Rk fw CP ex S H rk p) (kp : ∀ z o, z ∈ S → H z = some o → H' z = some o) : Rk fw CP ex S H' rk p := by
  refine ⟨R.wide, fun e => ?_⟩
  obtain ⟨g, r, h, b, e1, e2, A⟩ := R.few e
  refine ⟨g, r, h, b, e1, e2, A.to fun a o ha ea => kp _ _ ?_ ea⟩
  rw [e2]
  rcases ha with rfl | rfl | rfl | rfl <;> simp
theorem Rk.solid {fw : Bool} {CP : Addr} {ex : List (Str × V)} {S : List Addr} {H : Hp} {rk : List Int} {p : PG} (R : Rk fw CP ex S H rk p) : ∀ z ∈ S, Solid H z := fun z hz => by
  cases fw with
  | false => rw [(R.wide rfl).2] at hz; cases hz
  | true =>
    obtain ⟨g, r, h, b, _, rfl, A⟩ := R.few rfl
    obtain ⟨dg, eg⟩ := A.at_
    simp only [List.mem_cons, List.not_mem_nil, or_false] at hz
    rcases hz with rfl | rfl | rfl | rfl
    · exact .inr ⟨_, _, _, eg⟩
    · exact .inl ⟨_, A.rk⟩
    · exact .inl ⟨_, A.hg⟩
    · exact .inl ⟨_, A.bk⟩
structure Bd (fw : Bool) (C CP : Addr) (F : List Addr) (H : Hp) (x : Addr) (b : BS) (p : PG) : Prop where
  ex : ∃ (e : List (Str × V)) (S : List Addr) (r a m q : Addr), F = x :: r :: a :: m :: q :: S ∧ BoardAt C e H x r a m q b.rk b.as b.ms b.pl b.lim ∧ Rk fw CP e S H b.rk p ∧ Off S x r a m q
  ok : BOk b
  pok : fw = true → POk b p
section
variable {fw : Bool} {C CP P4 P5 : Addr} {F : List Addr} {H H' : Hp} {x : Addr} {b : BS} {p : PG}
theorem Bd.to (D : Bd fw C CP F H x b p) (kp : ∀ z o, z ∈ F → H z = some o → H' z = some o) : Bd fw C CP F H' x b p := by
  obtain ⟨e, S, r, a, m, q, rfl, B, R, off⟩ := D.ex
  exact ⟨⟨e, S, r, a, m, q, rfl, B.to fun z o hz ez => kp z o (by rcases hz with rfl | rfl | rfl | rfl | rfl <;> simp) ez, R.to fun z o hz ez => kp z o (by simp [hz]) ez, off⟩, D.ok, D.pok⟩
theorem Bd.same (D : Bd fw C CP F H x b p) (s : Same H H') : Bd fw C CP F H' x b p := D.to fun z o _ e => s z o e
theorem Bd.solid (D : Bd fw C CP F H x b p) : ∀ z ∈ F, Solid H z := by
  obtain ⟨e, S, r, a, m, q, rfl, B, R, off⟩ := D.ex
  intro z hz
  simp only [List.mem_cons] at hz
  obtain ⟨dx, e0⟩ := B.at_
  rcases hz with rfl | rfl | rfl | rfl | rfl | hz
  · exact .inr ⟨_, _, _, e0⟩
  · exact .inl ⟨_, B.rk⟩
  · exact .inl ⟨_, B.as⟩
  · exact .inl ⟨_, B.ms⟩
  · exact .inl ⟨_, B.pl⟩
  · exact R.solid z hz
theorem Bd.has (D : Bd fw C CP F H x b p) : ∀ z ∈ F, H z ≠ none := fun z hz => by
  rcases D.solid z hz with ⟨xs, e⟩ | ⟨_, _, _, e⟩ <;> rw [e] <;> simp
theorem Bd.kb (D : Bd fw C CP F H x b p) (t : TT P4 P5 H) (k : KB P4 P5 H H') : Bd fw C CP F H' x b p := D.to fun z o hz e => k z o e ((D.solid z hz).off t)
theorem Bd.off (D : Bd fw C CP F H x b p) {z : Addr} (hz : H z = none) : z ∉ F := fun h => D.has z h hz
theorem Bd.inst (D : Bd fw C CP F H x b p) : ∃ dx fs, H x = some (.ins C dx fs) ∧ ∀ f : Str, (["ranks", "asks", "muted", "pile", "limit", "rack"] : List Str).contains f = false → fs.lookup f = none := by
  obtain ⟨e, S, r, a, m, q, rfl, B, _⟩ := D.ex
  obtain ⟨dx, e0⟩ := B.at_
  exact ⟨dx, _, e0, fun f hf => bf_no B.exo hf⟩
/-- what a deed leaves: the tables, the board's own places -/
abbrev KD (P4 P5 : Addr) (F : List Addr) (H H' : Hp) : Prop := KeepBut (TL P4 P5 ++ F) H H'
theorem KD.at {a : Addr} {o : HO} (k : KD P4 P5 F H H') (t : TT P4 P5 H) (e : H a = some o) (n : ∀ ps, o ≠ .tbl ps) (hf : a ∉ F) : H' a = some o := k a o e (by
  rw [List.mem_append, not_or]
  exact ⟨t.off e n, hf⟩)
theorem KD.free (k : KD P4 P5 F H H') (t' : TT P4 P5 H') (hF : ∀ z ∈ F, H' z ≠ none) {z : Addr} (h : H' z = none) : H z = none := KeepBut.none k h fun y hy => by
  rcases List.mem_append.mp hy with q | q
  · exact t'.has y q
  · exact hF y q
end
end K07

namespace K07
open PySem L2 L3
def mkBS (rk l0 l1 pl : List Int) (v : V) : BS := ⟨rk, marksL rk.length l0, marksL rk.length l1, pl, v⟩
def mkPG (n : Int) (ys : List Int) : PG := ⟨n, ys.take n.toNat, ys.drop n.toNat, ys.length, (ys.take n.toNat).length, 0⟩
theorem marks_len (n : Nat) (l : List Int) : (marksL n l).length = n := by unfold marksL; simp
theorem mk_ok {rk l0 l1 pl : List Int} {v : V} (h1 : 1 ≤ rk.length) (h60 : rk.length ≤ 60) (hrk : ∀ y ∈ rk, 0 ≤ y ∧ y < M60) (ok : PicOk rk l0 l1 pl v) : BOk (mkBS rk l0 l1 pl v) :=
  ⟨marks_len _ _, marks_len _ _, h1, h60, hrk, ok.i2, ok.u2, ok.b⟩
theorem mk_pok {b : BS} {n : Int} {ys : List Int} (n1 : 1 ≤ n) (n16 : n ≤ 16) (so : Sorted b.rk b.wants ys) : POk b (mkPG n ys) :=
  ⟨n1, n16, made_inv n1 so, by show (ys.take n.toNat ++ ys.drop n.toNat).Perm _; rw [List.take_append_drop]; exact so.perm⟩
theorem put_rack {r a m p g : Addr} {lim : V} : putF "rack" (.ref g) (bf r a m p lim []) = bf r a m p lim (rx g) := by
  simp only [bf, putF, rx]
  repeat rw [if_neg (by decide)]
theorem passF {X : Cx} {P : Program} {w : World} : Passes (CX1 P w) X E0 := fun _ _ _ _ _ _ _ ⟨_, _, _, _, _, _, q⟩ => q.elim
section
variable {P : Program} {w : World} {K : PySem.W.Frag} {mg : Str → Option Value} {base : Heap} {C CP P4 P5 CQ DB : Addr}
/-! Few.__init__ -/
def spFewInit (C CP P4 : Addr) : Sp := fun vs H Q _ => ∃ (x ra : Addr) (rk : List Int) (n : Int) (pv : V) (l0 l1 pl : List Int) (v : V), vs = [.ref x, .ref ra, .int n, pv] ∧ (∃ dx, H x = some (.ins C dx [])) ∧ H ra = some (.lst (rk.map V.int)) ∧ 1 ≤ rk.length ∧ rk.length ≤ 60 ∧ (∀ y ∈ rk, 0 ≤ y ∧ y < M60) ∧ PicV H pv l0 l1 pl v ∧ PicOk rk l0 l1 pl v ∧ 1 ≤ n ∧ n ≤ 16 ∧ TabO H P4 ∧
  ∀ H' F ys, KeepBut [x, P4] H H' → (∀ z ∈ F, z = x ∨ H z = none) → TabO H' P4 → Sorted rk (mkBS rk l0 l1 pl v).wants ys → Bd true C CP F H' x (mkBS rk l0 l1 pl v) (mkPG n ys) → Q .non H'
theorem scFewInit : FnScope ["self", "ranks", "pegs", "picture"] ["self", "ranks", "pegs", "picture"] (defScope (fm 0)) := ⟨rfl, rfl, rfl, by decide +kernel, rfl, by decide +kernel, by decide +kernel⟩
theorem few_len : ∀ vs H Q E, spFewInit C CP P4 vs H Q E → vs.length = (["self", "ranks", "pegs", "picture"] : List Str).length := fun vs H Q E h => by
  obtain ⟨x, ra, rk, n, pv0, l0, ls1, pl, v, rfl, _⟩ := h
  rfl
set_option maxHeartbeats 1000000 in
theorem few_body (TB : BTxt K C) (nK : NoAttr K C "rack") (hB : mg "Board" = some (.ref DB)) (hP : mg "Pegs" = some (.ref CP)) (GB : FuB P w K mg base CX0 7 DB "__init__" ["self", "ranks", "picture"] (spInit C))
    (GP : FuK P w K mg base (CX1 P w) 6 CP ["self", "ranks", "many", "lines"] (spPInit K CP P4 CQ)) (GW : FuM P w K mg base CX0 2 C "wanting" ["self"] (spWanting C))
    (f : Addr) (cdv : Value) (A : Around) (outer : List Env) (s : Shared) (H : Hp) (vs : List V) (Q : VK) (E : XK) (hr : Room 7 (A.deeper (PyProof.Rows.envOfC "Few.__init__" (defScope (fm 0)) s.heap.objs.size f cdv))) (h : spFewInit C CP P4 vs H Q E) :
    ∃ t, PSs (cxOf CX0 P w K mg base ["self", "ranks", "pegs", "picture"] "Few.__init__" (defScope (fm 0)) f cdv A outer s H E).nox (defBody (fm 0)) t ∧ t { nx := fun _ H' => Q .non H', rt := Q } (start ["self", "ranks", "pegs", "picture"] vs) H := by
  obtain ⟨x, ra, rk, n, pv0, l0, ls1, pl, v, rfl, ⟨dx, e0⟩, hq, l1, l60, hrk, hpv, ok, n1, n16, t, kk⟩ := h
  refine ⟨_, pss_cons (ps_expr (pb GB hr hB pass0 (pa_cons (pv 0) (pa_cons (pv 1) (pa_cons (pv 3) pa_nil)))))
    (pss_one (ps_fld (pv 0) (pmk (k := 6) GP hr hP passF (pa_cons (pe_fld (pv 0) rfl) (pa_cons (pv 2) (pa_cons (pm0 GW TB.cl hr pass0 (pv 0)) pa_nil)))) rfl)), ?_⟩
  refine ⟨_, rfl, _, rfl, _, rfl, x, ra, rk, pv0, l0, ls1, pl, v, rfl, ⟨dx, e0⟩, hq, l1, l60, hrk, hpv, ok, fun H1 r a m p k1 nr na nm np B1 => ?_⟩
  have t1 : TabO H1 P4 := t.kb k1 fun z hz => by
    rw [List.mem_singleton.mp hz]
    exact .inr (.inl ⟨_, _, _, e0⟩)
  obtain ⟨dx1, e1⟩ := B1.at_
  have iv := mk_ok l1 l60 hrk ok
  refine ⟨_, rfl, x, C, dx1, _, _, rfl, e1, TB.cl, TB.nR, rfl, _, rfl, _, rfl, x, dx1, _, rfl, e1, bf_no B1.exo (by decide +kernel), [], x, r, a, m, p, rk, _, _, pl, v, rfl, B1, iv.la, iv.lm, l60, fun d H2 s2 nd hd => ?_⟩
  have B2 := B1.same s2
  have t2 : TabO H2 P4 := t1.same s2
  obtain ⟨dx2, e2⟩ := B2.at_
  have back : ∀ z, H2 z = none → H z = none := fun z hz => by
    cases ez : H z with
    | none => rfl
    | some o =>
      by_cases zx : z = x
      · subst zx; rw [e2] at hz; cases hz
      · rw [s2 _ _ (k1 z o ez (by simpa using zx))] at hz; cases hz
  refine fun g dg ng ndg ne => ?_
  have ng' : upd H2 dg (.own g) g = none := by rw [upd_ne (Ne.symm ne)]; exact ng
  have s3 : Same H2 (upd (upd H2 dg (.own g)) g (.ins CP dg [])) := (Same.new ndg).trans (Same.new ng')
  have hwl := wantL_len (marksL rk.length l0) (marksL rk.length ls1) rk.length
  refine ⟨g, .ref r, .int n, .ref d, rfl, ⟨dg, upd_same⟩, .inl ⟨n, r, d, rk, _, rfl, n1, n16, rfl, rfl, SqL.of (s3 _ _ B2.rk), SqL.of (s3 _ _ hd), wantL_nd _ _ _, fun y hy => wantL_mem hy, by omega, t2.same s3, fun H3 gr gh gb ys k3 nr3 nh3 nb3 t3 so A3 => ?_⟩⟩
  have fr3 : ∀ z, upd (upd H2 dg (.own g)) g (.ins CP dg []) z = none → H2 z = none := fun z hz => s3.free hz
  have ngr := fr3 _ nr3
  have ngh := fr3 _ nh3
  have ngb := fr3 _ nb3
  have pt : ∀ {b : Addr} {o : HO}, H2 b = some o → (∀ ps, o ≠ .tbl ps) → H3 b = some o := fun {b o} eb hb => k3 b o (s3 _ _ eb) (by
    simp only [List.mem_cons, List.not_mem_nil, or_false, not_or]
    exact ⟨ne_of_none eb ng, t2.ne eb hb⟩)
  have B3 : BoardAt C [] H3 x r a m p rk (marksL rk.length l0) (marksL rk.length ls1) pl v :=
    ⟨⟨dx2, pt e2 (fun _ z => by cases z)⟩, pt B2.rk (fun _ z => by cases z), pt B2.as (fun _ z => by cases z), pt B2.ms (fun _ z => by cases z), pt B2.pl (fun _ z => by cases z), B2.ra, B2.rm, B2.rp, B2.am, B2.ap, B2.mp, B2.exo⟩
  have e3 := pt e2 (fun _ z => by cases z)
  refine ⟨rfl, _, rfl, x, C, dx2, _, rfl, e3, TB.cl, nK, (by show 5 < 1000; decide), ?_⟩
  rw [put_rack]
  have offS : ∀ z, H2 z = none → z ≠ x ∧ z ≠ r ∧ z ≠ a ∧ z ≠ m ∧ z ≠ p := fun z hz => ⟨Ne.symm (ne_of_none e2 hz), Ne.symm (ne_of_none B2.rk hz), Ne.symm (ne_of_none B2.as hz), Ne.symm (ne_of_none B2.ms hz), Ne.symm (ne_of_none B2.pl hz)⟩
  obtain ⟨z1, z2, z3, z4⟩ := B3.ne
  have B4 : BoardAt C (rx g) (upd H3 x (.ins C dx2 (bf r a m p v (rx g)))) x r a m p rk (marksL rk.length l0) (marksL rk.length ls1) pl v :=
    ⟨⟨dx2, upd_same⟩, by rw [upd_ne z1]; exact B3.rk, by rw [upd_ne z2]; exact B3.as, by rw [upd_ne z3]; exact B3.ms, by rw [upd_ne z4]; exact B3.pl, B3.ra, B3.rm, B3.rp, B3.am, B3.ap, B3.mp, .inr ⟨g, rfl⟩⟩
  refine kk _ [x, r, a, m, p, g, gr, gh, gb] ys ?_ ?_ (TabO.ins t3 e3) so ⟨⟨rx g, [g, gr, gh, gb], r, a, m, p, rfl, B4, ⟨(fun h => by cases h), fun _ => ⟨g, gr, gh, gb, rfl, rfl, A3.to fun b o hb eb => ?_⟩⟩, fun z hz => ?_⟩, iv, fun _ => mk_pok n1 n16 so⟩
  · intro b o eb hn
    simp only [List.mem_cons, List.not_mem_nil, or_false, not_or] at hn
    rw [upd_ne hn.1]
    exact k3 b o (s3 _ _ (s2 _ _ (k1 b o eb (by simpa using hn.1)))) (by
      simp only [List.mem_cons, List.not_mem_nil, or_false, not_or]
      exact ⟨ne_of_none eb (back g ng), hn.2⟩)
  · intro z hz
    simp only [List.mem_cons, List.not_mem_nil, or_false] at hz
    rcases hz with rfl | rfl | rfl | rfl | rfl | rfl | rfl | rfl | rfl
    · exact .inl rfl
    · exact .inr nr
    · exact .inr na
    · exact .inr nm
    · exact .inr np
    · exact .inr (back _ ng)
    · exact .inr (back _ ngr)
    · exact .inr (back _ ngh)
    · exact .inr (back _ ngb)
  · rw [upd_ne]
    · exact eb
    · rcases hb with rfl | rfl | rfl | rfl
      · exact (offS _ ng).1
      · exact (offS _ ngr).1
      · exact (offS _ ngh).1
      · exact (offS _ ngb).1
  · simp only [List.mem_cons, List.not_mem_nil, or_false] at hz
    rcases hz with rfl | rfl | rfl | rfl
    · exact offS _ ng
    · exact offS _ ngr
    · exact offS _ ngh
    · exact offS _ ngb
/-- Few(ranks, n, picture): the reading -/
theorem made_f {H : Hp} {rk : List Int} {n : Int} {x dx ra : Addr} {pv0 : V} {l0 l1 pl : List Int} {v : V} {Q : VK} {E : XK} {vs : List V} (hv : vs = [.ref x, .ref ra, .int n, pv0]) (nx : H x = none) (ndx : H dx = none) (ne : dx ≠ x) (hh : H ra = some (.lst (rk.map V.int))) (h1 : 1 ≤ rk.length) (h60 : rk.length ≤ 60) (hrk : ∀ y ∈ rk, 0 ≤ y ∧ y < M60) (hp : PicV H pv0 l0 l1 pl v) (ok : PicOk rk l0 l1 pl v) (n1 : 1 ≤ n) (n16 : n ≤ 16) (t : TT P4 P5 H)
    (kk : ∀ F H' ys, KB P4 P5 H H' → TT P4 P5 H' → (∀ z ∈ F, H z = none) → Sorted rk (mkBS rk l0 l1 pl v).wants ys → Bd true C CP F H' x (mkBS rk l0 l1 pl v) (mkPG n ys) → Q .non H') : spFewInit C CP P4 vs (upd (upd H dx (.own x)) x (.ins C dx [])) Q E := by
  subst hv
  have nx' : upd H dx (.own x) x = none := by rw [upd_ne (Ne.symm ne)]; exact nx
  have s3 : Same H (upd (upd H dx (.own x)) x (.ins C dx [])) := (Same.new ndx).trans (Same.new nx')
  have hp' : PicV (upd (upd H dx (.own x)) x (.ins C dx [])) pv0 l0 l1 pl v := by
    rcases hp with hp | ⟨t, p0, p1, p2, e, S⟩
    · exact .inl hp
    · exact .inr ⟨t, p0, p1, p2, e, S.same s3⟩
  have t3 := t.same s3
  refine ⟨x, ra, rk, n, pv0, l0, l1, pl, v, rfl, ⟨dx, upd_same⟩, s3 _ _ hh, h1, h60, hrk, hp', ok, n1, n16, t3.o, fun H' F ys k' fr t' so D' => ?_⟩
  have k'' : KeepBut (P4 :: [x]) (upd (upd H dx (.own x)) x (.ins C dx [])) H' := k'.more fun z hz => by
    simp only [List.mem_cons, List.not_mem_nil, or_false] at hz ⊢
    exact hz.symm
  refine kk F H' ys (fun b o e hn => k' b o (s3 b o e) ?_) (t3.p4 k'' t' fun z hz => ?_) (fun z hz => ?_) so D'
  · simp only [List.mem_cons, List.not_mem_nil, or_false, not_or]
    exact ⟨ne_of_none e nx, fun z => hn (by rw [z]; exact TT.in4)⟩
  · rw [List.mem_singleton.mp hz]; exact .inr ⟨_, _, _, upd_same⟩
  · rcases fr z hz with rfl | h
    · exact nx
    · exact s3.free h
/-- Wide(ranks, picture): the reading -/
theorem made_w {H : Hp} {rk : List Int} {p : PG} {x dx ra : Addr} {pv0 : V} {l0 l1 pl : List Int} {v : V} {Q : VK} {E : XK} {vs : List V} (hv : vs = [.ref x, .ref ra, pv0]) (nx : H x = none) (ndx : H dx = none) (ne : dx ≠ x) (hh : H ra = some (.lst (rk.map V.int))) (h1 : 1 ≤ rk.length) (h60 : rk.length ≤ 60) (hrk : ∀ y ∈ rk, 0 ≤ y ∧ y < M60) (hp : PicV H pv0 l0 l1 pl v) (ok : PicOk rk l0 l1 pl v) (t : TT P4 P5 H)
    (kk : ∀ F H', KB P4 P5 H H' → TT P4 P5 H' → (∀ z ∈ F, H z = none) → Bd false C CP F H' x (mkBS rk l0 l1 pl v) p → Q .non H') : spInit C vs (upd (upd H dx (.own x)) x (.ins C dx [])) Q E := by
  subst hv
  have nx' : upd H dx (.own x) x = none := by rw [upd_ne (Ne.symm ne)]; exact nx
  have s3 : Same H (upd (upd H dx (.own x)) x (.ins C dx [])) := (Same.new ndx).trans (Same.new nx')
  have hp' : PicV (upd (upd H dx (.own x)) x (.ins C dx [])) pv0 l0 l1 pl v := by
    rcases hp with hp | ⟨t, p0, p1, p2, e, S⟩
    · exact .inl hp
    · exact .inr ⟨t, p0, p1, p2, e, S.same s3⟩
  refine ⟨x, ra, rk, pv0, l0, l1, pl, v, rfl, ⟨dx, upd_same⟩, s3 _ _ hh, h1, h60, hrk, hp', ok, fun H' r a m q k' nr na nm np B => ?_⟩
  have t3 := t.same s3
  refine kk [x, r, a, m, q] H' (fun b o e hn => k' b o (s3 b o e) (by simpa using ne_of_none e nx)) (t3.kb k' fun z hz => ?_) (fun z hz => ?_) ⟨⟨[], [], r, a, m, q, rfl, B, ⟨fun _ => ⟨rfl, rfl⟩, (fun e => by cases e)⟩, fun z hz => by cases hz⟩, mk_ok h1 h60 hrk ok, fun e => by cases e⟩
  · rw [List.mem_singleton.mp hz]; exact .inr ⟨_, _, _, upd_same⟩
  · simp only [List.mem_cons, List.not_mem_nil, or_false] at hz
    rcases hz with rfl | rfl | rfl | rfl | rfl
    · exact nx
    · exact s3.free nr
    · exact s3.free na
    · exact s3.free nm
    · exact s3.free np
end
end K07

namespace L3
open PySem PySem.Spec PyProof.Rows L2
/-! ### a def that is called within an except suite -/
structure FnH (P : Program) (w : World) (K : PySem.W.Frag) (mg : Str → Option Value) (base : Heap) (k : Nat) (f : Addr) (fd : FuncData) (ps : List Str) (sp : Sp) : Prop where
  len : ∀ vs H Q E, sp vs H Q E → vs.length = ps.length
  run : ∀ (a : Addr) (A : Around) (outer : List Env) (s : Shared) (H : Hp) (args : Args) (us : List Value) (vs : List V) (Q : VK) (E : XK), Room k A → Env0 P w K mg base A outer s H → BindsTo s fd args (ps.zip us) → Vals vs us → sp vs H Q E →
    codeAny (model P w) (A.mark (some (.ref a))) (.call (.ref f) args) (CR CX0 outer P w H s Q E) s
theorem FnH.mono {P : Program} {w : World} {K : PySem.W.Frag} {mg : Str → Option Value} {base : Heap} {j k : Nat} {f : Addr} {fd : FuncData} {ps : List Str} {sp : Sp} (F : FnH P w K mg base j f fd ps sp) (h : j ≤ k) :
    FnH P w K mg base k f fd ps sp := ⟨F.len, fun a A outer s H args us vs Q E hr => F.run a A outer s H args us vs Q E (hr.mono h)⟩
structure FuH (P : Program) (w : World) (K : PySem.W.Frag) (mg : Str → Option Value) (base : Heap) (k : Nat) (x : Str) (ps : List Str) (sp : Sp) : Prop where
  ex : ∃ f fd, FnH P w K mg base k f fd ps sp ∧ mg x = some (.ref f) ∧ PySem.W.keepIn K (.ref f) = true ∧ Binds K fd ps []
theorem fnh_of {P : Program} {w : World} {K : PySem.W.Frag} {mg : Str → Option Value} {base : Heap} {k : Nat} {f : Addr} {name qual : Str} {params : Arguments} {body : List Stmt} {scope : Scope} {dV kV doc pm cdv ct oc : Value} {an od : Option Addr}
    {osl : Array (Option Value)} {N ps : List Str} {sp : Sp} (lk : K.lookup f = some ⟨oc, od, .func (PySem.W.fnOf name qual params body scope dV kV doc pm an cdv ct), osl⟩) (hcd : PySem.W.codeIn K cdv qual = true) (S : FnScope N ps scope)
    (len : ∀ vs H Q E, sp vs H Q E → vs.length = ps.length)
    (hbody : ∀ (a : Addr) (A : Around) (outer : List Env) (s : Shared) (H : Hp) (vs : List V) (Q : VK) (E : XK), Room k (A.deeper (envOfC qual scope s.heap.objs.size f cdv)) → sp vs H Q E →
      ∃ t, PSs (cxHand (cxOf CX0 P w K mg base N qual scope f cdv A outer s H E) a) body t ∧ t { nx := fun _ H' => Q .non H', rt := Q } (start N vs) H) :
    FnH P w K mg base (k + 1) f (PySem.W.fnOf name qual params body scope dV kV doc pm an cdv ct) ps sp := by
  refine ⟨len, fun a A outer s H args us vs Q E hr e0 hb r hsp => ?_⟩
  have hl := len _ _ _ _ hsp
  have KX : K.In s.heap := e0.mod.kin.keeps fun b o e => (e0.bs b o e).1
  have lim : s.heap.NoLimit := e0.mod.nolimit.keeps fun b o e => (e0.bs b o e).1
  have hkind : ∀ y ∈ ps.zip us, scope.names.lookup y.1 = some .local ∨ (scope.names.lookup y.1 = some .cell ∧ ((cellsFrom (s.heap.objs.size + 1) scope.names []).lookup y.1).isSome = true) := fun ⟨n, v⟩ hy => by
    rcases S.par n (List.of_mem_zip hy).1 with q | q
    · exact .inl q
    · exact .inr ⟨q, PySem.W.cellsFrom_some _ _ _ (.inl q)⟩
  have hdep : (A.mark (some (.ref a))).depth < recursionLimit := hr.depth
  refine codeAny_call_function hdep (KX _ _ lk) rfl S.co S.gen rfl (PySem.W.codeRec_of KX hcd) (hb _ _ _ _ ?_)
  refine wpAny_newFunctionEnv_cells S.kind hkind fun env he s1 x => ?_
  subst he
  refine ⟨lim.keeps x.toInCall.keep, codeAny_func ?_⟩
  obtain ⟨t, ht, hq⟩ := hbody a A outer s H vs Q E (hr.deeper _) hsp
  have I : Inv (cxOf CX0 P w K mg base N qual scope f cdv A outer s H E) [] (start N vs) H s1 := inv_start S hr.hd e0 hl r x
  have I' := hand_in (a := a) I
  refine wpAny_mono (ht [] s1 (start N vs) H _ I' hq) (fun fl s' hs => ?_) fun e s' hs => False.elim hs
  have fin : ∀ {σ' : L2.St} {H' : Hp} {v : V} {u : Value}, Inv (cxHand (cxOf CX0 P w K mg base N qual scope f cdv A outer s H E) a) [] σ' H' s' → RelV v u → Q v H' → CE outer P w H s Q u s' :=
    fun {σ' H' v u} J rv q => ⟨v, H', J.os, J.bare, J.base, J.hok, rv, q⟩
  cases fl with
  | ret u =>
    obtain ⟨v, σ', H', J, rv, q⟩ := hs
    exact fin J rv q
  | next =>
    obtain ⟨σ', H', J, q⟩ := hs
    exact fin (v := V.non) (u := Value.none) J rfl q
  | brk =>
    obtain ⟨_, _, _, q⟩ := hs
    exact False.elim q
  | cont =>
    obtain ⟨_, _, _, q⟩ := hs
    exact False.elim q
section
variable {X : Cx} {j k : Nat} {a : Addr} {x : Str} {ps : List Str} {sp : Sp} {p pos : Pos} {e : Expr} {es : List Expr} {t : TA}
theorem pcH (F : FuH X.prog X.w X.K X.mg X.base j x ps sp) (hr : Room k X.A) (ha : PA (cxHand X a) (e :: es) t) (hj : j ≤ k := by decide) (hg : Gl (cxHand X a) x := by rfl) (hdb : (x == ("__debug__" : Str)) = false := by decide)
    (he : starEach (e :: es) (cxHand X a).env = (false, eval e (cxHand X a).env) :: starEach es (cxHand X a).env := by rfl) (hpl : (backTo pos (starEach es (cxHand X a).env)).any (·.1) = false := by rfl) : PE (cxHand X a) (.Call (.Name x p) (e :: es) [] pos) (tCall sp [] E0 t) := by
  obtain ⟨f, fd, G, hm, hk, hb⟩ := F.ex
  intro pins s σ H Q I h
  refine wpAny_Call_Name_kw (ld_glob (X := cxHand X a) I hg hm ?_ hdb)
  refine PySem.W.callWith_K (h₀ := X.base) I.ok.mod.kin hk (thn (ha pos pins s σ H _ I h) fun us s1 ⟨vs, H1, I1, r, q⟩ => ⟨I1.kIn, ?_⟩) he hpl
  have q : sp (vs ++ []) H1 Q E0 := q
  rw [List.append_nil] at q
  have hl : (us ++ []).length = ps.length := by rw [List.append_nil, ← r.length]; exact G.len _ _ _ _ q
  have hb' := hb s1 us I1.kIn hl
  rw [List.append_nil] at hb'
  have e0 := I1.env0
  refine wpAny_call (codeAny_mono ((G.mono hj).run a X.A X.stack s1 H1 ⟨us, []⟩ us vs Q E0 hr ⟨e0.frames, e0.mod, e0.bs, e0.bsz, e0.funs, e0.frf, e0.hok, e0.bare⟩ hb' r q) fun res s' hq => ?_)
  cases res with
  | error e => exact hq.elim
  | ok fl =>
    cases fl with
    | ret u => exact I1.after hq
    | next => exact hq.elim
    | brk => exact hq.elim
    | cont => exact hq.elim
end
section
variable {P : Program} {w : World} {K : PySem.W.Frag} {mg : Str → Option Value} {base : Heap} {x : Str} {st : Stmt} {N ps : List Str} {k : Nat} {sp : Sp}
theorem Def.fuH (D : Def K mg x st ps) (S : FnScope N ps (defScope st)) (len : ∀ vs H Q E, sp vs H Q E → vs.length = ps.length)
    (hbody : ∀ (a f : Addr) (cdv : Value) (A : Around) (outer : List Env) (s : Shared) (H : Hp) (vs : List V) (Q : VK) (E : XK), Room k (A.deeper (envOfC x (defScope st) s.heap.objs.size f cdv)) → sp vs H Q E →
      ∃ t, PSs (cxHand (cxOf CX0 P w K mg base N x (defScope st) f cdv A outer s H E) a) (defBody st) t ∧ t { nx := fun _ H' => Q .non H', rt := Q } (start N vs) H) : FuH P w K mg base (k + 1) x ps sp := by
  obtain ⟨f, fd, F, hm, hb⟩ := D.ex
  obtain ⟨oc, od, kV, doc, pm, an, cdv, ct, osl, rfl, lk, hcd⟩ := F.ex
  exact ⟨f, _, fnh_of lk hcd S len fun a A outer s H vs Q E hr hsp => hbody a f cdv A outer s H vs Q E hr hsp, hm, F.kp, hb⟩
end
/-! ### makings that may raise -/
theorem KDefD.fux {P : Program} {w : World} {K : PySem.W.Frag} {mg : Str → Option Value} {base : Heap} {C : Addr} {qual : Str} {st : Stmt} {N ps : List Str} {ds : List Value} {k : Nat} {sp : Sp} (D : KDefD K C qual st ps ds) (S : FnScope N ps (defScope st)) (len : ∀ vs H Q E, sp vs H Q E → vs.length = ps.length)
    (hbody : ∀ (f : Addr) (cdv : Value) (A : Around) (outer : List Env) (s : Shared) (H : Hp) (vs : List V) (Q : VK) (E : XK), Room k (A.deeper (envOfC qual (defScope st) s.heap.objs.size f cdv)) → sp vs H Q E →
      ∃ t, PSs (cxOf (CX1 P w) P w K mg base N qual (defScope st) f cdv A outer s H E) (defBody st) t ∧ t { nx := fun _ H' => Q .non H', rt := Q } (start N vs) H) : FuKD P w K mg base (CX1 P w) (k + 1) C ps ds sp := by
  obtain ⟨f, oc, od, dV, kV, doc, pm, an, cdv, ct, osl, lk, hcd, hm, hb⟩ := D.ex
  exact ⟨f, _, fn_of lk hcd S len fun A outer s H vs Q E hr hsp => hbody f cdv A outer s H vs Q E hr hsp, hm, hb⟩
theorem FuKD.k {P : Program} {w : World} {K : PySem.W.Frag} {mg : Str → Option Value} {base : Heap} {CX : CXT} {k : Nat} {C : Addr} {ps : List Str} {sp : Sp} (F : FuKD P w K mg base CX k C ps [] sp) : FuK P w K mg base CX k C ps sp := ⟨F.ex⟩
theorem BDef.fux {P : Program} {w : World} {K : PySem.W.Frag} {mg : Str → Option Value} {base : Heap} {D : Addr} {m qual : Str} {st : Stmt} {N ps : List Str} {k : Nat} {sp : Sp} (B : BDef K D m qual st ps) (S : FnScope N ps (defScope st)) (len : ∀ vs H Q E, sp vs H Q E → vs.length = ps.length)
    (hbody : ∀ (f : Addr) (cdv : Value) (A : Around) (outer : List Env) (s : Shared) (H : Hp) (vs : List V) (Q : VK) (E : XK), Room k (A.deeper (envOfC qual (defScope st) s.heap.objs.size f cdv)) → sp vs H Q E →
      ∃ t, PSs (cxOf (CX1 P w) P w K mg base N qual (defScope st) f cdv A outer s H E) (defBody st) t ∧ t { nx := fun _ H' => Q .non H', rt := Q } (start N vs) H) : FuB P w K mg base (CX1 P w) (k + 1) D m ps sp := by
  obtain ⟨f, oc, od, dV, kV, doc, pm, an, cdv, ct, osl, lk, hcd, hm, hb⟩ := B.ex
  exact ⟨f, _, fn_of lk hcd S len fun A outer s H vs Q E hr hsp => hbody f cdv A outer s H vs Q E hr hsp, hm, hb⟩
/-! ### isinstance of a held exception -/
theorem boot_ve : bootBuiltins "ValueError" = some (.type "ValueError") := by decide +kernel
section
variable {X : Cx} {p pos q : Pos} {T : Str} {e : Expr} {te : TE}
theorem p_isiG {c : Addr} {K : PySem.W.Frag} (hm : X.mg "isinstance" = none) (hmT : X.mg T = some (.ref c)) (he : PE X e te) (hg : Gl X "isinstance" := by rfl) (hgT : Gl X T := by rfl) (hdb : (T == ("__debug__" : Str)) = false := by decide)
    (hst : starEach [e, .Name T q] X.env = (false, eval e X.env) :: starEach [.Name T q] X.env := by rfl) (hst2 : starEach [.Name T q] X.env = (false, eval (.Name T q) X.env) :: starEach [] X.env := by rfl) (hK : X.K = K := by rfl) :
    PE X (.Call (.Name "isinstance" p) [e, .Name T q] [] pos) (tCB (rIsiX K) (tCons te (tCons (tC (.ref c)) tNil))) :=
  hK ▸ pe_callB call_isiX hg hm boot_isinstance (pa_cons he (pa_cons (pe_glob (v := .ref c) hgT hmT rfl hdb) pa_nil hst2) hst) (he := hst) (hpl := by rw [hst2]; rfl)
theorem p_isiB {m : String} {K : PySem.W.Frag} (hm : X.mg "isinstance" = none) (hmT : X.mg T = none) (hv : bootBuiltins T = some (.type m)) (he : PE X e te) (hg : Gl X "isinstance" := by rfl) (hgT : Gl X T := by rfl) (hn : T ≠ "__name__" := by decide) (hdb : (T == ("__debug__" : Str)) = false := by decide)
    (hst : starEach [e, .Name T q] X.env = (false, eval e X.env) :: starEach [.Name T q] X.env := by rfl) (hst2 : starEach [.Name T q] X.env = (false, eval (.Name T q) X.env) :: starEach [] X.env := by rfl) (hK : X.K = K := by rfl) :
    PE X (.Call (.Name "isinstance" p) [e, .Name T q] [] pos) (tCB (rIsiX K) (tCons te (tCons (tC (.ty m)) tNil))) :=
  hK ▸ pe_callB call_isiX hg hm boot_isinstance (pa_cons he (pa_cons (pe_bltn (v := .ty m) hgT hmT hv rfl hn hdb) pa_nil hst2) hst) (he := hst) (hpl := by rw [hst2]; rfl)
end
theorem bodyO {CX : CXT} {P : Program} {w : World} {K : PySem.W.Frag} {mg : Str → Option Value} {base : Heap} {N : List Str} {qual : Str} {scope : Scope} {f : Addr} {cd : Value} {A : Around} {outer : List Env} {s : Shared} {H : Hp} {E : XK} : Body (cxOf CX P w K mg base N qual scope f cd A outer s H E).nox := ⟨rfl, rfl, rfl, fun _ => rfl⟩
def tNeverE : TE := fun _ _ _ => False
theorem pe_never {X : Cx} {e : Expr} : PE X e tNeverE := fun _ _ _ _ _ _ h => h.elim
/-! ### what a value is of, in a grown heap -/
theorem _root_.L2.TyOf.same {K : PySem.W.Frag} {H H' : Hp} {x : V} {t : Value} (h : TyOf K H x t) (s : ∀ a o, H a = some o → H' a = some o) : TyOf K H' x t := by
  cases h with
  | non => exact .non
  | bl b => exact .bl b
  | int i => exact .int i
  | str x => exact .str x
  | flt x => exact .flt x
  | lst e => exact .lst (s _ _ e)
  | frz e => exact .frz (s _ _ e)
  | tup e => exact .tup (s _ _ e)
  | dK e => exact .dK (s _ _ e)
  | dT e => exact .dT (s _ _ e)
  | ins e a b c d f => exact .ins (s _ _ e) a b c d f
/-! T(a), T = tuple, int -/
section
variable {X : Cx} {a : Expr} {ta : TE} {p pos : Pos}
theorem p_tuple {K : PySem.W.Frag} (hm : X.mg "tuple" = none) (ha : PE X a ta) (hg : Gl X "tuple" := by rfl) (hst : starEach [a] X.env = (false, eval a X.env) :: starEach [] X.env := by rfl) (hK : X.K = K := by rfl) : PE X (.Call (.Name "tuple" p) [a] [] pos) (tCB (fun xs H Q => ∃ p ys, xs = [.ref p] ∧ ((SqL K H p ys ∧ ∀ l, H l = none → Q (.ref l) (upd H l (.tup ys))) ∨ (SqT K H p ys ∧ Q (.ref p) H))) (tCons ta tNil)) :=
  hK ▸ pe_callTy call_tuple_of hg hm boot_tuple' (pa_cons ha pa_nil hst) (he := hst)
theorem p_int (hm : X.mg "int" = none) (ha : PE X a ta) (hg : Gl X "int" := by rfl) (hst : starEach [a] X.env = (false, eval a X.env) :: starEach [] X.env := by rfl) : PE X (.Call (.Name "int" p) [a] [] pos) (tCB (fun xs H Q => (∃ i, xs = [.int i] ∧ Q (.int i) H) ∨ ∃ k, xs = [.bl k] ∧ Q (.int (if k then 1 else 0)) H) (tCons ta tNil)) :=
  pe_callTy call_int1 hg hm boot_int' (pa_cons ha pa_nil hst) (he := hst)
end
end L3

namespace K07
open PySem L2 L3
/-! ### what is no row of ranks, no row of lines, no picture -/
def TyV (K : PySem.W.Frag) (H : Hp) (x : V) (T : String) (b : Bool) : Prop := ∃ t, TyOf K H x t ∧ PySem.W.kitOne K t (.type T) = some b
section
variable {K : PySem.W.Frag} {H H' : Hp} {x : V} {b : Bool}
theorem TyV.same {T : String} (h : TyV K H x T b) (s : Same H H') : TyV K H' x T b := by
  obtain ⟨t, a, e⟩ := h
  exact ⟨t, a.same fun a o e => s a o e, e⟩
theorem WholeV.same (h : WholeV K H x b) (s : Same H H') : WholeV K H' x b := by
  obtain ⟨t, b1, b2, ty, r⟩ := h
  exact ⟨t, b1, b2, ty.same fun a o e => s a o e, r⟩
def RkJ (K : PySem.W.Frag) (H : Hp) (x : V) (b : Bool) : Prop := (∃ i : Int, x = .int i ∧ b = (decide (0 ≤ i) && decide (i ≤ 10 ^ (60 : Int).toNat - 1))) ∨ (WholeV K H x false ∧ b = false)
theorem RkJ.same (h : RkJ K H x b) (s : Same H H') : RkJ K H' x b := h.imp id fun h => ⟨h.1.same s, h.2⟩
def LnJ (K : PySem.W.Frag) (n : Nat) (H : Hp) (x : V) (b : Bool) : Prop := (∃ i : Int, x = .int i ∧ b = (decide (0 ≤ i) && decide (i ≤ (n : Int) - 1))) ∨ (WholeV K H x false ∧ b = false)
theorem LnJ.same {n : Nat} (h : LnJ K n H x b) (s : Same H H') : LnJ K n H' x b := h.imp id fun h => ⟨h.1.same s, h.2⟩
def NoRk (K : PySem.W.Frag) (H : Hp) (x : V) : Prop := TyV K H x "list" false ∨ ∃ (a : Addr) (xs : List V), x = .ref a ∧ H a = some (.lst xs) ∧ xs.length ≤ 100 ∧ (xs.length = 0 ∨ 60 < xs.length ∨ ∃ jb : Nat → Bool, (∀ i y, xs[i]? = some y → RkJ K H y (jb i)) ∧ ∃ i, i < xs.length ∧ jb i = false)
theorem NoRk.same (h : NoRk K H x) (s : Same H H') : NoRk K H' x := by
  rcases h with h | ⟨a, xs, e, e1, l, h⟩
  · exact .inl (h.same s)
  · exact .inr ⟨a, xs, e, s _ _ e1, l, h.imp id fun h => h.imp id fun ⟨jb, j, r⟩ => ⟨jb, fun i y hy => (j i y hy).same s, r⟩⟩
def NoLn (K : PySem.W.Frag) (n : Nat) (H : Hp) (x : V) : Prop := TyV K H x "list" false ∨ ∃ (a : Addr) (xs : List V) (jb : Nat → Bool), x = .ref a ∧ H a = some (.lst xs) ∧ xs.length ≤ 100 ∧ (∀ i y, xs[i]? = some y → LnJ K n H y (jb i)) ∧ ∃ i, i < xs.length ∧ jb i = false
theorem NoLn.same {n : Nat} (h : NoLn K n H x) (s : Same H H') : NoLn K n H' x := by
  rcases h with h | ⟨a, xs, jb, e, e1, l, j, r⟩
  · exact .inl (h.same s)
  · exact .inr ⟨a, xs, jb, e, s _ _ e1, l, fun i y hy => (j i y hy).same s, r⟩
/-- a row of lines, such that f -/
def RowF (n : Nat) (f : List Int → Prop) (H : Hp) (x : V) : Prop := ∃ (a : Addr) (ls : List Int), x = .ref a ∧ H a = some (.lst (ls.map V.int)) ∧ ls.length ≤ 100 ∧ (∀ y ∈ ls, 0 ≤ y ∧ y < n) ∧ f ls
theorem RowF.same {n : Nat} {f : List Int → Prop} (h : RowF n f H x) (s : Same H H') : RowF n f H' x := by
  obtain ⟨a, ls, e, e1, r⟩ := h
  exact ⟨a, ls, e, s _ _ e1, r⟩
def PlUp (rk pl : List Int) : Prop := Up (pl.reverse.map (rkAt rk))
def NoRow (K : PySem.W.Frag) (n : Nat) (f : List Int → Prop) (H : Hp) (x : V) : Prop := NoLn K n H x ∨ RowF n (fun ls => ¬ f ls) H x
theorem NoRow.same {n : Nat} {f : List Int → Prop} (h : NoRow K n f H x) (s : Same H H') : NoRow K n f H' x := h.imp (fun h => h.same s) fun h => h.same s
def NoBr (K : PySem.W.Frag) (H : Hp) (v : V) : Prop := (∃ i : Int, v = .int i ∧ ¬ (0 ≤ i ∧ i ≤ M60)) ∨ (WholeV K H v false ∧ v ≠ .non)
theorem NoBr.same (h : NoBr K H x) (s : Same H H') : NoBr K H' x := h.imp id fun h => ⟨h.1.same s, h.2⟩
def NoPic (K : PySem.W.Frag) (rk : List Int) (H : Hp) (x : V) : Prop := TyV K H x "tuple" false ∨ (∃ (t : Addr) (xs : List V), x = .ref t ∧ H t = some (.tup xs) ∧ xs.length ≠ 4) ∨
  ∃ (t : Addr) (y0 y1 y2 v : V), x = .ref t ∧ H t = some (.tup [y0, y1, y2, v]) ∧ (NoRow K rk.length Up H y0 ∨ (RowF rk.length Up H y0 ∧ NoRow K rk.length Up H y1) ∨ (RowF rk.length Up H y0 ∧ RowF rk.length Up H y1 ∧ NoRow K rk.length (PlUp rk) H y2) ∨
    (RowF rk.length Up H y0 ∧ RowF rk.length Up H y1 ∧ RowF rk.length (PlUp rk) H y2 ∧ NoBr K H v))
theorem NoPic.same {rk : List Int} (h : NoPic K rk H x) (s : Same H H') : NoPic K rk H' x := by
  rcases h with h | ⟨t, xs, e, e1, r⟩ | ⟨t, y0, y1, y2, v, e, e1, h⟩
  · exact .inl (h.same s)
  · exact .inr (.inl ⟨t, xs, e, s _ _ e1, r⟩)
  · refine .inr (.inr ⟨t, y0, y1, y2, v, e, s _ _ e1, ?_⟩)
    rcases h with h | ⟨a, h⟩ | ⟨a, b, h⟩ | ⟨a, b, c, h⟩
    · exact .inl (h.same s)
    · exact .inr (.inl ⟨a.same s, h.same s⟩)
    · exact .inr (.inr (.inl ⟨a.same s, b.same s, h.same s⟩))
    · exact .inr (.inr (.inr ⟨a.same s, b.same s, c.same s, h.same s⟩))
end
theorem all_false {n i : Nat} {jb : Nat → Bool} (hi : i < n) (hf : jb i = false) : ((List.range n).map jb).all id = false := by
  rw [Bool.eq_false_iff]
  intro h
  rw [List.all_eq_true] at h
  have := h (jb i) (List.mem_map.mpr ⟨i, List.mem_range.mpr hi, rfl⟩)
  rw [hf] at this
  cases this
section
variable {P : Program} {w : World} {K : PySem.W.Frag} {mg : Str → Option Value} {base : Heap}
def spRankG (K : PySem.W.Frag) : Sp := fun vs H Q _ => ∃ x b, vs = [x] ∧ RkJ K H x b ∧ Q (.bl b) H
theorem f_rankG (D : Def K mg "is_rank" (top 17) ["thing"]) (GU : Fu P w K mg base CX0 2 "is_up_to" ["most", "thing"] (spUpTo K)) : Fu P w K mg base CX0 3 "is_rank" ["thing"] (spRankG K) := by
  refine D.fu sc14 (fun vs H Q E h => ?_) (fun f cdv A outer s H vs Q E hr h => ?_)
  · obtain ⟨x, b, rfl, _⟩ := h
    rfl
  · obtain ⟨x, b, rfl, j, q⟩ := h
    refine ⟨_, pss_one (ps_ret (pc GU hr pass0 (pa_cons (pe_op op_sub (pe_op op_pow pe_int pe_int) pe_int) (pa_cons (pv 0) pa_nil)))), ?_⟩
    refine ⟨_, _, rfl, rfl, cpow _ _ (by decide +kernel), _, _, rfl, rfl, _, rfl, _, _, rfl, ?_⟩
    rcases j with ⟨i, rfl, rfl⟩ | ⟨wv, rfl⟩
    · exact .inl ⟨i, rfl, q⟩
    · exact .inr ⟨wv, q⟩
/-! are_ranks: no -/
def spNoRanks (K : PySem.W.Frag) : Sp := fun vs H Q _ => ∃ x, vs = [x] ∧ NoRk K H x ∧ ∀ H', Same H H' → Q (.bl false) H'
theorem f_are_ranksF (D : Def K mg "are_ranks" (top 20) ["thing"]) (T : Txt K mg) (GR : Fu P w K mg base CX0 3 "is_rank" ["thing"] (spRankG K)) {u : Value} (hm : mg "MOST_LINES" = some u) (hu : RelV (.int 60) u) : Fu P w K mg base CX0 4 "are_ranks" ["thing"] (spNoRanks K) := by
  refine D.fu sc17 (fun vs H Q E h => ?_) (fun f cdv A outer s H vs Q E hr h => ?_)
  · obtain ⟨x, rfl, _⟩ := h
    rfl
  · obtain ⟨x, rfl, hn, kk⟩ := h
    refine' ⟨_, pss_cons (ps_if (pt_not (pt_val (p_isi T.isi T.list boot_list' (pv 0)))) (pss_one (ps_ret pe_bl)) pss_nil)
      (pss_one (ps_ret (pe_and (pe_chain op_le op_le pe_int (p_len T.len (pv 0)) (pe_glob rfl hm hu)) (pe_one (p_all (K := K) T.all rfl (pa_cons (pe_comp (ts := ["part"]) (fvs := []) (js := []) (cl := []) rfl ?S (pi_list (pv 0)) (fun _ _ _ _ => pg_name (i := 0) (show List.Nodup (["part"] : List Str) from by decide +kernel) rfl (Or.inl rfl) (Or.inr rfl)) (fun _ _ _ _ => pif_nil)
        (fun _ _ _ _ => pc GR hr pass0 (pa_cons (pv 0) pa_nil))) pa_nil)))))), ?main⟩
    case S => exact site0 rfl rfl (by decide +kernel) (by decide +kernel) rfl
    case main =>
      rcases hn with ⟨t, ty, kt⟩ | ⟨a, xs, rfl, hq, l100, hc⟩
      · exact ⟨_, rfl, _, "list", t, false, rfl, ty, kt, _, rfl, iteT (kk _ (Same.refl _))⟩
      · refine ⟨_, rfl, _, "list", _, true, rfl, .lst hq, kit_list, _, rfl, iteF ?_⟩
        refine ⟨_, rfl, a, _, rfl, .inl (SqL.of hq), _, _, rfl, rfl, _, rfl, ?_⟩
        by_cases h1 : 1 ≤ xs.length
        · rw [decide_eq_true (by omega : (1 : Int) ≤ (xs.length : Int))]
          refine iteT ⟨_, _, rfl, rfl, _, rfl, ?_⟩
          by_cases h60 : xs.length ≤ 60
          · rw [decide_eq_true (by omega : (xs.length : Int) ≤ 60)]
            refine iteT ?_
            rcases hc with hc | hc | ⟨jb, hj, i0, hi0, hf⟩
            · omega
            · omega
            refine ⟨_, rfl, a, rfl, ⟨_, SqL.of hq⟩, [], rfl, fun d nd => ?_⟩
            refine comp_it xs.length (by rw [sizeLine_eq]; omega) (fun i ys H2 => ys = ((List.range i).map jb).map V.bl ∧ Same H H2 ∧ H2 d = some (.lst ys)) ⟨rfl, Same.new nd, upd_same⟩ (fun i ys H2 ⟨e, _, e2⟩ => ⟨e2, by rw [e]; simp⟩) ?_ ?_
            · rintro i ys H2 N hi ⟨rfl, sm, hD⟩ rest
              refine ⟨⟨_, xs[i], sm.seq (SqL.of hq), List.getElem?_eq_getElem hi⟩, ?_⟩
              rintro x H3 ⟨rfl, hx⟩
              have hx' := hx _ (sm.seq (SqL.of hq))
              rw [List.getElem?_eq_getElem hi] at hx'
              cases hx'
              refine ⟨rfl, rfl, iteT ⟨_, rfl, _, _, rfl, (hj i _ (List.getElem?_eq_getElem hi)).same sm, hD, rest _ _ ⟨by rw [List.range_succ]; simp, fun b o e => ?_, upd_same⟩⟩⟩
              rw [upd_ne (ne_of_none e nd)]
              exact sm b o e
            · rintro ys H2 ⟨rfl, sm, hD⟩
              refine ⟨⟨_, sm.seq (SqL.of hq), Nat.le_refl _⟩, d, (List.range xs.length).map jb, rfl, SqL.of hD, ?_⟩
              rw [all_false hi0 hf]
              exact kk _ sm
          · rw [decide_eq_false (by omega : ¬ (xs.length : Int) ≤ 60)]
            exact iteF (kk _ (Same.refl _))
        · rw [decide_eq_false (by omega : ¬ (1 : Int) ≤ (xs.length : Int))]
          exact iteF ⟨_, rfl, iteF (kk _ (Same.refl _))⟩
/-! are_lines: no -/
def spNoLines (K : PySem.W.Frag) : Sp := fun vs H Q _ => ∃ (a : Addr) (x : V) (rk : List Int), vs = [.ref a, x] ∧ H a = some (.lst (rk.map V.int)) ∧ NoLn K rk.length H x ∧ ∀ H', Same H H' → Q (.bl false) H'
theorem f_are_linesF (D : Def K mg "are_lines" (top 21) ["ranks", "thing"]) (T : Txt K mg) (GL : Fu P w K mg base CX0 3 "is_line" ["ranks", "thing"] (spIsLine K)) : Fu P w K mg base CX0 4 "are_lines" ["ranks", "thing"] (spNoLines K) := by
  refine D.fu sc18 (fun vs H Q E h => ?_) (fun f cdv A outer s H vs Q E hr h => ?_)
  · obtain ⟨a, b, rk, rfl, _⟩ := h
    rfl
  · obtain ⟨a, x, rk, rfl, hq, hn, kk⟩ := h
    refine' ⟨_, pss_one (ps_ret (pe_and (p_isi T.isi T.list boot_list' (pv 1)) (pe_one (p_all (K := K) T.all rfl (pa_cons (pe_comp (ts := ["part"]) (fvs := ["ranks"]) (js := [0]) (cl := [("ranks", s.heap.objs.size + 1)]) rfl ?S (pi_list (pv 1)) (fun _ _ _ _ => pg_name (i := 0) (show List.Nodup (["part", "ranks"] : List Str) from by decide +kernel) rfl (Or.inl rfl) (Or.inr rfl)) (fun _ _ _ _ => pif_nil)
        (fun _ _ _ _ => pc GL hr pass0 (pa_cons (pv 1) (pa_cons (pv 0) pa_nil)))) pa_nil))))), ?main⟩
    case S => exact site1 rfl rfl (by decide +kernel) (by decide +kernel) rfl (.inl rfl) rfl (.inl rfl) rfl
    case main =>
      rcases hn with ⟨t, ty, kt⟩ | ⟨b, xs, jb, rfl, hl, l1, hj, i0, hi0, hf⟩
      · exact ⟨_, rfl, _, "list", t, false, rfl, ty, kt, _, rfl, iteF (kk _ (Same.refl _))⟩
      refine ⟨_, rfl, _, "list", _, true, rfl, .lst hl, kit_list, _, rfl, iteT ?_⟩
      refine ⟨_, rfl, b, rfl, ⟨_, SqL.of hl⟩, [.ref a], rfl, fun d nd => ?_⟩
      refine comp_it xs.length (by rw [sizeLine_eq]; omega) (fun i ys H2 => ys = ((List.range i).map jb).map V.bl ∧ Same H H2 ∧ H2 d = some (.lst ys)) ⟨rfl, Same.new nd, upd_same⟩ (fun i ys H2 ⟨e, _, e2⟩ => ⟨e2, by rw [e]; simp⟩) ?_ ?_
      · rintro i ys H2 N hi ⟨rfl, sm, hD⟩ rest
        refine ⟨⟨_, xs[i], sm.seq (SqL.of hl), List.getElem?_eq_getElem hi⟩, ?_⟩
        rintro x H3 ⟨rfl, hx⟩
        have hx' := hx _ (sm.seq (SqL.of hl))
        rw [List.getElem?_eq_getElem hi] at hx'
        cases hx'
        refine ⟨rfl, rfl, iteT ⟨_, rfl, _, rfl, a, rk, _, rfl, sm.seq (SqL.of hq), ?_⟩⟩
        rcases (hj i _ (List.getElem?_eq_getElem hi)).same sm with ⟨z, ez, eb⟩ | ⟨wv, eb⟩
        · refine .inl ⟨z, ez, ?_⟩
          rw [← eb]
          exact ⟨hD, rest _ _ ⟨by rw [List.range_succ]; simp, fun b o e => by rw [upd_ne (ne_of_none e nd)]; exact sm b o e, upd_same⟩⟩
        · refine .inr ⟨wv, ?_⟩
          rw [← eb]
          exact ⟨hD, rest _ _ ⟨by rw [List.range_succ]; simp, fun b o e => by rw [upd_ne (ne_of_none e nd)]; exact sm b o e, upd_same⟩⟩
      · rintro ys H2 ⟨rfl, sm, hD⟩
        refine ⟨⟨_, sm.seq (SqL.of hl), Nat.le_refl _⟩, d, (List.range xs.length).map jb, rfl, SqL.of hD, ?_⟩
        rw [all_false hi0 hf]
        exact kk _ sm
/-! rises: no -/
theorem not_up {ns : List Int} (h : ¬ Up ns) : ∃ i, i < ns.length - 1 ∧ decide (ns.getD i 0 < ns.getD (i + 1) 0) = false := by
  unfold Up at h
  rw [Classical.not_forall] at h
  obtain ⟨i, h⟩ := h
  rw [Classical.not_imp] at h
  exact ⟨i, by omega, decide_eq_false h.2⟩
def spRisesF (K : PySem.W.Frag) : Sp := fun vs H Q _ => ∃ (a : Addr) (ns : List Int), vs = [.ref a] ∧ H a = some (.lst (ns.map V.int)) ∧ ns.length ≤ 100 ∧ ¬ Up ns ∧ ∀ H', Same H H' → Q (.bl false) H'
theorem f_risesF (D : Def K mg "rises" (top 22) ["numbers"]) (T : Txt K mg) : Fu P w K mg base CX0 1 "rises" ["numbers"] (spRisesF K) := by
  refine D.fu sc19 (fun vs H Q E h => ?_) (fun f cdv A outer s H vs Q E hr h => ?_)
  · obtain ⟨a, ns, rfl, _⟩ := h
    rfl
  · obtain ⟨a, ns, rfl, hq, l1, up, kk⟩ := h
    refine' ⟨_, pss_one (ps_ret (p_all (K := K) T.all rfl (pa_cons (pe_comp (ts := ["one", "other"]) (fvs := []) (js := []) (cl := []) rfl ?S (pi_zip T.zip (pa_cons (pv 0) (pa_cons (pe_slice sl_list (pv 0) (po_some pe_int) po_none) pa_nil)))
        (fun _ _ _ _ => pg_tupK (K := K) (n := 2) rfl (pgs_cons (pg_name (i := 0) (show List.Nodup (["one", "other"] : List Str) from by decide +kernel) rfl (Or.inl rfl) (Or.inr rfl)) (pgs_cons (pg_name (i := 1) (show List.Nodup (["one", "other"] : List Str) from by decide +kernel) rfl (Or.inl rfl) (Or.inr rfl)) pgs_nil))) (fun _ _ _ _ => pif_nil)
        (fun _ _ _ _ => pe_cmpR op_lt (pv 0) (pv 1) (nomark _))) pa_nil))), ?main⟩
    case S => exact site0 rfl rfl (by decide +kernel) (by decide +kernel) rfl
    case main =>
      refine ⟨_, rfl, _, rfl, _, rfl, a, _, rfl, SqL.of hq, fun b nb => ?_⟩
      rw [cut_dropI ns (by decide : (0 : Int) ≤ 1)]
      have s1 := Same.new (o := .lst ((ns.drop (1 : Int).toNat).map V.int)) nb
      refine ⟨a, b, rfl, ⟨_, s1.seq (SqL.of hq)⟩, ⟨_, SqL.new⟩, [], rfl, fun d nd => ?_⟩
      have hb : upd H b (.lst ((ns.drop 1).map V.int)) b = some (.lst ((ns.drop 1).map V.int)) := upd_same
      have ha : upd H b (.lst ((ns.drop 1).map V.int)) a = some (.lst (ns.map V.int)) := s1 _ _ hq
      refine comp_it (ns.length - 1) (by rw [sizeLine_eq]; omega) (fun i ys H2 => ys = ((List.range i).map fun j => decide (ns.getD j 0 < ns.getD (j + 1) 0)).map V.bl ∧ Same (upd H b (.lst ((ns.drop 1).map V.int))) H2 ∧ H2 d = some (.lst ys)) ⟨rfl, Same.new nd, upd_same⟩ (fun i ys H2 ⟨e, _, e2⟩ => ⟨e2, by rw [e]; simp⟩) ?_ ?_
      · rintro i ys H2 N hi ⟨rfl, sm, hD⟩ rest
        have i1 : i < ns.length := by omega
        have i2 : i + 1 < ns.length := by omega
        have g1 : (ns.map V.int)[i]? = some (.int (ns.getD i 0)) := by simp [i1]
        have g2 : ((ns.drop 1).map V.int)[i]? = some (.int (ns.getD (i + 1) 0)) := by
          rw [List.getElem?_map, List.getElem?_drop, Nat.add_comm 1 i, List.getElem?_eq_getElem i2]
          simp [i2]
        refine ⟨⟨_, _, _, _, sm.seq (SqL.of ha), g1, sm.seq (SqL.of hb), g2⟩, ?_⟩
        rintro x H3 ⟨t, v, v', nt, rfl, rfl, hv, hv'⟩
        have e1 := hv _ (sm.seq (SqL.of ha))
        have e2 := hv' _ (sm.seq (SqL.of hb))
        rw [g1] at e1
        rw [g2] at e2
        cases e1
        cases e2
        refine ⟨t, _, rfl, SqT.of upd_same, rfl, _, _, rfl, _, _, rfl, rfl, rfl, rfl, iteT ⟨_, rfl, _, rfl, _, _, rfl, rfl, ?_⟩⟩
        have nt' : d ≠ t := ne_of_none hD nt
        refine ⟨by rw [upd_ne nt']; exact hD, rest _ _ ⟨by rw [List.range_succ, List.map_append, List.map_append]; rfl, fun c o e => ?_, upd_same⟩⟩
        rw [upd_ne (ne_of_none e nd), upd_ne (ne_of_none (sm _ _ e) nt)]
        exact sm c o e
      · rintro ys H2 ⟨rfl, sm, hD⟩
        obtain ⟨i0, hi0, hf⟩ := not_up up
        refine ⟨⟨_, _, sm.seq (SqL.of ha), sm.seq (SqL.of hb), .inr (by rw [List.length_map, List.length_drop]; exact Nat.le_refl _)⟩, d, (List.range (ns.length - 1)).map fun j => decide (ns.getD j 0 < ns.getD (j + 1) 0), rfl, SqL.of hD, ?_⟩
        rw [all_false (jb := fun j => decide (ns.getD j 0 < ns.getD (j + 1) 0)) hi0 hf]
        exact kk _ (s1.trans sm)
/-! are_rising_lines: no -/
def spNoRising (K : PySem.W.Frag) : Sp := fun vs H Q _ => ∃ (a : Addr) (x : V) (rk : List Int), vs = [.ref a, x] ∧ H a = some (.lst (rk.map V.int)) ∧ NoRow K rk.length Up H x ∧ ∀ H', Same H H' → Q (.bl false) H'
theorem f_risingF (D : Def K mg "are_rising_lines" (top 23) ["ranks", "thing"]) (GN : Fu P w K mg base CX0 4 "are_lines" ["ranks", "thing"] (spNoLines K)) (GL : Fu P w K mg base CX0 4 "are_lines" ["ranks", "thing"] spAreLines) (GR : Fu P w K mg base CX0 1 "rises" ["numbers"] (spRisesF K)) : Fu P w K mg base CX0 5 "are_rising_lines" ["ranks", "thing"] (spNoRising K) := by
  refine D.fu sc20 (fun vs H Q E h => ?_) (fun f cdv A outer s H vs Q E hr h => ?_)
  · obtain ⟨a, x, rk, rfl, _⟩ := h
    rfl
  · obtain ⟨a, x, rk, rfl, hq, hn, kk⟩ := h
    rcases hn with hn | ⟨b, ls, rfl, hl, l1, hin, up⟩
    · refine ⟨_, pss_one (ps_ret (pe_and (pc GN hr pass0 (pa_cons (pv 0) (pa_cons (pv 1) pa_nil))) (pe_one (pc GR hr pass0 (pa_cons (pv 1) pa_nil))))), ?_⟩
      exact ⟨_, rfl, _, rfl, a, x, rk, rfl, hq, hn, fun H1 s1 => ⟨false, rfl, iteF (kk _ s1)⟩⟩
    · refine ⟨_, pss_one (ps_ret (pe_and (pc GL hr pass0 (pa_cons (pv 0) (pa_cons (pv 1) pa_nil))) (pe_one (pc GR hr pass0 (pa_cons (pv 1) pa_nil))))), ?_⟩
      exact ⟨_, rfl, _, rfl, a, b, rk, ls, rfl, hq, hl, l1, hin, fun H1 s1 => ⟨true, rfl, iteT ⟨_, rfl, b, ls, rfl, s1 _ _ hl, l1, up, fun H2 s2 => kk _ (s1.trans s2)⟩⟩⟩
/-! is_pile: no -/
def spNoPile (K : PySem.W.Frag) : Sp := fun vs H Q _ => ∃ (a : Addr) (x : V) (rk : List Int), vs = [.ref a, x] ∧ H a = some (.lst (rk.map V.int)) ∧ NoRow K rk.length (PlUp rk) H x ∧ ∀ H', Same H H' → Q (.bl false) H'
theorem f_is_pileF (D : Def K mg "is_pile" (top 24) ["ranks", "thing"]) (T : Txt K mg) (GN : Fu P w K mg base CX0 4 "are_lines" ["ranks", "thing"] (spNoLines K)) (GL : Fu P w K mg base CX0 4 "are_lines" ["ranks", "thing"] spAreLines) (GR : Fu P w K mg base CX0 1 "rises" ["numbers"] (spRisesF K)) : Fu P w K mg base CX0 5 "is_pile" ["ranks", "thing"] (spNoPile K) := by
  refine D.fu sc21 (fun vs H Q E h => ?_) (fun f cdv A outer s H vs Q E hr h => ?_)
  · obtain ⟨a, x, rk, rfl, _⟩ := h
    rfl
  · obtain ⟨a, x, rk, rfl, hq, hn, kk⟩ := h
    rcases hn with hn | ⟨b, pl, rfl, hl, l1, hin, up⟩
    · refine ⟨_, pss_one (ps_ret (pe_and (pc GN hr pass0 (pa_cons (pv 0) (pa_cons (pv 1) pa_nil))) (pe_one (pe_never)))), ?_⟩
      exact ⟨_, rfl, _, rfl, a, x, rk, rfl, hq, hn, fun H1 s1 => ⟨false, rfl, iteF (kk _ s1)⟩⟩
    refine' ⟨_, pss_one (ps_ret (pe_and (pc GL hr pass0 (pa_cons (pv 0) (pa_cons (pv 1) pa_nil))) (pe_one (pc GR hr pass0 (pa_cons (pe_comp (ts := ["line"]) (fvs := ["ranks"]) (js := [0]) (cl := [("ranks", s.heap.objs.size + 1)]) rfl ?S (pi_rev T.rev (pa_cons (pv 1) pa_nil)) (fun _ _ _ _ => pg_name (i := 0) (show List.Nodup (["line", "ranks"] : List Str) from by decide +kernel) rfl (Or.inl rfl) (Or.inr rfl)) (fun _ _ _ _ => pif_nil)
        (fun _ _ _ _ => pe_ixK (K := K) (pv 1) (pv 0) (fun _ _ => rfl))) pa_nil))))), ?main⟩
    case S => exact site1 rfl rfl (by decide +kernel) (by decide +kernel) rfl (.inl rfl) rfl (.inl rfl) rfl
    case main =>
      refine ⟨_, rfl, _, rfl, a, b, rk, pl, rfl, hq, hl, l1, hin, fun H1 s1 => ⟨true, rfl, iteT ?_⟩⟩
      have hq1 := s1 _ _ hq
      have hl1 := s1 _ _ hl
      refine ⟨_, rfl, b, _, rfl, SqL.of hl1, [.ref a], rfl, fun d nd => ?_⟩
      rw [List.length_map]
      refine comp_it pl.length (by rw [sizeLine_eq]; omega) (fun i ys H2 => ys = (pl.reverse.take i).map (fun l => V.int (rkAt rk l)) ∧ i ≤ pl.length ∧ Same H1 H2 ∧ H2 d = some (.lst ys)) ⟨rfl, Nat.zero_le _, Same.new nd, upd_same⟩ (fun i ys H2 ⟨e, hi, _, e2⟩ => ⟨e2, by rw [e]; simp; omega⟩) ?_ ?_
      · rintro i ys H2 N hi ⟨rfl, _, sm, hD⟩ rest
        have hj : pl.length - 1 - i < pl.length := by omega
        have g1 : (pl.map V.int)[pl.length - 1 - i]? = some (.int pl[pl.length - 1 - i]) := by simp [hj]
        refine ⟨⟨_, _, sm.seq (SqL.of hl1), by rw [List.length_map], hi, g1⟩, ?_⟩
        rintro x H3 ⟨rfl, hx⟩
        have hx' := hx _ (sm.seq (SqL.of hl1))
        rw [g1] at hx'
        cases hx'
        have hb := hin _ (List.getElem_mem hj)
        refine ⟨rfl, rfl, iteT ⟨_, rfl, _, rfl, a, _, _, _, rfl, rfl, sm.seq (SqL.of hq1), atI_int hb.1 hb.2, ?_⟩⟩
        refine ⟨hD, rest _ _ ⟨?_, hi, fun b o e => ?_, upd_same⟩⟩
        · have hr' : i < pl.reverse.length := by simpa using hi
          rw [List.take_succ_eq_append_getElem hr', List.map_append]
          simp [rkAt]
        · rw [upd_ne (ne_of_none e nd)]
          exact sm b o e
      · rintro ys H2 ⟨rfl, _, sm, hD⟩
        refine ⟨Nat.le_refl _, d, pl.reverse.map (rkAt rk), rfl, ?_, by simp; omega, up, fun H3 s3 => kk _ ((s1.trans sm).trans s3)⟩
        rw [hD, List.take_of_length_le (by simp)]
        simp
/-! is_bar: no -/
def spNoBar (K : PySem.W.Frag) : Sp := fun vs H Q _ => ∃ v : V, vs = [v] ∧ NoBr K H v ∧ Q (.bl false) H
theorem f_barF (D : Def K mg "is_bar" (top 18) ["thing"]) (GU : Fu P w K mg base CX0 2 "is_up_to" ["most", "thing"] (spUpTo K)) : Fu P w K mg base CX0 3 "is_bar" ["thing"] (spNoBar K) := by
  refine D.fu sc15 (fun vs H Q E h => ?_) (fun f cdv A outer s H vs Q E hr h => ?_)
  · obtain ⟨v, rfl, _⟩ := h
    rfl
  · obtain ⟨v, rfl, hv, q⟩ := h
    refine ⟨_, pss_one (ps_ret (pe_or (pe_cmp (pc_isN (pv 0))) (pe_one (pc GU hr pass0 (pa_cons (pe_op op_pow pe_int pe_int) (pa_cons (pv 0) pa_nil)))))), ?_⟩
    rcases hv with ⟨z, rfl, hz⟩ | ⟨wv, hne⟩
    · refine ⟨_, rfl, false, rfl, iteF ⟨_, _, rfl, rfl, cpow _ _ (by decide +kernel), _, rfl, _, _, rfl, .inl ⟨z, rfl, ?_⟩⟩⟩
      have e : (decide ((0 : Int) ≤ z) && decide (z ≤ 10 ^ (60 : Int).toNat)) = false := by
        rw [Bool.eq_false_iff]
        intro y
        simp only [Bool.and_eq_true, decide_eq_true_eq] at y
        exact hz y
      rw [e]
      exact q
    · refine ⟨_, rfl, false, ?_, iteF ⟨_, _, rfl, rfl, cpow _ _ (by decide +kernel), _, rfl, _, _, rfl, .inr ⟨wv, q⟩⟩⟩
      cases v <;> first | rfl | exact absurd rfl hne
end
end K07

namespace K07
open PySem L2 L3
section
variable {P : Program} {w : World} {K : PySem.W.Frag} {mg : Str → Option Value} {base : Heap}
/-! is_picture: no -/
def spNoPicture (K : PySem.W.Frag) : Sp := fun vs H Q _ => ∃ (a : Addr) (x : V) (rk : List Int), vs = [.ref a, x] ∧ H a = some (.lst (rk.map V.int)) ∧ NoPic K rk H x ∧ ∀ H', Same H H' → Q (.bl false) H'
theorem f_is_pictureF (D : Def K mg "is_picture" (top 25) ["ranks", "thing"]) (T : Txt K mg) (GL : Fu P w K mg base CX0 5 "are_rising_lines" ["ranks", "thing"] spRisingLines) (GP : Fu P w K mg base CX0 5 "is_pile" ["ranks", "thing"] spIsPile)
    (NL : Fu P w K mg base CX0 5 "are_rising_lines" ["ranks", "thing"] (spNoRising K)) (NP : Fu P w K mg base CX0 5 "is_pile" ["ranks", "thing"] (spNoPile K)) (NB : Fu P w K mg base CX0 3 "is_bar" ["thing"] (spNoBar K)) : Fu P w K mg base CX0 6 "is_picture" ["ranks", "thing"] (spNoPicture K) := by
  refine D.fu sc22 (fun vs H Q E h => ?_) (fun f cdv A outer s H vs Q E hr h => ?_)
  · obtain ⟨a, x, rk, rfl, _⟩ := h
    rfl
  · obtain ⟨a, x, rk, rfl, hq, hn, kk⟩ := h
    rcases hn with ⟨t, ty, kt⟩ | ⟨t, xs, rfl, ht, hne⟩ | ⟨t, y0, y1, y2, v, rfl, ht, hn⟩
    · refine ⟨_, pss_cons (ps_if (pw_or (pt_not (pt_val (p_isi T.isi T.tuple boot_tuple' (pv 1)))) (pw_or1 (pt_cmpR op_ne (p_len T.len (pv 1)) pe_int (nomark _)))).pt (pss_one (ps_ret pe_bl)) pss_nil) pss_never, ?_⟩
      exact ⟨_, rfl, _, "tuple", t, false, rfl, ty, kt, _, rfl, iteT (kk _ (Same.refl _))⟩
    · refine ⟨_, pss_cons (ps_if (pw_or (pt_not (pt_val (p_isi T.isi T.tuple boot_tuple' (pv 1)))) (pw_or1 (pt_cmpR op_ne (p_len T.len (pv 1)) pe_int (nomark _)))).pt (pss_one (ps_ret pe_bl)) pss_nil) pss_never, ?_⟩
      exact ⟨_, rfl, _, "tuple", _, true, rfl, .tup ht, kit_tuple, _, rfl, iteF ⟨_, rfl, t, _, rfl, .inr (SqT.of ht), rfl, _, rfl, iteTe (by simp; omega) (kk _ (Same.refl _))⟩⟩
    · rcases hn with hn | ⟨⟨p0, l0, rfl, h0, n0, i0, u0⟩, hn⟩ | ⟨⟨p0, l0, rfl, h0, n0, i0, u0⟩, ⟨p1, l1, rfl, h1, n1, i1, u1⟩, hn⟩ | ⟨⟨p0, l0, rfl, h0, n0, i0, u0⟩, ⟨p1, l1, rfl, h1, n1, i1, u1⟩, ⟨p2, pl, rfl, h2, n2, i2, u2⟩, hn⟩
      · refine ⟨_, pss_cons (ps_if (pw_or (pt_not (pt_val (p_isi T.isi T.tuple boot_tuple' (pv 1)))) (pw_or1 (pt_cmpR op_ne (p_len T.len (pv 1)) pe_int (nomark _)))).pt (pss_one (ps_ret pe_bl)) pss_nil)
          (pss_cons (ps_if (pw_or (pt_not (pt_val (pc NL hr pass0 (pa_cons (pv 0) (pa_cons (pe_ix ix_tup (pv 1) pe_int (fun _ _ => rfl)) pa_nil))))) (pw_or1 (pt_not (pt_val (pc NL hr pass0 (pa_cons (pv 0) (pa_cons (pe_ix ix_tup (pv 1) pe_int (fun _ _ => rfl)) pa_nil))))))).pt (pss_one (ps_ret pe_bl)) pss_nil) pss_never), ?_⟩
        refine ⟨_, rfl, _, "tuple", _, true, rfl, .tup ht, kit_tuple, _, rfl, iteF ⟨_, rfl, t, _, rfl, .inr (SqT.of ht), rfl, _, rfl, iteFe (by first | rfl | simp) ?_⟩⟩
        exact ⟨_, rfl, _, rfl, t, _, _, _, rfl, rfl, SqT.of ht, rfl, a, y0, rk, rfl, hq, hn, fun H1 s1 => ⟨_, rfl, iteT (kk _ s1)⟩⟩
      · refine ⟨_, pss_cons (ps_if (pw_or (pt_not (pt_val (p_isi T.isi T.tuple boot_tuple' (pv 1)))) (pw_or1 (pt_cmpR op_ne (p_len T.len (pv 1)) pe_int (nomark _)))).pt (pss_one (ps_ret pe_bl)) pss_nil)
          (pss_cons (ps_if (pw_or (pt_not (pt_val (pc GL hr pass0 (pa_cons (pv 0) (pa_cons (pe_ix ix_tup (pv 1) pe_int (fun _ _ => rfl)) pa_nil))))) (pw_or1 (pt_not (pt_val (pc NL hr pass0 (pa_cons (pv 0) (pa_cons (pe_ix ix_tup (pv 1) pe_int (fun _ _ => rfl)) pa_nil))))))).pt (pss_one (ps_ret pe_bl)) pss_nil) pss_never), ?_⟩
        refine ⟨_, rfl, _, "tuple", _, true, rfl, .tup ht, kit_tuple, _, rfl, iteF ⟨_, rfl, t, _, rfl, .inr (SqT.of ht), rfl, _, rfl, iteFe (by first | rfl | simp) ?_⟩⟩
        refine ⟨_, rfl, _, rfl, t, _, _, _, rfl, rfl, SqT.of ht, rfl, a, p0, rk, l0, rfl, hq, h0, n0, i0, u0, fun H1 s1 => ⟨_, rfl, iteF ?_⟩⟩
        exact ⟨_, rfl, _, rfl, t, _, _, _, rfl, rfl, SqT.of (s1 _ _ ht), rfl, a, y1, rk, rfl, s1 _ _ hq, hn.same s1, fun H2 s2 => ⟨_, rfl, iteT (kk _ (s1.trans s2))⟩⟩
      · refine ⟨_, pss_cons (ps_if (pw_or (pt_not (pt_val (p_isi T.isi T.tuple boot_tuple' (pv 1)))) (pw_or1 (pt_cmpR op_ne (p_len T.len (pv 1)) pe_int (nomark _)))).pt (pss_one (ps_ret pe_bl)) pss_nil)
          (pss_cons (ps_if (pw_or (pt_not (pt_val (pc GL hr pass0 (pa_cons (pv 0) (pa_cons (pe_ix ix_tup (pv 1) pe_int (fun _ _ => rfl)) pa_nil))))) (pw_or1 (pt_not (pt_val (pc GL hr pass0 (pa_cons (pv 0) (pa_cons (pe_ix ix_tup (pv 1) pe_int (fun _ _ => rfl)) pa_nil))))))).pt (pss_one (ps_ret pe_bl)) pss_nil)
          (pss_one (ps_ret (pe_and (pc NP hr pass0 (pa_cons (pv 0) (pa_cons (pe_ix ix_tup (pv 1) pe_int (fun _ _ => rfl)) pa_nil))) (pe_one pe_never))))), ?_⟩
        refine ⟨_, rfl, _, "tuple", _, true, rfl, .tup ht, kit_tuple, _, rfl, iteF ⟨_, rfl, t, _, rfl, .inr (SqT.of ht), rfl, _, rfl, iteFe (by first | rfl | simp) ?_⟩⟩
        refine ⟨_, rfl, _, rfl, t, _, _, _, rfl, rfl, SqT.of ht, rfl, a, p0, rk, l0, rfl, hq, h0, n0, i0, u0, fun H1 s1 => ⟨_, rfl, iteF ?_⟩⟩
        refine ⟨_, rfl, _, rfl, t, _, _, _, rfl, rfl, SqT.of (s1 _ _ ht), rfl, a, p1, rk, l1, rfl, s1 _ _ hq, s1 _ _ h1, n1, i1, u1, fun H2 s2 => ⟨_, rfl, iteF ?_⟩⟩
        have s12 := s1.trans s2
        exact ⟨_, rfl, _, rfl, t, _, _, _, rfl, rfl, SqT.of (s12 _ _ ht), rfl, a, y2, rk, rfl, s12 _ _ hq, hn.same s12, fun H3 s3 => ⟨false, rfl, iteF (kk _ (s12.trans s3))⟩⟩
      · refine ⟨_, pss_cons (ps_if (pw_or (pt_not (pt_val (p_isi T.isi T.tuple boot_tuple' (pv 1)))) (pw_or1 (pt_cmpR op_ne (p_len T.len (pv 1)) pe_int (nomark _)))).pt (pss_one (ps_ret pe_bl)) pss_nil)
          (pss_cons (ps_if (pw_or (pt_not (pt_val (pc GL hr pass0 (pa_cons (pv 0) (pa_cons (pe_ix ix_tup (pv 1) pe_int (fun _ _ => rfl)) pa_nil))))) (pw_or1 (pt_not (pt_val (pc GL hr pass0 (pa_cons (pv 0) (pa_cons (pe_ix ix_tup (pv 1) pe_int (fun _ _ => rfl)) pa_nil))))))).pt (pss_one (ps_ret pe_bl)) pss_nil)
          (pss_one (ps_ret (pe_and (pc GP hr pass0 (pa_cons (pv 0) (pa_cons (pe_ix ix_tup (pv 1) pe_int (fun _ _ => rfl)) pa_nil))) (pe_one (pc NB hr pass0 (pa_cons (pe_ix ix_tup (pv 1) pe_int (fun _ _ => rfl)) pa_nil))))))), ?_⟩
        refine ⟨_, rfl, _, "tuple", _, true, rfl, .tup ht, kit_tuple, _, rfl, iteF ⟨_, rfl, t, _, rfl, .inr (SqT.of ht), rfl, _, rfl, iteFe (by first | rfl | simp) ?_⟩⟩
        refine ⟨_, rfl, _, rfl, t, _, _, _, rfl, rfl, SqT.of ht, rfl, a, p0, rk, l0, rfl, hq, h0, n0, i0, u0, fun H1 s1 => ⟨_, rfl, iteF ?_⟩⟩
        refine ⟨_, rfl, _, rfl, t, _, _, _, rfl, rfl, SqT.of (s1 _ _ ht), rfl, a, p1, rk, l1, rfl, s1 _ _ hq, s1 _ _ h1, n1, i1, u1, fun H2 s2 => ⟨_, rfl, iteF ?_⟩⟩
        have s12 := s1.trans s2
        refine ⟨_, rfl, _, rfl, t, _, _, _, rfl, rfl, SqT.of (s12 _ _ ht), rfl, a, p2, rk, pl, rfl, s12 _ _ hq, s12 _ _ h2, n2, i2, u2, fun H3 s3 => ⟨true, rfl, iteT ?_⟩⟩
        have s13 := s12.trans s3
        exact ⟨_, rfl, t, _, _, _, rfl, rfl, SqT.of (s13 _ _ ht), rfl, v, rfl, hn.same s13, kk _ s13⟩
/-! Board.__init__: refused -/
def GoodRk (rk : List Int) : Prop := 1 ≤ rk.length ∧ rk.length ≤ 60 ∧ ∀ y ∈ rk, 0 ≤ y ∧ y < M60
def InitF (K : PySem.W.Frag) (CNB CNP : Addr) (H : Hp) (ra pv : V) (E : XK) : Prop := (NoRk K H ra ∧ ∀ H', Same H H' → E (.ref CNB) none H') ∨
  ∃ (a : Addr) (rk : List Int), ra = .ref a ∧ H a = some (.lst (rk.map V.int)) ∧ GoodRk rk ∧ pv ≠ .non ∧ NoPic K rk H pv ∧ ∀ H', Same H H' → E (.ref CNP) none H'
def spInitF (K : PySem.W.Frag) (CNB CNP : Addr) : Sp := fun vs H Q E => ∃ (x : Addr) (ra pv : V), vs = [.ref x, ra, pv] ∧ InitF K CNB CNP H ra pv E
theorem initF_len {CNB CNP : Addr} : ∀ vs H Q E, spInitF K CNB CNP vs H Q E → vs.length = (["self", "ranks", "picture"] : List Str).length := fun vs H Q E h => by
  obtain ⟨x, ra, pv0, rfl, _⟩ := h
  rfl
theorem init_bodyF {CNB CNP : Addr} (XNB : ExcC K mg "NoBoard" CNB) (XNP : ExcC K mg "NoPicture" CNP) (GR : Fu P w K mg base CX0 4 "are_ranks" ["thing"] spAreRanks) (NR : Fu P w K mg base CX0 4 "are_ranks" ["thing"] (spNoRanks K)) (NP : Fu P w K mg base CX0 6 "is_picture" ["ranks", "thing"] (spNoPicture K))
    (f : Addr) (cdv : Value) (A : Around) (outer : List Env) (s : Shared) (H : Hp) (vs : List V) (Q : VK) (E : XK) (hr : Room 6 (A.deeper (PyProof.Rows.envOfC "Board.__init__" (defScope (bm 0)) s.heap.objs.size f cdv))) (h : spInitF K CNB CNP vs H Q E) :
    ∃ t, PSs (cxOf (CX1 P w) P w K mg base ["self", "ranks", "picture", "start"] "Board.__init__" (defScope (bm 0)) f cdv A outer s H E) (defBody (bm 0)) t ∧ t { nx := fun _ H' => Q .non H', rt := Q } (start ["self", "ranks", "picture", "start"] vs) H := by
  obtain ⟨x, ra, pv0, rfl, ⟨hn, hE⟩ | ⟨a, rk, rfl, hq, ⟨l1, l60, hrk⟩, hne, np, hE⟩⟩ := h
  · refine ⟨_, pss_cons (ps_if (pt_not (pt_val (pc NR hr pass0 (pa_cons (pv 1) pa_nil)))) (pss_one (ps_raise XNB hr.hd (pa_cons pe_str pa_nil))) pss_nil) pss_never, ?_⟩
    exact ⟨_, rfl, ra, rfl, hn, fun H1 s1 => ⟨_, rfl, iteT ⟨by show 1 ≤ sizeLine; decide, hE _ s1⟩⟩⟩
  · refine ⟨_, pss_cons (ps_if (pt_not (pt_val (pc GR hr pass0 (pa_cons (pv 1) pa_nil)))) (pss_one ps_never) pss_nil)
      (pss_cons (ps_set (i := 3) scInit.nd rfl (Or.inl rfl) (pe_ifExp (pt_cmp (pc_isN (pv 2))) pe_never (pv 2)))
      (pss_cons (ps_if (pt_not (pt_val (pc NP hr pass0 (pa_cons (pv 1) (pa_cons (pv 3) pa_nil))))) (pss_one (ps_raise XNP hr.hd (pa_cons pe_str pa_nil))) pss_nil) pss_never)), ?_⟩
    refine ⟨_, rfl, a, rk, rfl, hq, l1, l60, hrk, fun H1 s1 => ⟨_, rfl, iteF ?_⟩⟩
    refine ⟨_, rfl, false, ?_, iteF ⟨_, rfl, ?_⟩⟩
    · cases pv0 <;> first | rfl | exact absurd rfl hne
    · exact ⟨_, rfl, _, rfl, a, pv0, rk, rfl, s1 _ _ hq, np.same s1, fun H2 s2 => ⟨_, rfl, iteT ⟨by show 1 ≤ sizeLine; decide, hE _ (s1.trans s2)⟩⟩⟩
/-! Few.__init__: refused -/
def NoPg (K : PySem.W.Frag) (H : Hp) (v : V) : Prop := ∃ b, WholeV K H v b ∧ (b = true → ∃ i, v = .int i ∧ ¬ (1 ≤ i ∧ i ≤ 16))
theorem NoPg.same {H H' : Hp} {v : V} (h : NoPg K H v) (s : Same H H') : NoPg K H' v := by
  obtain ⟨b, wv, r⟩ := h
  exact ⟨b, wv.same s, r⟩
def spFewInitF (K : PySem.W.Frag) (C CNB CNP CQ : Addr) : Sp := fun vs H Q E => ∃ (x : Addr) (ra n pv : V), vs = [.ref x, ra, n, pv] ∧ (InitF K CNB CNP H ra pv E ∨
  ∃ (a : Addr) (rk : List Int) (l0 l1 pl : List Int) (v : V), ra = .ref a ∧ (∃ dx, H x = some (.ins C dx [])) ∧ H a = some (.lst (rk.map V.int)) ∧ GoodRk rk ∧ PicV H pv l0 l1 pl v ∧ PicOk rk l0 l1 pl v ∧ (∀ H', KeepBut [x] H H' → NoPg K H' n) ∧ ∀ H', KeepBut [x] H H' → E (.ref CQ) none H')
theorem fewF_len {C CNB CNP CQ : Addr} : ∀ vs H Q E, spFewInitF K C CNB CNP CQ vs H Q E → vs.length = (["self", "ranks", "pegs", "picture"] : List Str).length := fun vs H Q E h => by
  obtain ⟨x, ra, n, pv0, rfl, _⟩ := h
  rfl
set_option maxHeartbeats 1000000 in
theorem few_bodyF {C CP P4 CQ DB CNB CNP : Addr} (TB : BTxt K C) (hB : mg "Board" = some (.ref DB)) (hP : mg "Pegs" = some (.ref CP)) (GF : FuB P w K mg base (CX1 P w) 7 DB "__init__" ["self", "ranks", "picture"] (spInitF K CNB CNP)) (GB : FuB P w K mg base CX0 7 DB "__init__" ["self", "ranks", "picture"] (spInit C))
    (GP : FuK P w K mg base (CX1 P w) 6 CP ["self", "ranks", "many", "lines"] (spPInit K CP P4 CQ)) (GW : FuM P w K mg base CX0 2 C "wanting" ["self"] (spWanting C))
    (f : Addr) (cdv : Value) (A : Around) (outer : List Env) (s : Shared) (H : Hp) (vs : List V) (Q : VK) (E : XK) (hr : Room 7 (A.deeper (PyProof.Rows.envOfC "Few.__init__" (defScope (fm 0)) s.heap.objs.size f cdv))) (h : spFewInitF K C CNB CNP CQ vs H Q E) :
    ∃ t, PSs (cxOf (CX1 P w) P w K mg base ["self", "ranks", "pegs", "picture"] "Few.__init__" (defScope (fm 0)) f cdv A outer s H E) (defBody (fm 0)) t ∧ t { nx := fun _ H' => Q .non H', rt := Q } (start ["self", "ranks", "pegs", "picture"] vs) H := by
  obtain ⟨x, ra, n, pv0, rfl, h⟩ := h
  rcases h with h | ⟨a0, rk, l0, ls1, pl, v, rfl, ⟨dx, e0⟩, hq, ⟨l1, l60, hrk⟩, hpv, ok, hn, hE⟩
  · refine ⟨_, pss_cons (ps_expr (pb GF hr hB pass1 (pa_cons (pv 0) (pa_cons (pv 1) (pa_cons (pv 3) pa_nil))))) pss_never, ?_⟩
    exact ⟨_, rfl, _, rfl, _, rfl, x, ra, pv0, rfl, h⟩
  · refine ⟨_, pss_cons (ps_expr (pb GB hr hB pass0 (pa_cons (pv 0) (pa_cons (pv 1) (pa_cons (pv 3) pa_nil)))))
      (pss_one (ps_fld (pv 0) (pmk (k := 6) GP hr hP pass1 (pa_cons (pe_fld (pv 0) rfl) (pa_cons (pv 2) (pa_cons (pm0 GW TB.cl hr pass0 (pv 0)) pa_nil)))) rfl)), ?_⟩
    refine ⟨_, rfl, _, rfl, _, rfl, x, a0, rk, pv0, l0, ls1, pl, v, rfl, ⟨dx, e0⟩, hq, l1, l60, hrk, hpv, ok, fun H1 r a m p k1 nr na nm np B1 => ?_⟩
    obtain ⟨dx1, e1⟩ := B1.at_
    have iv := mk_ok l1 l60 hrk ok
    refine ⟨_, rfl, x, C, dx1, _, _, rfl, e1, TB.cl, TB.nR, rfl, _, rfl, _, rfl, x, dx1, _, rfl, e1, bf_no B1.exo (by decide +kernel), [], x, r, a, m, p, rk, _, _, pl, v, rfl, B1, iv.la, iv.lm, l60, fun d H2 s2 nd hd => ?_⟩
    refine fun g dg ng ndg ne => ?_
    have ng' : upd H2 dg (.own g) g = none := by rw [upd_ne (Ne.symm ne)]; exact ng
    have s3 : Same H2 (upd (upd H2 dg (.own g)) g (.ins CP dg [])) := (Same.new ndg).trans (Same.new ng')
    have k3 : KeepBut [x] H (upd (upd H2 dg (.own g)) g (.ins CP dg [])) := fun b o e hb => s3 _ _ (s2 _ _ (k1 b o e hb))
    obtain ⟨b, wv, hb⟩ := hn _ k3
    exact ⟨g, .ref r, n, .ref d, rfl, ⟨dg, upd_same⟩, .inr ⟨b, wv, hb, hE _ k3⟩⟩
/-! ### _law_names -/
structure XNm (K : PySem.W.Frag) (mg : Str → Option Value) (C : Addr) (b1 b2 b3 : Bool) : Prop where
  g : ExcG K C
  k1 : ∃ c, mg "NoBoard" = some (.ref c) ∧ PySem.W.kitOne K (.ref C) (.ref c) = some b1
  k2 : ∃ c, mg "NoPicture" = some (.ref c) ∧ PySem.W.kitOne K (.ref C) (.ref c) = some b2
  k3 : ∃ c, mg "NoPegs" = some (.ref c) ∧ PySem.W.kitOne K (.ref C) (.ref c) = some b3
  k4 : ∃ c, mg "NoLine" = some (.ref c) ∧ PySem.W.kitOne K (.ref C) (.ref c) = some false
  k5 : ∃ c, mg "NoBar" = some (.ref c) ∧ PySem.W.kitOne K (.ref C) (.ref c) = some false
  k6 : ∃ c, mg "NotTop" = some (.ref c) ∧ PySem.W.kitOne K (.ref C) (.ref c) = some false
  k7 : ∃ c, mg "NoDeed" = some (.ref c) ∧ PySem.W.kitOne K (.ref C) (.ref c) = some false
  ve : PySem.W.kitOne K (.ref C) (.type "ValueError") = some true
def nmL (b1 b2 b3 : Bool) : List V := (if b1 = true then [.str "board"] else []) ++ (if b2 = true then [.str "picture"] else []) ++ (if b3 = true then [.str "pegs"] else []) ++ [.str "value"]
def One3 (b1 b2 b3 : Bool) : Prop := (b1 = true ∧ b2 = false ∧ b3 = false) ∨ (b1 = false ∧ b2 = true ∧ b3 = false) ∨ (b1 = false ∧ b2 = false ∧ b3 = true)
def spNames (K : PySem.W.Frag) (mg : Str → Option Value) : Sp := fun vs H Q _ => ∃ (a C : Addr) (b1 b2 b3 : Bool), vs = [.ref a] ∧ H a = some (ExcAt a C) ∧ XNm K mg C b1 b2 b3 ∧ One3 b1 b2 b3 ∧ ∀ d H', Same H H' → H d = none → H' d = some (.lst (nmL b1 b2 b3)) → Q (.ref d) H'
theorem scNames : FnScope ["_law_e", "_law_some"] ["_law_e"] (defScope (top 42)) := ⟨rfl, rfl, rfl, by decide +kernel, rfl, by decide +kernel, by decide +kernel⟩
theorem f_names (D : Def K mg "_law_names" (top 42) ["_law_e"]) (T : Txt K mg) (hVE : mg "ValueError" = none) : FuH P w K mg base 1 "_law_names" ["_law_e"] (spNames K mg) := by
  refine D.fuH scNames (fun vs H Q E h => ?_) (fun a0 f cdv A outer s H vs Q E hr h => ?_)
  · obtain ⟨a, C, b1, b2, b3, rfl, _⟩ := h
    rfl
  · obtain ⟨a, C, b1, b2, b3, rfl, ha, X, one, kk⟩ := h
    obtain ⟨d1, m1, o1⟩ := X.k1
    obtain ⟨d2, m2, o2⟩ := X.k2
    obtain ⟨d3, m3, o3⟩ := X.k3
    obtain ⟨d4, m4, o4⟩ := X.k4
    obtain ⟨d5, m5, o5⟩ := X.k5
    obtain ⟨d6, m6, o6⟩ := X.k6
    obtain ⟨d7, m7, o7⟩ := X.k7
    refine ⟨_, pss_cons (ps_set (i := 1) scNames.nd rfl (Or.inl rfl) (pe_lst pa_nil))
      (pss_cons (ps_if (pt_val (p_isiG (K := K) T.isi m1 (pv 0))) (pss_one (ps_expr (pe_bm PySem.F.plainAttrs_list PySem.F.slot_list_append PySem.F.type_list_append mt_append (pv 1) (pa_cons pe_str pa_nil)))) pss_nil)
      (pss_cons (ps_if (pt_val (p_isiG (K := K) T.isi m2 (pv 0))) (pss_one (ps_expr (pe_bm PySem.F.plainAttrs_list PySem.F.slot_list_append PySem.F.type_list_append mt_append (pv 1) (pa_cons pe_str pa_nil)))) pss_nil)
      (pss_cons (ps_if (pt_val (p_isiG (K := K) T.isi m3 (pv 0))) (pss_one (ps_expr (pe_bm PySem.F.plainAttrs_list PySem.F.slot_list_append PySem.F.type_list_append mt_append (pv 1) (pa_cons pe_str pa_nil)))) pss_nil)
      (pss_cons (ps_if (pw_or (pt_val (p_isiG (K := K) T.isi m4 (pv 0))) (pw_or (pt_val (p_isiG (K := K) T.isi m5 (pv 0))) (pw_or1 (pt_val (p_isiG (K := K) T.isi m6 (pv 0)))))).pt (pss_one ps_never) pss_nil)
      (pss_cons (ps_if (pt_val (p_isiG (K := K) T.isi m7 (pv 0))) (pss_one ps_never) pss_nil)
      (pss_cons (ps_if (pt_val (p_isiB (K := K) T.isi hVE boot_ve (pv 0))) (pss_one (ps_expr (pe_bm PySem.F.plainAttrs_list PySem.F.slot_list_append PySem.F.type_list_append mt_append (pv 1) (pa_cons pe_str pa_nil)))) pss_nil)
      (pss_one (ps_ret (pv 1))))))))), ?_⟩
    refine ⟨(by show 0 ≤ sizeLine; decide), fun d nd => ?_⟩
    have s1 := Same.new (o := .lst []) nd
    have ne : a ≠ d := ne_of_none ha nd
    have hl : upd H d (.lst []) d = some (.lst []) := upd_same
    have ha1 := s1 _ _ ha
    have kd : ∀ xs : List V, Same H (upd (upd H d (.lst [])) d (.lst xs)) := fun xs b o e => by rw [upd_ne (ne_of_none e nd)]; exact s1 b o e
    have kd2 : ∀ xs ys : List V, Same H (upd (upd (upd H d (.lst [])) d (.lst xs)) d (.lst ys)) := fun xs ys b o e => by rw [upd_ne (ne_of_none e nd)]; exact kd xs b o e
    rcases one with ⟨rfl, rfl, rfl⟩ | ⟨rfl, rfl, rfl⟩ | ⟨rfl, rfl, rfl⟩
    · refine ⟨_, rfl, a, C, _, .ref d1, true, rfl, ha1, X.g, fun _ r => r, o1, _, rfl, iteT ?_⟩
      refine ⟨_, rfl, .inl ⟨rfl, _, SqL.of hl⟩, d, _, _, rfl, rfl, hl, (by show 0 < sizeLine; decide), ?_⟩
      have h2 := kd [.str "board"] _ _ ha
      refine ⟨_, rfl, a, C, _, .ref d2, false, rfl, h2, X.g, fun _ r => r, o2, _, rfl, iteF ?_⟩
      refine ⟨_, rfl, a, C, _, .ref d3, false, rfl, h2, X.g, fun _ r => r, o3, _, rfl, iteF ?_⟩
      refine ⟨_, rfl, a, C, _, .ref d4, false, rfl, h2, X.g, fun _ r => r, o4, _, rfl, iteF ⟨_, rfl, a, C, _, .ref d5, false, rfl, h2, X.g, fun _ r => r, o5, _, rfl, iteF ⟨_, rfl, a, C, _, .ref d6, false, rfl, h2, X.g, fun _ r => r, o6, _, rfl, iteF ?_⟩⟩⟩
      refine ⟨_, rfl, a, C, _, .ref d7, false, rfl, h2, X.g, fun _ r => r, o7, _, rfl, iteF ?_⟩
      refine ⟨_, rfl, a, C, _, .type "ValueError", true, rfl, h2, X.g, fun _ r => r, X.ve, _, rfl, iteT ?_⟩
      refine ⟨_, rfl, .inl ⟨rfl, _, SqL.of upd_same⟩, d, _, _, rfl, rfl, upd_same, (by show 1 < sizeLine; decide), ?_⟩
      exact ⟨_, rfl, kk d _ (kd2 _ _) nd upd_same⟩
    · refine ⟨_, rfl, a, C, _, .ref d1, false, rfl, ha1, X.g, fun _ r => r, o1, _, rfl, iteF ?_⟩
      refine ⟨_, rfl, a, C, _, .ref d2, true, rfl, ha1, X.g, fun _ r => r, o2, _, rfl, iteT ?_⟩
      refine ⟨_, rfl, .inl ⟨rfl, _, SqL.of hl⟩, d, _, _, rfl, rfl, hl, (by show 0 < sizeLine; decide), ?_⟩
      have h2 := kd [.str "picture"] _ _ ha
      refine ⟨_, rfl, a, C, _, .ref d3, false, rfl, h2, X.g, fun _ r => r, o3, _, rfl, iteF ?_⟩
      refine ⟨_, rfl, a, C, _, .ref d4, false, rfl, h2, X.g, fun _ r => r, o4, _, rfl, iteF ⟨_, rfl, a, C, _, .ref d5, false, rfl, h2, X.g, fun _ r => r, o5, _, rfl, iteF ⟨_, rfl, a, C, _, .ref d6, false, rfl, h2, X.g, fun _ r => r, o6, _, rfl, iteF ?_⟩⟩⟩
      refine ⟨_, rfl, a, C, _, .ref d7, false, rfl, h2, X.g, fun _ r => r, o7, _, rfl, iteF ?_⟩
      refine ⟨_, rfl, a, C, _, .type "ValueError", true, rfl, h2, X.g, fun _ r => r, X.ve, _, rfl, iteT ?_⟩
      refine ⟨_, rfl, .inl ⟨rfl, _, SqL.of upd_same⟩, d, _, _, rfl, rfl, upd_same, (by show 1 < sizeLine; decide), ?_⟩
      exact ⟨_, rfl, kk d _ (kd2 _ _) nd upd_same⟩
    · refine ⟨_, rfl, a, C, _, .ref d1, false, rfl, ha1, X.g, fun _ r => r, o1, _, rfl, iteF ?_⟩
      refine ⟨_, rfl, a, C, _, .ref d2, false, rfl, ha1, X.g, fun _ r => r, o2, _, rfl, iteF ?_⟩
      refine ⟨_, rfl, a, C, _, .ref d3, true, rfl, ha1, X.g, fun _ r => r, o3, _, rfl, iteT ?_⟩
      refine ⟨_, rfl, .inl ⟨rfl, _, SqL.of hl⟩, d, _, _, rfl, rfl, hl, (by show 0 < sizeLine; decide), ?_⟩
      have h2 := kd [.str "pegs"] _ _ ha
      refine ⟨_, rfl, a, C, _, .ref d4, false, rfl, h2, X.g, fun _ r => r, o4, _, rfl, iteF ⟨_, rfl, a, C, _, .ref d5, false, rfl, h2, X.g, fun _ r => r, o5, _, rfl, iteF ⟨_, rfl, a, C, _, .ref d6, false, rfl, h2, X.g, fun _ r => r, o6, _, rfl, iteF ?_⟩⟩⟩
      refine ⟨_, rfl, a, C, _, .ref d7, false, rfl, h2, X.g, fun _ r => r, o7, _, rfl, iteF ?_⟩
      refine ⟨_, rfl, a, C, _, .type "ValueError", true, rfl, h2, X.g, fun _ r => r, X.ve, _, rfl, iteT ?_⟩
      refine ⟨_, rfl, .inl ⟨rfl, _, SqL.of upd_same⟩, d, _, _, rfl, rfl, upd_same, (by show 1 < sizeLine; decide), ?_⟩
      exact ⟨_, rfl, kk d _ (kd2 _ _) nd upd_same⟩
end
end K07

namespace K07
open PySem L2 L3
section
variable {P : Program} {w : World} {K : PySem.W.Frag} {mg : Str → Option Value} {base : Heap} {CF CW CNB CNP CQ CE : Addr}
/-! ### _law_refused -/
/-- a making that is refused, by C -/
def Ref (K : PySem.W.Frag) (CNB CNP CQ : Addr) (H : Hp) (few : Bool) (ra n pv : V) (C : Addr) : Prop := (C = CNB ∧ NoRk K H ra) ∨
  (C = CNP ∧ ∃ (a : Addr) (rk : List Int), ra = .ref a ∧ H a = some (.lst (rk.map V.int)) ∧ GoodRk rk ∧ pv ≠ .non ∧ NoPic K rk H pv) ∨
  (C = CQ ∧ few = true ∧ ∃ (a : Addr) (rk l0 l1 pl : List Int) (v : V), ra = .ref a ∧ H a = some (.lst (rk.map V.int)) ∧ GoodRk rk ∧ PicV H pv l0 l1 pl v ∧ PicOk rk l0 l1 pl v ∧ NoPg K H n)
theorem PicV.same {H H' : Hp} {pv v : V} {l0 l1 pl : List Int} (h : PicV H pv l0 l1 pl v) (s : Same H H') : PicV H' pv l0 l1 pl v := by
  rcases h with h | ⟨t, p0, p1, p2, e, S⟩
  · exact .inl h
  · exact .inr ⟨t, p0, p1, p2, e, S.same s⟩
theorem Ref.same {H H' : Hp} {few : Bool} {ra n pv : V} {C : Addr} (h : Ref K CNB CNP CQ H few ra n pv C) (s : Same H H') : Ref K CNB CNP CQ H' few ra n pv C := by
  rcases h with ⟨e, h⟩ | ⟨e, a, rk, e1, h1, g, ne, np⟩ | ⟨e, f, a, rk, l0, l1, pl, v, e1, h1, g, pv, ok, np⟩
  · exact .inl ⟨e, h.same s⟩
  · exact .inr (.inl ⟨e, a, rk, e1, s _ _ h1, g, ne, np.same s⟩)
  · exact .inr (.inr ⟨e, f, a, rk, l0, l1, pl, v, e1, s _ _ h1, g, pv.same s, ok, np.same s⟩)
def spRef (K : PySem.W.Frag) (mg : Str → Option Value) (CNB CNP CQ CE : Addr) : Sp := fun vs H Q _ => ∃ (few : Bool) (ra n pv : V) (C : Addr) (b1 b2 b3 : Bool), vs = [.bl few, ra, n, pv] ∧ Ref K CNB CNP CQ H few ra n pv C ∧ XNm K mg C b1 b2 b3 ∧ One3 b1 b2 b3 ∧ PySem.W.mroIn K C (.ref CE) = some true ∧
  ∀ d H', Same H H' → H d = none → H' d = some (.lst (nmL b1 b2 b3)) → Q (.ref d) H'
theorem scRefd : FnScope ["_law_few", "_law_ranks_here", "_law_pegs", "_law_picture", "_law_found", "_law_e"] ["_law_few", "_law_ranks_here", "_law_pegs", "_law_picture"] (defScope (top 43)) := ⟨rfl, rfl, rfl, by decide +kernel, rfl, by decide +kernel, by decide +kernel⟩
set_option maxHeartbeats 2000000 in
theorem f_refd (D : Def K mg "_law_refused" (top 43) ["_law_few", "_law_ranks_here", "_law_pegs", "_law_picture"]) (hE : mg "BoardError" = some (.ref CE)) (ty : PySem.W.typeIn K (.ref CE) = some (.type "type")) (be : PySem.W.mroIn K CE (.type "BaseException") = some true) (hF : mg "Few" = some (.ref CF)) (hW : mg "Wide" = some (.ref CW))
    (GF : FuK P w K mg base (CX1 P w) 8 CF ["self", "ranks", "pegs", "picture"] (spFewInitF K CF CNB CNP CQ)) (GW : FuK P w K mg base (CX1 P w) 7 CW ["self", "ranks", "picture"] (spInitF K CNB CNP)) (GN : FuH P w K mg base 1 "_law_names" ["_law_e"] (spNames K mg)) :
    Fu P w K mg base CX0 10 "_law_refused" ["_law_few", "_law_ranks_here", "_law_pegs", "_law_picture"] (spRef K mg CNB CNP CQ CE) := by
  refine D.fu scRefd (fun vs H Q E h => ?_) (fun f cdv A outer s H vs Q E hr h => ?_)
  · obtain ⟨few, ra, n, pv0, C, b1, b2, b3, rfl, _⟩ := h
    rfl
  · obtain ⟨few, ra, n, pv0, C, b1, b2, b3, rfl, R, X, one, mro, kk⟩ := h
    refine' ⟨_, pss_cons (ps_set (i := 4) scRefd.nd rfl (Or.inl rfl) (pe_lst pa_nil))
      (pss_cons (ps_try bodyO ?B ?HH)
      (pss_one (ps_ret (pv 4)))), ?main⟩
    case B =>
      intro pins Ex
      exact pss_one (ps_if (pt_val (pv 0)) (pss_one (ps_expr (pmkS (k := 8) GF hr hF (passS bodyO) (pa_cons (pv 1) (pa_cons (pv 2) (pa_cons (pv 3) pa_nil)))))) (pss_one (ps_expr (pmkS (k := 8) GW hr hW (passS bodyO) (pa_cons (pv 1) (pa_cons (pv 3) pa_nil))))))
    case HH =>
      exact ph_as (i := 5) bodyO scRefd.nd rfl rfl rfl hE ty be (fun a' => pss_one (ps_set (i := 4) scRefd.nd rfl (Or.inl rfl) (pcH GN hr (pa_cons (pv 5) pa_nil)))) ph_nil
    case main =>
      refine ⟨(by show 0 ≤ sizeLine; decide), fun kd nk => ?_⟩
      have sm4 := Same.new (o := .lst []) nk
      refine ⟨fun C' σ' H' => C' = C ∧ σ' = [some (.bl few), some ra, some n, some pv0, some (.ref kd), none] ∧ Same (upd H kd (.lst [])) H', ?_, ?_⟩
      · have R1 := R.same sm4
        generalize upd H kd (.lst []) = H1 at sm4 R1 ⊢
        cases few with
        | true =>
          refine ⟨_, rfl, _, rfl, iteT ⟨_, rfl, _, rfl, _, rfl, fun x dx nx ndx ne => ?_⟩⟩
          have nx' : upd H1 dx (.own x) x = none := by rw [upd_ne (Ne.symm ne)]; exact nx
          have s3 : Same H1 (upd (upd H1 dx (.own x)) x (.ins CF dx [])) := (Same.new ndx).trans (Same.new nx')
          rcases R1 with ⟨rfl, h⟩ | ⟨rfl, a, rk, e1, h1, g, hne, np⟩ | ⟨rfl, _, a, rk, l0, l1, pl, v, e1, h1, g, hpv, ok, np⟩
          · exact ⟨x, ra, n, pv0, rfl, .inl (.inl ⟨h.same s3, fun H' s' C' e => by cases e; exact ⟨rfl, rfl, s3.trans s'⟩⟩)⟩
          · exact ⟨x, ra, n, pv0, rfl, .inl (.inr ⟨a, rk, e1, s3 _ _ h1, g, hne, np.same s3, fun H' s' C' e => by cases e; exact ⟨rfl, rfl, s3.trans s'⟩⟩)⟩
          · have kb : ∀ H', KeepBut [x] (upd (upd H1 dx (.own x)) x (.ins CF dx [])) H' → Same H1 H' := fun H' k b o e => k b o (s3 b o e) (by simpa using ne_of_none e nx)
            exact ⟨x, ra, n, pv0, rfl, .inr ⟨a, rk, l0, l1, pl, v, e1, ⟨dx, upd_same⟩, s3 _ _ h1, g, hpv.same s3, ok, fun H' k => np.same (kb H' k), fun H' k C' e => by cases e; exact ⟨rfl, rfl, kb H' k⟩⟩⟩
        | false =>
          refine ⟨_, rfl, _, rfl, iteF ⟨_, rfl, _, rfl, fun x dx nx ndx ne => ?_⟩⟩
          have nx' : upd H1 dx (.own x) x = none := by rw [upd_ne (Ne.symm ne)]; exact nx
          have s3 : Same H1 (upd (upd H1 dx (.own x)) x (.ins CW dx [])) := (Same.new ndx).trans (Same.new nx')
          rcases R1 with ⟨rfl, h⟩ | ⟨rfl, a, rk, e1, h1, g, hne, np⟩ | ⟨rfl, ff, _⟩
          · exact ⟨x, ra, pv0, rfl, .inl ⟨h.same s3, fun H' s' C' e => by cases e; exact ⟨rfl, rfl, s3.trans s'⟩⟩⟩
          · exact ⟨x, ra, pv0, rfl, .inr ⟨a, rk, e1, s3 _ _ h1, g, hne, np.same s3, fun H' s' C' e => by cases e; exact ⟨rfl, rfl, s3.trans s'⟩⟩⟩
          · cases ff
      · rintro C' σ' H' ⟨rfl, rfl, smx⟩
        refine ⟨true, mro, iteT (fun ae nae => ?_)⟩
        have sm6 := (sm4.trans smx).trans (Same.new (o := ExcAt ae C') nae)
        refine ⟨_, rfl, ae, C', b1, b2, b3, rfl, upd_same, X, one, fun d H2 s2 nd hd => ?_⟩
        exact ⟨_, rfl, kk d _ (sm6.trans s2) (sm6.free nd) hd⟩
end
end K07

namespace L2
open PySem PySem.Spec PyProof.Rows
/-! ### lists of pairs as tables -/
section
variable {κ : Type} [DecidableEq κ]
def valV (kvs : List (κ × V)) (k : κ) : Option V := (kvs.find? fun kv => decide (kv.1 = k)).map (·.2)
/-- in its place, or at the end -/
def putK (kvs : List (κ × V)) (k : κ) (v : V) : List (κ × V) :=
  if (kvs.any fun kv => decide (kv.1 = k)) = true then kvs.map (fun kv => if kv.1 = k then (kv.1, v) else kv) else kvs ++ [(k, v)]
def dropK (kvs : List (κ × V)) (k : κ) : List (κ × V) := kvs.filter fun kv => decide (kv.1 ≠ k)

theorem valV_pos {p : κ × V} {r : List (κ × V)} {k : κ} (e : p.1 = k) : valV (p :: r) k = some p.2 := by simp [valV, List.find?_cons, e]
theorem valV_neg {p : κ × V} {r : List (κ × V)} {k : κ} (e : ¬ p.1 = k) : valV (p :: r) k = valV r k := by simp [valV, List.find?_cons, e]
theorem RelO.getD {o : Option V} {u : Option Value} {d : V} {d' : Value} (r : RelO o u) (rd : RelV d d') : RelV (o.getD d) (u.getD d') := by
  cases o with
  | none => cases u with
    | none => exact rd
    | some _ => exact (show False from r).elim
  | some _ => cases u with
    | none => exact (show False from r).elim
    | some _ => exact r

/-- raw tables of the same keys -/
theorem KV.val {kvs : List (κ × V)} {vs : List (κ × Value)} (r : KV kvs vs) (k : κ) : RelO (valV kvs k) (valueAt vs k) := by
  unfold KV at r
  induction r with
  | nil => exact True.intro
  | @cons p q ps qs h t ih =>
    obtain ⟨h1, h2⟩ := h
    by_cases e : p.1 = k
    · have e' : q.1 = k := h1.symm.trans e
      have b : valueAt (q :: qs) k = some q.2 := by simp [valueAt, List.find?_cons, e']
      rw [valV_pos e, b]; exact h2
    · have e' : ¬ q.1 = k := fun z => e (h1.trans z)
      have b : valueAt (q :: qs) k = valueAt qs k := by simp [valueAt, List.find?_cons, e']
      rw [valV_neg e, b]; exact ih
theorem KV.any {kvs : List (κ × V)} {vs : List (κ × Value)} (r : KV kvs vs) (k : κ) : (kvs.any fun kv => decide (kv.1 = k)) = vs.any fun kv => decide (kv.1 = k) := by
  unfold KV at r
  induction r with
  | nil => rfl
  | cons h t ih => rw [List.any_cons, List.any_cons, ih, h.1]
theorem KV.drop {kvs : List (κ × V)} {vs : List (κ × Value)} (r : KV kvs vs) (k : κ) : KV (dropK kvs k) (without vs k) := by
  unfold KV at r ⊢
  unfold dropK without
  induction r with
  | nil => exact .nil
  | @cons p q ps qs h t ih =>
    obtain ⟨h1, h2⟩ := h
    rw [List.filter_cons, List.filter_cons]
    by_cases e : p.1 = k
    · have a : ¬ decide (p.1 ≠ k) = true := by simp [e]
      have b : ¬ decide (q.1 ≠ k) = true := by simp [h1.symm.trans e]
      rw [if_neg a, if_neg b]; exact ih
    · have e' : ¬ q.1 = k := fun z => e (h1.trans z)
      have a : decide (p.1 ≠ k) = true := by simp [e]
      have b : decide (q.1 ≠ k) = true := by simp [e']
      rw [if_pos a, if_pos b]; exact .cons ⟨h1, h2⟩ ih
theorem KV.keys {kvs : List (κ × V)} {vs : List (κ × Value)} (r : KV kvs vs) : kvs.map (·.1) = vs.map (·.1) := by
  unfold KV at r
  induction r with
  | nil => rfl
  | cons h t ih => rw [List.map_cons, List.map_cons, ih, h.1]
theorem KV.length {kvs : List (κ × V)} {vs : List (κ × Value)} (r : KV kvs vs) : kvs.length = vs.length := Paired.length r
end


/-- raw entries of a dict with tuple keys -/
abbrev KT (H : Hp) : List (List Key × V) → List (List Key × Addr × Value) → Prop := Paired fun p q => p.1 = q.1 ∧ H q.2.1 = some (.tup (p.1.map kV)) ∧ RelV p.2 q.2.2
theorem KT.val {H : Hp} {kvs : List (List Key × V)} {xs : List (List Key × Addr × Value)} (r : KT H kvs xs) (k : List Key) : RelO (valV kvs k) ((atKey xs k).map (·.2)) := by
  induction r with
  | nil => exact True.intro
  | @cons p q ps qs h t ih =>
    obtain ⟨h1, _, h2⟩ := h
    by_cases e : p.1 = k
    · have e' : q.1 = k := h1.symm.trans e
      have b : atKey (q :: qs) k = some q.2 := by simp [atKey, List.find?_cons, e']
      rw [valV_pos e, b]; exact h2
    · have e' : ¬ q.1 = k := fun z => e (h1.trans z)
      have b : atKey (q :: qs) k = atKey qs k := by simp [atKey, List.find?_cons, e']
      rw [valV_neg e, b]; exact ih
theorem KT.keeps {H H' : Hp} {kvs : List (List Key × V)} {xs : List (List Key × Addr × Value)} (r : KT H kvs xs) (ht : ∀ b ys, H b = some (.tup ys) → H' b = some (.tup ys)) : KT H' kvs xs :=
  Paired.mapP r fun _ _ z => ⟨z.1, ht _ _ z.2.1, z.2.2⟩

section
variable {P : Program} {w : World} {H : Hp} {h : Heap} {a : Addr}
end

/-- what the dict at a holds at the key y -/
def DGet (H : Hp) (a : Addr) (y : V) (r : Option V) : Prop :=
  (∃ kvs k, Rd H a (.dK kvs) ∧ y = kV k ∧ r = valV kvs k) ∨ ∃ kvs k b, Rd H a (.dT kvs) ∧ y = .ref b ∧ H b = some (.tup (k.map kV)) ∧ r = valV kvs k
/-- the heap behind a[y] = v -/
def DPut (H : Hp) (a : Addr) (y v : V) (H' : Hp) : Prop :=
  (∃ kvs k, H a = some (.dK kvs) ∧ y = kV k ∧ kvs.length < sizeLine ∧ H' = upd H a (.dK (putK kvs k v))) ∨
  ∃ kvs k b, H a = some (.dT kvs) ∧ y = .ref b ∧ H b = some (.tup (k.map kV)) ∧ kvs.length < sizeLine ∧ H' = upd H a (.dT (putK kvs k v))
theorem DGet.k {H : Hp} {a : Addr} {kvs : List (Key × V)} {k : Key} (e : H a = some (.dK kvs)) : DGet H a (kV k) (valV kvs k) := .inl ⟨kvs, k, .inl e, rfl, rfl⟩
theorem DGet.t {H : Hp} {a b : Addr} {kvs : List (List Key × V)} {k : List Key} (e : H a = some (.dT kvs)) (eb : H b = some (.tup (k.map kV))) : DGet H a (.ref b) (valV kvs k) := .inr ⟨kvs, k, b, .inl e, rfl, eb, rfl⟩
theorem DPut.k {H : Hp} {a : Addr} {kvs : List (Key × V)} {k : Key} {v : V} (e : H a = some (.dK kvs)) (hl : kvs.length < sizeLine) : DPut H a (kV k) v (upd H a (.dK (putK kvs k v))) := .inl ⟨kvs, k, e, rfl, hl, rfl⟩
theorem DPut.t {H : Hp} {a b : Addr} {kvs : List (List Key × V)} {k : List Key} {v : V} (e : H a = some (.dT kvs)) (eb : H b = some (.tup (k.map kV))) (hl : kvs.length < sizeLine) :
    DPut H a (.ref b) v (upd H a (.dT (putK kvs k v))) := .inr ⟨kvs, k, b, e, rfl, eb, hl, rfl⟩


section
variable {X : Cx} {pins : List (Addr × Obj)} {σ : St} {H : Hp} {s : Shared} {a : Addr} {y v : V} {u r : Value} {o : Option V} {A : Around} {E : Value → Shared → Prop}

theorem Inv.big (I : Inv X pins σ H s) : sysModules < s.heap.objs.size := by
  have h : mainGlobals < s.heap.objs.size := (I.mod.glob.keeps I.bk).lt
  exact Nat.lt_trans (by decide) h

end

section
variable {X : Cx} {pins : List (Addr × Obj)} {σ : St} {H : Hp} {s : Shared} {a : Addr} {kvs : List (Key × V)} {k : Key} {u : Value} {A : Around} {E : Value → Shared → Prop}
end


section
variable {X : Cx} {o i e value : Expr} {pos pos' tpos : Pos} {td ty tv : TE}
end


/-! ### displays -/
theorem dk_empty {P : Program} {w : World} {H : Hp} (h : Heap) (hb : sysModules < h.objs.size) : ObjOk P w H (h.push { cls := .type "dict", data := .dict #[] }) h.objs.size (.dK []) :=
  ⟨Nat.zero_le _, beq_eq_false_iff_ne.mpr (Ne.symm (Nat.ne_of_lt hb)), [], .nil, Heap.DictOf.new h⟩
/-- {}, to be a dict of the kind that is wanted -/
def tDNewK : TE := fun _ H Q => ∀ p, H p = none → Q (.ref p) (upd H p (.dK []))
section
variable {X : Cx} {pos : Pos}
theorem pe_dnewK : PE X (.Dict [] [] pos) tDNewK := fun pins s σ H Q I h =>
  wpAny_Dict_empty ⟨.ref s.heap.objs.size, _, I.laid (a := s.heap.objs.size) (o := .dK []) (t' := s.toks) (fun _ _ q => Heap.get?_push_of_some _ q) (Nat.le_refl _) (dk_empty s.heap I.big), rfl, h _ (I.hok.fresh (Nat.le_refl _))⟩
end

section
variable {X : Cx} {pins : List (Addr × Obj)} {σ : St} {H : Hp} {s : Shared} {a : Addr} {y d : V} {u r : Value} {o : Option V} {A : Around} {E : Value → Shared → Prop}
end

section
variable {X : Cx} {o e f : Expr} {apos cpos : Pos} {td ty tx : TE}
end

/-! ### dict(d): a copy -/
section
variable {X : Cx} {pins : List (Addr × Obj)} {σ : St} {H : Hp} {s : Shared} {a : Addr} {kvs : List (Key × V)} {A : Around} {E : Value → Shared → Prop}
end


section
variable {X : Cx} {pins : List (Addr × Obj)} {σ : St} {H : Hp} {s : Shared} {a : Addr} {y : V} {u : Value} {A : Around} {E : Value → Shared → Prop}
end
end L2


namespace K07
open PySem L2 L3
/-! ### spoiled rows -/
def jv (f : Int → Bool) : V → Bool
  | .int z => f z
  | _ => false
/-- an item of a row: a number, or no number at all -/
def Itm (K : PySem.W.Frag) (H : Hp) (y : V) : Prop := (∃ z, y = .int z) ∨ WholeV K H y false
section
variable {K : PySem.W.Frag} {H H' : Hp}
theorem Itm.same {y : V} (h : Itm K H y) (s : Same H H') : Itm K H' y := h.imp id fun h => h.same s
def fR (z : Int) : Bool := decide (0 ≤ z) && decide (z ≤ 10 ^ (60 : Int).toNat - 1)
def fL (n : Nat) (z : Int) : Bool := decide (0 ≤ z) && decide (z ≤ (n : Int) - 1)
theorem itm_rk {y : V} (h : Itm K H y) : RkJ K H y (jv fR y) := by
  rcases h with ⟨z, rfl⟩ | h
  · exact .inl ⟨z, rfl, rfl⟩
  · cases y with
    | int z => exact .inl ⟨z, rfl, rfl⟩
    | _ => exact .inr ⟨h, rfl⟩
theorem itm_ln {n : Nat} {y : V} (h : Itm K H y) : LnJ K n H y (jv (fL n) y) := by
  rcases h with ⟨z, rfl⟩ | h
  · exact .inl ⟨z, rfl, rfl⟩
  · cases y with
    | int z => exact .inl ⟨z, rfl, rfl⟩
    | _ => exact .inr ⟨h, rfl⟩
theorem NoRk.mk {a : Addr} {xs : List V} (e : H a = some (.lst xs)) (l : xs.length ≤ 100) (hall : ∀ y ∈ xs, Itm K H y) {y : V} (hy : y ∈ xs) (hb : jv fR y = false) : NoRk K H (.ref a) := by
  obtain ⟨i, hi, e1⟩ := List.getElem_of_mem hy
  refine .inr ⟨a, xs, rfl, e, l, .inr (.inr ⟨fun i => jv fR (xs.getD i .non), fun j z hz => ?_, i, hi, ?_⟩)⟩
  · have hg : xs.getD j .non = z := by simp [List.getD, hz]
    dsimp only
    rw [hg]
    exact itm_rk (hall z (List.mem_of_getElem? hz))
  · have hg : xs.getD i .non = y := by simp [List.getD, hi, e1]
    dsimp only
    rw [hg]
    exact hb
theorem NoLn.mk {n : Nat} {a : Addr} {xs : List V} (e : H a = some (.lst xs)) (l : xs.length ≤ 100) (hall : ∀ y ∈ xs, Itm K H y) {y : V} (hy : y ∈ xs) (hb : jv (fL n) y = false) : NoLn K n H (.ref a) := by
  obtain ⟨i, hi, e1⟩ := List.getElem_of_mem hy
  refine .inr ⟨a, xs, fun i => jv (fL n) (xs.getD i .non), rfl, e, l, fun j z hz => ?_, i, hi, ?_⟩
  · have hg : xs.getD j .non = z := by simp [List.getD, hz]
    dsimp only
    rw [hg]
    exact itm_ln (hall z (List.mem_of_getElem? hz))
  · have hg : xs.getD i .non = y := by simp [List.getD, hi, e1]
    dsimp only
    rw [hg]
    exact hb
theorem itm_ints (ls : List Int) : ∀ y ∈ ls.map V.int, Itm K H y := fun y hy => by
  obtain ⟨z, _, rfl⟩ := List.mem_map.mp hy
  exact .inl ⟨z, rfl⟩
theorem ix6 {p1 : Addr} {x : Str} {i : Int} (h0 : 0 ≤ i) (h1 : i < 6) (e1 : H p1 = some (.lst [.int 0])) :
    ∃ v, atI [V.int (-1), .int (10 ^ (60 : Int).toNat), .bl true, .non, .str x, .ref p1] i = some v ∧ jv fR v = false ∧ Itm K H v := by
  have hi : i = 0 ∨ i = 1 ∨ i = 2 ∨ i = 3 ∨ i = 4 ∨ i = 5 := by omega
  rcases hi with rfl | rfl | rfl | rfl | rfl | rfl
  · exact ⟨_, rfl, by decide +kernel, .inl ⟨_, rfl⟩⟩
  · exact ⟨_, rfl, by decide +kernel, .inl ⟨_, rfl⟩⟩
  · exact ⟨_, rfl, rfl, .inr (whole_bl _)⟩
  · exact ⟨_, rfl, rfl, .inr whole_non⟩
  · exact ⟨_, rfl, rfl, .inr (whole_str _)⟩
  · exact ⟨_, rfl, rfl, .inr (whole_lst e1)⟩
end
section
variable {P : Program} {w : World} {K : PySem.W.Frag} {mg : Str → Option Value} {base : Heap}
/-! _law_no_ranks -/
def spNoRks (K : PySem.W.Frag) : Sp := fun vs H Q _ => ∃ (a : Addr) (rk : List Int) (c : Int), vs = [.ref a, .int c] ∧ H a = some (.lst (rk.map V.int)) ∧ GoodRk rk ∧ ∀ v H', Same H H' → NoRk K H' v → Q v H'
theorem scNoRks : FnScope ["_law_ranks_here", "_law_cell", "_law_way", "_law_at", "_law_some"] ["_law_ranks_here", "_law_cell"] (defScope (top 44)) := ⟨rfl, rfl, rfl, by decide +kernel, rfl, by decide +kernel, by decide +kernel⟩
set_option maxHeartbeats 2000000 in
theorem f_noRks (D : Def K mg "_law_no_ranks" (top 44) ["_law_ranks_here", "_law_cell"]) (T : Txt K mg) : Fu P w K mg base CX0 1 "_law_no_ranks" ["_law_ranks_here", "_law_cell"] (spNoRks K) := by
  refine D.fu scNoRks (fun vs H Q E h => ?_) (fun f cdv A outer s H vs Q E hr h => ?_)
  · obtain ⟨a, rk, c, rfl, _⟩ := h
    rfl
  · obtain ⟨a, rk, c, rfl, hq, ⟨l1, l60, hrk⟩, kk⟩ := h
    refine ⟨_, pss_cons (ps_set (i := 2) scNoRks.nd rfl (Or.inl rfl) (pe_op op_mod (pe_op op_mod (pe_op op_mul (pv 1) pe_int) pe_int) pe_int))
      (pss_cons (ps_set (i := 3) scNoRks.nd rfl (Or.inl rfl) (pe_op op_mod (pe_op op_mod (pe_op op_mul (pv 1) pe_int) pe_int) (p_len T.len (pv 0))))
      (pss_cons (ps_if (pt_cmpR op_lt (pv 2) pe_int (nomark _))
        (pss_cons (ps_set (i := 4) scNoRks.nd rfl (Or.inl rfl) (pe_lst (pa_cons (pe_un un_neg pe_int) (pa_cons (pe_op op_pow pe_int pe_int) (pa_cons pe_bl (pa_cons pe_non (pa_cons pe_str (pa_cons (pe_lst (pa_cons pe_int pa_nil)) pa_nil))))))))
        (pss_one (ps_ret (pe_op op_cat (pe_op op_cat (pe_slice sl_list (pv 0) po_none (po_some (pv 3))) (pe_lst (pa_cons (pe_ix ix_list (pv 4) (pv 2) (fun _ _ => rfl)) pa_nil))) (pe_slice sl_list (pv 0) (po_some (pe_op op_add (pv 3) pe_int)) po_none))))) pss_nil)
      (pss_cons (ps_if (pt_cmpR op_eq (pv 2) pe_int (nomark _)) (pss_one (ps_ret (pe_op op_rep (pe_lst (pa_cons (pe_ix ix_list (pv 0) (pv 3) (fun _ _ => rfl)) pa_nil)) pe_int))) pss_nil)
      (pss_cons (ps_if (pt_cmpR op_eq (pv 2) pe_int (nomark _)) (pss_one (ps_ret (p_tuple (K := K) T.tuple (pv 0)))) pss_nil)
      (pss_one (ps_ret (pe_ix ix_list (pe_lst (pa_cons (pe_lst pa_nil) (pa_cons pe_non (pa_cons pe_int (pa_cons pe_str (pa_cons pe_dnewK (pa_cons pe_bl pa_nil))))))) (pe_op op_sub (pv 2) pe_int) (fun _ _ => rfl)))))))), ?_⟩
    have hl : (0 : Int) < (((rk.map V.int).length : Nat) : Int) := by rw [List.length_map]; omega
    refine ⟨_, rfl, _, _, rfl, rfl, .inr (by constructor <;> decide), _, _, rfl, rfl, (by show (0 : Int) < 2147483647; decide), _, _, rfl, rfl, (by show (0 : Int) < 14; decide), ?_⟩
    refine ⟨_, rfl, _, _, rfl, rfl, .inr (by constructor <;> decide), _, _, rfl, rfl, (by show (0 : Int) < 2147483647; decide), _, rfl, a, _, rfl, .inl (SqL.of hq), _, _, rfl, rfl, hl, ?_⟩
    have w0 : 0 ≤ c * 950706376 % 2147483647 % 14 := by omega
    have w1 : c * 950706376 % 2147483647 % 14 < 14 := by omega
    have t0 : 0 ≤ c * 742938285 % 2147483647 % (((rk.map V.int).length : Nat) : Int) := Int.emod_nonneg _ (by omega)
    have t1 : c * 742938285 % 2147483647 % (((rk.map V.int).length : Nat) : Int) < rk.length := by
      have := Int.emod_lt_of_pos (c * 742938285 % 2147483647) hl
      rw [List.length_map] at this ⊢
      exact this
    dsimp only
    generalize c * 950706376 % 2147483647 % 14 = wy at w0 w1 ⊢
    generalize c * 742938285 % 2147483647 % (((rk.map V.int).length : Nat) : Int) = at0 at t0 t1 ⊢
    refine ⟨_, rfl, _, _, rfl, rfl, _, rfl, ite2 (fun hw => ?_) (fun hw => ?_)⟩
    · have hw : wy < 6 := of_decide_eq_true hw
      refine ⟨_, rfl, _, _, rfl, rfl, cpow _ _ (by decide +kernel), (by show 1 ≤ sizeLine; decide), fun p1 n1 => ⟨(by show 6 ≤ sizeLine; decide), fun d nd => ?_⟩⟩
      have s1 := Same.new (o := .lst [.int 0]) n1
      have s2 := Same.new (o := .lst [.int (-1), .int (10 ^ (60 : Int).toNat), .bl true, .non, .str "0", .ref p1]) nd
      have s12 := s1.trans s2
      have ep : upd (upd H p1 (.lst [.int 0])) d (.lst [.int (-1), .int (10 ^ (60 : Int).toNat), .bl true, .non, .str "0", .ref p1]) p1 = some (.lst [.int 0]) := s2 _ _ upd_same
      have ed : upd (upd H p1 (.lst [.int 0])) d (.lst [.int (-1), .int (10 ^ (60 : Int).toNat), .bl true, .non, .str "0", .ref p1]) d = some (.lst [.int (-1), .int (10 ^ (60 : Int).toNat), .bl true, .non, .str "0", .ref p1]) := upd_same
      obtain ⟨y, ey, fy, iy⟩ := ix6 (K := K) (x := "0") w0 hw ep
      have hq2 := s12 _ _ hq
      generalize upd (upd H p1 (.lst [.int 0])) d (.lst [.int (-1), .int (10 ^ (60 : Int).toNat), .bl true, .non, .str "0", .ref p1]) = H2 at s12 ep ed iy hq2 ⊢
      refine ⟨_, rfl, _, rfl, _, rfl, a, _, rfl, SqL.of hq2, fun e1 m1 => ?_⟩
      rw [cut_takeI rk t0]
      have s3 := Same.new (o := .lst ((rk.take at0.toNat).map V.int)) m1
      refine ⟨_, rfl, _, rfl, d, _, _, _, rfl, rfl, SqL.of (s3 _ _ ed), ey, (by show 1 ≤ sizeLine; decide), fun e2 m2 => ?_⟩
      have s4 := Same.new (o := .lst [y]) m2
      refine ⟨e1, e2, _, _, rfl, rfl, s4 _ _ upd_same, upd_same, (by rw [sizeLine_eq]; simp; omega), fun e3 m3 => ?_⟩
      have s5 := Same.new (o := .lst ((rk.take at0.toNat).map V.int ++ [y])) m3
      refine ⟨_, rfl, _, rfl, _, _, rfl, rfl, _, rfl, a, _, rfl, SqL.of (s5 _ _ (s4 _ _ (s3 _ _ hq2))), fun e4 m4 => ?_⟩
      rw [cut_dropI rk (by omega : (0 : Int) ≤ at0 + 1)]
      have s6 := Same.new (o := .lst ((rk.drop (at0 + 1).toNat).map V.int)) m4
      have hlen : (rk.take at0.toNat).length + 1 + (rk.drop (at0 + 1).toNat).length ≤ 61 := by simp; omega
      refine ⟨e3, e4, _, _, rfl, rfl, s6 _ _ upd_same, upd_same, (by rw [sizeLine_eq]; simp at hlen ⊢; omega), fun e5 m5 => ?_⟩
      have s7 := Same.new (o := .lst (((rk.take at0.toNat).map V.int ++ [y]) ++ (rk.drop (at0 + 1).toNat).map V.int)) m5
      have sz := ((((s3.trans s4).trans s5).trans s6).trans s7)
      refine kk _ _ (s12.trans sz) (NoRk.mk upd_same (by simp at hlen ⊢; omega) (fun z hz => ?_) (y := y) (by simp) fy)
      rcases List.mem_append.mp hz with hz | hz
      · rcases List.mem_append.mp hz with hz | hz
        · exact itm_ints _ z hz
        · rw [List.mem_singleton.mp hz]; exact iy.same sz
      · exact itm_ints _ z hz
    · refine ⟨_, rfl, rfl, _, rfl, ite2 (fun _ => ?_) (fun hw2 => ?_)⟩
      · refine ⟨_, rfl, _, rfl, a, _, _, _, rfl, rfl, SqL.of hq, atI_int t0 t1, (by show 1 ≤ sizeLine; decide), fun e1 m1 => ?_⟩
        refine ⟨e1, _, _, rfl, rfl, upd_same, by decide, by decide, by rw [sizeLine_eq]; show 1 * 61 ≤ 16777216; decide, fun e2 m2 => ?_⟩
        refine kk _ _ ((Same.new m1).trans (Same.new m2)) (.inr ⟨e2, _, rfl, upd_same, ?_, .inr (.inl ?_)⟩)
        · rw [len_rep]; show 61 * 1 ≤ 100; decide
        · rw [len_rep]; show 60 < 61 * 1; decide
      · refine ⟨_, rfl, rfl, _, rfl, ite2 (fun _ => ?_) (fun hw3 => ?_)⟩
        · refine ⟨_, rfl, a, _, rfl, .inl ⟨SqL.of hq, fun e1 m1 => ?_⟩⟩
          exact kk _ _ (Same.new m1) (.inl ⟨_, .tup upd_same, rfl⟩)
        · have h6 : ¬ wy < 6 := fun z => hw (decide_eq_true z)
          have h7 : ¬ wy = 6 := fun z => hw2 (by rw [z]; rfl)
          have h8 : ¬ wy = 7 := fun z => hw3 (by rw [z]; rfl)
          refine ⟨(by show 0 ≤ sizeLine; decide), fun e1 m1 => ?_⟩
          refine fun e2 m2 => ⟨(by show 6 ≤ sizeLine; decide), fun e3 m3 => ?_⟩
          have s1 := Same.new (o := .lst []) m1
          have s2 := Same.new (o := .dK []) m2
          have s3 := Same.new (o := .lst [.ref e1, .non, .int 0, .str "", .ref e2, .bl false]) m3
          have sz := (s1.trans s2).trans s3
          have q1 := (s2.trans s3) _ _ (upd_same (H := H) (a := e1) (o := .lst []))
          have q2 := s3 _ _ (upd_same (H := upd H e1 (.lst [])) (a := e2) (o := .dK []))
          have hv : ∃ v, atI [V.ref e1, .non, .int 0, .str "", .ref e2, .bl false] (wy - 8) = some v ∧ NoRk K (upd (upd (upd H e1 (.lst [])) e2 (.dK [])) e3 (.lst [.ref e1, .non, .int 0, .str "", .ref e2, .bl false])) v := by
            have hi : wy = 8 ∨ wy = 9 ∨ wy = 10 ∨ wy = 11 ∨ wy = 12 ∨ wy = 13 := by omega
            rcases hi with rfl | rfl | rfl | rfl | rfl | rfl
            · exact ⟨_, rfl, .inr ⟨e1, _, rfl, q1, by decide, .inl rfl⟩⟩
            · exact ⟨_, rfl, .inl ⟨_, .non, rfl⟩⟩
            · exact ⟨_, rfl, .inl ⟨_, .int 0, rfl⟩⟩
            · exact ⟨_, rfl, .inl ⟨_, .str "", rfl⟩⟩
            · exact ⟨_, rfl, .inl ⟨_, .dK q2, rfl⟩⟩
            · exact ⟨_, rfl, .inl ⟨_, .bl false, rfl⟩⟩
          obtain ⟨v, ev, nv⟩ := hv
          exact ⟨_, rfl, _, _, rfl, rfl, e3, _, _, v, rfl, rfl, SqL.of upd_same, ev, kk v _ sz nv⟩
end
end K07

namespace K07
open PySem L2 L3
/-- two neighbours that were turned, or are one -/
def Sp2 (ls zs : List Int) : Prop := ∃ i, i + 1 < zs.length ∧ (zs.getD i 0 = zs.getD (i + 1) 0 ∨ ∃ j, j + 1 < ls.length ∧ zs.getD i 0 = ls.getD (j + 1) 0 ∧ zs.getD (i + 1) 0 = ls.getD j 0)
theorem Sp2.up {ls zs : List Int} (h : Sp2 ls zs) (u : Up ls) : ¬ Up zs := fun v => by
  obtain ⟨i, hi, h⟩ := h
  have a := v i hi
  rcases h with h | ⟨j, hj, e1, e2⟩
  · omega
  · have b := u j hj
    omega
theorem rev_at (rk ls : List Int) {i : Nat} (hi : i < ls.length) : (ls.reverse.map (rkAt rk)).getD (ls.length - 1 - i) 0 = rkAt rk (ls.getD i 0) := by
  have h1 : ls.length - 1 - i < (ls.reverse.map (rkAt rk)).length := by simp; omega
  have h2 : ls.length - 1 - (ls.length - 1 - i) = i := by omega
  rw [List.getD_eq_getElem?_getD, List.getElem?_eq_getElem h1, List.getElem_map, List.getElem_reverse]
  simp [List.getD, hi, h2]
theorem plup_at {rk ls : List Int} (u : PlUp rk ls) {i : Nat} (hi : i + 1 < ls.length) : rkAt rk (ls.getD (i + 1) 0) < rkAt rk (ls.getD i 0) := by
  have a := u (ls.length - 1 - (i + 1)) (by simp; omega)
  rw [show ls.length - 1 - (i + 1) + 1 = ls.length - 1 - i by omega, rev_at rk ls hi, rev_at rk ls (by omega : i < ls.length)] at a
  exact a
theorem Sp2.pl {rk ls zs : List Int} (h : Sp2 ls zs) (u : PlUp rk ls) : ¬ PlUp rk zs := fun v => by
  obtain ⟨i, hi, h⟩ := h
  have a := plup_at v hi
  rcases h with h | ⟨j, hj, e1, e2⟩
  · rw [h] at a; omega
  · have b := plup_at u hj
    rw [e1, e2] at a
    omega
def Spoil (K : PySem.W.Frag) (n : Nat) (ls : List Int) (H : Hp) (v : V) : Prop := NoLn K n H v ∨ RowF n (Sp2 ls) H v
section
variable {K : PySem.W.Frag} {H H' : Hp}
theorem Spoil.up {n : Nat} {ls : List Int} {v : V} (h : Spoil K n ls H v) (u : Up ls) : NoRow K n Up H v := h.imp id fun ⟨a, zs, e, e1, l, r, s⟩ => ⟨a, zs, e, e1, l, r, s.up u⟩
theorem Spoil.pl {n : Nat} {rk ls : List Int} {v : V} (h : Spoil K n ls H v) (u : PlUp rk ls) : NoRow K n (PlUp rk) H v := h.imp id fun ⟨a, zs, e, e1, l, r, s⟩ => ⟨a, zs, e, e1, l, r, s.pl u⟩
theorem ix7 {n : Nat} (hn : n ≤ 60) {p1 : Addr} {x : Str} {i : Int} (h0 : 0 ≤ i) (h1 : i < 7) :
    ∃ v, atI [V.int (-1), .int (n : Int), .bl true, .non, .str x, .ref p1, .int (10 ^ (30 : Int).toNat)] i = some v ∧ jv (fL n) v = false ∧ ∀ H' : Hp, H' p1 = some (.lst [.int 0]) → Itm K H' v := by
  have hi : i = 0 ∨ i = 1 ∨ i = 2 ∨ i = 3 ∨ i = 4 ∨ i = 5 ∨ i = 6 := by omega
  rcases hi with rfl | rfl | rfl | rfl | rfl | rfl | rfl
  · exact ⟨_, rfl, by show fL n (-1) = false; unfold fL; rw [decide_eq_false (by omega : ¬ (0 : Int) ≤ -1)]; rfl, fun _ _ => .inl ⟨_, rfl⟩⟩
  · exact ⟨_, rfl, by show fL n n = false; unfold fL; rw [decide_eq_false (by omega : ¬ (n : Int) ≤ n - 1), Bool.and_false], fun _ _ => .inl ⟨_, rfl⟩⟩
  · exact ⟨_, rfl, rfl, fun _ _ => .inr (whole_bl _)⟩
  · exact ⟨_, rfl, rfl, fun _ _ => .inr whole_non⟩
  · exact ⟨_, rfl, rfl, fun _ _ => .inr (whole_str _)⟩
  · exact ⟨_, rfl, rfl, fun _ e1 => .inr (whole_lst e1)⟩
  · refine ⟨_, rfl, ?_, fun _ _ => .inl ⟨_, rfl⟩⟩
    show fL n (10 ^ (30 : Int).toNat) = false
    unfold fL
    have hb : (1000 : Int) < 10 ^ (30 : Int).toNat := by decide +kernel
    rw [decide_eq_false (by omega : ¬ (10 ^ (30 : Int).toNat : Int) ≤ n - 1), Bool.and_false]
end
theorem gd2 (xs ys : List Int) (a b : Int) : ((xs ++ [a, b]) ++ ys).getD xs.length 0 = a ∧ ((xs ++ [a, b]) ++ ys).getD (xs.length + 1) 0 = b := by
  constructor <;> simp [List.getD, List.getElem?_append]
theorem gd1 (xs ys : List Int) (a : Int) : ((xs ++ [a]) ++ ys).getD xs.length 0 = a ∧ ((xs ++ [a]) ++ ys).getD (xs.length + 1) 0 = ys.getD 0 0 := by
  constructor
  · simp [List.getD, List.getElem?_append]
  · simp [List.getD, List.getElem?_append]
    rw [if_neg (by omega)]
section
variable {P : Program} {w : World} {K : PySem.W.Frag} {mg : Str → Option Value} {base : Heap}
/-! _law_spoiled_row -/
/-- what is new in H' is there in H'' -/
def New (H H' H'' : Hp) : Prop := ∀ b o, H b = none → H' b = some o → H'' b = some o
def spSpoil (K : PySem.W.Frag) : Sp := fun vs H Q _ => ∃ (b : Addr) (n : Nat) (c : Int) (ls : List Int), vs = [.ref b, .int n, .int c] ∧ H b = some (.lst (ls.map V.int)) ∧ 1 ≤ n ∧ n ≤ 60 ∧ ls.length ≤ 60 ∧ (∀ y ∈ ls, 0 ≤ y ∧ y < n) ∧ ∀ v H', Same H H' → (∀ H'', New H H' H'' → Spoil K n ls H'' v) → Q v H'
theorem scSpoil : FnScope ["_law_row", "_law_many", "_law_cell", "_law_way", "_law_at", "_law_some"] ["_law_row", "_law_many", "_law_cell"] (defScope (top 45)) := ⟨rfl, rfl, rfl, by decide +kernel, rfl, by decide +kernel, by decide +kernel⟩
set_option maxHeartbeats 4000000 in
theorem f_spoil (D : Def K mg "_law_spoiled_row" (top 45) ["_law_row", "_law_many", "_law_cell"]) (T : Txt K mg) : Fu P w K mg base CX0 1 "_law_spoiled_row" ["_law_row", "_law_many", "_law_cell"] (spSpoil K) := by
  refine D.fu scSpoil (fun vs H Q E h => ?_) (fun f cdv A outer s H vs Q E hr h => ?_)
  · obtain ⟨b, n, c, ls, rfl, _⟩ := h
    rfl
  · obtain ⟨b, n, c, ls, rfl, hq, n1, n60, l60, hin, kk⟩ := h
    refine ⟨_, pss_cons (ps_set (i := 3) scSpoil.nd rfl (Or.inl rfl) (pe_op op_mod (pe_op op_mod (pe_op op_mul (pv 2) pe_int) pe_int) pe_int))
      (pss_cons (ps_set (i := 4) scSpoil.nd rfl (Or.inl rfl) (pe_op op_mod (pe_op op_mod (pe_op op_mul (pv 2) pe_int) pe_int) (pe_op op_add (p_len T.len (pv 0)) pe_int)))
      (pss_cons (ps_set (i := 5) scSpoil.nd rfl (Or.inl rfl) (pe_lst (pa_cons (pe_un un_neg pe_int) (pa_cons (pv 1) (pa_cons pe_bl (pa_cons pe_non (pa_cons pe_str (pa_cons (pe_lst (pa_cons pe_int pa_nil)) (pa_cons (pe_op op_pow pe_int pe_int) pa_nil)))))))))
      (pss_cons (ps_if (pt_cmpR op_lt (pv 3) pe_int (nomark _))
        (pss_one (ps_ret (pe_op op_cat (pe_op op_cat (pe_slice sl_list (pv 0) po_none (po_some (pv 4))) (pe_lst (pa_cons (pe_ix ix_list (pv 5) (pv 3) (fun _ _ => rfl)) pa_nil))) (pe_slice sl_list (pv 0) (po_some (pv 4)) po_none)))) pss_nil)
      (pss_cons (ps_if (pw_or (pt_cmpR op_lt (p_len T.len (pv 0)) pe_int (nomark _)) (pw_or1 (pt_cmpR op_ge (pe_op op_add (pv 4) pe_int) (p_len T.len (pv 0)) (nomark _)))).pt
        (pss_one (ps_ret (pe_op op_cat (pv 0) (pe_lst (pa_cons (pe_op op_sub (pv 1) pe_int) (pa_cons (pe_op op_sub (pv 1) pe_int) pa_nil)))))) pss_nil)
      (pss_cons (ps_if (pt_cmpR op_eq (pv 3) pe_int (nomark _))
        (pss_one (ps_ret (pe_op op_cat (pe_op op_cat (pe_slice sl_list (pv 0) po_none (po_some (pv 4))) (pe_lst (pa_cons (pe_ix ix_list (pv 0) (pe_op op_add (pv 4) pe_int) (fun _ _ => rfl)) (pa_cons (pe_ix ix_list (pv 0) (pv 4) (fun _ _ => rfl)) pa_nil)))) (pe_slice sl_list (pv 0) (po_some (pe_op op_add (pv 4) pe_int)) po_none)))) pss_nil)
      (pss_one (ps_ret (pe_op op_cat (pe_op op_cat (pe_slice sl_list (pv 0) po_none (po_some (pv 4))) (pe_lst (pa_cons (pe_ix ix_list (pv 0) (pv 4) (fun _ _ => rfl)) pa_nil))) (pe_slice sl_list (pv 0) (po_some (pv 4)) po_none))))))))), ?_⟩
    have hl : (0 : Int) < (((ls.map V.int).length : Nat) : Int) + 1 := by omega
    refine ⟨_, rfl, _, _, rfl, rfl, .inr (by constructor <;> decide), _, _, rfl, rfl, (by show (0 : Int) < 2147483647; decide), _, _, rfl, rfl, (by show (0 : Int) < 9; decide), ?_⟩
    refine ⟨_, rfl, _, _, rfl, rfl, .inr (by constructor <;> decide), _, _, rfl, rfl, (by show (0 : Int) < 2147483647; decide), _, rfl, b, _, rfl, .inl (SqL.of hq), _, _, rfl, rfl, _, _, rfl, rfl, hl, ?_⟩
    have w0 : 0 ≤ c * 1226874159 % 2147483647 % 9 := by omega
    have w1 : c * 1226874159 % 2147483647 % 9 < 9 := by omega
    have t0 : 0 ≤ c * 742938285 % 2147483647 % ((((ls.map V.int).length : Nat) : Int) + 1) := Int.emod_nonneg _ (by omega)
    have t1 : c * 742938285 % 2147483647 % ((((ls.map V.int).length : Nat) : Int) + 1) < ls.length + 1 := by
      have := Int.emod_lt_of_pos (c * 742938285 % 2147483647) hl
      rw [List.length_map] at this ⊢
      exact this
    dsimp only
    generalize c * 1226874159 % 2147483647 % 9 = wy at w0 w1 ⊢
    generalize c * 742938285 % 2147483647 % ((((ls.map V.int).length : Nat) : Int) + 1) = at0 at t0 t1 ⊢
    refine ⟨_, rfl, _, rfl, (by show 1 ≤ sizeLine; decide), fun p1 m1' => ⟨_, _, rfl, rfl, cpow _ _ (by decide +kernel), (by show 7 ≤ sizeLine; decide), fun d nd => ?_⟩⟩
    have s1 := Same.new (o := .lst [.int 0]) m1'
    have s2 := Same.new (o := .lst [V.int (-1), .int (n : Int), .bl true, .non, .str "0", .ref p1, .int (10 ^ (30 : Int).toNat)]) nd
    have s12 := s1.trans s2
    have ep : upd (upd H p1 (.lst [.int 0])) d (.lst [V.int (-1), .int (n : Int), .bl true, .non, .str "0", .ref p1, .int (10 ^ (30 : Int).toNat)]) p1 = some (.lst [.int 0]) := s2 _ _ upd_same
    have ed : upd (upd H p1 (.lst [.int 0])) d (.lst [V.int (-1), .int (n : Int), .bl true, .non, .str "0", .ref p1, .int (10 ^ (30 : Int).toNat)]) d = some (.lst [V.int (-1), .int (n : Int), .bl true, .non, .str "0", .ref p1, .int (10 ^ (30 : Int).toNat)]) := upd_same
    have hq2 := s12 _ _ hq
    generalize upd (upd H p1 (.lst [.int 0])) d (.lst [V.int (-1), .int (n : Int), .bl true, .non, .str "0", .ref p1, .int (10 ^ (30 : Int).toNat)]) = H2 at s12 ep ed hq2 ⊢
    clear s1 s2
    refine ⟨_, rfl, _, _, rfl, rfl, _, rfl, ite2 (fun hw => ?_) (fun hw => ?_)⟩
    · have hw : wy < 7 := of_decide_eq_true hw
      obtain ⟨y, ey, fy, iy⟩ := ix7 (K := K) (n := n) (p1 := p1) n60 (x := "0") w0 hw
      refine ⟨_, rfl, _, rfl, _, rfl, b, _, rfl, SqL.of hq2, fun e1 m1 => ?_⟩
      rw [cut_takeI ls t0]
      have s3 := Same.new (o := .lst ((ls.take at0.toNat).map V.int)) m1
      refine ⟨_, rfl, _, rfl, d, _, _, _, rfl, rfl, SqL.of (s3 _ _ ed), ey, (by show 1 ≤ sizeLine; decide), fun e2 m2 => ?_⟩
      have s4 := Same.new (o := .lst [y]) m2
      refine ⟨e1, e2, _, _, rfl, rfl, s4 _ _ upd_same, upd_same, (by rw [sizeLine_eq]; simp; omega), fun e3 m3 => ?_⟩
      have s5 := Same.new (o := .lst ((ls.take at0.toNat).map V.int ++ [y])) m3
      refine ⟨_, rfl, _, rfl, _, rfl, b, _, rfl, SqL.of (s5 _ _ (s4 _ _ (s3 _ _ hq2))), fun e4 m4 => ?_⟩
      rw [cut_dropI ls t0]
      have s6 := Same.new (o := .lst ((ls.drop at0.toNat).map V.int)) m4
      have hlen : (ls.take at0.toNat).length + 1 + (ls.drop at0.toNat).length ≤ 61 := by simp; omega
      refine ⟨e3, e4, _, _, rfl, rfl, s6 _ _ upd_same, upd_same, (by rw [sizeLine_eq]; simp at hlen ⊢; omega), fun e5 m5 => ?_⟩
      have s7 := Same.new (o := .lst (((ls.take at0.toNat).map V.int ++ [y]) ++ (ls.drop at0.toNat).map V.int)) m5
      have sz := ((((s3.trans s4).trans s5).trans s6).trans s7)
      refine kk _ _ (s12.trans sz) (fun H'' nw => .inl (NoLn.mk (nw _ _ ((s12.trans (((s3.trans s4).trans s5).trans s6)).free m5) upd_same) (by simp at hlen ⊢; omega) (fun z hz => ?_) (y := y) (by simp) fy))
      rcases List.mem_append.mp hz with hz | hz
      · rcases List.mem_append.mp hz with hz | hz
        · exact itm_ints _ z hz
        · rw [List.mem_singleton.mp hz]; exact iy H'' (nw _ _ m1' (sz _ _ ep))
      · exact itm_ints _ z hz
    · have tail : ∀ (p : Addr) (zs : List Int) (H4 : Hp), Same H2 H4 → H4 p = none → zs.length ≤ 100 → (∀ y ∈ zs, 0 ≤ y ∧ y < (n : Int)) → Sp2 ls zs → ∀ xs : List V, xs = zs.map V.int → Q (.ref p) (upd H4 p (.lst xs)) := fun p zs H4 sm fp l r sp xs ex => kk _ _ ((s12.trans sm).trans (Same.new fp)) (fun H'' nw => .inr ⟨p, zs, rfl, nw _ _ ((s12.trans sm).free fp) (upd_same.trans (by rw [ex])), l, r, sp⟩)
      refine ⟨_, rfl, b, _, rfl, .inl (SqL.of hq2), _, _, rfl, rfl, _, rfl, ite2 (fun _ => ?_) (fun hw2 => ⟨_, rfl, _, _, rfl, rfl, _, rfl, b, _, rfl, .inl (SqL.of hq2), _, _, rfl, rfl, _, rfl, ite2 (fun _ => ?_) (fun hw3 => ?_)⟩)⟩
      · refine ⟨_, rfl, _, rfl, _, _, rfl, rfl, _, rfl, _, _, rfl, rfl, (by show 2 ≤ sizeLine; decide), fun e1 m1 => ?_⟩
        have s3 := Same.new (o := .lst [V.int (n - 1), .int (n - 1)]) m1
        refine ⟨b, e1, _, _, rfl, rfl, s3 _ _ hq2, upd_same, (by rw [sizeLine_eq]; simp; omega), fun e2 m2 => ?_⟩
        refine tail e2 (ls ++ [(n : Int) - 1, n - 1]) _ s3 m2 (by simp; omega) (fun y hy => ?_) ⟨ls.length, by simp, .inl (by simp [List.getD])⟩ _ (by simp)
        rcases List.mem_append.mp hy with hy | hy
        · exact hin y hy
        · simp at hy; omega
      · refine ⟨_, rfl, _, rfl, _, _, rfl, rfl, _, rfl, _, _, rfl, rfl, (by show 2 ≤ sizeLine; decide), fun e1 m1 => ?_⟩
        have s3 := Same.new (o := .lst [V.int (n - 1), .int (n - 1)]) m1
        refine ⟨b, e1, _, _, rfl, rfl, s3 _ _ hq2, upd_same, (by rw [sizeLine_eq]; simp; omega), fun e2 m2 => ?_⟩
        refine tail e2 (ls ++ [(n : Int) - 1, n - 1]) _ s3 m2 (by simp; omega) (fun y hy => ?_) ⟨ls.length, by simp, .inl (by simp [List.getD])⟩ _ (by simp)
        rcases List.mem_append.mp hy with hy | hy
        · exact hin y hy
        · simp at hy; omega
      obtain ⟨k, rfl⟩ := Int.eq_ofNat_of_zero_le t0
      have hk : k + 1 < ls.length := by
        have h3 : ¬ ((k : Int) + 1 ≥ (((ls.map V.int).length : Nat) : Int)) := fun z => hw3 (decide_eq_true z)
        rw [List.length_map] at h3
        omega
      have ek : (k : Int).toNat = k := by omega
      have ek1 : ((k : Int) + 1).toNat = k + 1 := by omega
      have ek2 : ((k : Int) + 2).toNat = k + 2 := by omega
      have tl : (ls.take k).length = k := by simp; omega
      have inr : ∀ j, j < ls.length → 0 ≤ ls.getD j 0 ∧ ls.getD j 0 < (n : Int) := fun j hj => hin _ (by simp [List.getD, hj])
      have inT : ∀ y ∈ ls.take k, 0 ≤ y ∧ y < (n : Int) := fun y hy => hin y (List.mem_of_mem_take hy)
      refine ⟨_, rfl, rfl, _, rfl, ite2 (fun _ => ?_) (fun hw4 => ?_)⟩
      · refine ⟨_, rfl, _, rfl, _, rfl, b, _, rfl, SqL.of hq2, fun e1 m1 => ?_⟩
        rw [cut_takeI ls t0]
        have s3 := Same.new (o := .lst ((ls.take (k : Int).toNat).map V.int)) m1
        refine ⟨_, rfl, _, rfl, _, _, rfl, rfl, b, _, _, _, rfl, rfl, SqL.of (s3 _ _ hq2), atI_int (by omega) (by omega), _, rfl, _, rfl, b, _, _, _, rfl, rfl, SqL.of (s3 _ _ hq2), atI_int t0 (by omega), (by show 2 ≤ sizeLine; decide), fun e2 m2 => ?_⟩
        have s4 := Same.new (o := .lst [V.int (ls.getD ((k : Int) + 1).toNat 0), .int (ls.getD (k : Int).toNat 0)]) m2
        refine ⟨e1, e2, _, _, rfl, rfl, s4 _ _ upd_same, upd_same, (by rw [sizeLine_eq]; simp; omega), fun e3 m3 => ?_⟩
        have s5 := Same.new (o := .lst ((ls.take (k : Int).toNat).map V.int ++ [V.int (ls.getD ((k : Int) + 1).toNat 0), .int (ls.getD (k : Int).toNat 0)])) m3
        refine ⟨_, rfl, _, rfl, _, _, rfl, rfl, _, rfl, b, _, rfl, SqL.of (s5 _ _ (s4 _ _ (s3 _ _ hq2))), fun e4 m4 => ?_⟩
        rw [cut_dropI ls (by omega : (0 : Int) ≤ k + 2)]
        have s6 := Same.new (o := .lst ((ls.drop ((k : Int) + 2).toNat).map V.int)) m4
        refine ⟨e3, e4, _, _, rfl, rfl, s6 _ _ upd_same, upd_same, (by rw [sizeLine_eq]; simp; omega), fun e5 m5 => ?_⟩
        have gd := gd2 (ls.take k) (ls.drop (k + 2)) (ls.getD (k + 1) 0) (ls.getD k 0)
        rw [tl] at gd
        refine tail e5 ((ls.take k ++ [ls.getD (k + 1) 0, ls.getD k 0]) ++ ls.drop (k + 2)) _ (((s3.trans s4).trans s5).trans s6) m5 (by simp; omega) (fun y hy => ?_) ⟨k, by simp; omega, .inr ⟨k, hk, gd.1, gd.2⟩⟩ _ (by rw [ek, ek1, ek2]; simp)
        rcases List.mem_append.mp hy with hy | hy
        · rcases List.mem_append.mp hy with hy | hy
          · exact inT y hy
          · simp only [List.mem_cons, List.not_mem_nil, or_false] at hy
            rcases hy with rfl | rfl
            · exact inr _ hk
            · exact inr _ (by omega)
        · exact hin y (List.mem_of_mem_drop hy)
      · refine ⟨_, rfl, _, rfl, _, rfl, b, _, rfl, SqL.of hq2, fun e1 m1 => ?_⟩
        rw [cut_takeI ls t0]
        have s3 := Same.new (o := .lst ((ls.take (k : Int).toNat).map V.int)) m1
        refine ⟨_, rfl, _, rfl, b, _, _, _, rfl, rfl, SqL.of (s3 _ _ hq2), atI_int t0 (by omega), (by show 1 ≤ sizeLine; decide), fun e2 m2 => ?_⟩
        have s4 := Same.new (o := .lst [V.int (ls.getD (k : Int).toNat 0)]) m2
        refine ⟨e1, e2, _, _, rfl, rfl, s4 _ _ upd_same, upd_same, (by rw [sizeLine_eq]; simp; omega), fun e3 m3 => ?_⟩
        have s5 := Same.new (o := .lst ((ls.take (k : Int).toNat).map V.int ++ [V.int (ls.getD (k : Int).toNat 0)])) m3
        refine ⟨_, rfl, _, rfl, _, rfl, b, _, rfl, SqL.of (s5 _ _ (s4 _ _ (s3 _ _ hq2))), fun e4 m4 => ?_⟩
        rw [cut_dropI ls t0]
        have s6 := Same.new (o := .lst ((ls.drop (k : Int).toNat).map V.int)) m4
        refine ⟨e3, e4, _, _, rfl, rfl, s6 _ _ upd_same, upd_same, (by rw [sizeLine_eq]; simp; omega), fun e5 m5 => ?_⟩
        have gd := gd1 (ls.take k) (ls.drop k) (ls.getD k 0)
        rw [tl] at gd
        have gk : (ls.drop k).getD 0 0 = ls.getD k 0 := by simp [List.getD]
        refine tail e5 ((ls.take k ++ [ls.getD k 0]) ++ ls.drop k) _ (((s3.trans s4).trans s5).trans s6) m5 (by simp; omega) (fun y hy => ?_) ⟨k, by simp; omega, .inl (by rw [gd.1, gd.2, gk])⟩ _ (by rw [ek]; simp)
        rcases List.mem_append.mp hy with hy | hy
        · rcases List.mem_append.mp hy with hy | hy
          · exact inT y hy
          · rw [List.mem_singleton.mp hy]; exact inr _ (by omega)
        · exact hin y (List.mem_of_mem_drop hy)
/-! _law_no_picture -/
theorem pic_lens {rk l0 l1 pl : List Int} {v : V} (g : GoodRk rk) (ok : PicOk rk l0 l1 pl v) : l0.length ≤ 60 ∧ l1.length ≤ 60 ∧ pl.length ≤ 60 := by
  have f : ∀ l : List Int, Up l → (∀ x ∈ l, 0 ≤ x ∧ x < (rk.length : Int)) → l.length ≤ 60 := fun l u r => Nat.le_trans (pigeon rk.length l ((up_pw u).imp fun {x y} q e => by subst e; omega) r) g.2.1
  exact ⟨f _ ok.u0 ok.i0, f _ ok.u1 ok.i1, (mk_ok g.1 g.2.1 g.2.2 ok).plen⟩
/-- one of the three rows, and what a spoiled one in its place makes -/
theorem pic_at {H : Hp} {t p0 p1 p2 : Addr} {rk l0 l1 pl : List Int} {v : V} {i : Int} (h0 : 0 ≤ i) (h3 : i < 3) (g : GoodRk rk) (ok : PicOk rk l0 l1 pl v) (S : ScAt H t p0 p1 p2 l0 l1 pl v) :
    ∃ (p : Addr) (ls : List Int), atI [V.ref p0, .ref p1, .ref p2, v] i = some (.ref p) ∧ ixN 4 i = some i.toNat ∧ H p = some (.lst (ls.map V.int)) ∧ ls.length ≤ 60 ∧ (∀ y ∈ ls, 0 ≤ y ∧ y < (rk.length : Int)) ∧
      ∀ (y : V) (H' : Hp) (u : Addr), Same H H' → Spoil K rk.length ls H' y → H' u = some (.tup ([V.ref p0, .ref p1, .ref p2, v].set i.toNat y)) → NoPic K rk H' (.ref u) := by
  obtain ⟨n0, n1, n2⟩ := pic_lens g ok
  have r0 : ∀ H', Same H H' → RowF rk.length Up H' (.ref p0) := fun H' s => ⟨p0, l0, rfl, s _ _ S.e0, by omega, ok.i0, ok.u0⟩
  have r1 : ∀ H', Same H H' → RowF rk.length Up H' (.ref p1) := fun H' s => ⟨p1, l1, rfl, s _ _ S.e1, by omega, ok.i1, ok.u1⟩
  have hi : i = 0 ∨ i = 1 ∨ i = 2 := by omega
  rcases hi with rfl | rfl | rfl
  · exact ⟨p0, l0, rfl, rfl, S.e0, n0, ok.i0, fun y H' u s sp e => .inr (.inr ⟨u, _, _, _, _, rfl, e, .inl (sp.up ok.u0)⟩)⟩
  · exact ⟨p1, l1, rfl, rfl, S.e1, n1, ok.i1, fun y H' u s sp e => .inr (.inr ⟨u, _, _, _, _, rfl, e, .inr (.inl ⟨r0 H' s, sp.up ok.u1⟩)⟩)⟩
  · exact ⟨p2, pl, rfl, rfl, S.e2, n2, ok.i2, fun y H' u s sp e => .inr (.inr ⟨u, _, _, _, _, rfl, e, .inr (.inr (.inl ⟨r0 H' s, r1 H' s, sp.pl ok.u2⟩))⟩)⟩
theorem ixb7 {p1 p2 : Addr} {x : Str} {i : Int} (h0 : 0 ≤ i) (h1 : i < 7) :
    ∃ v, atI [V.int (-1), .int (10 ^ (60 : Int).toNat + 1), .bl true, .bl false, .str x, .ref p1, .ref p2] i = some v ∧ ∀ H' : Hp, H' p1 = some (.lst [.int 0]) → H' p2 = some (.tup [.int 1]) → NoBr K H' v := by
  have hi : i = 0 ∨ i = 1 ∨ i = 2 ∨ i = 3 ∨ i = 4 ∨ i = 5 ∨ i = 6 := by omega
  rcases hi with rfl | rfl | rfl | rfl | rfl | rfl | rfl
  · exact ⟨_, rfl, fun _ e1 e2 => .inl ⟨_, rfl, by omega⟩⟩
  · refine ⟨_, rfl, fun _ _ _ => .inl ⟨_, rfl, fun h => ?_⟩⟩
    have : (10 : Int) ^ (60 : Int).toNat = M60 := rfl
    omega
  · exact ⟨_, rfl, fun _ e1 e2 => .inr ⟨whole_bl _, by intro z; cases z⟩⟩
  · exact ⟨_, rfl, fun _ e1 e2 => .inr ⟨whole_bl _, by intro z; cases z⟩⟩
  · exact ⟨_, rfl, fun _ e1 e2 => .inr ⟨whole_str _, by intro z; cases z⟩⟩
  · exact ⟨_, rfl, fun _ e1 e2 => .inr ⟨whole_lst e1, by intro z; cases z⟩⟩
  · exact ⟨_, rfl, fun _ e1 e2 => .inr ⟨whole_tup e2, by intro z; cases z⟩⟩
def spNoPc (K : PySem.W.Frag) : Sp := fun vs H Q _ => ∃ (t p0 p1 p2 : Addr) (c : Int) (rk l0 l1 pl : List Int) (v : V), vs = [.ref t, .int rk.length, .int c] ∧ GoodRk rk ∧ PicOk rk l0 l1 pl v ∧ ScAt H t p0 p1 p2 l0 l1 pl v ∧ ∀ y H', Same H H' → NoPic K rk H' y → y ≠ .non → Q y H'
theorem scNoPc : FnScope ["_law_picture", "_law_many", "_law_cell", "_law_way", "_law_parts"] ["_law_picture", "_law_many", "_law_cell"] (defScope (top 46)) := ⟨rfl, rfl, rfl, by decide +kernel, rfl, by decide +kernel, by decide +kernel⟩
set_option maxHeartbeats 4000000 in
theorem f_noPc (D : Def K mg "_law_no_picture" (top 46) ["_law_picture", "_law_many", "_law_cell"]) (T : Txt K mg) (GS : Fu P w K mg base CX0 1 "_law_spoiled_row" ["_law_row", "_law_many", "_law_cell"] (spSpoil K)) : Fu P w K mg base CX0 2 "_law_no_picture" ["_law_picture", "_law_many", "_law_cell"] (spNoPc K) := by
  refine D.fu scNoPc (fun vs H Q E h => ?_) (fun f cdv A outer s H vs Q E hr h => ?_)
  · obtain ⟨t, p0, p1, p2, c, rk, l0, l1, pl, v, rfl, _⟩ := h
    rfl
  · obtain ⟨t, p0, p1, p2, c, rk, l0, l1, pl, v, rfl, g, ok, S, kk⟩ := h
    refine ⟨_, pss_cons (ps_set (i := 3) scNoPc.nd rfl (Or.inl rfl) (pe_op op_mod (pe_op op_mod (pe_op op_mul (pv 2) pe_int) pe_int) pe_int))
      (pss_cons (ps_set (i := 4) scNoPc.nd rfl (Or.inl rfl) (p_list T.list (pv 0)))
      (pss_cons (ps_if (pt_cmpR op_lt (pv 3) pe_int (nomark _))
        (pss_cons (ps_asg (p_tuple (K := K) T.tuple (pe_ix ix_tup (pv 0) (pv 3) (fun _ _ => rfl))) (pg_sub (pv 4) (pv 3) set_list)) (pss_one (ps_ret (p_tuple (K := K) T.tuple (pv 4))))) pss_nil)
      (pss_cons (ps_if (pt_cmpR op_lt (pv 3) pe_int (nomark _))
        (pss_cons (ps_asg (pc GS hr pass0 (pa_cons (pe_ix ix_tup (pv 0) (pe_op op_mod (pv 3) pe_int) (fun _ _ => rfl)) (pa_cons (pv 1) (pa_cons (pv 2) pa_nil)))) (pg_sub (pv 4) (pe_op op_mod (pv 3) pe_int) set_list)) (pss_one (ps_ret (p_tuple (K := K) T.tuple (pv 4))))) pss_nil)
      (pss_cons (ps_if (pt_cmpR op_lt (pv 3) pe_int (nomark _))
        (pss_cons (ps_asg (pe_ix ix_list (pe_lst (pa_cons (pe_un un_neg pe_int) (pa_cons (pe_op op_add (pe_op op_pow pe_int pe_int) pe_int) (pa_cons pe_bl (pa_cons pe_bl (pa_cons pe_str (pa_cons (pe_lst (pa_cons pe_int pa_nil)) (pa_cons (pe_tup (pa_cons pe_int pa_nil)) pa_nil)))))))) (pe_op op_mod (pe_op op_mod (pe_op op_mul (pv 2) pe_int) pe_int) pe_int) (fun _ _ => rfl)) (pg_sub (pv 4) pe_int set_list)) (pss_one (ps_ret (p_tuple (K := K) T.tuple (pv 4))))) pss_nil)
      (pss_cons (ps_if (pt_cmpR op_eq (pv 3) pe_int (nomark _)) (pss_one (ps_ret (pv 4))) pss_nil)
      (pss_cons (ps_if (pt_cmpR op_eq (pv 3) pe_int (nomark _)) (pss_one (ps_ret (p_tuple (K := K) T.tuple (pe_slice sl_list (pv 4) po_none (po_some pe_int))))) pss_nil)
      (pss_cons (ps_if (pt_cmpR op_eq (pv 3) pe_int (nomark _)) (pss_one (ps_ret (p_tuple (K := K) T.tuple (pe_op op_cat (pv 4) (pe_lst (pa_cons (pe_ix ix_tup (pv 0) pe_int (fun _ _ => rfl)) pa_nil)))))) pss_nil)
      (pss_one (ps_ret (pe_ix ix_list (pe_lst (pa_cons pe_int (pa_cons pe_str (pa_cons pe_bl (pa_cons pe_dnewK (pa_cons (pe_lst pa_nil) (pa_cons (pe_tup pa_nil) pa_nil))))))) (pe_op op_mod (pe_op op_mod (pe_op op_mul (pv 2) pe_int) pe_int) pe_int) (fun _ _ => rfl))))))))))), ?_⟩
    refine ⟨_, rfl, _, _, rfl, rfl, .inr (by constructor <;> decide), _, _, rfl, rfl, (by show (0 : Int) < 2147483647; decide), _, _, rfl, rfl, (by show (0 : Int) < 16; decide), ?_⟩
    have w0 : 0 ≤ c * 950706376 % 2147483647 % 16 := by omega
    have w1 : c * 950706376 % 2147483647 % 16 < 16 := by omega
    dsimp only
    generalize c * 950706376 % 2147483647 % 16 = wy at w0 w1 ⊢
    refine ⟨_, rfl, t, _, rfl, .inr (SqT.of S.at_), fun d nd => ?_⟩
    have s1 := Same.new (o := .lst [V.ref p0, .ref p1, .ref p2, v]) nd
    have S1 := S.same s1
    have hd : upd H d (.lst [V.ref p0, .ref p1, .ref p2, v]) d = some (.lst [V.ref p0, .ref p1, .ref p2, v]) := upd_same
    have fr : ∀ H', KeepBut [d] (upd H d (.lst [V.ref p0, .ref p1, .ref p2, v])) H' → Same H H' := fun H' k b o e => k b o (s1 b o e) (by simpa using ne_of_none e nd)
    generalize upd H d (.lst [V.ref p0, .ref p1, .ref p2, v]) = H1 at s1 S1 hd fr ⊢
    have Sz : ∀ H', Same H H' → ScAt H' t p0 p1 p2 l0 l1 pl v := fun H' s => S.same s
    have good : ∀ H', Same H H' → RowF rk.length Up H' (.ref p0) ∧ RowF rk.length Up H' (.ref p1) ∧ RowF rk.length (PlUp rk) H' (.ref p2) := fun H' s => ⟨⟨p0, l0, rfl, s _ _ S.e0, ok.n0, ok.i0, ok.u0⟩, ⟨p1, l1, rfl, s _ _ S.e1, ok.n1, ok.i1, ok.u1⟩, ⟨p2, pl, rfl, s _ _ S.e2, ok.n2, ok.i2, ok.u2⟩⟩
    have ne4 : ∀ {u : Addr}, H1 u = none → u ≠ d := fun h => Ne.symm (ne_of_none hd h)
    refine ⟨_, rfl, _, _, rfl, rfl, _, rfl, ite2 (fun hw => ?_) (fun hw => ?_)⟩
    · have hw : wy < 3 := of_decide_eq_true hw
      obtain ⟨p, ls, ea, eix, hp, l60, hin, mkN⟩ := pic_at (K := K) w0 hw g ok S
      refine ⟨_, rfl, _, rfl, t, _, _, _, rfl, rfl, SqT.of S1.at_, ea, p, _, rfl, .inl ⟨SqL.of (s1 _ _ hp), fun u nu => ?_⟩⟩
      have s2 := Same.new (o := .tup (ls.map V.int)) nu
      refine ⟨_, rfl, _, rfl, d, _, _, _, rfl, rfl, s2 _ _ hd, eix, ?_⟩
      refine ⟨_, rfl, d, _, rfl, .inl ⟨SqL.of upd_same, fun z nz => ?_⟩⟩
      have kb : KeepBut [d] H1 (upd (upd H1 u (.tup (ls.map V.int))) d (.lst ([V.ref p0, .ref p1, .ref p2, v].set wy.toNat (.ref u)))) := ((KeepBut.refl _ _).upd (.inr nu)).upd (.inl (by simp))
      have s3 := Same.new (o := .tup ([V.ref p0, .ref p1, .ref p2, v].set wy.toNat (.ref u))) nz
      have sz := (fr _ kb).trans s3
      refine kk _ _ sz (mkN (.ref u) _ z sz (.inl (.inl ⟨_, .tup (xs := ls.map V.int) (s3 _ _ ?_), rfl⟩)) upd_same) (by intro z; cases z)
      rw [upd_ne (ne4 nu)]
      exact upd_same
    refine ⟨_, rfl, _, _, rfl, rfl, _, rfl, ite2 (fun hw2 => ?_) (fun hw2 => ?_)⟩
    · have j0 : 0 ≤ wy % 3 := by omega
      have j3 : wy % 3 < 3 := by omega
      obtain ⟨p, ls, ea, eix, hp, l60, hin, mkN⟩ := pic_at (K := K) j0 j3 g ok S
      refine ⟨_, rfl, _, rfl, _, _, rfl, rfl, (by show (0 : Int) < 3; decide), t, _, _, _, rfl, rfl, SqT.of S1.at_, ea, _, rfl, _, rfl, p, rk.length, c, ls, rfl, s1 _ _ hp, g.1, g.2.1, l60, hin, fun y H2 s2 sp => ?_⟩
      refine ⟨_, rfl, _, rfl, _, _, rfl, rfl, (by show (0 : Int) < 3; decide), d, _, _, _, rfl, rfl, s2 _ _ hd, eix, ?_⟩
      refine ⟨_, rfl, d, _, rfl, .inl ⟨SqL.of upd_same, fun z nz => ?_⟩⟩
      have kb : KeepBut [d] H1 (upd H2 d (.lst ([V.ref p0, .ref p1, .ref p2, v].set (wy % 3).toNat y))) := fun b o e hb => by
        rw [upd_ne (by simpa using hb)]
        exact s2 b o e
      have s3 := Same.new (o := .tup ([V.ref p0, .ref p1, .ref p2, v].set (wy % 3).toNat y)) nz
      have sz := (fr _ kb).trans s3
      refine kk _ _ sz (mkN y _ z sz (sp _ fun b o hb e => s3 _ _ ?_) upd_same) (by intro z; cases z)
      rw [upd_ne (ne4 hb)]
      exact e
    refine ⟨_, rfl, _, _, rfl, rfl, _, rfl, ite2 (fun hw3 => ?_) (fun hw3 => ?_)⟩
    · refine ⟨_, rfl, _, _, rfl, rfl, cpow _ _ (by decide +kernel), _, _, rfl, rfl, (by show 1 ≤ sizeLine; decide), fun q1 m1 => ⟨(by show 1 ≤ sizeLine; decide), fun q2 m2 => ⟨(by show 7 ≤ sizeLine; decide), fun q3 m3 => ?_⟩⟩⟩
      have s2 := Same.new (o := .lst [.int 0]) m1
      have s3 := Same.new (o := .tup [.int 1]) m2
      have s4 := Same.new (o := .lst [V.int (-1), .int (10 ^ (60 : Int).toNat + 1), .bl true, .bl false, .str "0", .ref q1, .ref q2]) m3
      have g1 := (s3.trans s4) _ _ (upd_same (H := H1) (a := q1) (o := .lst [.int 0]))
      have g2 := s4 _ _ (upd_same (H := upd H1 q1 (.lst [.int 0])) (a := q2) (o := .tup [.int 1]))
      have s24 := (s2.trans s3).trans s4
      obtain ⟨y, ey, hy⟩ := ixb7 (K := K) (p1 := q1) (p2 := q2) (x := "0") (i := c * 62089911 % 2147483647 % 7) (by omega) (by omega)
      refine ⟨_, rfl, _, _, rfl, rfl, .inr (by constructor <;> decide), _, _, rfl, rfl, (by show (0 : Int) < 2147483647; decide), _, _, rfl, rfl, (by show (0 : Int) < 7; decide), q3, _, _, _, rfl, rfl, SqL.of upd_same, ey, ?_⟩
      refine ⟨_, rfl, d, _, _, 3, rfl, rfl, s24 _ _ hd, rfl, ?_⟩
      generalize upd (upd (upd H1 q1 (.lst [.int 0])) q2 (.tup [.int 1])) q3 (.lst [V.int (-1), .int (10 ^ (60 : Int).toNat + 1), .bl true, .bl false, .str "0", .ref q1, .ref q2]) = H2 at s24 g1 g2 ⊢
      refine ⟨_, rfl, d, _, rfl, .inl ⟨SqL.of upd_same, fun z nz => ?_⟩⟩
      have kb : KeepBut [d] H1 (upd H2 d (.lst ([V.ref p0, .ref p1, .ref p2, v].set 3 y))) := fun b o e hb => by
        rw [upd_ne (by simpa using hb)]
        exact s24 b o e
      have s5 := Same.new (o := .tup ([V.ref p0, .ref p1, .ref p2, v].set 3 y)) nz
      have sz := (fr _ kb).trans s5
      obtain ⟨r0, r1, r2⟩ := good _ sz
      refine kk _ _ sz (.inr (.inr ⟨z, _, _, _, y, rfl, upd_same, .inr (.inr (.inr ⟨r0, r1, r2, hy _ (s5 _ _ ?_) (s5 _ _ ?_)⟩))⟩)) (by intro z; cases z)
      · rw [upd_ne (ne4 m1)]; exact g1
      · rw [upd_ne (ne4 (s2.free m2))]; exact g2
    refine ⟨_, rfl, rfl, _, rfl, ite2 (fun _ => ?_) (fun hw4 => ?_)⟩
    · exact ⟨_, rfl, kk _ _ s1 (.inl ⟨_, .lst hd, rfl⟩) (by intro z; cases z)⟩
    refine ⟨_, rfl, rfl, _, rfl, ite2 (fun _ => ?_) (fun hw5 => ?_)⟩
    · refine ⟨_, rfl, _, rfl, d, _, rfl, SqL.of hd, fun u nu => ?_⟩
      refine ⟨u, _, rfl, .inl ⟨SqL.of upd_same, fun z nz => ?_⟩⟩
      exact kk _ _ ((s1.trans (Same.new nu)).trans (Same.new nz)) (.inr (.inl ⟨z, _, rfl, upd_same, by show ¬ (3 : Nat) = 4; decide⟩)) (by intro z; cases z)
    refine ⟨_, rfl, rfl, _, rfl, ite2 (fun _ => ?_) (fun hw6 => ?_)⟩
    · refine ⟨_, rfl, _, rfl, t, _, _, _, rfl, rfl, SqT.of S1.at_, rfl, (by show 1 ≤ sizeLine; decide), fun u nu => ?_⟩
      have s2 := Same.new (o := .lst [v]) nu
      refine ⟨d, u, _, _, rfl, rfl, s2 _ _ hd, upd_same, (by show 5 ≤ sizeLine; decide), fun u2 nu2 => ?_⟩
      refine ⟨u2, _, rfl, .inl ⟨SqL.of upd_same, fun z nz => ?_⟩⟩
      exact kk _ _ (((s1.trans s2).trans (Same.new nu2)).trans (Same.new nz)) (.inr (.inl ⟨z, _, rfl, upd_same, by show ¬ (5 : Nat) = 4; decide⟩)) (by intro z; cases z)
    · refine fun q1 m1 => ⟨(by show 0 ≤ sizeLine; decide), fun q2 m2 => ⟨(by show 0 ≤ sizeLine; decide), fun q3 m3 => ⟨(by show 6 ≤ sizeLine; decide), fun q4 m4 => ?_⟩⟩⟩
      have s2 := Same.new (o := .dK []) m1
      have s3 := Same.new (o := .lst []) m2
      have s4 := Same.new (o := .tup []) m3
      have s5 := Same.new (o := .lst [V.int 0, .str "", .bl false, .ref q1, .ref q2, .ref q3]) m4
      have g1 := ((s3.trans s4).trans s5) _ _ (upd_same (H := H1) (a := q1) (o := .dK []))
      have g2 := (s4.trans s5) _ _ (upd_same (H := upd H1 q1 (.dK [])) (a := q2) (o := .lst []))
      have g3 := s5 _ _ (upd_same (H := upd (upd H1 q1 (.dK [])) q2 (.lst [])) (a := q3) (o := .tup []))
      have sz := s1.trans (((s2.trans s3).trans s4).trans s5)
      have i0 : 0 ≤ c * 62089911 % 2147483647 % 6 := by omega
      have i6 : c * 62089911 % 2147483647 % 6 < 6 := by omega
      refine ⟨_, rfl, _, _, rfl, rfl, .inr (by constructor <;> decide), _, _, rfl, rfl, (by show (0 : Int) < 2147483647; decide), _, _, rfl, rfl, (by show (0 : Int) < 6; decide), ?_⟩
      dsimp only
      generalize c * 62089911 % 2147483647 % 6 = i at i0 i6 ⊢
      have g4 : upd (upd (upd (upd H1 q1 (.dK [])) q2 (.lst [])) q3 (.tup [])) q4 (.lst [V.int 0, .str "", .bl false, .ref q1, .ref q2, .ref q3]) q4 = some (.lst [V.int 0, .str "", .bl false, .ref q1, .ref q2, .ref q3]) := upd_same
      generalize upd (upd (upd (upd H1 q1 (.dK [])) q2 (.lst [])) q3 (.tup [])) q4 (.lst [V.int 0, .str "", .bl false, .ref q1, .ref q2, .ref q3]) = H5 at g1 g2 g3 g4 sz ⊢
      have hv : ∃ y, atI [V.int 0, .str "", .bl false, .ref q1, .ref q2, .ref q3] i = some y ∧ NoPic K rk H5 y ∧ y ≠ .non := by
        have hi : i = 0 ∨ i = 1 ∨ i = 2 ∨ i = 3 ∨ i = 4 ∨ i = 5 := by omega
        rcases hi with rfl | rfl | rfl | rfl | rfl | rfl
        · exact ⟨_, rfl, .inl ⟨_, .int 0, rfl⟩, by intro z; cases z⟩
        · exact ⟨_, rfl, .inl ⟨_, .str "", rfl⟩, by intro z; cases z⟩
        · exact ⟨_, rfl, .inl ⟨_, .bl false, rfl⟩, by intro z; cases z⟩
        · exact ⟨_, rfl, .inl ⟨_, .dK g1, rfl⟩, by intro z; cases z⟩
        · exact ⟨_, rfl, .inl ⟨_, .lst g2, rfl⟩, by intro z; cases z⟩
        · exact ⟨_, rfl, .inr (.inl ⟨q3, _, rfl, g3, by decide⟩), by intro z; cases z⟩
      obtain ⟨y, ey, np, hne⟩ := hv
      exact ⟨q4, _, _, y, rfl, rfl, SqL.of g4, ey, kk y _ sz np hne⟩
end
end K07

namespace K07
open PySem L2 L3
theorem rk_a (z : Int) : 0 ≤ z % 4 ∧ z % 4 < M60 := by have := M60_pos; omega
theorem rk_b (z : Int) : 0 ≤ z % 10 ^ (60 : Int).toNat ∧ z % 10 ^ (60 : Int).toNat < M60 := ⟨Int.emod_nonneg _ (by decide), Int.emod_lt_of_pos _ (by decide)⟩
theorem rk_c (z : Int) : 0 ≤ 10 ^ (60 : Int).toNat - 1 - z % 2 ∧ 10 ^ (60 : Int).toNat - 1 - z % 2 < M60 := by
  have h := M60_pos
  have e : (10 : Int) ^ (60 : Int).toNat = M60 := rfl
  rw [e]
  omega
theorem M58 : 59 * ((10 : Int) ^ (58 : Int).toNat + 6) < M60 ∧ 0 < (10 : Int) ^ (58 : Int).toNat := by decide +kernel
theorem rk_d {q : Int} (h0 : 0 ≤ q) (h1 : q ≤ 59) (z : Int) : 0 ≤ q * (10 ^ (58 : Int).toNat + z % 7) ∧ q * (10 ^ (58 : Int).toNat + z % 7) < M60 := by
  obtain ⟨h, h2⟩ := M58
  generalize (10 : Int) ^ (58 : Int).toNat = t at h h2 ⊢
  have e1 : 0 ≤ z % 7 ∧ z % 7 ≤ 6 := by omega
  generalize z % 7 = y at e1 ⊢
  have a1 : 0 ≤ q * (t + y) := Int.mul_nonneg h0 (by omega)
  have a2 : q * (t + y) ≤ 59 * (t + y) := Int.mul_le_mul_of_nonneg_right h1 (by omega)
  have a3 : 59 * (t + y) ≤ 59 * (t + 6) := by omega
  omega
theorem up_nil : Up [] := fun i h => by simp at h
theorem up_snoc {k : Int} {l : List Int} (u : Up l) (h : ∀ x ∈ l, x < k) : Up (l ++ [k]) := by
  intro i hi
  rw [List.length_append, List.length_singleton] at hi
  by_cases h1 : i + 1 < l.length
  · have := u i h1
    simp only [List.getD_eq_getElem?_getD] at this ⊢
    rw [List.getElem?_append_left (by omega), List.getElem?_append_left h1]
    exact this
  · have e : i + 1 = l.length := by omega
    simp only [List.getD_eq_getElem?_getD]
    rw [List.getElem?_append_left (by omega), List.getElem?_append_right (by omega), e]
    have hm := h l[i] (List.getElem_mem (by omega))
    simpa [show i < l.length by omega] using hm
section
variable {P : Program} {w : World} {K : PySem.W.Frag} {mg : Str → Option Value} {base : Heap}
/-! ### _law_cell_at -/
def spCell (K : PySem.W.Frag) : Sp := fun vs H Q _ => ∃ (a : Addr) (ns : List Int) (k : Int), vs = [.ref a, .int k] ∧ LI K H a ns ∧ 0 ≤ k ∧ ∀ c, Q (.int c) H
theorem scCell : FnScope ["_law_script", "_law_k"] ["_law_script", "_law_k"] (defScope (top 38)) := ⟨rfl, rfl, rfl, by decide +kernel, rfl, by decide +kernel, by decide +kernel⟩
theorem f_cell (D : Def K mg "_law_cell_at" (top 38) ["_law_script", "_law_k"]) (T : Txt K mg) : Fu P w K mg base CX0 1 "_law_cell_at" ["_law_script", "_law_k"] (spCell K) := by
  refine D.fu scCell (fun vs H Q E h => ?_) (fun f cdv A outer s H vs Q E hr h => ?_)
  · obtain ⟨a, ns, k, rfl, _⟩ := h
    rfl
  · obtain ⟨a, ns, j, rfl, hq, h0, k⟩ := h
    refine ⟨_, pss_cons (ps_if (pt_cmpR op_lt (pv 1) (p_len T.len (pv 0)) (nomark _)) (pss_one (ps_ret (pe_ix ix_list (pv 0) (pv 1) (fun _ _ => rfl)))) pss_nil) (pss_one (ps_ret pe_int)), ?_⟩
    refine ⟨_, rfl, _, rfl, a, _, rfl, .inl hq, _, _, rfl, rfl, _, rfl, ite2 (fun hlt => ?_) (fun _ => ?_)⟩
    · have hlt := of_decide_eq_true hlt
      rw [List.length_map] at hlt
      exact ⟨_, rfl, _, rfl, a, _, _, _, rfl, rfl, hq, atI_int h0 hlt, k _⟩
    · exact k 0
/-! ### _law_ranks -/
def spRanks (K : PySem.W.Frag) : Sp := fun vs H Q _ => ∃ (a : Addr) (ns : List Int), vs = [.ref a] ∧ LI K H a ns ∧ ∀ (D : Addr) (H' : Hp) (rk : List Int), Same H H' → H D = none → H' D = some (.lst (rk.map V.int)) → 1 ≤ rk.length → rk.length ≤ 60 → (∀ y ∈ rk, 0 ≤ y ∧ y < M60) → Q (.ref D) H'
theorem scRk : FnScope ["_law_script", "_law_cell", "_law_many", "_law_way", "_law_mixed", "_law_ranks_here", "_law_k", "_law_rank"] ["_law_script"] (defScope (top 39)) := ⟨rfl, rfl, rfl, by decide +kernel, rfl, by decide +kernel, by decide +kernel⟩
set_option maxHeartbeats 2000000 in
theorem f_ranks (D : Def K mg "_law_ranks" (top 39) ["_law_script"]) (T : Txt K mg) (GC : Fu P w K mg base CX0 1 "_law_cell_at" ["_law_script", "_law_k"] (spCell K)) : Fu P w K mg base CX0 2 "_law_ranks" ["_law_script"] (spRanks K) := by
  refine D.fu scRk (fun vs H Q E h => ?_) (fun f cdv A outer s H vs Q E hr h => ?_)
  · obtain ⟨a, ns, rfl, _⟩ := h
    rfl
  · obtain ⟨a, ns, rfl, hq, kk⟩ := h
    refine ⟨_, pss_cons (ps_set (i := 1) scRk.nd rfl (Or.inl rfl) (pc GC hr pass0 (pa_cons (pv 0) (pa_cons pe_int pa_nil))))
      (pss_cons (ps_set (i := 2) scRk.nd rfl (Or.inl rfl) (pe_op op_add pe_int (pe_op op_mod (pe_op op_mod (pe_op op_mul (pv 1) pe_int) pe_int) pe_int)))
      (pss_cons (ps_if (pt_cmpR op_eq (pe_op op_mod (pv 1) pe_int) pe_int (nomark _)) (pss_one (ps_set (i := 2) scRk.nd rfl (Or.inl rfl) (pe_op op_add pe_int (pe_op op_mod (pe_op op_mod (pe_op op_mul (pv 1) pe_int) pe_int) pe_int)))) pss_nil)
      (pss_cons (ps_set (i := 3) scRk.nd rfl (Or.inl rfl) (pe_op op_mod (pc GC hr pass0 (pa_cons (pv 0) (pa_cons pe_int pa_nil))) pe_int))
      (pss_cons (ps_set (i := 4) scRk.nd rfl (Or.inl rfl) (pe_op op_add pe_int (pe_op op_mod (pe_op op_mul (pc GC hr pass0 (pa_cons (pv 0) (pa_cons pe_int pa_nil))) pe_int) pe_int)))
      (pss_cons (ps_set (i := 5) scRk.nd rfl (Or.inl rfl) (pe_lst pa_nil))
      (pss_cons (ps_for PassesOwn.never rfl (pi_range1 rfl T.range (pa_cons (pv 2) pa_nil)) (pg_name (i := 6) scRk.nd rfl (Or.inl rfl))
        (pss_cons (ps_set (i := 4) scRk.nd rfl (Or.inl rfl) (pe_op op_mod (pe_op op_add (pe_op op_mul (pv 4) pe_int) (pv 6)) pe_int))
        (pss_cons (ps_set (i := 7) scRk.nd rfl (Or.inl rfl) (pe_op op_mod (pv 4) pe_int))
        (pss_cons (ps_if (pt_cmpR op_eq (pv 3) pe_int (nomark _)) (pss_one (ps_set (i := 7) scRk.nd rfl (Or.inl rfl) (pe_op op_mod (pc GC hr pass0 (pa_cons (pv 0) (pa_cons (pe_op op_add pe_int (pv 6)) pa_nil))) (pe_op op_pow pe_int pe_int)))) pss_nil)
        (pss_cons (ps_if (pt_cmpR op_eq (pv 3) pe_int (nomark _)) (pss_one (ps_set (i := 7) scRk.nd rfl (Or.inl rfl) (pe_op op_mod (pe_op op_pow (pv 4) pe_int) (pe_op op_pow pe_int pe_int)))) pss_nil)
        (pss_cons (ps_if (pw_and (pt_cmpR op_eq (pv 3) pe_int (nomark _)) (pw_and1 (pt_cmpR op_eq (pe_op op_mod (pv 4) pe_int) pe_int (nomark _)))).pt (pss_one (ps_set (i := 7) scRk.nd rfl (Or.inl rfl) (pe_op op_sub (pe_op op_sub (pe_op op_pow pe_int pe_int) pe_int) (pe_op op_mod (pe_op op_fdiv (pv 4) pe_int) pe_int)))) pss_nil)
        (pss_cons (ps_if (pt_cmpR op_eq (pv 3) pe_int (nomark _)) (pss_one (ps_set (i := 7) scRk.nd rfl (Or.inl rfl) (pe_op op_mul (pe_op op_sub pe_int (pv 6)) (pe_op op_add (pe_op op_pow pe_int pe_int) (pe_op op_mod (pv 4) pe_int))))) pss_nil)
        (pss_one (ps_expr (pe_bm PySem.F.plainAttrs_list PySem.F.slot_list_append PySem.F.type_list_append mt_append (pv 5) (pa_cons (pv 7) pa_nil)))))))))))
      (pss_one (ps_ret (pv 5))))))))), ?_⟩
    refine ⟨_, rfl, a, ns, 0, rfl, hq, by omega, fun c => ?_⟩
    refine ⟨_, rfl, _, _, rfl, rfl, .inr (by constructor <;> decide), _, _, rfl, rfl, (by show (0 : Int) < 2147483647; decide), _, _, rfl, rfl, (by show (0 : Int) < 12; decide), _, _, rfl, rfl, ?_⟩
    refine seq_gen fun N0 h0 => h0 _ _ (seq_gen fun NA hA => ?_)
    have mid : ∀ m : Int, 1 ≤ m → m ≤ 60 → NA [some (.ref a), some (.int c), some (.int m), none, none, none, none, none] H := by
      intro m m1 m60
      apply hA
      refine ⟨_, rfl, a, ns, 1, rfl, hq, by omega, fun c1 => ⟨_, _, rfl, rfl, (by show (0 : Int) < 4; decide), ?_⟩⟩
      refine ⟨_, rfl, a, ns, 1, rfl, hq, by omega, fun c2 => ⟨_, _, rfl, rfl, .inr (by constructor <;> decide), _, _, rfl, rfl, (by show (0 : Int) < 2147483647; decide), _, _, rfl, rfl, ?_⟩⟩
      refine ⟨(by show 0 ≤ sizeLine; decide), fun d hd => ?_⟩
      refine ⟨_, rfl, _, rfl, by omega, by omega, ?_⟩
      refine for_range (n := m.toNat) (fun i σ H' => ∃ (rk : List Int) (q : Int) (v6 v7 : Option V), σ = [some (.ref a), some (.int c), some (.int m), some (.int (c1 % 4)), some (.int q), some (.ref d), v6, v7] ∧ 0 ≤ q ∧ q < 2147483649 ∧ Same H H' ∧ H' d = some (.lst (rk.map V.int)) ∧ rk.length = i ∧ ∀ y ∈ rk, 0 ≤ y ∧ y < M60)
        ⟨[], _, none, none, rfl, by omega, by omega, Same.new hd, upd_same, rfl, by simp⟩ ?_ ?_
      · rintro i σ H' hi ⟨rk, q, v6, v7, rfl, q0, q1, sm, hD, hlen, hall⟩
        have hq' := sm.seq hq
        refine ⟨_, rfl, _, _, rfl, rfl, .inr (by constructor <;> decide), _, rfl, _, _, rfl, rfl, _, _, rfl, rfl, (by show (0 : Int) < 2147483647; decide), ?_⟩
        have q20 : 0 ≤ (q * 48271 + (0 + (i : Int))) % 2147483647 ∧ (q * 48271 + (0 + (i : Int))) % 2147483647 < 2147483647 := by omega
        refine ⟨_, rfl, _, _, rfl, rfl, (by show (0 : Int) < 4; decide), ?_⟩
        refine seq_gen fun N0 h0 => h0 _ _ (seq_gen fun N1 h1 => ?_)
        have j1 : ∀ z : Int, (0 ≤ z ∧ z < M60) → N1 [some (.ref a), some (.int c), some (.int m), some (.int (c1 % 4)), some (.int ((q * 48271 + (0 + (i : Int))) % 2147483647)), some (.ref d), some (.int (0 + (i : Int))), some (.int z)] H' := by
          intro z hz
          apply h1
          refine seq_gen fun N2 h2 => ?_
          have j2 : ∀ z : Int, (0 ≤ z ∧ z < M60) → N2 [some (.ref a), some (.int c), some (.int m), some (.int (c1 % 4)), some (.int ((q * 48271 + (0 + (i : Int))) % 2147483647)), some (.ref d), some (.int (0 + (i : Int))), some (.int z)] H' := by
            intro z hz
            apply h2
            refine seq_gen fun N3 h3 => ?_
            have j3 : ∀ z : Int, (0 ≤ z ∧ z < M60) → N3 [some (.ref a), some (.int c), some (.int m), some (.int (c1 % 4)), some (.int ((q * 48271 + (0 + (i : Int))) % 2147483647)), some (.ref d), some (.int (0 + (i : Int))), some (.int z)] H' := by
              intro z hz
              apply h3
              refine seq_gen fun N4 h4 => ?_
              have j4 : ∀ z : Int, (0 ≤ z ∧ z < M60) → N4 [some (.ref a), some (.int c), some (.int m), some (.int (c1 % 4)), some (.int ((q * 48271 + (0 + (i : Int))) % 2147483647)), some (.ref d), some (.int (0 + (i : Int))), some (.int z)] H' := by
                intro z hz
                apply h4
                have hsz : (rk.map V.int).length < sizeLine := by rw [List.length_map, sizeLine_eq]; omega
                refine ⟨_, rfl, .inl ⟨rfl, _, SqL.of hD⟩, _, rfl, d, _, _, rfl, rfl, hD, hsz, ?_⟩
                exact ⟨rk ++ [z], ((q * 48271 + (0 + (i : Int))) % 2147483647), _, _, rfl, by omega, by omega, fun b o e => by rw [upd_ne (ne_of_none e hd)]; exact sm b o e, upd_same.trans (by simp), by simp [hlen], fun y hy => by
                  rcases List.mem_append.mp hy with p | p
                  · exact hall y p
                  · rw [List.mem_singleton.mp p]; exact hz⟩
              refine ⟨_, rfl, rfl, _, rfl, ite2 (fun _ => ?_) (fun _ => j4 z hz)⟩
              refine ⟨_, rfl, _, _, rfl, rfl, _, _, rfl, rfl, cpow _ _ (by decide +kernel), _, rfl, _, _, rfl, rfl, (by show (0 : Int) < 7; decide), _, _, rfl, rfl, _, _, rfl, rfl, .inl ?_, ?_⟩
              · constructor <;> omega
              · exact j4 _ (rk_d (by omega) (by omega) _)
            refine ⟨_, rfl, rfl, _, rfl, ite2 (fun _ => ?_) (fun _ => iteF (j3 z hz))⟩
            refine ⟨_, rfl, _, _, rfl, rfl, (by show (0 : Int) < 9; decide), rfl, _, rfl, ite2 (fun _ => ?_) (fun _ => j3 z hz)⟩
            refine ⟨_, _, rfl, rfl, cpow _ _ (by decide +kernel), _, _, rfl, rfl, _, rfl, _, _, rfl, rfl, ⟨by decide, by decide⟩, _, _, rfl, rfl, (by show (0 : Int) < 2; decide), _, _, rfl, rfl, j3 _ (rk_c _)⟩
          refine ⟨_, rfl, rfl, _, rfl, ite2 (fun _ => ?_) (fun _ => j2 z hz)⟩
          exact ⟨_, rfl, _, _, rfl, rfl, ⟨by decide, by decide, by omega⟩, _, _, rfl, rfl, cpow _ _ (by decide +kernel), _, _, rfl, rfl, (by show (0 : Int) < 10 ^ (60 : Int).toNat; decide), j2 _ (rk_b _)⟩
        refine ⟨_, rfl, rfl, _, rfl, ite2 (fun _ => ?_) (fun _ => j1 (((q * 48271 + (0 + (i : Int))) % 2147483647) % 4) (rk_a ((q * 48271 + (0 + (i : Int))) % 2147483647)))⟩
        refine ⟨_, rfl, _, rfl, _, _, rfl, rfl, a, ns, _, rfl, hq', by omega, fun c3 => ⟨_, _, rfl, rfl, cpow _ _ (by decide +kernel), _, _, rfl, rfl, (by show (0 : Int) < 10 ^ (60 : Int).toNat; decide), j1 _ (rk_b _)⟩⟩
      · rintro σ H' ⟨rk, q, v6, v7, rfl, q0, q1, sm, hD, hlen, hall⟩
        exact ⟨_, rfl, kk d H' rk sm hd hD (by omega) (by omega) hall⟩
    refine ⟨_, rfl, _, _, rfl, rfl, (by show (0 : Int) < 8; decide), rfl, _, rfl, ite2 (fun _ => ?_) (fun _ => mid _ (by omega) (by omega))⟩
    exact ⟨_, rfl, _, _, rfl, rfl, .inr (by constructor <;> decide), _, _, rfl, rfl, (by show (0 : Int) < 2147483647; decide), _, _, rfl, rfl, (by show (0 : Int) < 60; decide), _, _, rfl, rfl, mid _ (by omega) (by omega)⟩
/-! ### _law_copy -/
def spCopy : Sp := fun vs H Q _ => ∃ (t p0 p1 p2 : Addr) (l0 l1 pl : List Int) (v : V), vs = [.ref t] ∧ ScAt H t p0 p1 p2 l0 l1 pl v ∧
  ∀ u d0 d1 d2 H', Same H H' → H u = none → H d0 = none → H d1 = none → H d2 = none → d0 ≠ d1 → d0 ≠ d2 → d1 ≠ d2 → ScAt H' u d0 d1 d2 l0 l1 pl v → Q (.ref u) H'
theorem scCopy : FnScope ["_law_picture"] ["_law_picture"] (defScope (top 41)) := ⟨rfl, rfl, rfl, by decide +kernel, rfl, by decide +kernel, by decide +kernel⟩
theorem f_copy (D : Def K mg "_law_copy" (top 41) ["_law_picture"]) (T : Txt K mg) : Fu P w K mg base CX0 1 "_law_copy" ["_law_picture"] spCopy := by
  refine D.fu scCopy (fun vs H Q E h => ?_) (fun f cdv A outer s H vs Q E hr h => ?_)
  · obtain ⟨t, p0, p1, p2, l0, l1, pl, v, rfl, _⟩ := h
    rfl
  · obtain ⟨t, p0, p1, p2, l0, l1, pl, v, rfl, S, kk⟩ := h
    refine ⟨_, pss_one (ps_ret (pe_tup (pa_cons (p_list T.list (pe_ix ix_tup (pv 0) pe_int (fun _ _ => rfl))) (pa_cons (p_list T.list (pe_ix ix_tup (pv 0) pe_int (fun _ _ => rfl))) (pa_cons (p_list T.list (pe_ix ix_tup (pv 0) pe_int (fun _ _ => rfl))) (pa_cons (pe_ix ix_tup (pv 0) pe_int (fun _ _ => rfl)) pa_nil)))))), ?_⟩
    refine ⟨_, rfl, t, _, _, _, rfl, rfl, SqT.of S.at_, rfl, p0, _, rfl, .inl (SqL.of S.e0), fun d0 n0 => ?_⟩
    have u0 := Same.new (o := .lst (l0.map V.int)) n0
    refine ⟨_, rfl, t, _, _, _, rfl, rfl, SqT.of (u0 _ _ S.at_), rfl, p1, _, rfl, .inl (SqL.of (u0 _ _ S.e1)), fun d1 n1 => ?_⟩
    have u1 := Same.new (o := .lst (l1.map V.int)) n1
    have u01 := u0.trans u1
    refine ⟨_, rfl, t, _, _, _, rfl, rfl, SqT.of (u01 _ _ S.at_), rfl, p2, _, rfl, .inl (SqL.of (u01 _ _ S.e2)), fun d2 n2 => ?_⟩
    have u2 := Same.new (o := .lst (pl.map V.int)) n2
    have u02 := u01.trans u2
    refine ⟨_, rfl, t, _, _, _, rfl, rfl, SqT.of (u02 _ _ S.at_), rfl, (by show 4 ≤ sizeLine; decide), fun u nu => ?_⟩
    have u3 := Same.new (o := .tup [.ref d0, .ref d1, .ref d2, v]) nu
    have g0 := upd_same (H := H) (a := d0) (o := .lst (l0.map V.int))
    have g1 := upd_same (H := upd H d0 (.lst (l0.map V.int))) (a := d1) (o := .lst (l1.map V.int))
    have g2 := upd_same (H := upd (upd H d0 (.lst (l0.map V.int))) d1 (.lst (l1.map V.int))) (a := d2) (o := .lst (pl.map V.int))
    exact kk u d0 d1 d2 _ (u02.trans u3) (u02.free nu) n0 (u0.free n1) (u01.free n2) (ne_of_none g0 n1) (ne_of_none (u1 _ _ g0) n2) (ne_of_none g1 n2) ⟨upd_same, (u1.trans (u2.trans u3)) _ _ g0, (u2.trans u3) _ _ g1, u3 _ _ g2⟩
end
end K07

namespace K07
open PySem L2 L3
def PB (i : Nat) (l : List Int) : Prop := l.length ≤ i ∧ (∀ x ∈ l, 0 ≤ x ∧ x < (i : Int)) ∧ Up l
def PP (rk : List Int) (i : Nat) (l : List Int) : Prop := l.length ≤ i ∧ (∀ x ∈ l, 0 ≤ x ∧ x < rk.length) ∧ Up (l.reverse.map (rkAt rk))
theorem PB.nil (i : Nat) : PB i [] := ⟨by simp, by simp, up_nil⟩
theorem PP.nil (rk : List Int) (i : Nat) : PP rk i [] := ⟨by simp, by simp, up_nil⟩
theorem PB.up {i : Nat} {l : List Int} (h : PB i l) : PB (i + 1) l := ⟨by have := h.1; omega, fun x hx => by have := h.2.1 x hx; omega, h.2.2⟩
theorem PP.up {rk : List Int} {i : Nat} {l : List Int} (h : PP rk i l) : PP rk (i + 1) l := ⟨by have := h.1; omega, h.2.1, h.2.2⟩
theorem PB.add {i : Nat} {l : List Int} (h : PB i l) {z : Int} (e : z = i) : PB (i + 1) (l ++ [z]) := by
  subst e
  refine ⟨by have := h.1; simp; omega, fun x hx => ?_, up_snoc h.2.2 fun x hx => (h.2.1 x hx).2⟩
  rcases List.mem_append.mp hx with q | q
  · have := h.2.1 x q; omega
  · rw [List.mem_singleton.mp q]; omega
theorem PP.add {rk : List Int} {i : Nat} {l : List Int} (h : PP rk i l) {z : Int} (h0 : 0 ≤ z ∧ z < rk.length) (hz : ∀ t, l.getLast? = some t → rkAt rk z < rkAt rk t) : PP rk (i + 1) (l ++ [z]) := by
  refine ⟨by have := h.1; simp; omega, fun x hx => ?_, ?_⟩
  · rcases List.mem_append.mp hx with q | q
    · exact h.2.1 x q
    · rw [List.mem_singleton.mp q]; exact h0
  · rw [List.reverse_append, List.reverse_singleton, List.singleton_append, List.map_cons]
    refine up_cons h.2.2 fun y hy => ?_
    rw [List.head?_map, List.head?_reverse] at hy
    cases e : l.getLast? with
    | none => rw [e] at hy; cases hy
    | some t => rw [e] at hy; cases hy; exact hz t e
theorem two_at {i : Int} (h : i = 0 ∨ i = 1) : ∃ z : Int, atI [V.int 0, .int (10 ^ (60 : Int).toNat)] i = some (.int z) ∧ 0 ≤ z ∧ z ≤ M60 := by
  rcases h with rfl | rfl
  · exact ⟨0, rfl, by omega, by have := M60_pos; omega⟩
  · exact ⟨10 ^ (60 : Int).toNat, rfl, by decide, Int.le_refl _⟩
section
variable {P : Program} {w : World} {K : PySem.W.Frag} {mg : Str → Option Value} {base : Heap}
def spPicBy (K : PySem.W.Frag) : Sp := fun vs H Q _ => ∃ (a b : Addr) (ns rk : List Int), vs = [.ref a, .ref b] ∧ LI K H a ns ∧ H b = some (.lst (rk.map V.int)) ∧ 1 ≤ rk.length ∧ rk.length ≤ 60 ∧ (∀ y ∈ rk, 0 ≤ y ∧ y < M60) ∧
  ∀ (t d0 d1 d2 : Addr) (H' : Hp) (l0 l1 pl : List Int) (v : V), Same H H' → H t = none → H d0 = none → H d1 = none → H d2 = none → ScAt H' t d0 d1 d2 l0 l1 pl v → PicOk rk l0 l1 pl v → Q (.ref t) H'
theorem scPB : FnScope ["_law_script", "_law_ranks_here", "_law_many", "_law_mixed", "_law_turn", "_law_asking", "_law_muted", "_law_pile", "_law_k", "_law_at", "_law_bar"] ["_law_script", "_law_ranks_here"] (defScope (top 40)) := ⟨rfl, rfl, rfl, by decide +kernel, rfl, by decide +kernel, by decide +kernel⟩
set_option maxHeartbeats 4000000 in
theorem f_pic_by (D : Def K mg "_law_picture_by" (top 40) ["_law_script", "_law_ranks_here"]) (T : Txt K mg) (GC : Fu P w K mg base CX0 1 "_law_cell_at" ["_law_script", "_law_k"] (spCell K)) : Fu P w K mg base CX0 2 "_law_picture_by" ["_law_script", "_law_ranks_here"] (spPicBy K) := by
  refine D.fu scPB (fun vs H Q E h => ?_) (fun f cdv A outer s H vs Q E hr h => ?_)
  · obtain ⟨a, b, ns, rk, rfl, _⟩ := h
    rfl
  · obtain ⟨a, b, ns, rk, rfl, hq, hb, l1, l60, hrk, kk⟩ := h
    refine ⟨_, pss_cons (ps_set (i := 2) scPB.nd rfl (Or.inl rfl) (p_len T.len (pv 1)))
      (pss_cons (ps_set (i := 3) scPB.nd rfl (Or.inl rfl) (pe_op op_add pe_int (pe_op op_mod (pe_op op_mul (pc GC hr pass0 (pa_cons (pv 0) (pa_cons pe_int pa_nil))) pe_int) pe_int)))
      (pss_cons (ps_set (i := 4) scPB.nd rfl (Or.inl rfl) (pe_op op_add pe_int (pe_op op_mod (pv 3) (pv 2))))
      (pss_cons (ps_set (i := 5) scPB.nd rfl (Or.inl rfl) (pe_lst pa_nil))
      (pss_cons (ps_set (i := 6) scPB.nd rfl (Or.inl rfl) (pe_lst pa_nil))
      (pss_cons (ps_set (i := 7) scPB.nd rfl (Or.inl rfl) (pe_lst pa_nil))
      (pss_cons (ps_for PassesOwn.never rfl (pi_range1 rfl T.range (pa_cons (pv 2) pa_nil)) (pg_name (i := 8) scPB.nd rfl (Or.inl rfl))
        (pss_cons (ps_set (i := 3) scPB.nd rfl (Or.inl rfl) (pe_op op_mod (pe_op op_add (pe_op op_mul (pv 3) pe_int) (pc GC hr pass0 (pa_cons (pv 0) (pa_cons (pe_op op_add pe_int (pv 8)) pa_nil)))) pe_int))
        (pss_cons (ps_if (pt_cmpR op_eq (pe_op op_mod (pv 3) pe_int) pe_int (nomark _)) (pss_one (ps_expr (pe_bm PySem.F.plainAttrs_list PySem.F.slot_list_append PySem.F.type_list_append mt_append (pv 5) (pa_cons (pv 8) pa_nil)))) pss_nil)
        (pss_cons (ps_if (pt_cmpR op_eq (pe_op op_mod (pe_op op_fdiv (pv 3) pe_int) pe_int) pe_int (nomark _)) (pss_one (ps_expr (pe_bm PySem.F.plainAttrs_list PySem.F.slot_list_append PySem.F.type_list_append mt_append (pv 6) (pa_cons (pv 8) pa_nil)))) pss_nil)
        (pss_cons (ps_set (i := 9) scPB.nd rfl (Or.inl rfl) (pe_op op_mod (pe_op op_add (pe_op op_mod (pe_op op_fdiv (pv 3) pe_int) pe_int) (pe_op op_mul (pv 8) (pv 4))) (pv 2)))
        (pss_one (ps_if (pw_and (pt_cmpR op_gt (pe_op op_mod (pe_op op_fdiv (pv 3) pe_int) pe_int) pe_int (nomark _)) (pw_and1 (pw_or (pt_cmpR (op_eqI hr.units) (pv 7) (pe_lst pa_nil) (nomark _)) (pw_or1 (pt_cmpR op_lt (pe_ix ix_list (pv 1) (pv 9) (fun _ _ => rfl)) (pe_ix ix_list (pv 1) (pe_ix ix_list (pv 7) (pe_un un_neg pe_int) (fun _ _ => rfl)) (fun _ _ => rfl)) (nomark _)))).pt)).pt
          (pss_one (ps_expr (pe_bm PySem.F.plainAttrs_list PySem.F.slot_list_append PySem.F.type_list_append mt_append (pv 7) (pa_cons (pv 9) pa_nil)))) pss_nil)))))))
      (pss_cons (ps_set (i := 10) scPB.nd rfl (Or.inl rfl) pe_non)
      (pss_cons (ps_if (pt_cmpR op_eq (pe_op op_mod (pv 3) pe_int) pe_int (nomark _)) (pss_one (ps_set (i := 10) scPB.nd rfl (Or.inl rfl) (pe_op op_add (pe_ix ix_list (pv 1) (pe_op op_mod (pe_op op_fdiv (pv 3) pe_int) (pv 2)) (fun _ _ => rfl)) (pe_op op_mod (pe_op op_fdiv (pv 3) pe_int) pe_int)))) pss_nil)
      (pss_cons (ps_if (pt_cmpR op_eq (pe_op op_mod (pv 3) pe_int) pe_int (nomark _)) (pss_one (ps_set (i := 10) scPB.nd rfl (Or.inl rfl) (pe_ix ix_list (pe_lst (pa_cons pe_int (pa_cons (pe_op op_pow pe_int pe_int) pa_nil))) (pe_op op_mod (pe_op op_fdiv (pv 3) pe_int) pe_int) (fun _ _ => rfl)))) pss_nil)
      (pss_one (ps_ret (pe_tup (pa_cons (pv 5) (pa_cons (pv 6) (pa_cons (pv 7) (pa_cons (pv 10) pa_nil)))))))))))))))), ?_⟩
    refine ⟨_, rfl, b, _, rfl, .inl (SqL.of hb), ?_⟩
    rw [List.length_map]
    have hn : (0 : Int) < (rk.length : Int) := by omega
    refine ⟨_, rfl, a, ns, 2, rfl, hq, by omega, fun c0 => ⟨_, _, rfl, rfl, .inr (by constructor <;> decide), _, _, rfl, rfl, (by show (0 : Int) < 2147483647; decide), _, _, rfl, rfl, ?_⟩⟩
    have hq0 : 0 ≤ 1 + c0 * 397204094 % 2147483647 ∧ 1 + c0 * 397204094 % 2147483647 < 2147483649 := by omega
    dsimp only
    generalize 1 + c0 * 397204094 % 2147483647 = q0 at hq0 ⊢
    refine ⟨_, rfl, _, rfl, _, _, rfl, rfl, hn, _, _, rfl, rfl, ?_⟩
    have ht : 0 ≤ 1 + q0 % (rk.length : Int) ∧ 1 + q0 % (rk.length : Int) ≤ 60 := by
      have h1 := Int.emod_nonneg q0 (show (rk.length : Int) ≠ 0 by omega)
      have h2 := Int.emod_lt_of_pos q0 hn
      omega
    dsimp only
    generalize 1 + q0 % (rk.length : Int) = tn at ht ⊢
    refine ⟨(by show 0 ≤ sizeLine; decide), fun d5 n5 => ⟨(by show 0 ≤ sizeLine; decide), fun d6 n6 => ⟨(by show 0 ≤ sizeLine; decide), fun d7 n7 => ?_⟩⟩⟩
    have u5 := Same.new (o := .lst []) n5
    have u6 := Same.new (o := .lst []) n6
    have u7 := Same.new (o := .lst []) n7
    have g5 := upd_same (H := H) (a := d5) (o := .lst [])
    have g6 := upd_same (H := upd H d5 (.lst [])) (a := d6) (o := .lst [])
    have g7 := upd_same (H := upd (upd H d5 (.lst [])) d6 (.lst [])) (a := d7) (o := .lst [])
    have z6 : H d6 = none := u5.free n6
    have z7 : H d7 = none := (u5.trans u6).free n7
    have d56 : d5 ≠ d6 := ne_of_none g5 n6
    have d57 : d5 ≠ d7 := ne_of_none (u6 _ _ g5) n7
    have d67 : d6 ≠ d7 := ne_of_none g6 n7
    have k5 := (u6.trans u7) _ _ g5
    have k6 := u7 _ _ g6
    have s0 := (u5.trans u6).trans u7
    generalize upd (upd (upd H d5 (.lst [])) d6 (.lst [])) d7 (.lst []) = H0 at k5 k6 g7 s0 ⊢
    refine ⟨_, rfl, _, rfl, by omega, by omega, ?_⟩
    refine for_range (n := (rk.length : Int).toNat) (fun i σ H' => ∃ (la lm lp : List Int) (q : Int) (v8 v9 : Option V), σ = [some (.ref a), some (.ref b), some (.int rk.length), some (.int q), some (.int tn), some (.ref d5), some (.ref d6), some (.ref d7), v8, v9, none] ∧ 0 ≤ q ∧ q < 2147483649 ∧ Same H H' ∧
        H' d5 = some (.lst (la.map V.int)) ∧ H' d6 = some (.lst (lm.map V.int)) ∧ H' d7 = some (.lst (lp.map V.int)) ∧ PB i la ∧ PB i lm ∧ PP rk i lp)
      ⟨[], [], [], q0, none, none, rfl, hq0.1, hq0.2, s0, k5, k6, g7, PB.nil _, PB.nil _, PP.nil _ _⟩ ?_ ?_
    · rintro i σ H' hi ⟨la, lm, lp, q, v8, v9, rfl, q1, q2, sm, h5, h6, h7, p5, p6, p7⟩
      have hi' : i < rk.length := by omega
      refine ⟨_, rfl, _, _, rfl, rfl, .inr (by constructor <;> decide), _, rfl, _, rfl, _, _, rfl, rfl, a, ns, _, rfl, sm.seq hq, by omega, fun c3 => ⟨_, _, rfl, rfl, _, _, rfl, rfl, (by show (0 : Int) < 2147483647; decide), ?_⟩⟩
      have hx : 0 ≤ (q * 48271 + c3) % 2147483647 ∧ (q * 48271 + c3) % 2147483647 < 2147483649 := by omega
      dsimp only
      generalize (q * 48271 + c3) % 2147483647 = x at hx ⊢
      refine seq_gen fun N1 hN1 => ?_
      have j1 : ∀ (la : List Int) (H' : Hp), Same H H' → H' d5 = some (.lst (la.map V.int)) → H' d6 = some (.lst (lm.map V.int)) → H' d7 = some (.lst (lp.map V.int)) → PB (i + 1) la →
          N1 [some (.ref a), some (.ref b), some (.int rk.length), some (.int x), some (.int tn), some (.ref d5), some (.ref d6), some (.ref d7), some (.int (0 + (i : Int))), v9, none] H' := by
        intro la H' sm h5 h6 h7 p5
        apply hN1
        refine seq_gen fun N2 hN2 => ?_
        have j2 : ∀ (lm : List Int) (H' : Hp), Same H H' → H' d5 = some (.lst (la.map V.int)) → H' d6 = some (.lst (lm.map V.int)) → H' d7 = some (.lst (lp.map V.int)) → PB (i + 1) lm →
            N2 [some (.ref a), some (.ref b), some (.int rk.length), some (.int x), some (.int tn), some (.ref d5), some (.ref d6), some (.ref d7), some (.int (0 + (i : Int))), v9, none] H' := by
          intro lm H' sm h5 h6 h7 p6
          apply hN2
          refine ⟨_, rfl, _, _, rfl, rfl, ⟨by decide, by decide⟩, _, _, rfl, rfl, (by show (0 : Int) < 2; decide), _, rfl, _, rfl, _, _, rfl, rfl, .inl ⟨by omega, by omega⟩, _, _, rfl, rfl, _, rfl, _, _, rfl, rfl, hn, ?_⟩
          have hat : 0 ≤ (x / 7 % 2 + (0 + (i : Int)) * tn) % (rk.length : Int) ∧ (x / 7 % 2 + (0 + (i : Int)) * tn) % (rk.length : Int) < rk.length := ⟨Int.emod_nonneg _ (by omega), Int.emod_lt_of_pos _ hn⟩
          dsimp only
          generalize (x / 7 % 2 + (0 + (i : Int)) * tn) % (rk.length : Int) = at_ at hat ⊢
          have no : ∀ Hx, Same H' Hx → ∃ (la lm lp : List Int) (q : Int) (v8 v9 : Option V), [some (V.ref a), some (.ref b), some (.int rk.length), some (.int x), some (.int tn), some (.ref d5), some (.ref d6), some (.ref d7), some (.int (0 + (i : Int))), some (.int at_), none] = [some (V.ref a), some (.ref b), some (.int rk.length), some (.int q), some (.int tn), some (.ref d5), some (.ref d6), some (.ref d7), v8, v9, none] ∧ 0 ≤ q ∧ q < 2147483649 ∧ Same H Hx ∧
              Hx d5 = some (.lst (la.map V.int)) ∧ Hx d6 = some (.lst (lm.map V.int)) ∧ Hx d7 = some (.lst (lp.map V.int)) ∧ PB (i + 1) la ∧ PB (i + 1) lm ∧ PP rk (i + 1) lp :=
            fun Hx sx => ⟨la, lm, lp, x, _, _, rfl, hx.1, hx.2, sm.trans sx, sx _ _ h5, sx _ _ h6, sx _ _ h7, p5, p6, p7.up⟩
          have yes : ∀ Hx, Same H' Hx → (∀ t, lp.getLast? = some t → rkAt rk at_ < rkAt rk t) → ∃ (la lm lp2 : List Int) (q : Int) (v8 v9 : Option V), [some (V.ref a), some (.ref b), some (.int rk.length), some (.int x), some (.int tn), some (.ref d5), some (.ref d6), some (.ref d7), some (.int (0 + (i : Int))), some (.int at_), none] = [some (V.ref a), some (.ref b), some (.int rk.length), some (.int q), some (.int tn), some (.ref d5), some (.ref d6), some (.ref d7), v8, v9, none] ∧ 0 ≤ q ∧ q < 2147483649 ∧ Same H (upd Hx d7 (.lst (lp.map V.int ++ [.int at_]))) ∧
              upd Hx d7 (.lst (lp.map V.int ++ [.int at_])) d5 = some (.lst (la.map V.int)) ∧ upd Hx d7 (.lst (lp.map V.int ++ [.int at_])) d6 = some (.lst (lm.map V.int)) ∧ upd Hx d7 (.lst (lp.map V.int ++ [.int at_])) d7 = some (.lst (lp2.map V.int)) ∧ PB (i + 1) la ∧ PB (i + 1) lm ∧ PP rk (i + 1) lp2 :=
            fun Hx sx hz => ⟨la, lm, lp ++ [at_], x, _, _, rfl, hx.1, hx.2, fun c o e => by rw [upd_ne (ne_of_none e z7)]; exact sx _ _ (sm c o e), by rw [upd_ne d57]; exact sx _ _ h5, by rw [upd_ne d67]; exact sx _ _ h6, upd_same.trans (by simp), p5, p6, p7.add hat hz⟩
          have hsz : (lp.map V.int).length < sizeLine := by rw [List.length_map, sizeLine_eq]; have := p7.1; omega
          refine ⟨_, rfl, _, _, rfl, rfl, ⟨by decide, by decide⟩, _, _, rfl, rfl, (by show (0 : Int) < 3; decide), _, _, rfl, rfl, _, rfl, ite2 (fun _ => ?_) (fun _ => iteF (no _ (Same.refl _)))⟩
          refine ⟨_, rfl, (by show 0 ≤ sizeLine; decide), fun e ne => ⟨d7, e, lp, [], rfl, rfl, (Same.new ne).seq (SqL.of h7), SqL.new (xs := ([] : List Int).map V.int), _, rfl, ?_⟩⟩
          have sx := Same.new (o := .lst []) ne
          cases el : lp.getLast? with
          | none =>
            have e' : lp = [] := List.getLast?_eq_none_iff.mp el
            refine iteTe (decide_eq_true e') (iteT ⟨_, rfl, .inl ⟨rfl, _, SqL.of (sx _ _ h7)⟩, _, rfl, d7, _, _, rfl, rfl, sx _ _ h7, hsz, ?_⟩)
            exact yes _ sx fun t ht => by rw [el] at ht; cases ht
          | some t =>
            have hne : lp ≠ [] := by intro z; rw [z] at el; cases el
            have hm := p7.2.1 t (List.mem_of_getLast? el)
            refine iteFe (decide_eq_false hne) ⟨_, rfl, _, rfl, b, _, _, _, rfl, rfl, SqL.of (sx _ _ (sm _ _ hb)), atI_int hat.1 hat.2, _, rfl, _, rfl, _, rfl, d7, _, _, _, rfl, rfl, SqL.of (sx _ _ h7), last_atI el, b, _, _, _, rfl, rfl, SqL.of (sx _ _ (sm _ _ hb)), atI_int hm.1 hm.2, _, _, rfl, rfl, _, rfl, ?_⟩
            by_cases hlt : rkAt rk at_ < rkAt rk t
            · refine iteTe (decide_eq_true hlt) ⟨_, rfl, .inl ⟨rfl, _, SqL.of (sx _ _ h7)⟩, _, rfl, d7, _, _, rfl, rfl, sx _ _ h7, hsz, ?_⟩
              exact yes _ sx fun t' ht => by rw [el] at ht; cases ht; exact hlt
            · exact iteFe (decide_eq_false hlt) (no _ sx)
        have hsz : (lm.map V.int).length < sizeLine := by rw [List.length_map, sizeLine_eq]; have := p6.1; omega
        refine ⟨_, rfl, _, _, rfl, rfl, ⟨by decide, by decide⟩, _, _, rfl, rfl, (by show (0 : Int) < 3; decide), rfl, _, rfl, ite2 (fun _ => ?_) (fun _ => j2 lm H' sm h5 h6 h7 p6.up)⟩
        refine ⟨_, rfl, .inl ⟨rfl, _, SqL.of h6⟩, _, rfl, d6, _, _, rfl, rfl, h6, hsz, ?_⟩
        exact j2 (lm ++ [0 + (i : Int)]) _ (fun c o e => by rw [upd_ne (ne_of_none e z6)]; exact sm c o e) (by rw [upd_ne d56]; exact h5) (upd_same.trans (by simp)) (by rw [upd_ne (Ne.symm d67)]; exact h7) (p6.add (by omega))
      have hsz : (la.map V.int).length < sizeLine := by rw [List.length_map, sizeLine_eq]; have := p5.1; omega
      refine ⟨_, rfl, _, _, rfl, rfl, (by show (0 : Int) < 2; decide), rfl, _, rfl, ite2 (fun _ => ?_) (fun _ => j1 la H' sm h5 h6 h7 p5.up)⟩
      refine ⟨_, rfl, .inl ⟨rfl, _, SqL.of h5⟩, _, rfl, d5, _, _, rfl, rfl, h5, hsz, ?_⟩
      exact j1 (la ++ [0 + (i : Int)]) _ (fun c o e => by rw [upd_ne (ne_of_none e n5)]; exact sm c o e) (upd_same.trans (by simp)) (by rw [upd_ne (Ne.symm d56)]; exact h6) (by rw [upd_ne (Ne.symm d57)]; exact h7) (p5.add (by omega))
    · rintro σ H' ⟨la, lm, lp, q, v8, v9, rfl, q1, q2, sm, h5, h6, h7, p5, p6, p7⟩
      have en : (rk.length : Int).toNat = rk.length := by omega
      rw [en] at p5 p6 p7
      have hb' := sm _ _ hb
      refine seq_gen fun N3 hN3 => ?_
      apply hN3
      refine seq_gen fun N6 hN6 => ?_
      apply hN6
      refine seq_gen fun N4 hN4 => ?_
      have j4 : ∀ v, BarV v → N4 [some (.ref a), some (.ref b), some (.int rk.length), some (.int q), some (.int tn), some (.ref d5), some (.ref d6), some (.ref d7), v8, v9, some v] H' := by
        intro v hv
        apply hN4
        refine seq_gen fun N5 hN5 => ?_
        have j5 : ∀ v Hx, BarV v → Same H' Hx → N5 [some (.ref a), some (.ref b), some (.int rk.length), some (.int q), some (.int tn), some (.ref d5), some (.ref d6), some (.ref d7), v8, v9, some v] Hx := by
          intro v Hx hv sx
          apply hN5
          refine ⟨_, rfl, _, rfl, _, rfl, _, rfl, (by show 4 ≤ sizeLine; decide), fun t nt => ?_⟩
          have u := Same.new (o := .tup [.ref d5, .ref d6, .ref d7, v]) nt
          have sHx := sm.trans sx
          refine kk t d5 d6 d7 _ la lm lp v (sHx.trans u) (sHx.free nt) n5 z6 z7 ⟨upd_same, u _ _ (sx _ _ h5), u _ _ (sx _ _ h6), u _ _ (sx _ _ h7)⟩ ?_
          have a1 := p5.1
          have a2 := p6.1
          have a3 := p7.1
          exact ⟨by omega, by omega, by omega, p5.2.1, p6.2.1, p7.2.1, p5.2.2, p6.2.2, p7.2.2, hv⟩
        refine ⟨_, rfl, _, _, rfl, rfl, (by show (0 : Int) < 15; decide), rfl, _, rfl, ite2 (fun _ => ?_) (fun _ => j5 v H' hv (Same.refl _))⟩
        refine ⟨_, _, rfl, rfl, cpow _ _ (by decide +kernel), (by show 2 ≤ sizeLine; decide), fun l hl => ?_⟩
        obtain ⟨z, ez, z0, z1⟩ := two_at (i := q / 15 % 2) (by omega)
        exact ⟨_, rfl, _, _, rfl, rfl, ⟨by decide, by decide⟩, _, _, rfl, rfl, (by show (0 : Int) < 2; decide), l, _, _, _, rfl, rfl, SqL.of upd_same, ez, j5 _ _ (.inr ⟨z, rfl, z0, z1⟩) (Same.new hl)⟩
      refine ⟨_, rfl, _, _, rfl, rfl, (by show (0 : Int) < 3; decide), rfl, _, rfl, ite2 (fun _ => ?_) (fun _ => j4 .non (.inl rfl))⟩
      have hj : 0 ≤ q / 3 % (rk.length : Int) ∧ q / 3 % (rk.length : Int) < rk.length := ⟨Int.emod_nonneg _ (by omega), Int.emod_lt_of_pos _ hn⟩
      refine ⟨_, rfl, _, rfl, _, _, rfl, rfl, ⟨by decide, by decide⟩, _, rfl, _, _, rfl, rfl, hn, b, _, _, _, rfl, rfl, SqL.of hb', atI_int hj.1 hj.2, _, rfl, _, _, rfl, rfl, ⟨by decide, by decide⟩, _, _, rfl, rfl, (by show (0 : Int) < 2; decide), _, _, rfl, rfl, ?_⟩
      refine j4 _ (.inr ⟨_, rfl, ?_⟩)
      have hm : (q / 3 % (rk.length : Int)).toNat < rk.length := by omega
      have hr2 := hrk _ (List.getElem_mem hm)
      have eg : rk.getD (q / 3 % (rk.length : Int)).toNat 0 = rk[(q / 3 % (rk.length : Int)).toNat] := by simp [List.getD, hm]
      rw [eg]
      omega
end
end K07

namespace K07
open PySem L2 L3
theorem pw_nd {l : List Int} (h : l.Pairwise (· < ·)) : l.Nodup := h.imp fun a e => by omega
theorem pw_one {l m : List Int} (h1 : l.Pairwise (· < ·)) (h2 : m.Pairwise (· < ·)) (h : ∀ x, x ∈ l ↔ x ∈ m) : l = m := by
  have p : l.Perm m := (List.perm_ext_iff_of_nodup (pw_nd h1) (pw_nd h2)).mpr h
  exact List.Perm.eq_of_pairwise (fun a b _ _ x y => by omega) h1 h2 p
theorem rng_pw (n : Nat) (q : Nat → Bool) : (((List.range n).filter q).map fun i : Nat => (i : Int)).Pairwise (· < ·) := by
  refine List.pairwise_map.mpr ((List.pairwise_lt_range.filter _).imp fun h => by omega)
theorem up_rng {l : List Int} {n : Nat} (u : Up l) (h : ∀ x ∈ l, 0 ≤ x ∧ x < (n : Int)) : ((List.range n).filter fun i : Nat => decide ((i : Int) ∈ l)).map (fun i : Nat => (i : Int)) = l := by
  refine pw_one (rng_pw _ _) (up_pw u) fun x => ?_
  simp only [List.mem_map, List.mem_filter, List.mem_range, decide_eq_true_eq]
  constructor
  · rintro ⟨i, ⟨_, h2⟩, rfl⟩; exact h2
  · intro hx
    have := h x hx
    exact ⟨x.toNat, ⟨by omega, by rw [Int.toNat_of_nonneg this.1]; exact hx⟩, Int.toNat_of_nonneg this.1⟩
theorem marks_getD (n : Nat) (l : List Int) (i : Nat) (h : i < n) : (marksL n l).getD i false = decide ((i : Int) ∈ l) := by
  unfold marksL
  simp [h]
theorem idx_marks {l : List Int} {n : Nat} (u : Up l) (h : ∀ x ∈ l, 0 ≤ x ∧ x < (n : Int)) : idxL (marksL n l) n = l := by
  unfold idxL
  rw [List.filter_congr (q := fun i : Nat => decide ((i : Int) ∈ l)) fun i hi => marks_getD n l i (List.mem_range.mp hi)]
  exact up_rng u h
def barD : V → PyData
  | .int z => .int z
  | _ => .none
def picD (l0 l1 pl : List Int) (v : V) : PyData := .tuple [.list (l0.map PyData.int), .list (l1.map PyData.int), .list (pl.map PyData.int), barD v]
theorem shapedP (l0 l1 pl : List Int) (v : V) : SeqAt.shaped (picD l0 l1 pl v) = true := by
  unfold picD
  cases v <;> simp [barD, SeqAt.shaped, PyData.canLay0, PyData.canLayAll0, PyData.depth, PyData.depthAll, PySem.W.ke_canLayAll0, PySem.W.ke_depthAll]
theorem eqvP (l0 l1 pl : List Int) (v : V) : PyData.eqv (picD l0 l1 pl v) (picD l0 l1 pl v) = true := PySem.SeqAt.eqv_refl _ (SeqAt.canLay_of_shaped (shapedP l0 l1 pl v))
theorem ScAt.sh {K : PySem.W.Frag} {H : Hp} {t p0 p1 p2 : Addr} {l0 l1 pl : List Int} {v : V} (S : ScAt H t p0 p1 p2 l0 l1 pl v) (hv : BarV v) : Sh K H (.ref t) (picD l0 l1 pl v) := by
  refine .tup (SqT.of S.at_) (.cons (.ints (SqL.of S.e0)) (.cons (.ints (SqL.of S.e1)) (.cons (.ints (SqL.of S.e2)) (.cons ?_ .nil))))
  rcases hv with rfl | ⟨z, rfl, _⟩
  · exact .non
  · exact .int z
theorem told_mk {fw : Bool} {C CP : Addr} {F : List Addr} {σ : L2.St} {H : Hp} {x : Addr} {rk l0 l1 pl : List Int} {v : V} {p : PG} {Q : VK} {E : XK} (D : Bd fw C CP F H x (mkBS rk l0 l1 pl v) p) (ok : PicOk rk l0 l1 pl v)
    (kk : ∀ t d0 d1 d2 H', Same H H' → ScAt H' t d0 d1 d2 l0 l1 pl v → Q (.ref t) H') : tNil σ H (fun vs H2 => spTold C (V.ref x :: (vs ++ [])) H2 Q E) := by
  obtain ⟨e, S, r, a, m, q, rfl, B, _⟩ := D.ex
  have I := D.ok
  refine ⟨e, x, r, a, m, q, rk, _, _, pl, v, rfl, B, by rw [I.la]; exact I.l60, by rw [I.lm]; exact I.l60, fun t d0 d1 d2 H' sm nt n0 n1 n2 e01 e02 e12 ht h0 h1 h2 => kk t d0 d1 d2 H' sm ⟨ht, ?_, ?_, h2⟩⟩
  · have e : idxL (marksL rk.length l0) (marksL rk.length l0).length = l0 := by rw [marks_len, idx_marks ok.u0 ok.i0]
    rw [h0]
    show some (HO.lst ((idxL (marksL rk.length l0) (marksL rk.length l0).length).map V.int)) = _
    rw [e]
  · have e : idxL (marksL rk.length l1) (marksL rk.length l1).length = l1 := by rw [marks_len, idx_marks ok.u1 ok.i1]
    rw [h1]
    show some (HO.lst ((idxL (marksL rk.length l1) (marksL rk.length l1).length).map V.int)) = _
    rw [e]
theorem ixg8 {K : PySem.W.Frag} {H : Hp} {p1 : Addr} {x : Str} {i : Int} (h0 : 0 ≤ i) (h1 : i < 8) (e1 : H p1 = some (.lst [.int 1])) :
    ∃ v, atI [V.int 0, .int 17, .int (-1), .bl true, .non, .str x, .ref p1, .int (10 ^ (30 : Int).toNat)] i = some v ∧ NoPg K H v := by
  have hi : i = 0 ∨ i = 1 ∨ i = 2 ∨ i = 3 ∨ i = 4 ∨ i = 5 ∨ i = 6 ∨ i = 7 := by omega
  rcases hi with rfl | rfl | rfl | rfl | rfl | rfl | rfl | rfl
  · exact ⟨_, rfl, true, whole_int _, fun _ => ⟨_, rfl, by omega⟩⟩
  · exact ⟨_, rfl, true, whole_int _, fun _ => ⟨_, rfl, by omega⟩⟩
  · exact ⟨_, rfl, true, whole_int _, fun _ => ⟨_, rfl, by omega⟩⟩
  · exact ⟨_, rfl, false, whole_bl _, fun z => by cases z⟩
  · exact ⟨_, rfl, false, whole_non, fun z => by cases z⟩
  · exact ⟨_, rfl, false, whole_str _, fun z => by cases z⟩
  · exact ⟨_, rfl, false, whole_lst e1, fun z => by cases z⟩
  · refine ⟨_, rfl, true, whole_int _, fun _ => ⟨_, rfl, fun h => ?_⟩⟩
    have hb : (1000 : Int) < 10 ^ (30 : Int).toNat := by decide +kernel
    omega
section
variable {P : Program} {w : World} {K : PySem.W.Frag} {mg : Str → Option Value} {base : Heap} {CC : Bool → Addr} {CP P4 P5 CNB CNP CQ CE : Addr}
structure X7 (K : PySem.W.Frag) (mg : Str → Option Value) (CNB CNP CQ CE : Addr) : Prop where
  b : XNm K mg CNB true false false
  p : XNm K mg CNP false true false
  g : XNm K mg CQ false false true
  mb : PySem.W.mroIn K CNB (.ref CE) = some true
  mp : PySem.W.mroIn K CNP (.ref CE) = some true
  mg : PySem.W.mroIn K CQ (.ref CE) = some true
def spLaw (K : PySem.W.Frag) (P4 P5 : Addr) : Sp := fun vs H Q _ => ∃ (a : Addr) (ns : List Int), vs = [.ref a] ∧ LI K H a ns ∧ ns.length ≤ 63 ∧ TT P4 P5 H ∧ ∀ H', Q (.bl true) H'
theorem scLaw : FnScope ["_law_script", "_law_ranks_here", "_law_picture", "_law_pegs", "_law_no_ranks_here", "_law_no_picture_here", "_law_no_pegs", "_law_row", "_law_handed", "_law_few", "_law_wrong", "_law_count"] ["_law_script"] (defScope (top 47)) := ⟨rfl, rfl, rfl, by decide +kernel, rfl, by decide +kernel, by decide +kernel⟩
set_option maxHeartbeats 16000000 in
theorem f_law (D : Def K mg "law" (top 47) ["_law_script"]) (T : Txt K mg) (TB : ∀ fw, BTxt K (CC fw)) (X : X7 K mg CNB CNP CQ CE) (hW : mg "Wide" = some (.ref (CC false))) (hF : mg "Few" = some (.ref (CC true))) (GR : Fu P w K mg base CX0 2 "_law_ranks" ["_law_script"] (spRanks K)) (GC : Fu P w K mg base CX0 1 "_law_cell_at" ["_law_script", "_law_k"] (spCell K)) (GP : Fu P w K mg base CX0 2 "_law_picture_by" ["_law_script", "_law_ranks_here"] (spPicBy K)) (GCp : Fu P w K mg base CX0 1 "_law_copy" ["_law_picture"] spCopy)
    (GNR : Fu P w K mg base CX0 1 "_law_no_ranks" ["_law_ranks_here", "_law_cell"] (spNoRks K)) (GNP : Fu P w K mg base CX0 2 "_law_no_picture" ["_law_picture", "_law_many", "_law_cell"] (spNoPc K)) (GRf : Fu P w K mg base CX0 10 "_law_refused" ["_law_few", "_law_ranks_here", "_law_pegs", "_law_picture"] (spRef K mg CNB CNP CQ CE))
    (GWI : FuKD P w K mg base CX0 7 (CC false) ["self", "ranks", "picture"] [] (spInit (CC false))) (GFI : FuKD P w K mg base CX0 8 (CC true) ["self", "ranks", "pegs", "picture"] [] (spFewInit (CC true) CP P4)) (GT : ∀ fw, FuM P w K mg base CX0 2 (CC fw) "told" ["self"] (spTold (CC fw))) : Fu P w K mg base CX0 11 "law" ["_law_script"] (spLaw K P4 P5) := by
  refine D.fu scLaw (fun vs H Q E h => ?_) (fun f cdv A outer s H vs Q E hr h => ?_)
  · obtain ⟨a, ns, rfl, _⟩ := h
    rfl
  · obtain ⟨a, ns, rfl, hq, h63, tt, kk⟩ := h
    refine ⟨_, pss_cons (ps_set (i := 1) scLaw.nd rfl (Or.inl rfl) (pc GR hr pass0 (pa_cons (pv 0) pa_nil)))
      (pss_cons (ps_set (i := 2) scLaw.nd rfl (Or.inl rfl) (pc GP hr pass0 (pa_cons (pv 0) (pa_cons (pv 1) pa_nil))))
      (pss_cons (ps_set (i := 3) scLaw.nd rfl (Or.inl rfl) (pe_op op_add pe_int (pe_op op_mod (pe_op op_mod (pe_op op_mul (pc GC hr pass0 (pa_cons (pv 0) (pa_cons pe_int pa_nil))) pe_int) pe_int) pe_int)))
      (pss_cons (ps_set (i := 4) scLaw.nd rfl (Or.inl rfl) (pc GNR hr pass0 (pa_cons (pv 1) (pa_cons (pc GC hr pass0 (pa_cons (pv 0) (pa_cons pe_int pa_nil))) pa_nil))))
      (pss_cons (ps_set (i := 5) scLaw.nd rfl (Or.inl rfl) (pc GNP hr pass0 (pa_cons (pv 2) (pa_cons (p_len T.len (pv 1)) (pa_cons (pc GC hr pass0 (pa_cons (pv 0) (pa_cons pe_int pa_nil))) pa_nil)))))
      (pss_cons (ps_set (i := 6) scLaw.nd rfl (Or.inl rfl) (pe_ix ix_list (pe_lst (pa_cons pe_int (pa_cons pe_int (pa_cons (pe_un un_neg pe_int) (pa_cons pe_bl (pa_cons pe_non (pa_cons pe_str (pa_cons (pe_lst (pa_cons pe_int pa_nil)) (pa_cons (pe_op op_pow pe_int pe_int) pa_nil))))))))) (pe_op op_mod (pc GC hr pass0 (pa_cons (pv 0) (pa_cons pe_int pa_nil))) pe_int) (fun _ _ => rfl)))
      (pss_cons (ps_set (i := 7) scLaw.nd rfl (Or.inl rfl) (p_list T.list (pv 1)))
      (pss_cons (ps_set (i := 8) scLaw.nd rfl (Or.inl rfl) (pc GCp hr pass0 (pa_cons (pv 2) pa_nil)))
      (pss_cons (ps_for PassesOwn.never rfl (pi_list (pe_lst (pa_cons pe_bl (pa_cons pe_bl pa_nil)))) (pg_name (i := 9) scLaw.nd rfl (Or.inl rfl))
        (pss_cons (ps_for PassesOwn.never rfl (pi_list (pe_lst (pa_cons (pv 8) (pa_cons (pv 5) pa_nil)))) (pg_name (i := 10) scLaw.nd rfl (Or.inl rfl))
          (pss_one (ps_if (pt_cmpR (op_neD hr.units) (pc GRf hr pass0 (pa_cons (pv 9) (pa_cons (pv 4) (pa_cons (pe_ix ix_list (pe_lst (pa_cons (pv 3) (pa_cons (pv 6) pa_nil))) (p_int T.int (pv 9)) (fun _ _ => rfl)) (pa_cons (pv 10) pa_nil))))) (pe_lst (pa_cons pe_str (pa_cons pe_str pa_nil))) (nomark _)) (pss_one (ps_ret pe_bl)) pss_nil)))
        (pss_one (ps_for PassesOwn.never rfl (pi_list (pe_lst (pa_cons (pv 3) (pa_cons (pv 6) pa_nil)))) (pg_name (i := 11) scLaw.nd rfl (Or.inl rfl))
          (pss_one (ps_if (pt_cmpR (op_neD hr.units) (pc GRf hr pass0 (pa_cons (pv 9) (pa_cons (pv 7) (pa_cons (pv 11) (pa_cons (pv 5) pa_nil))))) (pe_lst (pa_cons pe_str (pa_cons pe_str pa_nil))) (nomark _)) (pss_one (ps_ret pe_bl)) pss_nil))))))
      (pss_cons (ps_if (pt_cmpR (op_neD hr.units) (pc GRf hr pass0 (pa_cons pe_bl (pa_cons (pv 7) (pa_cons (pv 6) (pa_cons (pv 8) pa_nil))))) (pe_lst (pa_cons pe_str (pa_cons pe_str pa_nil))) (nomark _)) (pss_one (ps_ret pe_bl)) pss_nil)
      (pss_cons (ps_if (pw_or (pt_cmpR (op_neD hr.units) (pc GRf hr pass0 (pa_cons pe_bl (pa_cons (pv 7) (pa_cons (pv 6) (pa_cons pe_non pa_nil))))) (pe_lst (pa_cons pe_str (pa_cons pe_str pa_nil))) (nomark _)) (pw_or (pt_cmpR (op_neI hr.units) (pv 7) (pv 1) (nomark _)) (pw_or1 (pt_cmpR (op_neD hr.units) (pv 8) (pv 2) (nomark _))))).pt (pss_one (ps_ret pe_bl)) pss_nil)
      (pss_one (ps_ret (pe_and (pe_cmpR (op_eqD hr.units) (pm0 (GT false) (TB false).cl hr pass0 (pmkD (k := 9) (dvs := []) GWI hr hW .nil pass0 (pa_cons (pv 7) (pa_cons (pv 8) pa_nil)))) (pv 2) (nomark _)) (pe_one (pe_cmpR (op_eqD hr.units) (pm0 (GT true) (TB true).cl hr pass0 (pmkD (k := 9) (dvs := []) GFI hr hF .nil pass0 (pa_cons (pv 7) (pa_cons (pv 3) (pa_cons (pv 8) pa_nil))))) (pv 2) (nomark _)))))))))))))))), ?_⟩
    refine ⟨_, rfl, a, ns, rfl, hq, fun ra H1 rk s1 nra hra h1 h60 hrk => ?_⟩
    have g : GoodRk rk := ⟨h1, h60, hrk⟩
    refine ⟨_, rfl, _, rfl, a, ra, ns, rk, rfl, s1.seq hq, hra, h1, h60, hrk, fun sc p0 p1 p2 H2 l0 l1 pl v s2 _ _ _ _ S ok => ?_⟩
    have s12 := s1.trans s2
    refine ⟨_, rfl, a, ns, 2, rfl, s12.seq hq, by omega, fun c => ⟨_, _, rfl, rfl, .inr (by constructor <;> decide), _, _, rfl, rfl, (by show (0 : Int) < 2147483647; decide), _, _, rfl, rfl, (by show (0 : Int) < 16; decide), _, _, rfl, rfl, ?_⟩⟩
    have hn : 1 ≤ 1 + c * 764261123 % 2147483647 % 16 ∧ 1 + c * 764261123 % 2147483647 % 16 ≤ 16 := by omega
    dsimp only
    generalize 1 + c * 764261123 % 2147483647 % 16 = n at hn ⊢
    have ra2 := s2 _ _ hra
    refine ⟨_, rfl, _, rfl, a, ns, 3, rfl, s12.seq hq, by omega, fun c3 => ⟨ra, rk, c3, rfl, ra2, g, fun nr H3 s3 hnr => ?_⟩⟩
    have s13 := s12.trans s3
    refine ⟨_, rfl, _, rfl, ra, _, rfl, .inl (SqL.of (s3 _ _ ra2)), _, rfl, a, ns, 4, rfl, s13.seq hq, by omega, fun c4 => ?_⟩
    refine ⟨sc, p0, p1, p2, c4, rk, l0, l1, pl, v, by rw [List.length_map]; rfl, g, ok, S.same s3, fun np H4 s4 hnp hne => ?_⟩
    have s14 := s13.trans s4
    refine ⟨_, rfl, (by show 1 ≤ sizeLine; decide), fun q1 m1 => ⟨_, _, rfl, rfl, cpow _ _ (by decide +kernel), (by show 8 ≤ sizeLine; decide), fun q2 m2 => ?_⟩⟩
    have y1 := Same.new (o := .lst [.int 1]) m1
    have y2 := Same.new (o := .lst [V.int 0, .int 17, .int (-1), .bl true, .non, .str "1", .ref q1, .int (10 ^ (30 : Int).toNat)]) m2
    have e1 := y2 _ _ (upd_same (H := H4) (a := q1) (o := .lst [.int 1]))
    have s15 := s14.trans (y1.trans y2)
    refine ⟨_, rfl, a, ns, 5, rfl, s15.seq hq, by omega, fun c5 => ⟨_, _, rfl, rfl, (by show (0 : Int) < 8; decide), ?_⟩⟩
    obtain ⟨ng, eng, hng⟩ := ixg8 (K := K) (x := "1") (i := c5 % 8) (by omega) (by omega) e1
    refine ⟨q2, _, _, ng, rfl, rfl, SqL.of upd_same, eng, ?_⟩
    have ra5 := (y1.trans y2) _ _ (s4 _ _ (s3 _ _ ra2))
    have S5 := ((S.same s3).same s4).same (y1.trans y2)
    have nr5 := (hnr.same s4).same (y1.trans y2)
    have np5 := hnp.same (y1.trans y2)
    generalize upd (upd H4 q1 (.lst [.int 1])) q2 (.lst [V.int 0, .int 17, .int (-1), .bl true, .non, .str "1", .ref q1, .int (10 ^ (30 : Int).toNat)]) = H5 at s15 hng ra5 S5 nr5 np5 ⊢
    refine ⟨_, rfl, ra, _, rfl, .inl (SqL.of ra5), fun rw nrw => ?_⟩
    have y3 := Same.new (o := .lst (rk.map V.int)) nrw
    have rw6 := upd_same (H := H5) (a := rw) (o := .lst (rk.map V.int))
    refine ⟨_, rfl, sc, p0, p1, p2, l0, l1, pl, v, rfl, S5.same y3, fun hn8 d0 d1 d2 H7 s7 _ _ _ _ _ _ _ S7 => ?_⟩
    have s57 := y3.trans s7
    have s17 := s15.trans s57
    have t7 := tt.same s17
    have rw7 := s7 _ _ rw6
    have ra7 := s57 _ _ ra5
    have Sc7 := S5.same s57
    have nr7 := nr5.same s57
    have np7 := np5.same s57
    have ng7 := hng.same s57
    clear s57 rw6 y3 S5 nr5 np5 ra5 e1 y1 y2 hnr hnp hng s7 s15 s14 s13 s4 s3 nrw m1 m2
    refine ⟨(by show 2 ≤ sizeLine; decide), fun q0 nq0 => ⟨q0, rfl, ⟨_, SqL.of upd_same⟩, ?_⟩⟩
    have y4 := Same.new (o := .lst [V.bl false, .bl true]) nq0
    have hq0 := upd_same (H := H7) (a := q0) (o := .lst [V.bl false, .bl true])
    generalize upd H7 q0 (.lst [V.bl false, .bl true]) = H8 at y4 hq0 ⊢
    refine for_list (K := K) (a := q0) (xs := [V.bl false, .bl true]) (fun i σ Hx => ∃ v9 v10 v11, σ = [some (.ref a), some (.ref ra), some (.ref sc), some (.int n), some nr, some np, some ng, some (.ref rw), some (.ref hn8), v9, v10, v11] ∧ Same H8 Hx)
      ⟨none, none, none, rfl, Same.refl _⟩ (fun i σ Hx _ ⟨_, _, _, _, sm⟩ => SqL.of (sm _ _ hq0)) ?turn ?done
    case turn =>
      rintro i vv σ Hx hv ⟨v9, v10, v11, rfl, sm⟩
      have hb : ∃ few, vv = V.bl few := by
        match i, hv with
        | 0, hv => exact ⟨false, by simpa using hv.symm⟩
        | 1, hv => exact ⟨true, by simpa using hv.symm⟩
        | i + 2, hv => simp at hv
      obtain ⟨few, rfl⟩ := hb
      refine ⟨_, rfl, _, rfl, (by show 2 ≤ sizeLine; decide), fun q1 n1 => ⟨q1, rfl, ⟨_, SqL.of upd_same⟩, ?_⟩⟩
      have y5 := Same.new (o := .lst [V.ref hn8, np]) n1
      have hq1 := upd_same (H := Hx) (a := q1) (o := .lst [V.ref hn8, np])
      have smA := (y4.trans sm).trans y5
      have smB := sm.trans y5
      generalize upd Hx q1 (.lst [V.ref hn8, np]) = HA at y5 smA smB hq1 ⊢
      refine for_list (K := K) (a := q1) (xs := [V.ref hn8, np]) (fun i σ Hy => ∃ v10, σ = [some (.ref a), some (.ref ra), some (.ref sc), some (.int n), some nr, some np, some ng, some (.ref rw), some (.ref hn8), some (.bl few), v10, v11] ∧ Same HA Hy)
        ⟨v10, rfl, Same.refl _⟩ (fun i σ Hy _ ⟨_, _, s⟩ => SqL.of (s _ _ hq1)) ?t2 ?d2
      case t2 =>
        rintro j wv σ Hy hv ⟨v10, rfl, s⟩
        have sB := smA.trans s
        refine ⟨_, rfl, _, rfl, _, rfl, _, rfl, (by show 2 ≤ sizeLine; decide), fun q2 n2 => ?_⟩
        have y6 := Same.new (o := .lst [V.int n, ng]) n2
        have ev : ∃ y, atI [V.int n, ng] (if few = true then 1 else 0) = some y := by
          cases few
          · exact ⟨_, rfl⟩
          · exact ⟨_, rfl⟩
        obtain ⟨y, ey⟩ := ev
        refine ⟨_, rfl, .inr ⟨few, rfl, q2, _, _, y, rfl, rfl, SqL.of upd_same, ey, _, rfl, ?_⟩⟩
        refine ⟨few, nr, y, wv, CNB, true, false, false, rfl, .inl ⟨rfl, nr7.same (sB.trans y6)⟩, X.b, .inl ⟨rfl, rfl, rfl⟩, X.mb, fun d H' s' nd hd => ?_⟩
        refine ⟨(by show 2 ≤ sizeLine; decide), fun q3 n3 => ?_⟩
        have y7 := Same.new (o := .lst [V.str "board", .str "value"]) n3
        refine ⟨.list [.str "board", .str "value"], .list [.str "board", .str "value"], .lst (SqL.of (y7 _ _ hd)) (.cons (.str _) (.cons (.str _) .nil)), .lst (SqL.of upd_same) (.cons (.str _) (.cons (.str _) .nil)), by decide +kernel, by decide +kernel, _, rfl, iteFe (by decide +kernel) ?_⟩
        exact ⟨some wv, rfl, ((s.trans y6).trans s').trans y7⟩
      case d2 =>
        rintro σ Hy ⟨v10, rfl, s⟩
        refine ⟨_, rfl, _, rfl, (by show 2 ≤ sizeLine; decide), fun q2 n2 => ⟨q2, rfl, ⟨_, SqL.of upd_same⟩, ?_⟩⟩
        have y6 := Same.new (o := .lst [V.int n, ng]) n2
        have hq2 := upd_same (H := Hy) (a := q2) (o := .lst [V.int n, ng])
        have smC := (smA.trans s).trans y6
        have smD := (smB.trans s).trans y6
        generalize upd Hy q2 (.lst [V.int n, ng]) = HB at y6 smC smD hq2 ⊢
        refine for_list (K := K) (a := q2) (xs := [V.int n, ng]) (fun i σ Hz => ∃ v11, σ = [some (.ref a), some (.ref ra), some (.ref sc), some (.int n), some nr, some np, some ng, some (.ref rw), some (.ref hn8), some (.bl few), v10, v11] ∧ Same HB Hz)
          ⟨v11, rfl, Same.refl _⟩ (fun i σ Hz _ ⟨_, _, s⟩ => SqL.of (s _ _ hq2)) ?t3 ?d3
        case t3 =>
          rintro j cv σ Hz hv ⟨v11, rfl, s3⟩
          have sE := smC.trans s3
          refine ⟨_, rfl, _, rfl, _, rfl, _, rfl, ?_⟩
          refine ⟨few, .ref rw, cv, np, CNP, false, true, false, rfl, .inr (.inl ⟨rfl, rw, rk, rfl, sE _ _ rw7, g, hne, np7.same sE⟩), X.p, .inr (.inl ⟨rfl, rfl, rfl⟩), X.mp, fun d H' s' nd hd => ?_⟩
          refine ⟨(by show 2 ≤ sizeLine; decide), fun q3 n3 => ?_⟩
          have y7 := Same.new (o := .lst [V.str "picture", .str "value"]) n3
          refine ⟨.list [.str "picture", .str "value"], .list [.str "picture", .str "value"], .lst (SqL.of (y7 _ _ hd)) (.cons (.str _) (.cons (.str _) .nil)), .lst (SqL.of upd_same) (.cons (.str _) (.cons (.str _) .nil)), by decide +kernel, by decide +kernel, _, rfl, iteFe (by decide +kernel) ?_⟩
          exact ⟨some cv, rfl, (s3.trans s').trans y7⟩
        case d3 =>
          rintro σ Hz ⟨v11, rfl, s3⟩
          exact ⟨_, _, _, rfl, smD.trans s3⟩
    case done =>
      rintro σ Hx ⟨v9, v10, v11, rfl, sm⟩
      have s8 := y4.trans sm
      refine ⟨_, rfl, _, rfl, _, rfl, ?_⟩
      refine ⟨true, .ref rw, ng, .ref hn8, CQ, false, false, true, rfl, .inr (.inr ⟨rfl, rfl, rw, rk, l0, l1, pl, v, rfl, s8 _ _ rw7, g, .inr ⟨hn8, d0, d1, d2, rfl, S7.same s8⟩, ok, ng7.same s8⟩), X.g, .inr (.inr ⟨rfl, rfl, rfl⟩), X.mg, fun d H9 s9 nd hd => ?_⟩
      refine ⟨(by show 2 ≤ sizeLine; decide), fun q3 n3 => ?_⟩
      have y7 := Same.new (o := .lst [V.str "pegs", .str "value"]) n3
      refine ⟨.list [.str "pegs", .str "value"], .list [.str "pegs", .str "value"], .lst (SqL.of (y7 _ _ hd)) (.cons (.str _) (.cons (.str _) .nil)), .lst (SqL.of upd_same) (.cons (.str _) (.cons (.str _) .nil)), by decide +kernel, by decide +kernel, _, rfl, iteFe (by decide +kernel) ?_⟩
      have s10 := (s8.trans s9).trans y7
      generalize upd H9 q3 (.lst [V.str "pegs", .str "value"]) = H10 at s10 ⊢
      refine ⟨_, rfl, _, rfl, ?_⟩
      refine ⟨true, .ref rw, ng, .non, CQ, false, false, true, rfl, .inr (.inr ⟨rfl, rfl, rw, rk, [], [], [], .non, rfl, s10 _ _ rw7, g, .inl ⟨rfl, rfl, rfl, rfl, rfl⟩, pic_nil rk, ng7.same s10⟩), X.g, .inr (.inr ⟨rfl, rfl, rfl⟩), X.mg, fun d' H11 s11 nd' hd' => ?_⟩
      refine ⟨(by show 2 ≤ sizeLine; decide), fun q4 n4 => ?_⟩
      have y8 := Same.new (o := .lst [V.str "pegs", .str "value"]) n4
      refine ⟨.list [.str "pegs", .str "value"], .list [.str "pegs", .str "value"], .lst (SqL.of (y8 _ _ hd')) (.cons (.str _) (.cons (.str _) .nil)), .lst (SqL.of upd_same) (.cons (.str _) (.cons (.str _) .nil)), by decide +kernel, by decide +kernel, _, rfl, iteFe (by decide +kernel) ?_⟩
      have s12' := (s10.trans s11).trans y8
      generalize upd H11 q4 (.lst [V.str "pegs", .str "value"]) = H12 at s12' ⊢
      have rwz := s12' _ _ rw7
      have raz := s12' _ _ ra7
      have Sz := S7.same s12'
      have Scz := Sc7.same s12'
      have tz := t7.same s12'
      refine ⟨_, rfl, _, rfl, rw, ra, rk, rk, rfl, rfl, SqL.of rwz, SqL.of raz, _, rfl, iteFe (by simp) ?_⟩
      refine ⟨_, rfl, _, rfl, picD l0 l1 pl v, picD l0 l1 pl v, Sz.sh ok.b, Scz.sh ok.b, shapedP _ _ _ _, shapedP _ _ _ _, _, rfl, iteFe (by rw [eqvP]; rfl) ?_⟩
      refine ⟨_, rfl, _, rfl, fun x dx nx ndx ne => ?_⟩
      refine made_w (CP := CP) (p := mkPG n []) rfl nx ndx ne rwz h1 h60 hrk (.inr ⟨hn8, d0, d1, d2, rfl, Sz⟩) ok tz fun F H13 k13 t13 fr B => ⟨rfl, ?_⟩
      obtain ⟨dx', fs, ex, nox⟩ := B.inst
      refine ⟨x, dx', fs, rfl, ex, nox _ (by decide +kernel), told_mk B ok fun u e0 e1 e2 H14 s14 S14 => ?_⟩
      have Sc14 := (tz.sc k13 Scz).same s14
      have Sz14 := (tz.sc k13 Sz).same s14
      have rw14 := s14 _ _ (tz.lst k13 rwz)
      have t14 := t13.same s14
      refine ⟨_, rfl, picD l0 l1 pl v, picD l0 l1 pl v, S14.sh ok.b, Sc14.sh ok.b, shapedP _ _ _ _, shapedP _ _ _ _, true, by rw [eqvP], iteT ?_⟩
      refine ⟨_, rfl, _, rfl, _, rfl, fun x2 dx2 nx2 ndx2 ne2 => ?_⟩
      refine made_f (P5 := P5) rfl nx2 ndx2 ne2 rw14 h1 h60 hrk (.inr ⟨hn8, d0, d1, d2, rfl, Sz14⟩) ok hn.1 hn.2 t14 fun F2 H15 ys k15 t15 fr2 so B2 => ⟨rfl, ?_⟩
      obtain ⟨dx3, fs3, ex3, nox3⟩ := B2.inst
      refine ⟨x2, dx3, fs3, rfl, ex3, nox3 _ (by decide +kernel), told_mk B2 ok fun u2 f0 f1 f2 H16 s16 S16 => ?_⟩
      refine ⟨_, rfl, picD l0 l1 pl v, picD l0 l1 pl v, S16.sh ok.b, ((t14.sc k15 Sc14).same s16).sh ok.b, shapedP _ _ _ _, shapedP _ _ _ _, ?_⟩
      rw [eqvP]
      exact kk _
end
end K07

namespace K07
open PySem L2 L3
def bb (CW CF : Addr) : Bool → Addr
  | false => CW
  | true => CF
structure Defs (K : PySem.W.Frag) (mg : Str → Option Value) (c4 DB CP CF CW : Addr) : Prop where
  d_is_whole : Def K mg "is_whole" (top 11) ["thing"]
  d_standing : Def K mg "standing" (top 12) ["ranks", "line"]
  d_is_up_to : Def K mg "is_up_to" (top 16) ["most", "thing"]
  d_is_rank : Def K mg "is_rank" (top 17) ["thing"]
  d_is_bar : Def K mg "is_bar" (top 18) ["thing"]
  d_is_line : Def K mg "is_line" (top 19) ["ranks", "thing"]
  d_are_ranks : Def K mg "are_ranks" (top 20) ["thing"]
  d_are_lines : Def K mg "are_lines" (top 21) ["ranks", "thing"]
  d_rises : Def K mg "rises" (top 22) ["numbers"]
  d_are_rising_lines : Def K mg "are_rising_lines" (top 23) ["ranks", "thing"]
  d_is_pile : Def K mg "is_pile" (top 24) ["ranks", "thing"]
  d_is_picture : Def K mg "is_picture" (top 25) ["ranks", "thing"]
  d_marks_of : Def K mg "marks_of" (top 26) ["ranks", "lines"]
  d_marked : Def K mg "marked" (top 27) ["marks"]
  d_is_count_of_pegs : Def K mg "is_count_of_pegs" (top 31) ["thing"]
  d__law_cell_at : Def K mg "_law_cell_at" (top 38) ["_law_script", "_law_k"]
  d__law_ranks : Def K mg "_law_ranks" (top 39) ["_law_script"]
  d__law_picture_by : Def K mg "_law_picture_by" (top 40) ["_law_script", "_law_ranks_here"]
  d__law_copy : Def K mg "_law_copy" (top 41) ["_law_picture"]
  d__law_names : Def K mg "_law_names" (top 42) ["_law_e"]
  d__law_refused : Def K mg "_law_refused" (top 43) ["_law_few", "_law_ranks_here", "_law_pegs", "_law_picture"]
  d__law_no_ranks : Def K mg "_law_no_ranks" (top 44) ["_law_ranks_here", "_law_cell"]
  d__law_spoiled_row : Def K mg "_law_spoiled_row" (top 45) ["_law_row", "_law_many", "_law_cell"]
  d__law_no_picture : Def K mg "_law_no_picture" (top 46) ["_law_picture", "_law_many", "_law_cell"]
  d_law : Def K mg "law" (top 47) ["_law_script"]
  d_in_order : DefC K mg "in_order" (top 13) ["ranks", "lines"] c4
  fb_told : MDef K CF "told" "Board.told" (bm 8) ["self"]
  fb_wants : MDef K CF "wants" "Board.wants" (bm 11) ["self", "line"]
  fb_wanting : MDef K CF "wanting" "Board.wanting" (bm 12) ["self"]
  wb_told : MDef K CW "told" "Board.told" (bm 8) ["self"]
  wb_wants : MDef K CW "wants" "Board.wants" (bm 11) ["self", "line"]
  wb_wanting : MDef K CW "wanting" "Board.wanting" (bm 12) ["self"]
  p_lay_from_book : MDef K CP "lay_from_book" "Pegs.lay_from_book" (mt 9) ["self"]
  kp : KDef K CP "Pegs.__init__" (mt 0) ["self", "ranks", "many", "lines"]
  kf0 : KDefD K CF "Few.__init__" (fm 0) ["self", "ranks", "pegs", "picture"] []
  kb : BDef K DB "__init__" "Board.__init__" (bm 0) ["self", "ranks", "picture"]
  kw0 : KDefD K CW "Board.__init__" (bm 0) ["self", "ranks", "picture"] []
theorem law_fu {P : Program} {w : World} {K : PySem.W.Frag} {mg : Str → Option Value} {base : Heap} {c4 P4 P5 DB CP CF CW CE CNB CNP CQ : Addr} (D : Defs K mg c4 DB CP CF CW) (T : Txt K mg) (TP : PTxt K CP) (TW : BTxt K CW) (TF : BTxt K CF) (nK : NoAttr K CF "rack") (XNB : ExcC K mg "NoBoard" CNB) (XNP : ExcC K mg "NoPicture" CNP) (XQ : ExcC K mg "NoPegs" CQ) (X : X7 K mg CNB CNP CQ CE)
    (hE : mg "BoardError" = some (.ref CE)) (ty : PySem.W.typeIn K (.ref CE) = some (.type "type")) (be : PySem.W.mroIn K CE (.type "BaseException") = some true) (hVE : mg "ValueError" = none) (hBo : mg "Board" = some (.ref DB)) (hP : mg "Pegs" = some (.ref CP)) (hF : mg "Few" = some (.ref CF)) (hW : mg "Wide" = some (.ref CW)) {u : Value} (hM : mg "MOST_PEGS" = some u) (hu : RelV (.int 16) u) {u2 : Value} (hM2 : mg "MOST_LINES" = some u2) (hu2 : RelV (.int 60) u2) (h4 : PySem.W.CodeHd base c4 P4) (hB : BMod mg base) :
    Fu P w K mg base CX0 11 "law" ["_law_script"] (spLaw K P4 P5) := by
  have gS := f_standing (P := P) (w := w) (mg := mg) (base := base) D.d_standing
  have gWh := f_is_whole (P := P) (w := w) (mg := mg) (base := base) D.d_is_whole T
  have gO := f_in_order (P := P) (w := w) (mg := mg) (base := base) D.d_in_order T gS h4 hB
  have gF := f_lfb (P := P) (w := w) (mg := mg) (base := base) D.p_lay_from_book T TP
  have gPI := f_pinit (P := P) (w := w) (mg := mg) (base := base) D.kp T TP XQ (f_count D.d_is_count_of_pegs gWh hM hu) gO gF
  have gU := f_up_to (P := P) (w := w) (mg := mg) (base := base) D.d_is_up_to gWh
  have gL := f_is_line (P := P) (w := w) (mg := mg) (base := base) D.d_is_line T gU
  have gBar := f_bar (P := P) (w := w) (mg := mg) (base := base) D.d_is_bar gU
  have gAL := f_are_lines (P := P) (w := w) (mg := mg) (base := base) D.d_are_lines T gL
  have nAL := f_are_linesF (P := P) (w := w) (mg := mg) (base := base) D.d_are_lines T gL
  have gRi := f_rises (P := P) (w := w) (mg := mg) (base := base) D.d_rises T
  have nRi := f_risesF (P := P) (w := w) (mg := mg) (base := base) D.d_rises T
  have gRL := f_rising_lines (P := P) (w := w) (mg := mg) (base := base) D.d_are_rising_lines gAL gRi
  have gPl := f_is_pile (P := P) (w := w) (mg := mg) (base := base) D.d_is_pile T gAL gRi
  have gPic := f_is_picture (P := P) (w := w) (mg := mg) (base := base) D.d_is_picture T gRL gPl gBar
  have nPic := f_is_pictureF (P := P) (w := w) (mg := mg) (base := base) D.d_is_picture T gRL gPl (f_risingF D.d_are_rising_lines nAL gAL nRi) (f_is_pileF D.d_is_pile T nAL gAL nRi) (f_barF D.d_is_bar gU)
  have gAR := f_are_ranks (P := P) (w := w) (mg := mg) (base := base) D.d_are_ranks T (f_rank D.d_is_rank gU) hM2 hu2
  have nAR := f_are_ranksF (P := P) (w := w) (mg := mg) (base := base) D.d_are_ranks T (f_rankG D.d_is_rank gU) hM2 hu2
  have gMk := f_marks_of (P := P) (w := w) (mg := mg) (base := base) D.d_marks_of T
  have gMd := f_marked (P := P) (w := w) (mg := mg) (base := base) D.d_marked T
  have wF := f_wanting (P := P) (w := w) (mg := mg) (base := base) D.fb_wanting T TF (f_wants D.fb_wants TF)
  have bI := f_binit (P := P) (w := w) (mg := mg) (base := base) D.kb T TF gAR gPic gMk
  have fb := few_body (P := P) (w := w) (mg := mg) (base := base) TF nK hBo hP bI gPI wF
  have gFI := D.kf0.fu scFewInit few_len fb
  have ib := init_body (P := P) (w := w) (mg := mg) (base := base) (C := CW) T TW gAR gPic gMk
  have gWI := D.kw0.fu scInit init_len ib
  have ibF := init_bodyF (P := P) (w := w) (mg := mg) (base := base) XNB XNP gAR nAR nPic
  have nWI := (D.kw0.fux scInit initF_len ibF).k
  have nBI := D.kb.fux scInit initF_len ibF
  have fbF := few_bodyF (P := P) (w := w) (mg := mg) (base := base) (CP := CP) (P4 := P4) TF hBo hP nBI bI gPI wF
  have nFI := (D.kf0.fux scFewInit fewF_len fbF).k
  have gRf := f_refd (P := P) (w := w) (mg := mg) (base := base) D.d__law_refused hE ty be hF hW nFI nWI (f_names D.d__law_names T hVE)
  have TB : ∀ fw, BTxt K (bb CW CF fw) := fun fw => by cases fw; exact TW; exact TF
  have gT : ∀ fw, FuM P w K mg base CX0 2 (bb CW CF fw) "told" ["self"] (spTold (bb CW CF fw)) := fun fw => by
    cases fw
    · exact f_told D.wb_told T TW gMd
    · exact f_told D.fb_told T TF gMd
  have gC := f_cell (P := P) (w := w) (mg := mg) (base := base) D.d__law_cell_at T
  exact f_law (CC := bb CW CF) (CP := CP) D.d_law T TB X hW hF (f_ranks D.d__law_ranks T gC) gC (f_pic_by D.d__law_picture_by T gC) (f_copy D.d__law_copy T) (f_noRks D.d__law_no_ranks T) (f_noPc D.d__law_no_picture T (f_spoil D.d__law_spoiled_row T)) gRf gWI gFI gT

theorem txt_of {K : PySem.W.Frag} {mg : Str → Option Value} {h : Heap} (X : K.In h) (G : h.Ns mainGlobals mg) (z0 : PySem.W.nsIn K mainGlobals "isinstance" = some none) (z1 : PySem.W.nsIn K mainGlobals "int" = some none) (z2 : PySem.W.nsIn K mainGlobals "bool" = some none) (z3 : PySem.W.nsIn K mainGlobals "list" = some none) (z4 : PySem.W.nsIn K mainGlobals "len" = some none) (z5 : PySem.W.nsIn K mainGlobals "range" = some none) (z6 : PySem.W.nsIn K mainGlobals "sorted" = some none) (z7 : PySem.W.nsIn K mainGlobals "min" = some none) (z8 : PySem.W.nsIn K mainGlobals "all" = some none) (z9 : PySem.W.nsIn K mainGlobals "zip" = some none) (z10 : PySem.W.nsIn K mainGlobals "reversed" = some none) (z11 : PySem.W.nsIn K mainGlobals "enumerate" = some none) (z12 : PySem.W.nsIn K mainGlobals "tuple" = some none) : Txt K mg :=
  ⟨PySem.W.mg_none_of X G z0, PySem.W.mg_none_of X G z1, PySem.W.mg_none_of X G z2, PySem.W.mg_none_of X G z3, PySem.W.mg_none_of X G z4, PySem.W.mg_none_of X G z5, PySem.W.mg_none_of X G z6, PySem.W.mg_none_of X G z7, PySem.W.mg_none_of X G z8, PySem.W.mg_none_of X G z9, PySem.W.mg_none_of X G z10, PySem.W.mg_none_of X G z11, PySem.W.mg_none_of X G z12⟩
end K07

/- The proof's own weight: the quick twins of these names (the text, its parts, the heaps and their trees) are not laid; the names are taken. The kernel then reckons with the names themselves. -/
def PySem.W.Fast.tw15814275605847329083 : Unit := ()
def PySem.W.Fast.tw13744839085677542047 : Unit := ()
def PySem.W.Fast.tw14707329301871921044 : Unit := ()
def PySem.W.Fast.tw4870380480725936852 : Unit := ()
def PySem.W.Fast.tw4477610914714102379 : Unit := ()
def PySem.W.Fast.tw1261841372023657696 : Unit := ()
def PySem.W.Fast.tw16935664719191793030 : Unit := ()
def PySem.W.Fast.tw3682399689976441933 : Unit := ()
def PySem.W.Fast.tw3001927796962966784 : Unit := ()
def PySem.W.Fast.tw184193866283108377 : Unit := ()
def PySem.W.Fast.tw4719606071288136087 : Unit := ()
def PySem.W.Fast.tw10428459000853257926 : Unit := ()
def PySem.W.Fast.tw9202891420498382982 : Unit := ()
def PySem.W.Fast.tw6389576204561014628 : Unit := ()
def PySem.W.Fast.tw10132981833358756291 : Unit := ()
def PySem.W.Fast.tw8768724480639455494 : Unit := ()
def PySem.W.Fast.tw5983651800200029501 : Unit := ()
def PySem.W.Fast.tw274317238315815635 : Unit := ()
def PySem.W.Fast.tw15297045958405897705 : Unit := ()
def PySem.W.Fast.tw7904345195092644 : Unit := ()
def PySem.W.Fast.tw10342606916711891270 : Unit := ()
def PySem.W.Fast.tw3490032625416593779 : Unit := ()
def PySem.W.Fast.tw15411655962585255949 : Unit := ()
def PySem.W.Fast.tw13272662597131600436 : Unit := ()
def PySem.W.Fast.tw17629870063265899384 : Unit := ()
def PySem.W.Fast.tw12754781547924964558 : Unit := ()
def PySem.W.Fast.tw5851283162633484437 : Unit := ()
def PySem.W.Fast.tw13583947957526920416 : Unit := ()
def PySem.W.Fast.tw11159131369072555096 : Unit := ()
def PySem.W.Fast.tw1938939612935547150 : Unit := ()
def PySem.W.Fast.tw5401297783343096789 : Unit := ()
def PySem.W.Fast.tw12943085027751953303 : Unit := ()
def PySem.W.Fast.tw11511617880627675841 : Unit := ()
def PySem.W.Fast.tw7821763945151919692 : Unit := ()
def PySem.W.Fast.tw14460439813292945613 : Unit := ()
def PySem.W.Fast.tw7506555240726994800 : Unit := ()
def PySem.W.Fast.tw7913014567189427172 : Unit := ()
def PySem.W.Fast.tw14377597802699799449 : Unit := ()
def PySem.W.Fast.tw670016789236502174 : Unit := ()
open PySem PySem.W PyProof.Rows
set_option maxRecDepth 100000 in
set_option maxHeartbeats 0 in
theorem PySem.Challenge.cw_fewpegs_k07_refused_makings_holds : PySem.Challenge.rw_fewpegs_k07_refused_makings.Holds := by
  w_on; o_law; k_head; (case hw => w_witness2)
  k_fill
  refine L3.walk_ofT (l := PySem.Challenge.rw_fewpegs_k07_refused_makings) (n := 63) (k := 11) (x := "_law_script") (CX := fun _ _ => L2.CX0) (sp := fun K => K07.spLaw K 148 0) (tabs := [(152, 148)]) rfl (by decide) rfl ⟨rfl, by decide, by decide⟩ (fun w h Y => km_in_of Y) ?T (fun p => by kernel_rfl) ?F ?S ?C
  case T =>
    intro w h Y
    have KX := km_in_of Y
    have hT8 := km_tabs_of Y
    exact List.forall_mem_cons.mpr ⟨⟨codeHd_of_K (c := 152) (P := 148) KX (by kernel_rfl), hT8 148 (by k_mem)⟩, fun _ h => nomatch h⟩
  case S => exact fun K H a ns hl hS hT => ⟨a, ns, rfl, hS, hl, ⟨.inl (hT (152, 148) (by simp))⟩, fun _ => rfl⟩
  case C => exact fun _ _ _ _ _ _ z => z
  case F =>
    intro w mg h KX G base kb nb hB hC
    have T : K07.Txt (L2.KOf KX) mg := by
      dsimp only [L2.KOf]
      refine' K07.txt_of KX G ?z0 ?z1 ?z2 ?z3 ?z4 ?z5 ?z6 ?z7 ?z8 ?z9 ?z10 ?z11 ?z12
      (case z0 => k_is); (case z1 => k_is); (case z2 => k_is); (case z3 => k_is); (case z4 => k_is); (case z5 => k_is); (case z6 => k_is); (case z7 => k_is); (case z8 => k_is); (case z9 => k_is); (case z10 => k_is); (case z11 => k_is); (case z12 => k_is)
    have hBE : mg "BoardError" = some (.ref 31) := by
      refine PySem.W.mg_of KX G ?a
      (case a => k_is)
    have hBo : mg "Board" = some (.ref 332) := by
      refine PySem.W.mg_of KX G ?a
      (case a => k_is)
    have hP : mg "Pegs" = some (.ref 423) := by
      refine PySem.W.mg_of KX G ?a
      (case a => k_is)
    have hF : mg "Few" = some (.ref 487) := by
      refine PySem.W.mg_of KX G ?a
      (case a => k_is)
    have hN : mg "NoLine" = some (.ref 44) := by
      refine PySem.W.mg_of KX G ?a
      (case a => k_is)
    have hNB : mg "NoBar" = some (.ref 92) := by
      refine PySem.W.mg_of KX G ?a
      (case a => k_is)
    have hQ : mg "NoPegs" = some (.ref 68) := by
      refine PySem.W.mg_of KX G ?a
      (case a => k_is)
    have hNT : mg "NotTop" = some (.ref 111) := by
      refine PySem.W.mg_of KX G ?a
      (case a => k_is)
    have hNBo : mg "NoBoard" = some (.ref 56) := by
      refine PySem.W.mg_of KX G ?a
      (case a => k_is)
    have hNPi : mg "NoPicture" = some (.ref 80) := by
      refine PySem.W.mg_of KX G ?a
      (case a => k_is)
    have hND : mg "NoDeed" = some (.ref 130) := by
      refine PySem.W.mg_of KX G ?a
      (case a => k_is)
    have hW : mg "Wide" = some (.ref 520) := by
      refine PySem.W.mg_of KX G ?a
      (case a => k_is)
    have hMP : ∃ u, mg "MOST_PEGS" = some u ∧ L2.RelV (.int 16) u := by
      refine' L3.int_of KX G ?a
      (case a => k_is)
    have hML : ∃ u, mg "MOST_LINES" = some u ∧ L2.RelV (.int 60) u := by
      refine' L3.int_of KX G ?a
      (case a => k_is)
    have cc_pg : PySem.W.plainGet (L2.KOf KX) 423 Str.empty = true := by
      dsimp only [L2.KOf]
      k_is
    have cc_hd : PySem.W.hasDictIn (L2.KOf KX) 423 = true := by
      dsimp only [L2.KOf]
      k_is
    have cc_po : PySem.W.plainOver (L2.KOf KX) 423 = true := by
      dsimp only [L2.KOf]
      k_is
    have cc_sa : PySem.W.findIn (L2.KOf KX) (.ref 423) "__setattr__" = some (some (.builtin "object.__setattr__")) := by
      dsimp only [L2.KOf]
      k_is
    have cc_n_ranks : PySem.W.findIn (L2.KOf KX) (.ref 423) "ranks" = some none := by
      dsimp only [L2.KOf]
      k_is
    have cc_n_many : PySem.W.findIn (L2.KOf KX) (.ref 423) "many" = some none := by
      dsimp only [L2.KOf]
      k_is
    have cc_n_hung : PySem.W.findIn (L2.KOf KX) (.ref 423) "hung" = some none := by
      dsimp only [L2.KOf]
      k_is
    have cc_n_book : PySem.W.findIn (L2.KOf KX) (.ref 423) "book" = some none := by
      dsimp only [L2.KOf]
      k_is
    have cc_n_came : PySem.W.findIn (L2.KOf KX) (.ref 423) "came" = some none := by
      dsimp only [L2.KOf]
      k_is
    have cc_n_laid : PySem.W.findIn (L2.KOf KX) (.ref 423) "laid" = some none := by
      dsimp only [L2.KOf]
      k_is
    have cc_n_calls : PySem.W.findIn (L2.KOf KX) (.ref 423) "calls" = some none := by
      dsimp only [L2.KOf]
      k_is
    have cf_pg : PySem.W.plainGet (L2.KOf KX) 487 Str.empty = true := by
      dsimp only [L2.KOf]
      k_is
    have cf_hd : PySem.W.hasDictIn (L2.KOf KX) 487 = true := by
      dsimp only [L2.KOf]
      k_is
    have cf_po : PySem.W.plainOver (L2.KOf KX) 487 = true := by
      dsimp only [L2.KOf]
      k_is
    have cf_sa : PySem.W.findIn (L2.KOf KX) (.ref 487) "__setattr__" = some (some (.builtin "object.__setattr__")) := by
      dsimp only [L2.KOf]
      k_is
    have cf_n_ranks : PySem.W.findIn (L2.KOf KX) (.ref 487) "ranks" = some none := by
      dsimp only [L2.KOf]
      k_is
    have cf_n_asks : PySem.W.findIn (L2.KOf KX) (.ref 487) "asks" = some none := by
      dsimp only [L2.KOf]
      k_is
    have cf_n_muted : PySem.W.findIn (L2.KOf KX) (.ref 487) "muted" = some none := by
      dsimp only [L2.KOf]
      k_is
    have cf_n_pile : PySem.W.findIn (L2.KOf KX) (.ref 487) "pile" = some none := by
      dsimp only [L2.KOf]
      k_is
    have cf_n_limit : PySem.W.findIn (L2.KOf KX) (.ref 487) "limit" = some none := by
      dsimp only [L2.KOf]
      k_is
    have cf_n_rack : PySem.W.findIn (L2.KOf KX) (.ref 487) "rack" = some none := by
      dsimp only [L2.KOf]
      k_is
    have cw_pg : PySem.W.plainGet (L2.KOf KX) 520 Str.empty = true := by
      dsimp only [L2.KOf]
      k_is
    have cw_hd : PySem.W.hasDictIn (L2.KOf KX) 520 = true := by
      dsimp only [L2.KOf]
      k_is
    have cw_po : PySem.W.plainOver (L2.KOf KX) 520 = true := by
      dsimp only [L2.KOf]
      k_is
    have cw_sa : PySem.W.findIn (L2.KOf KX) (.ref 520) "__setattr__" = some (some (.builtin "object.__setattr__")) := by
      dsimp only [L2.KOf]
      k_is
    have cw_n_ranks : PySem.W.findIn (L2.KOf KX) (.ref 520) "ranks" = some none := by
      dsimp only [L2.KOf]
      k_is
    have cw_n_asks : PySem.W.findIn (L2.KOf KX) (.ref 520) "asks" = some none := by
      dsimp only [L2.KOf]
      k_is
    have cw_n_muted : PySem.W.findIn (L2.KOf KX) (.ref 520) "muted" = some none := by
      dsimp only [L2.KOf]
      k_is
    have cw_n_pile : PySem.W.findIn (L2.KOf KX) (.ref 520) "pile" = some none := by
      dsimp only [L2.KOf]
      k_is
    have cw_n_limit : PySem.W.findIn (L2.KOf KX) (.ref 520) "limit" = some none := by
      dsimp only [L2.KOf]
      k_is
    have hVE : mg "ValueError" = none := by
      refine PySem.W.mg_none_of KX G ?a
      (case a => k_is)
    have knB : PySem.W.keepIn (L2.KOf KX) (.ref 56) = true := by
      dsimp only [L2.KOf]
      k_is
    have xnB : PySem.W.excIn (L2.KOf KX) 56 [.type "ValueError", .type "Exception", .type "BaseException", .type "object"] "ValueError.__new__" = true := by
      dsimp only [L2.KOf]
      kernel_rfl
    have knP : PySem.W.keepIn (L2.KOf KX) (.ref 80) = true := by
      dsimp only [L2.KOf]
      k_is
    have xnP : PySem.W.excIn (L2.KOf KX) 80 [.type "ValueError", .type "Exception", .type "BaseException", .type "object"] "ValueError.__new__" = true := by
      dsimp only [L2.KOf]
      kernel_rfl
    have knQ : PySem.W.keepIn (L2.KOf KX) (.ref 68) = true := by
      dsimp only [L2.KOf]
      k_is
    have xnQ : PySem.W.excIn (L2.KOf KX) 68 [.type "ValueError", .type "Exception", .type "BaseException", .type "object"] "ValueError.__new__" = true := by
      dsimp only [L2.KOf]
      kernel_rfl
    have tyE : PySem.W.typeIn (L2.KOf KX) (.ref 31) = some (.type "type") := by
      dsimp only [L2.KOf]
      k_is
    have beE : PySem.W.mroIn (L2.KOf KX) 31 (.type "BaseException") = some true := by
      dsimp only [L2.KOf]
      k_is
    have gcg : PySem.W.specialIn (L2.KOf KX) (.builtin "object.__class__") "__get__" = some (some (.builtin "getset_descriptor.__get__")) := by
      dsimp only [L2.KOf]
      k_is
    have gct : PySem.W.takesIn (L2.KOf KX) (.builtin "object.__class__") = some true := by
      dsimp only [L2.KOf]
      k_is
    have mEB : PySem.W.mroIn (L2.KOf KX) 56 (.ref 31) = some true := by
      dsimp only [L2.KOf]
      k_is
    have gaB : PySem.W.findIn (L2.KOf KX) (.ref 56) "__getattribute__" = some (some (.builtin "BaseException.__getattribute__")) := by
      dsimp only [L2.KOf]
      k_is
    have ghB : PySem.W.findIn (L2.KOf KX) (.ref 56) "__getattr__" = some none := by
      dsimp only [L2.KOf]
      k_is
    have gbB : PySem.W.mroIn (L2.KOf KX) 56 (.type "BaseException") = some true := by
      dsimp only [L2.KOf]
      k_is
    have goB : PySem.W.mroIn (L2.KOf KX) 56 (.type "object") = some true := by
      dsimp only [L2.KOf]
      k_is
    have gcB : PySem.W.findIn (L2.KOf KX) (.ref 56) "__class__" = some (some (.builtin "object.__class__")) := by
      dsimp only [L2.KOf]
      k_is
    have gxB : L3.ExcG (L2.KOf KX) 56 := ⟨gaB, ghB, gbB, goB, gcB, gcg, gct⟩
    have kB0 : PySem.W.kitOne (L2.KOf KX) (.ref 56) (.ref 56) = some true := by
      dsimp only [L2.KOf]
      kernel_rfl
    have kB1 : PySem.W.kitOne (L2.KOf KX) (.ref 56) (.ref 80) = some false := by
      dsimp only [L2.KOf]
      kernel_rfl
    have kB2 : PySem.W.kitOne (L2.KOf KX) (.ref 56) (.ref 68) = some false := by
      dsimp only [L2.KOf]
      kernel_rfl
    have kB3 : PySem.W.kitOne (L2.KOf KX) (.ref 56) (.ref 44) = some false := by
      dsimp only [L2.KOf]
      kernel_rfl
    have kB4 : PySem.W.kitOne (L2.KOf KX) (.ref 56) (.ref 92) = some false := by
      dsimp only [L2.KOf]
      kernel_rfl
    have kB5 : PySem.W.kitOne (L2.KOf KX) (.ref 56) (.ref 111) = some false := by
      dsimp only [L2.KOf]
      kernel_rfl
    have kB6 : PySem.W.kitOne (L2.KOf KX) (.ref 56) (.ref 130) = some false := by
      dsimp only [L2.KOf]
      kernel_rfl
    have veB : PySem.W.kitOne (L2.KOf KX) (.ref 56) (.type "ValueError") = some true := by
      dsimp only [L2.KOf]
      kernel_rfl
    have mEP : PySem.W.mroIn (L2.KOf KX) 80 (.ref 31) = some true := by
      dsimp only [L2.KOf]
      k_is
    have gaP : PySem.W.findIn (L2.KOf KX) (.ref 80) "__getattribute__" = some (some (.builtin "BaseException.__getattribute__")) := by
      dsimp only [L2.KOf]
      k_is
    have ghP : PySem.W.findIn (L2.KOf KX) (.ref 80) "__getattr__" = some none := by
      dsimp only [L2.KOf]
      k_is
    have gbP : PySem.W.mroIn (L2.KOf KX) 80 (.type "BaseException") = some true := by
      dsimp only [L2.KOf]
      k_is
    have goP : PySem.W.mroIn (L2.KOf KX) 80 (.type "object") = some true := by
      dsimp only [L2.KOf]
      k_is
    have gcP : PySem.W.findIn (L2.KOf KX) (.ref 80) "__class__" = some (some (.builtin "object.__class__")) := by
      dsimp only [L2.KOf]
      k_is
    have gxP : L3.ExcG (L2.KOf KX) 80 := ⟨gaP, ghP, gbP, goP, gcP, gcg, gct⟩
    have kP0 : PySem.W.kitOne (L2.KOf KX) (.ref 80) (.ref 56) = some false := by
      dsimp only [L2.KOf]
      kernel_rfl
    have kP1 : PySem.W.kitOne (L2.KOf KX) (.ref 80) (.ref 80) = some true := by
      dsimp only [L2.KOf]
      kernel_rfl
    have kP2 : PySem.W.kitOne (L2.KOf KX) (.ref 80) (.ref 68) = some false := by
      dsimp only [L2.KOf]
      kernel_rfl
    have kP3 : PySem.W.kitOne (L2.KOf KX) (.ref 80) (.ref 44) = some false := by
      dsimp only [L2.KOf]
      kernel_rfl
    have kP4 : PySem.W.kitOne (L2.KOf KX) (.ref 80) (.ref 92) = some false := by
      dsimp only [L2.KOf]
      kernel_rfl
    have kP5 : PySem.W.kitOne (L2.KOf KX) (.ref 80) (.ref 111) = some false := by
      dsimp only [L2.KOf]
      kernel_rfl
    have kP6 : PySem.W.kitOne (L2.KOf KX) (.ref 80) (.ref 130) = some false := by
      dsimp only [L2.KOf]
      kernel_rfl
    have veP : PySem.W.kitOne (L2.KOf KX) (.ref 80) (.type "ValueError") = some true := by
      dsimp only [L2.KOf]
      kernel_rfl
    have mEQ : PySem.W.mroIn (L2.KOf KX) 68 (.ref 31) = some true := by
      dsimp only [L2.KOf]
      k_is
    have gaQ : PySem.W.findIn (L2.KOf KX) (.ref 68) "__getattribute__" = some (some (.builtin "BaseException.__getattribute__")) := by
      dsimp only [L2.KOf]
      k_is
    have ghQ : PySem.W.findIn (L2.KOf KX) (.ref 68) "__getattr__" = some none := by
      dsimp only [L2.KOf]
      k_is
    have gbQ : PySem.W.mroIn (L2.KOf KX) 68 (.type "BaseException") = some true := by
      dsimp only [L2.KOf]
      k_is
    have goQ : PySem.W.mroIn (L2.KOf KX) 68 (.type "object") = some true := by
      dsimp only [L2.KOf]
      k_is
    have gcQ : PySem.W.findIn (L2.KOf KX) (.ref 68) "__class__" = some (some (.builtin "object.__class__")) := by
      dsimp only [L2.KOf]
      k_is
    have gxQ : L3.ExcG (L2.KOf KX) 68 := ⟨gaQ, ghQ, gbQ, goQ, gcQ, gcg, gct⟩
    have kQ0 : PySem.W.kitOne (L2.KOf KX) (.ref 68) (.ref 56) = some false := by
      dsimp only [L2.KOf]
      kernel_rfl
    have kQ1 : PySem.W.kitOne (L2.KOf KX) (.ref 68) (.ref 80) = some false := by
      dsimp only [L2.KOf]
      kernel_rfl
    have kQ2 : PySem.W.kitOne (L2.KOf KX) (.ref 68) (.ref 68) = some true := by
      dsimp only [L2.KOf]
      kernel_rfl
    have kQ3 : PySem.W.kitOne (L2.KOf KX) (.ref 68) (.ref 44) = some false := by
      dsimp only [L2.KOf]
      kernel_rfl
    have kQ4 : PySem.W.kitOne (L2.KOf KX) (.ref 68) (.ref 92) = some false := by
      dsimp only [L2.KOf]
      kernel_rfl
    have kQ5 : PySem.W.kitOne (L2.KOf KX) (.ref 68) (.ref 111) = some false := by
      dsimp only [L2.KOf]
      kernel_rfl
    have kQ6 : PySem.W.kitOne (L2.KOf KX) (.ref 68) (.ref 130) = some false := by
      dsimp only [L2.KOf]
      kernel_rfl
    have veQ : PySem.W.kitOne (L2.KOf KX) (.ref 68) (.type "ValueError") = some true := by
      dsimp only [L2.KOf]
      kernel_rfl
    have d_is_whole : L3.Def (L2.KOf KX) mg "is_whole" (K07.top 11) ["thing"] := by
      dsimp only [L2.KOf]
      refine' L3.Def.of KX G (fun _ _ _ _ _ _ us hl => match us, hl with | [_], _ => rfl) ?a ?l ?c ?k
      (case a => k_is); (case l => k_is); (case c => k_is); (case k => k_is)
    have d_standing : L3.Def (L2.KOf KX) mg "standing" (K07.top 12) ["ranks", "line"] := by
      dsimp only [L2.KOf]
      refine' L3.Def.of KX G (fun _ _ _ _ _ _ us hl => match us, hl with | [_, _], _ => rfl) ?a ?l ?c ?k
      (case a => k_is); (case l => k_is); (case c => k_is); (case k => k_is)
    have d_is_up_to : L3.Def (L2.KOf KX) mg "is_up_to" (K07.top 16) ["most", "thing"] := by
      dsimp only [L2.KOf]
      refine' L3.Def.of KX G (fun _ _ _ _ _ _ us hl => match us, hl with | [_, _], _ => rfl) ?a ?l ?c ?k
      (case a => k_is); (case l => k_is); (case c => k_is); (case k => k_is)
    have d_is_rank : L3.Def (L2.KOf KX) mg "is_rank" (K07.top 17) ["thing"] := by
      dsimp only [L2.KOf]
      refine' L3.Def.of KX G (fun _ _ _ _ _ _ us hl => match us, hl with | [_], _ => rfl) ?a ?l ?c ?k
      (case a => k_is); (case l => k_is); (case c => k_is); (case k => k_is)
    have d_is_bar : L3.Def (L2.KOf KX) mg "is_bar" (K07.top 18) ["thing"] := by
      dsimp only [L2.KOf]
      refine' L3.Def.of KX G (fun _ _ _ _ _ _ us hl => match us, hl with | [_], _ => rfl) ?a ?l ?c ?k
      (case a => k_is); (case l => k_is); (case c => k_is); (case k => k_is)
    have d_is_line : L3.Def (L2.KOf KX) mg "is_line" (K07.top 19) ["ranks", "thing"] := by
      dsimp only [L2.KOf]
      refine' L3.Def.of KX G (fun _ _ _ _ _ _ us hl => match us, hl with | [_, _], _ => rfl) ?a ?l ?c ?k
      (case a => k_is); (case l => k_is); (case c => k_is); (case k => k_is)
    have d_are_ranks : L3.Def (L2.KOf KX) mg "are_ranks" (K07.top 20) ["thing"] := by
      dsimp only [L2.KOf]
      refine' L3.Def.of KX G (fun _ _ _ _ _ _ us hl => match us, hl with | [_], _ => rfl) ?a ?l ?c ?k
      (case a => k_is); (case l => k_is); (case c => k_is); (case k => k_is)
    have d_are_lines : L3.Def (L2.KOf KX) mg "are_lines" (K07.top 21) ["ranks", "thing"] := by
      dsimp only [L2.KOf]
      refine' L3.Def.of KX G (fun _ _ _ _ _ _ us hl => match us, hl with | [_, _], _ => rfl) ?a ?l ?c ?k
      (case a => k_is); (case l => k_is); (case c => k_is); (case k => k_is)
    have d_rises : L3.Def (L2.KOf KX) mg "rises" (K07.top 22) ["numbers"] := by
      dsimp only [L2.KOf]
      refine' L3.Def.of KX G (fun _ _ _ _ _ _ us hl => match us, hl with | [_], _ => rfl) ?a ?l ?c ?k
      (case a => k_is); (case l => k_is); (case c => k_is); (case k => k_is)
    have d_are_rising_lines : L3.Def (L2.KOf KX) mg "are_rising_lines" (K07.top 23) ["ranks", "thing"] := by
      dsimp only [L2.KOf]
      refine' L3.Def.of KX G (fun _ _ _ _ _ _ us hl => match us, hl with | [_, _], _ => rfl) ?a ?l ?c ?k
      (case a => k_is); (case l => k_is); (case c => k_is); (case k => k_is)
    have d_is_pile : L3.Def (L2.KOf KX) mg "is_pile" (K07.top 24) ["ranks", "thing"] := by
      dsimp only [L2.KOf]
      refine' L3.Def.of KX G (fun _ _ _ _ _ _ us hl => match us, hl with | [_, _], _ => rfl) ?a ?l ?c ?k
      (case a => k_is); (case l => k_is); (case c => k_is); (case k => k_is)
    have d_is_picture : L3.Def (L2.KOf KX) mg "is_picture" (K07.top 25) ["ranks", "thing"] := by
      dsimp only [L2.KOf]
      refine' L3.Def.of KX G (fun _ _ _ _ _ _ us hl => match us, hl with | [_, _], _ => rfl) ?a ?l ?c ?k
      (case a => k_is); (case l => k_is); (case c => k_is); (case k => k_is)
    have d_marks_of : L3.Def (L2.KOf KX) mg "marks_of" (K07.top 26) ["ranks", "lines"] := by
      dsimp only [L2.KOf]
      refine' L3.Def.of KX G (fun _ _ _ _ _ _ us hl => match us, hl with | [_, _], _ => rfl) ?a ?l ?c ?k
      (case a => k_is); (case l => k_is); (case c => k_is); (case k => k_is)
    have d_marked : L3.Def (L2.KOf KX) mg "marked" (K07.top 27) ["marks"] := by
      dsimp only [L2.KOf]
      refine' L3.Def.of KX G (fun _ _ _ _ _ _ us hl => match us, hl with | [_], _ => rfl) ?a ?l ?c ?k
      (case a => k_is); (case l => k_is); (case c => k_is); (case k => k_is)
    have d_is_count_of_pegs : L3.Def (L2.KOf KX) mg "is_count_of_pegs" (K07.top 31) ["thing"] := by
      dsimp only [L2.KOf]
      refine' L3.Def.of KX G (fun _ _ _ _ _ _ us hl => match us, hl with | [_], _ => rfl) ?a ?l ?c ?k
      (case a => k_is); (case l => k_is); (case c => k_is); (case k => k_is)
    have d__law_cell_at : L3.Def (L2.KOf KX) mg "_law_cell_at" (K07.top 38) ["_law_script", "_law_k"] := by
      dsimp only [L2.KOf]
      refine' L3.Def.of KX G (fun _ _ _ _ _ _ us hl => match us, hl with | [_, _], _ => rfl) ?a ?l ?c ?k
      (case a => k_is); (case l => k_is); (case c => k_is); (case k => k_is)
    have d__law_ranks : L3.Def (L2.KOf KX) mg "_law_ranks" (K07.top 39) ["_law_script"] := by
      dsimp only [L2.KOf]
      refine' L3.Def.of KX G (fun _ _ _ _ _ _ us hl => match us, hl with | [_], _ => rfl) ?a ?l ?c ?k
      (case a => k_is); (case l => k_is); (case c => k_is); (case k => k_is)
    have d__law_picture_by : L3.Def (L2.KOf KX) mg "_law_picture_by" (K07.top 40) ["_law_script", "_law_ranks_here"] := by
      dsimp only [L2.KOf]
      refine' L3.Def.of KX G (fun _ _ _ _ _ _ us hl => match us, hl with | [_, _], _ => rfl) ?a ?l ?c ?k
      (case a => k_is); (case l => k_is); (case c => k_is); (case k => k_is)
    have d__law_copy : L3.Def (L2.KOf KX) mg "_law_copy" (K07.top 41) ["_law_picture"] := by
      dsimp only [L2.KOf]
      refine' L3.Def.of KX G (fun _ _ _ _ _ _ us hl => match us, hl with | [_], _ => rfl) ?a ?l ?c ?k
      (case a => k_is); (case l => k_is); (case c => k_is); (case k => k_is)
    have d__law_names : L3.Def (L2.KOf KX) mg "_law_names" (K07.top 42) ["_law_e"] := by
      dsimp only [L2.KOf]
      refine' L3.Def.of KX G (fun _ _ _ _ _ _ us hl => match us, hl with | [_], _ => rfl) ?a ?l ?c ?k
      (case a => k_is); (case l => k_is); (case c => k_is); (case k => k_is)
    have d__law_refused : L3.Def (L2.KOf KX) mg "_law_refused" (K07.top 43) ["_law_few", "_law_ranks_here", "_law_pegs", "_law_picture"] := by
      dsimp only [L2.KOf]
      refine' L3.Def.of KX G (fun _ _ _ _ _ _ us hl => match us, hl with | [_, _, _, _], _ => rfl) ?a ?l ?c ?k
      (case a => k_is); (case l => k_is); (case c => k_is); (case k => k_is)
    have d__law_no_ranks : L3.Def (L2.KOf KX) mg "_law_no_ranks" (K07.top 44) ["_law_ranks_here", "_law_cell"] := by
      dsimp only [L2.KOf]
      refine' L3.Def.of KX G (fun _ _ _ _ _ _ us hl => match us, hl with | [_, _], _ => rfl) ?a ?l ?c ?k
      (case a => k_is); (case l => k_is); (case c => k_is); (case k => k_is)
    have d__law_spoiled_row : L3.Def (L2.KOf KX) mg "_law_spoiled_row" (K07.top 45) ["_law_row", "_law_many", "_law_cell"] := by
      dsimp only [L2.KOf]
      refine' L3.Def.of KX G (fun _ _ _ _ _ _ us hl => match us, hl with | [_, _, _], _ => rfl) ?a ?l ?c ?k
      (case a => k_is); (case l => k_is); (case c => k_is); (case k => k_is)
    have d__law_no_picture : L3.Def (L2.KOf KX) mg "_law_no_picture" (K07.top 46) ["_law_picture", "_law_many", "_law_cell"] := by
      dsimp only [L2.KOf]
      refine' L3.Def.of KX G (fun _ _ _ _ _ _ us hl => match us, hl with | [_, _, _], _ => rfl) ?a ?l ?c ?k
      (case a => k_is); (case l => k_is); (case c => k_is); (case k => k_is)
    have d_law : L3.Def (L2.KOf KX) mg "law" (K07.top 47) ["_law_script"] := by
      dsimp only [L2.KOf]
      refine' L3.Def.of KX G (fun _ _ _ _ _ _ us hl => match us, hl with | [_], _ => rfl) ?a ?l ?c ?k
      (case a => k_is); (case l => k_is); (case c => k_is); (case k => k_is)
    have d_in_order : L3.DefC (L2.KOf KX) mg "in_order" (K07.top 13) ["ranks", "lines"] 152 := by
      dsimp only [L2.KOf]
      refine' L3.DefC.of KX G (fun _ _ _ _ _ _ us hl => match us, hl with | [_, _], _ => rfl) ?a ?l ?c ?k
      (case a => k_is); (case l => k_is); (case c => k_is); (case k => k_is)
    have fb_told : L3.MDef (L2.KOf KX) 487 "told" "Board.told" (K07.bm 8) ["self"] := by
      dsimp only [L2.KOf]
      refine' L3.MDef.of (fun _ _ _ _ _ _ us hl => match us, hl with | [_], _ => rfl) ?a ?i ?l ?c ?k
      (case a => k_is); (case i => k_is); (case l => k_is); (case c => k_is); (case k => k_is)
    have fb_wants : L3.MDef (L2.KOf KX) 487 "wants" "Board.wants" (K07.bm 11) ["self", "line"] := by
      dsimp only [L2.KOf]
      refine' L3.MDef.of (fun _ _ _ _ _ _ us hl => match us, hl with | [_, _], _ => rfl) ?a ?i ?l ?c ?k
      (case a => k_is); (case i => k_is); (case l => k_is); (case c => k_is); (case k => k_is)
    have fb_wanting : L3.MDef (L2.KOf KX) 487 "wanting" "Board.wanting" (K07.bm 12) ["self"] := by
      dsimp only [L2.KOf]
      refine' L3.MDef.of (fun _ _ _ _ _ _ us hl => match us, hl with | [_], _ => rfl) ?a ?i ?l ?c ?k
      (case a => k_is); (case i => k_is); (case l => k_is); (case c => k_is); (case k => k_is)
    have wb_told : L3.MDef (L2.KOf KX) 520 "told" "Board.told" (K07.bm 8) ["self"] := by
      dsimp only [L2.KOf]
      refine' L3.MDef.of (fun _ _ _ _ _ _ us hl => match us, hl with | [_], _ => rfl) ?a ?i ?l ?c ?k
      (case a => k_is); (case i => k_is); (case l => k_is); (case c => k_is); (case k => k_is)
    have wb_wants : L3.MDef (L2.KOf KX) 520 "wants" "Board.wants" (K07.bm 11) ["self", "line"] := by
      dsimp only [L2.KOf]
      refine' L3.MDef.of (fun _ _ _ _ _ _ us hl => match us, hl with | [_, _], _ => rfl) ?a ?i ?l ?c ?k
      (case a => k_is); (case i => k_is); (case l => k_is); (case c => k_is); (case k => k_is)
    have wb_wanting : L3.MDef (L2.KOf KX) 520 "wanting" "Board.wanting" (K07.bm 12) ["self"] := by
      dsimp only [L2.KOf]
      refine' L3.MDef.of (fun _ _ _ _ _ _ us hl => match us, hl with | [_], _ => rfl) ?a ?i ?l ?c ?k
      (case a => k_is); (case i => k_is); (case l => k_is); (case c => k_is); (case k => k_is)
    have p_lay_from_book : L3.MDef (L2.KOf KX) 423 "lay_from_book" "Pegs.lay_from_book" (K07.mt 9) ["self"] := by
      dsimp only [L2.KOf]
      refine' L3.MDef.of (fun _ _ _ _ _ _ us hl => match us, hl with | [_], _ => rfl) ?a ?i ?l ?c ?k
      (case a => k_is); (case i => k_is); (case l => k_is); (case c => k_is); (case k => k_is)
    have kp : L3.KDef (L2.KOf KX) 423 "Pegs.__init__" (K07.mt 0) ["self", "ranks", "many", "lines"] := by
      dsimp only [L2.KOf]
      refine' L3.KDef.of (fun _ _ _ _ _ _ us hl => match us, hl with | [_, _, _, _], _ => rfl) ?mk ?kc ?a ?i ?l ?c ?k
      (case mk => k_is); (case kc => k_is); (case a => k_is); (case i => k_is); (case l => k_is); (case c => k_is); (case k => k_is)
    have kf0 : L3.KDefD (L2.KOf KX) 487 "Few.__init__" (K07.fm 0) ["self", "ranks", "pegs", "picture"] [] := by
      dsimp only [L2.KOf]
      refine' L3.KDefD.of (items := #[.none]) (fun _ _ _ _ _ _ s us ob ho hd hl => match us, hl with | [_, _, _, _], _ => BindsTo.of_defaults rfl ho hd rfl rfl) ?mk ?kc ?a ?i ?l ?c ?l2
      (case mk => k_is); (case kc => k_is); (case a => k_is); (case i => k_is); (case l => k_is); (case c => k_is); (case l2 => k_is)
    have kw0 : L3.KDefD (L2.KOf KX) 520 "Board.__init__" (K07.bm 0) ["self", "ranks", "picture"] [] := by
      dsimp only [L2.KOf]
      refine' L3.KDefD.of (items := #[.none]) (fun _ _ _ _ _ _ s us ob ho hd hl => match us, hl with | [_, _, _], _ => BindsTo.of_defaults rfl ho hd rfl rfl) ?mk ?kc ?a ?i ?l ?c ?l2
      (case mk => k_is); (case kc => k_is); (case a => k_is); (case i => k_is); (case l => k_is); (case c => k_is); (case l2 => k_is)
    have kb : L3.BDef (L2.KOf KX) 332 "__init__" "Board.__init__" (K07.bm 0) ["self", "ranks", "picture"] := by
      dsimp only [L2.KOf]
      refine' L3.BDef.of (items := #[.none]) (fun _ _ _ _ _ _ s us ob ho hd hl => match us, hl with | [_, _, _], _ => BindsTo.of_defaults rfl ho hd rfl rfl) ?ga ?rd ?fi ?kp ?l ?c ?l2
      (case ga => k_is); (case rd => k_is); (case fi => k_is); (case kp => k_is); (case l => k_is); (case c => k_is); (case l2 => k_is)
    obtain ⟨u, hM, hu⟩ := hMP
    obtain ⟨u2, hM2, hu2⟩ := hML
    have D : K07.Defs (L2.KOf KX) mg 152 332 423 487 520 := ⟨d_is_whole, d_standing, d_is_up_to, d_is_rank, d_is_bar, d_is_line, d_are_ranks, d_are_lines, d_rises, d_are_rising_lines, d_is_pile, d_is_picture, d_marks_of, d_marked, d_is_count_of_pegs, d__law_cell_at, d__law_ranks, d__law_picture_by, d__law_copy, d__law_names, d__law_refused, d__law_no_ranks, d__law_spoiled_row, d__law_no_picture, d_law, d_in_order, fb_told, fb_wants, fb_wanting, wb_told, wb_wants, wb_wanting, p_lay_from_book, kp, kf0, kb, kw0⟩
    exact K07.law_fu (P5 := 0) D T ⟨⟨cc_pg, cc_hd, cc_po, cc_sa⟩, cc_n_ranks, cc_n_many, cc_n_hung, cc_n_book, cc_n_came, cc_n_laid, cc_n_calls⟩ ⟨⟨cw_pg, cw_hd, cw_po, cw_sa⟩, cw_n_ranks, cw_n_asks, cw_n_muted, cw_n_pile, cw_n_limit⟩ ⟨⟨cf_pg, cf_hd, cf_po, cf_sa⟩, cf_n_ranks, cf_n_asks, cf_n_muted, cf_n_pile, cf_n_limit⟩ cf_n_rack ⟨hNBo, knB, xnB⟩ ⟨hNPi, knP, xnP⟩ ⟨hQ, knQ, xnQ⟩ ⟨⟨gxB, ⟨56, hNBo, kB0⟩, ⟨80, hNPi, kB1⟩, ⟨68, hQ, kB2⟩, ⟨44, hN, kB3⟩, ⟨92, hNB, kB4⟩, ⟨111, hNT, kB5⟩, ⟨130, hND, kB6⟩, veB⟩, ⟨gxP, ⟨56, hNBo, kP0⟩, ⟨80, hNPi, kP1⟩, ⟨68, hQ, kP2⟩, ⟨44, hN, kP3⟩, ⟨92, hNB, kP4⟩, ⟨111, hNT, kP5⟩, ⟨130, hND, kP6⟩, veP⟩, ⟨gxQ, ⟨56, hNBo, kQ0⟩, ⟨80, hNPi, kQ1⟩, ⟨68, hQ, kQ2⟩, ⟨44, hN, kQ3⟩, ⟨92, hNB, kQ4⟩, ⟨111, hNT, kQ5⟩, ⟨130, hND, kQ6⟩, veQ⟩, mEB, mEP, mEQ⟩ hBE tyE beE hVE hBo hP hF hW hM hu hM2 hu2 (hC (152, 148) (by simp)) hB

