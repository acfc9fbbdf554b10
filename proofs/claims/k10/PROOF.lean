import PyProof.Rows.All
import Wide.All
import KE.KLam
import KE.KMinKey
import KE.KSortTup
import Wide.FinOn
import Lean
import PyProof.EqAt
import PyProof.EqKinds
import PyProof.TupleCall
import OpenK.KOwn
import KE.KIsAll
import PyProof.ExcArgsOwn
import PyProof.ExcAttrAll.ValueError
import KE.KRevIter
import PyProof.WalksEnum
import PyProof.ZipIter
import PyProof.ConsumeWalk
import PyProof.LayNew
import PyProof.ExcClass2
import PyProof.InstStoreFacts
import PyProof.Rows.SortWalk
import PyProof.NeKinds
import OpenK.AllK
import PySem.Challenge.RW_fewpegs_k10_rows_refused
set_option Elab.async false
set_option linter.all false
set_option maxRecDepth 100000
namespace L2
open PySem PySem.Spec PyProof.Rows
abbrev Key:=Sum Int Str
def Zhh:Key->Value->Bool
 | .inl k,v=>Value.isInt k v
 | .inr x,v=>Value.isStrOf x v
def keyH (w:World):Key->Int
 | .inl k=>hashInt k
 | .inr x=>hashStr w x
theorem Zaa:∀ {k:Key}{v:Value},Zhh k v=true->(∃ i t,k=Sum.inl i/\v=Value.int i t)\/(∃ x t,k=Sum.inr x/\v=Value.str x t)
 | .inl i,v,h=>by
  obtain⟨t,e⟩:=Value.isInt_shape (k:=i) (v:=v) h
  exact .inl ⟨i,t,rfl,e⟩
 | .inr x,v,h=>by
  obtain⟨t,e⟩:=Value.isStrOf_shape (x:=x) (v:=v) h
  exact .inr ⟨x,t,rfl,e⟩
theorem Zjo (i:Int) (t:Tok):Zhh (.inl i) (.int i t)=true:=by simp[Zhh,Value.isInt]
theorem Zjn (x:Str) (t:Tok):Zhh (.inr x) (.str x t)=true:=by simp[Zhh,Value.isStrOf]
theorem Zrv (a b:Int):decide ((Sum.inl a:Key)=Sum.inl b)=(a == b):=by
 by_cases e:a=b
 ·subst e;simp
 ·have h:¬ (Sum.inl a:Key)=Sum.inl b:=fun q=>e (Sum.inl.inj q)
  rw[decide_eq_false h]
  exact(beq_eq_false_iff_ne.mpr e).symm
theorem Zrr (a b:Str):decide ((Sum.inr a:Key)=Sum.inr b)=decide (a=b):=by
 by_cases e:a=b
 ·subst e;simp
 ·have h:¬ (Sum.inr a:Key)=Sum.inr b:=fun q=>e (Sum.inr.inj q)
  rw[decide_eq_false h,decide_eq_false e]
theorem Zru (a:Int) (b:Str):decide ((Sum.inl a:Key)=Sum.inr b)=false:=decide_eq_false (fun q=>nomatch q)
theorem Zrs (a:Str) (b:Int):decide ((Sum.inr a:Key)=Sum.inl b)=false:=decide_eq_false (fun q=>nomatch q)
def Yp (prog:Program) (w:World):PySem.KeyKind prog w Key where
 is:=Zhh
 hash:=keyH w
 inj:=fun v a b ha hb=>by
  rcases Zaa ha with ⟨i,t,rfl,rfl⟩|⟨x,t,rfl,rfl⟩
  ·rcases Zaa hb with ⟨j,u,rfl,e⟩|⟨y,u,rfl,e⟩
   ·injection e with e1 _;rw[e1]
   ·exact nomatch e
  ·rcases Zaa hb with ⟨j,u,rfl,e⟩|⟨y,u,rfl,e⟩
   ·exact nomatch e
   ·injection e with e1 _;rw[e1]
 byValue:=fun k v h=>by
  rcases Zaa h with ⟨i,t,rfl,rfl⟩|⟨x,t,rfl,rfl⟩<;>rfl
 pyHash:=fun hv h=>by
  rcases Zaa hv with ⟨i,t,rfl,rfl⟩|⟨x,t,rfl,rfl⟩
  ·exact wpAny_pyHash_int h
  ·exact wpAny_pyHash_str h
 eqBool:=fun hu hv h=>by
  rcases Zaa hu with ⟨i,t,rfl,rfl⟩|⟨x,t,rfl,rfl⟩
  ·rcases Zaa hv with ⟨j,u,rfl,rfl⟩|⟨y,u,rfl,rfl⟩
   ·rw[Zrv] at h;exact wpAny_eqBool_int h
   ·rw[Zru] at h;exact SeqAt.EqAt.int_str i t y u _ _ _ _ h
  ·rcases Zaa hv with ⟨j,u,rfl,rfl⟩|⟨y,u,rfl,rfl⟩
   ·rw[Zrs] at h;exact SeqAt.EqAt.str_int x t j u _ _ _ _ h
   ·rw[Zrr] at h;exact wpAny_eqBool_str h
 «strs»:=fun k x t v h=>by
  rcases Zaa h with ⟨i,u,rfl,e⟩|⟨y,u,rfl,e⟩
  ·exact nomatch e
  ·injection e with e1 _
   subst e1
   cases v<;>rfl
theorem Zfr (prog:Program) (w:World) (i:Int) (t:Tok):(Yp prog w).is (.inl i) (.int i t)=true:=Zjo i t
theorem Zav (prog:Program) (w:World) (x:Str) (t:Tok):(Yp prog w).is (.inr x) (.str x t)=true:=Zjn x t
end L2
namespace L2
open PySem PySem.Spec PyProof.Rows
inductive V where
 | non|bl (b:Bool)|int (i:Int)|str (x:Str)|byt (b:Array UInt8)|flt (b:UInt64)|ref (a:Addr)|ty (n:String)
 deriving DecidableEq
def RelV:V->Value->Prop
 | .non,u=>u=Value.none
 | .bl b,u=>u=Value.bool b
 | .int i,u=>∃ t,u=Value.int i t
 | .str x,u=>∃ t,u=Value.str x t
 | .byt b,u=>∃ t,u=Value.bytes b t
 | .flt b,u=>∃ t,u=Value.float b t
 | .ref a,u=>u=Value.ref a
 | .ty n,u=>u=Value.type n
abbrev Vals:List V->List Value->Prop:=Paired RelV
theorem Vals.length {xs:List V}{us:List Value}(r:Vals xs us):xs.length=us.length:=Paired.length r
theorem Vals.get:∀ {xs:List V}{us:List Value}{i:Nat}{x:V},Vals xs us->xs[i]?=some x->∃ u,us[i]?=some u/\RelV x u
 | _,_,_,_,.nil,e=>by simp at e
 | _,_,0,_,.cons r _,e=>by simp at e;subst e;exact⟨_,rfl,r⟩
 | _,_,i+1,x,.cons _ t,e=>by
  obtain⟨u,h1,h2⟩:=Vals.get (i:=i) (x:=x) t (by simpa using e)
  exact⟨u,by simpa using h1,h2⟩
theorem Vals.set {x:V}{u:Value}(r:RelV x u):∀ {xs:List V}{us:List Value}(i:Nat),Vals xs us->Vals (xs.set i x) (us.set i u)
 | _,_,_,.nil=>.nil
 | _,_,0,.cons _ t=>.cons r t
 | _,_,i+1,.cons q t=>.cons q (Vals.set r i t)
theorem Vals.append:∀ {xs ys:List V}{us ws:List Value},Vals xs us->Vals ys ws->Vals (xs++ys) (us++ws)
 | _,_,_,_,.nil,s=>s
 | _,_,_,_,.cons r t,s=>.cons r (Vals.append t s)
theorem Vals.take:∀ {xs:List V}{us:List Value}(n:Nat),Vals xs us->Vals (xs.take n) (us.take n)
 | _,_,0,_=>.nil
 | _,_,_+1,.nil=>.nil
 | _,_,n+1,.cons r t=>.cons r (Vals.take n t)
theorem Vals.drop:∀ {xs:List V}{us:List Value}(n:Nat),Vals xs us->Vals (xs.drop n) (us.drop n)
 | _,_,0,r=>r
 | _,_,_+1,.nil=>.nil
 | _,_,n+1,.cons _ t=>Vals.drop n t
theorem Vals.none_of:∀ {xs:List V}{us:List Value}{i:Nat},Vals xs us->xs[i]?=none->us[i]?=none:=fun {xs us i} r e=>by
 have h1:=r.length
 have h2:xs.length<=i:=List.getElem?_eq_none_iff.mp e
 exact List.getElem?_eq_none_iff.mpr (by omega)
def RelO:Option V->Option Value->Prop
 | some v,some u=>RelV v u
 | none,none=>True
 | _,_=>False
def KV {κ:Type}:List (κ × V)->List (κ × Value)->Prop:=Paired fun (p:κ × V) (q:κ × Value)=>p.1=q.1/\RelV p.2 q.2
def kV:Key->V
 | .inl i=>.int i
 | .inr x=>.str x
inductive HO where
  | lst (xs:List V)
  | tup (xs:List V)
  | dK (kvs:List (Key × V))|dT (kvs:List (List Key × V))
  | set (S:Int->Bool) (n:Nat)
  | ins (C dx:Addr) (fs:List (Str × V))
  | own (x:Addr)
  | xd (fs:List (Str × V))
  | met (f x:Addr)
  | rng (lo hi:Int)
  | frz (o:Obj) (u:HO)
  | tbl (ps:Array Value)
  | ext (φ:Heap->Prop)
abbrev Hp:=Addr->Option HO
def upd (H:Hp) (a:Addr) (o:HO):Hp:=fun b=>if b=a then some o else H b
theorem Ze {H:Hp}{a:Addr}{o:HO}:upd H a o a=some o:=by unfold upd;rw[if_pos rfl]
theorem Zb {H:Hp}{a b:Addr}{o:HO}(h:b≠a):upd H a o b=H b:=by unfold upd;rw[if_neg h]
theorem Yl {H:Hp}{a b:Addr}{o u:HO}(h:H a=some o) (h':H b=some u) (d:o≠u):a≠b:=by
 intro e;subst e;rw[h] at h';exact d (Option.some.inj h')
theorem Zl {H:Hp}{a b:Addr}{o:HO}(h:H a=some o) (h':H b=none):a≠b:=by
 intro e;subst e;rw[h] at h';cases h'
section
variable (P:Program) (w:World)
def ObjOk (H:Hp) (h:Heap) (a:Addr):HO->Prop
 | .lst xs=>xs.length<=sizeLine/\∃ (its:List Value) (n:Nat),Vals xs its/\h.get? a=some { cls:=.type "list",data:=.seq its.toArray n }
 | .tup xs=>xs.length<=sizeLine/\∃ its:List Value,Vals xs its/\IsTup h a its.toArray
 | .dK kvs=>kvs.length<=sizeLine/\(a == sysModules)=false/\∃ vs,KV kvs vs/\h.DictOf (Yp P w) a vs
 | .dT kvs=>kvs.length<=sizeLine/\(a == sysModules)=false/\∃ xs:List (List Key × Addr × Value),
   Paired (fun (p:List Key × V) (q:List Key × Addr × Value)=>p.1=q.1/\H q.2.1=some (.tup (p.1.map kV))/\RelV p.2 q.2.2) kvs xs /\
   ∃ o es ep,h.get? a=some o/\o.ExactDict/\o.data=.dict es ep/\es.toList=xs.map (entryOfKey (tupleKind (Yp P w)))/\(xs.map (·.1)).Nodup
 | .set S n=>h.SetOf (intKind P w) a S n
 | .ins C dx fs=>H dx=some (.own a)/\fs.length<=1000/\dx≠a/\h.get? a=some (PySem.W.instObj C dx) /\
   ∃ mA,h.Ns1 dx mA/\(∀ f,RelO (fs.lookup f) (mA f))/\PySem.Within mA (fs.map (·.1))
 | .own _=>∃ o,h.get? a=some o
 | .xd fs=>∃ mA,h.Ns1 a mA/\∀ f,RelO (fs.lookup f) (mA f)
 | .rng lo hi=>∃ t u v,h.get? a=some { cls:=.type "range",data:=.fields #[.int lo t,.int hi u,.int 1 v] }
 | .frz o u=>h.get? a=some o/\ObjOk H h a u
 | .tbl ps=>h.get? a=some { cls:=.none,data:=.fields ps }
 | .met f x=>h.get? a=some (PySem.W.methodObj (.ref f) (.ref x))
 | .ext φ=>φ h/\(∃ o,h.get? a=some o)/\∀ h1 h2:Heap,φ h1->(∀ o,h1.get? a=some o->h2.get? a=some o)->φ h2
def HOk (H:Hp) (h:Heap):Prop:=∀ a o,H a=some o->ObjOk P w H h a o
end
section
variable {P:Program}{w:World}{H H':Hp}{h h':Heap}{a:Addr}{o:HO}
theorem ObjOk.lt (x:ObjOk P w H h a o):a<h.objs.size:=by
 cases o with
 | lst xs=>obtain⟨_,_,_,_,e⟩:=x;exact Heap.lt_size e
 | tup xs=>obtain⟨_,_,_,p⟩:=x;exact p.lt
 | dK kvs=>obtain⟨_,_,_,_,o,_,_,e,_⟩:=x;exact Heap.lt_size e
 | dT kvs=>obtain⟨_,_,_,_,o,_,_,e,_⟩:=x;exact Heap.lt_size e
 | set S n=>obtain⟨o,_,_,_,e,_⟩:=x;exact Heap.lt_size e
 | ins C dx fs=>obtain⟨_,_,_,e,_⟩:=x;exact Heap.lt_size e
 | own y=>obtain⟨_,e⟩:=x;exact Heap.lt_size e
 | xd fs=>obtain⟨_,⟨_,_,_,e,_⟩,_⟩:=x;exact Heap.lt_size e
 | rng lo hi=>obtain⟨_,_,_,e⟩:=x;exact Heap.lt_size e
 | frz ob u=>obtain⟨e,_⟩:=x;exact Heap.lt_size e
 | tbl ps=>exact Heap.lt_size (show h.get? a=some _ from x)
 | met f y=>exact Heap.lt_size (show h.get? a=some _ from x)
 | ext φ=>obtain⟨_,⟨_,e⟩,_⟩:=x;exact Heap.lt_size e
theorem Paired.mapP {α β:Type}{F G:α->β->Prop}:∀ {l₁:List α}{l₂:List β},Paired F l₁ l₂->(∀ a b,F a b->G a b)->Paired G l₁ l₂
 | _,_,.nil,_=>.nil
 | _,_,.cons r t,f=>.cons (f _ _ r) (Paired.mapP t f)
theorem ObjOk.stay (x:ObjOk P w H h a o) (k:∀ b u,(b=a\/H b=some (.own a))->h.get? b=some u->h'.get? b=some u)
  (ho:∀ b,H b=some (.own a)->H' b=some (.own a)) (ht:∀ b xs,H b=some (.tup xs)->H' b=some (.tup xs)):ObjOk P w H' h' a o:=by
 induction o with
 | lst xs=>obtain⟨z,its,n,r,e⟩:=x;exact⟨z,its,n,r,k _ _ (.inl rfl) e⟩
 | tup xs=>obtain⟨z,its,r,ob,e,c⟩:=x;exact⟨z,its,r,ob,k _ _ (.inl rfl) e,c⟩
 | dK kvs=>obtain⟨z,y,vs,r,ob,es,ep,e,c⟩:=x;exact⟨z,y,vs,r,ob,es,ep,k _ _ (.inl rfl) e,c⟩
 | dT kvs =>
  obtain⟨z,y,xs,r,ob,es,ep,e,c⟩:=x
  exact⟨z,y,xs,Paired.mapP r fun p q z=>⟨z.1,ht _ _ z.2.1,z.2.2⟩,ob,es,ep,k _ _ (.inl rfl) e,c⟩
 | set S n=>obtain⟨ob,es,ep,t,e,c⟩:=x;exact⟨ob,es,ep,t,k _ _ (.inl rfl) e,c⟩
 | ins C dx fs =>
  obtain⟨d,z,ne,e,mA,⟨od,es,ep,e2,c⟩,r⟩:=x
  exact⟨ho _ d,z,ne,k _ _ (.inl rfl) e,mA,⟨od,es,ep,k _ _ (.inr d) e2,c⟩,r⟩
 | own y=>obtain⟨ob,e⟩:=x;exact⟨ob,k _ _ (.inl rfl) e⟩
 | xd fs=>obtain⟨mA,⟨od,es,ep,e,c⟩,r⟩:=x;exact⟨mA,⟨od,es,ep,k _ _ (.inl rfl) e,c⟩,r⟩
 | rng lo hi=>obtain⟨t,u,v,e⟩:=x;exact⟨t,u,v,k _ _ (.inl rfl) e⟩
 | frz ob u ih=>obtain⟨e,q⟩:=x;exact⟨k _ _ (.inl rfl) e,ih q⟩
 | tbl ps =>
  have e:h.get? a=some { cls:=.none,data:=.fields ps }:=x
  show h'.get? a=some { cls:=.none,data:=.fields ps }
  exact k a _ (.inl rfl) e
 | met f y =>
  have e:h.get? a=some (PySem.W.methodObj (.ref f) (.ref y)):=x
  show h'.get? a=some (PySem.W.methodObj (.ref f) (.ref y))
  exact k a _ (.inl rfl) e
 | ext φ=>obtain⟨p,⟨o,e⟩,st⟩:=x;exact⟨st _ _ p fun o q=>k _ _ (.inl rfl) q,⟨o,k _ _ (.inl rfl) e⟩,st⟩
theorem HOk.lt (x:HOk P w H h) (e:H a=some o):a<h.objs.size:=(x a o e).lt
theorem HOk.fresh (x:HOk P w H h) (e:h.objs.size<=a):H a=none:=by
 cases q:H a with
 | none=>rfl
 | some u=>exact absurd (Nat.lt_of_lt_of_le (x.lt q) e) (Nat.lt_irrefl _)
theorem HOk.kept (x:HOk P w H h) (k:∀ b u,h.get? b=some u->h'.get? b=some u):HOk P w H h':=fun a o e =>
 (x a o e).stay (fun b u _ q=>k b u q) (fun _ q=>q) fun _ _ q=>q
theorem HOk.laid (x:HOk P w H h) (k:∀ b u,h.get? b=some u->h'.get? b=some u) (hp:h.objs.size<=a) (new:ObjOk P w (upd H a o) h' a o):HOk P w (upd H a o) h':=fun b u e=>by
 have hn:=x.fresh hp
 by_cases hb:b=a
 ·subst hb;rw[Ze] at e;cases e;exact new
 ·rw[Zb hb] at e
  exact(x b u e).stay (fun c v _ q=>k c v q) (fun c q=>by rw[Zb (Zl q hn)];exact q) fun c xs q=>by rw[Zb (Zl q hn)];exact q
end
def Rd (H:Hp) (a:Addr) (u:HO):Prop:=H a=some u\/∃ o,H a=some (.frz o u)
theorem Rd.of {H:Hp}{a:Addr}{u:HO}(h:H a=some u):Rd H a u:=.inl h
theorem Rd.ok {P:Program}{w:World}{H:Hp}{h:Heap}{a:Addr}{u:HO}(r:Rd H a u) (x:HOk P w H h):ObjOk P w H h a u:=by
 rcases r with r|⟨o,r⟩
 ·exact x a u r
 ·obtain⟨_,q⟩:=x a _ r
  exact q
def Mut:Option HO->Prop
 | some (.lst _)=>True
 | some (.dK _)=>True
 | some (.dT _)=>True
 | some (.set _ _)=>True
 | some (.ins _ _ _)=>True
 | some (.ext _)=>True
 | _=>False
section
variable {P:Program}{w:World}{H:Hp}{h h':Heap}{x e:Addr}{o':HO}
theorem HOk.write (ok:HOk P w H h) (mu:Mut (H x)) (he:e=x\/H e=some (.own x)) (k:∀ b u,b≠e->h.get? b=some u->h'.get? b=some u) (heo:∃ u,h'.get? e=some u)
  (new:ObjOk P w (upd H x o') h' x o'):HOk P w (upd H x o') h':=fun b u q=>by
 have nown:∀ c y,H c=some (.own y)->c≠x:=fun c y r z=>by subst z;rw[r] at mu;exact mu
 have ntup:∀ c xs,H c=some (.tup xs)->c≠x:=fun c xs r z=>by subst z;rw[r] at mu;exact mu
 by_cases hb:b=x
 ·subst hb;rw[Ze] at q;cases q;exact new
 ·rw[Zb hb] at q
  by_cases hbe:b=e
  ·have q':H b=some (.own x):=by
    rcases he with z|z
    ·exact absurd (hbe.trans z) hb
    ·rw[hbe];exact z
   rw[q] at q';cases q'
   obtain⟨v,hv⟩:=heo
   exact⟨v,by rw[hbe];exact hv⟩
  ·refine(ok b u q).stay (fun c v hc r=>k c v ?_ r) (fun c r=>by rw[Zb (nown c b r)];exact r) fun c xs r=>by rw[Zb (ntup c xs r)];exact r
   rcases hc with rfl|hc
   ·exact hbe
   ·rintro rfl
    rcases he with z|z
    ·exact nown c b hc z
    ·rw[hc] at z;cases z;exact hb rfl
end
structure Un (fs ex:List Addr) (H H':Hp) (h h':Heap):Prop where
 keep:∀ b o,h.get? b=some o->H b=none->b∉fs->b∉ex->h'.get? b=some o
 slot:∀ b o,h.get? b=some o->H b=none->b∈fs->b∉ex->∃ sl,h'.get? b=some { o with slots:=sl }
 free:∀ b o,h.get? b=some o->H b=none->b∉ex->H' b=none
 there:∀ b o,h.get? b=some o->b∉ex->∃ o',h'.get? b=some o'
 tups:∀ b xs,H b=some (.tup xs)->H' b=some (.tup xs)
 frzs:∀ b o u,H b=some (.frz o u)->H' b=some (.frz o u)
 tbls:∀ b ps,H b=some (.tbl ps)->∃ more,H' b=some (.tbl (ps++more))
section
variable {fs fs' ex ex':List Addr}{H H1 H2:Hp}{h h1 h2 h':Heap}{a x e:Addr}{o:HO}
theorem Un.any (u:Un fs ex H H1 h h1) {b:Addr}{ob:Obj}(q:h.get? b=some ob) (n:H b=none) (hx:b∉ex):∃ sl,h1.get? b=some { ob with slots:=sl }:=by
 by_cases hb:b∈fs
 ·exact u.slot b ob q n hb hx
 ·exact⟨ob.slots,u.keep b ob q n hb hx⟩
theorem Un.trans (a:Un fs ex H H1 h h1) (b:Un fs ex H1 H2 h1 h2):Un fs ex H H2 h h2 where
 keep:=fun c ob q n hc hx=>b.keep c ob (a.keep c ob q n hc hx) (a.free c ob q n hx) hc hx
 slot:=fun c ob q n hc hx=>by
  obtain⟨sl,e1⟩:=a.slot c ob q n hc hx
  obtain⟨sl',e2⟩:=b.slot c _ e1 (a.free c ob q n hx) hc hx
  exact⟨sl',e2⟩
 free:=fun c ob q n hx=>by
  obtain⟨o',e1⟩:=a.there c ob q hx
  exact b.free c o' e1 (a.free c ob q n hx) hx
 there:=fun c ob q hx=>by
  obtain⟨o',e1⟩:=a.there c ob q hx
  exact b.there c o' e1 hx
 tups:=fun c xs q=>b.tups c xs (a.tups c xs q)
 frzs:=fun c ob xs q=>b.frzs c ob xs (a.frzs c ob xs q)
 tbls:=fun c ps q=>by
  obtain⟨m1,e1⟩:=a.tbls c ps q
  obtain⟨m2,e2⟩:=b.tbls c _ e1
  exact⟨m1++m2,by rw[e2,Array.append_assoc]⟩
theorem Un.kept (k:∀ b u,h.get? b=some u->h'.get? b=some u):Un fs ex H H h h' :=
 ⟨fun b ob q _ _ _=>k b ob q,fun b ob q _ _ _=>⟨ob.slots,k b ob q⟩,fun _ _ _ n _=>n,fun b ob q _=>⟨ob,k b ob q⟩,fun _ _ q=>q,fun _ _ _ q=>q,fun _ ps q=>⟨#[],by rw[q];simp⟩⟩
theorem Un.refl:Un fs ex H H h h:=Un.kept fun _ _ q=>q
theorem Un.laid (k:∀ b u,h.get? b=some u->h'.get? b=some u) (hp:h.objs.size<=a) (hn:H a=none):Un fs ex H (upd H a o) h h' where
 keep:=fun b u q _ _ _=>k b u q
 slot:=fun b u q _ _ _=>⟨u.slots,k b u q⟩
 free:=fun b u q n _=>by rw[Zb (Nat.ne_of_lt (Nat.lt_of_lt_of_le (Heap.lt_size q) hp))];exact n
 there:=fun b u q _=>⟨u,k b u q⟩
 tups:=fun b xs q=>by rw[Zb (Zl q hn)];exact q
 frzs:=fun b u xs q=>by rw[Zb (Zl q hn)];exact q
 tbls:=fun b ps q=>⟨#[],by rw[Zb (Zl q hn),q];simp⟩
theorem Un.write (mu:Mut (H x)) (he:e=x\/H e=some (.own x)) (k:∀ b u,b≠e->h.get? b=some u->h'.get? b=some u) (heo:∃ u,h'.get? e=some u):Un fs ex H (upd H x o) h h':=by
 have hx:∀ b,H b=none->b≠x:=fun b n z=>by subst z;rw[n] at mu;exact mu
 have hb:∀ b,H b=none->b≠e:=fun b n z=>by
  subst z
  rcases he with r|r
  ·exact hx b n r
  ·rw[n] at r;cases r
 have hm:∀ b u,H b=some u->¬ Mut (some u)->b≠x:=fun b u q nm z=>by subst z;rw[q] at mu;exact nm mu
 refine⟨fun b u q n _ _=>k b u (hb b n) q,fun b u q n _ _=>⟨u.slots,k b u (hb b n) q⟩,fun b u q n _=>by rw[Zb (hx b n)];exact n,fun b u q _=>?_,
  fun b xs q=>by rw[Zb (hm b _ q fun z=>z)];exact q,fun b u xs q=>by rw[Zb (hm b _ q fun z=>z)];exact q,fun b ps q=>⟨#[],by rw[Zb (hm b _ q fun z=>z),q];simp⟩⟩
 by_cases hbe:b=e
 ·subst hbe;exact heo
 ·exact⟨u,k b u hbe q⟩
theorem Un.mono (u:Un fs ex H H1 h h1) (hs:∀ b∈fs,b∈fs') (hx:∀ b∈ex,b∈ex'):Un fs' ex' H H1 h h1 :=
 ⟨fun b ob q n hb he=>u.keep b ob q n (fun z=>hb (hs b z)) fun z=>he (hx b z),fun _ _ q n _ he=>u.any q n fun z=>he (hx _ z),fun b ob q n he=>u.free b ob q n fun z=>he (hx b z),fun b ob q he=>u.there b ob q fun z=>he (hx b z),u.tups,u.frzs,u.tbls⟩
end
def trk (h:Heap) (H:Hp):List Addr:=(List.range h.objs.size).filter fun a=>(H a).isSome
def hidT (h:Heap) (H:Hp):Heap:=PySem.W.hideAll h (trk h H)
theorem Zes (h:Heap) (H:Hp):(hidT h H).objs.size=h.objs.size:=PySem.W.hideAll_size _ _
theorem Zbc {h:Heap}{H:Hp}{b:Addr}{o:Obj}(e:h.get? b=some o) (n:H b=none):(hidT h H).get? b=some o :=
 PySem.W.hideAll_get _ e fun hm=>by
  have q:(H b).isSome=true:=(List.mem_filter.mp hm).2
  rw[n] at q;simp at q
theorem Zjg {h:Heap}{H:Hp}{b:Addr}{o:Obj}(e:(hidT h H).get? b=some o):h.get? b=some o/\H b=none:=by
 have e':h.get? b=some o:=PySem.W.of_hideAll (trk h H) e
 refine⟨e',?_⟩
 cases q:H b with
 | none=>rfl
 | some x =>
  have hm:b∈trk h H:=List.mem_filter.mpr ⟨List.mem_range.mpr (Heap.lt_size e'),by simp[q]⟩
  have z:(hidT h H).get? b=none:=PySem.W.hideAll_none (trk h H) hm
  rw[z] at e;cases e
def Zp6 (g h:Heap) (L:Addr):List (Addr × Obj):=(List.range h.objs.size).filterMap fun a=>if a=L\/(g.get? a).isSome=true then none else (h.get? a).map fun o=>(a,o)
def rest (g h:Heap) (L d:Addr):List (Addr × Obj):=(Zp6 g h L).filter fun p=>decide (p.1≠d)
end L2
namespace L2
open PySem PySem.Spec PyProof.Rows
structure Mod (K:PySem.W.Frag) (mg:Str->Option Value) (base:Heap):Prop where
 kin:K.In base
 glob:base.Ns mainGlobals mg
 blt:∃ mb,base.Ns builtinsNs mb/\∀ x:Str,x ≠ "__name__"->mb x=bootBuiltins x
 nolimit:base.NoLimit
structure Cx where
 prog:Program
 w:World
 K:PySem.W.Frag
 mg:Str->Option Value
 base:Heap
 A:Around
 N:List Str
 s₀:Shared
 H₀:Hp
 env:Env
 outer:List Env
 stack:List Env
 ex:List Addr
 fn:Str->Bool
 calm:Bool
 pn:List (Addr × Obj)
 xe:Value->Shared->Prop
def frs (l:List Env):List Addr:=l.filterMap (·.frame)
abbrev Cx.fs (X:Cx):List Addr:=frs X.outer
def Vis (sc:Scope) (x:Str):Prop:=sc.names.lookup x=some .local\/sc.names.lookup x=some .cell\/sc.names.lookup x=some .free
def Loc (sc:Scope) (x:Str):Prop:=sc.names.lookup x=some .local\/sc.names.lookup x=some .cell
def Look (env:Env) (h:Heap) (m:Str->Option Value) (x:Str) (u:Value):Prop :=
 (env.kindOf x=some .local/\m x=some u)\/((env.kindOf x=some .cell\/env.kindOf x=some .free)/\∃ c,env.cells.lookup x=some c/\h.IsCell c (some u))
structure Cx.Ok (X:Cx):Prop where
 mod:Mod X.K X.mg X.base
 kind:X.env.scope.kind=.function
 glob:X.env.globals=mainGlobals
 blt:X.env.builtins=builtinsNs
 above:X.s₀.heap.objs.size<=X.env.locals
 inj:∀ x y c,X.env.cells.lookup x=some c->X.env.cells.lookup y=some c->x=y
 has:∀ x,(X.env.kindOf x=some .cell\/X.env.kindOf x=some .free)->∃ c,X.env.cells.lookup x=some c
 cab:∀ x c,X.fn x=true->X.env.cells.lookup x=some c->X.s₀.heap.objs.size<=c
 hd:X.calm=true->X.A.handled=none
 frames:X.A.frames=some X.stack
 stk:X.stack=X.outer\/(X.stack=X.env::X.outer/\X.env.frame=some X.env.locals)
 exf:∀ b∈X.ex,b≠X.env.locals/\∀ x c,X.env.cells.lookup x=some c->c≠b
 bs:∀ b o,X.base.get? b=some o->X.s₀.heap.get? b=some o/\X.H₀ b=none
 bsz:X.base.objs.size<=X.s₀.heap.objs.size
 noex:∀ b o,X.base.get? b=some o->b∉X.ex
 exfs:∀ b∈X.ex,b∉X.fs
 funs:X.s₀.heap.FunFrames X.base X.outer
 frf:∀ b∈X.fs,X.H₀ b=none
structure Inv (X:Cx) (pins:List (Addr × Obj)) (σ:List (Option V)) (H:Hp) (s:Shared):Prop where
 ok:X.Ok
 os:s.os=X.s₀.os
 bare:AllBare s.gens
 base:Un X.fs X.ex X.H₀ H X.s₀.heap s.heap
 loc:∃ m,s.heap.Ns X.env.locals m/\∀ (i:Nat) (x:Str) (v:V),X.N[i]?=some x->σ[i]?=some (some v)->Vis X.env.scope x->∃ u,RelV v u/\Look X.env s.heap m x u
 cell:∀ x c,X.env.cells.lookup x=some c->∃ v,s.heap.IsCell c v
 free:H X.env.locals=none
 freeC:∀ x c,X.env.cells.lookup x=some c->H c=none
 pin:∀ p∈X.pn++pins,s.heap.get? p.1=some p.2/\H p.1=none/\p.1≠X.env.locals/\p.1∉X.fs/\∀ v,p.2.data ≠ .cell v
 hok:HOk X.prog X.w H s.heap
 len:σ.length=X.N.length
section
variable {X:Cx}{pins:List (Addr × Obj)}{σ:List (Option V)}{H H':Hp}{s:Shared}{h':Heap}
theorem Cx.Ok.nofr (ok:X.Ok) {b:Addr}{o:Obj}(e:X.base.get? b=some o):b∉X.fs:=fun hb=>by
 have:=(ok.funs.mem hb).1
 rw[e] at this;cases this
theorem Inv.bs (I:Inv X pins σ H s):∀ b o,X.base.get? b=some o->s.heap.get? b=some o/\H b=none:=fun b o e =>
 ⟨I.base.keep b o (I.ok.bs b o e).1 (I.ok.bs b o e).2 (I.ok.nofr e) (I.ok.noex b o e),I.base.free b o (I.ok.bs b o e).1 (I.ok.bs b o e).2 (I.ok.noex b o e)⟩
theorem Inv.bk (I:Inv X pins σ H s):∀ b o,X.base.get? b=some o->s.heap.get? b=some o:=fun b o e=>(I.bs b o e).1
theorem Inv.mod (I:Inv X pins σ H s):Mod X.K X.mg X.base:=I.ok.mod
theorem Inv.kIn (I:Inv X pins σ H s):X.K.In s.heap:=I.ok.mod.kin.keeps I.bk
theorem Inv.nolimit (I:Inv X pins σ H s):s.heap.NoLimit:=I.ok.mod.nolimit.keeps I.bk
theorem Inv.fr (I:Inv X pins σ H s):∃ m,Fr X.base X.env.locals s.heap m :=
 let ⟨m,hn,_⟩:=I.loc
 ⟨m,hn,I.bk,Nat.le_trans I.ok.bsz I.ok.above⟩
theorem Inv.lt (I:Inv X pins σ H s):X.env.locals<s.heap.objs.size:=let ⟨_,hn,_⟩:=I.loc;hn.lt
theorem Inv.sz (I:Inv X pins σ H s):X.s₀.heap.objs.size<=s.heap.objs.size:=Nat.le_trans I.ok.above (Nat.le_of_lt I.lt)
theorem Inv.nofs (I:Inv X pins σ H s) {a:Addr}(h:s.heap.objs.size<=a):a∉X.fs:=fun hb=>by
 obtain⟨_,o,ho,_⟩:=I.ok.funs.mem hb
 exact absurd (Nat.lt_of_lt_of_le (Heap.lt_size ho) (Nat.le_trans I.sz h)) (Nat.lt_irrefl _)
theorem Inv.cne (I:Inv X pins σ H s):∀ x c,X.env.cells.lookup x=some c->c≠X.env.locals:=fun x c e z=>by
 obtain⟨v,o,ho,hd⟩:=I.cell x c e
 obtain⟨m,⟨o',es,ep,ho',hd',_⟩,_⟩:=I.loc
 rw[z,ho'] at ho;cases ho;rw[hd'] at hd;cases hd
theorem Inv.funs (I:Inv X pins σ H s):s.heap.FunFrames X.base X.outer:=by
 have all:∀ (l:List Env),(∀ b∈frs l,b∈X.fs)->X.s₀.heap.FunFrames X.base l->s.heap.FunFrames X.base l:=by
  intro l
  induction l with
  | nil=>intro _ _;trivial
  | cons env r ih =>
   intro hs hl
   obtain⟨hk,⟨L,o,hf,hn,ho,hd⟩,hr⟩:=hl
   have hL:L∈X.fs:=hs L (by unfold frs;rw[List.filterMap_cons,hf];exact List.mem_cons_self)
   obtain⟨sl,e⟩:=I.base.slot L o ho (I.ok.frf L hL) hL fun z=>I.ok.exfs L z hL
   exact⟨hk,⟨L,_,hf,hn,e,hd⟩,ih (fun b hb=>hs b (by unfold frs;rw[List.filterMap_cons,hf];exact List.mem_cons_of_mem _ hb)) hr⟩
 exact all X.outer (fun _ hb=>hb) I.ok.funs
theorem Inv.stack (I:Inv X pins σ H s):s.heap.FunFrames X.base X.stack:=by
 rcases I.ok.stk with e|⟨e,hf⟩
 ·rw[e];exact I.funs
 ·rw[e]
  obtain⟨m,hn,_⟩:=I.loc
  refine .cons (by rw[I.ok.kind];decide) hf hn ?_ I.funs
  exact Heap.get?_none_of_le (Nat.le_trans I.ok.bsz I.ok.above)
theorem Inv.stkSub (I:Inv X pins σ H s):∀ b∈frs X.stack,b∈X.env.locals::X.fs:=fun b hb=>by
 rcases I.ok.stk with e|⟨e,hf⟩
 ·rw[e] at hb;exact List.mem_cons_of_mem _ hb
 ·rw[e] at hb
  unfold frs at hb
  rw[List.filterMap_cons,hf] at hb
  exact hb
theorem Inv.stkFree (I:Inv X pins σ H s):∀ b∈frs X.stack,H b=none:=fun b hb=>by
 rcases List.mem_cons.mp (I.stkSub b hb) with e|hb
 ·rw[e];exact I.free
 ·obtain⟨_,o,ho,_⟩:=I.ok.funs.mem hb
  exact I.base.free b o ho (I.ok.frf b hb) fun z=>I.ok.exfs b z hb
theorem Inv.step {g':Array GenState}{t':Nat}{d':Drawn}{ch:List Addr}(I:Inv X pins σ H s)
  (hch:∀ b∈ch,(b∈X.ex\/X.s₀.heap.objs.size<=b)/\b≠X.env.locals/\(∀ x c,X.env.cells.lookup x=some c->c≠b)/\∀ p∈X.pn++pins,p.1≠b)
  (keep:∀ b o,b≠X.env.locals->b∉X.fs->b∉ch->s.heap.get? b=some o->H b=none->h'.get? b=some o)
  (slot:∀ b o,b≠X.env.locals->b∈X.fs->b∉ch->s.heap.get? b=some o->H b=none->∃ sl,h'.get? b=some { o with slots:=sl }) (free:∀ b o,b∉ch->s.heap.get? b=some o->H b=none->H' b=none)
  (there:∀ b o,b∉ch->s.heap.get? b=some o->∃ o',h'.get? b=some o')
  (tups:∀ b xs,H b=some (.tup xs)->H' b=some (.tup xs)) (frzs:∀ b o u,H b=some (.frz o u)->H' b=some (.frz o u)) (tbls:∀ b ps,H b=some (.tbl ps)->∃ more,H' b=some (.tbl (ps++more)))
  (ns:∀ m,s.heap.Ns X.env.locals m->h'.Ns X.env.locals m) (hok:HOk X.prog X.w H' h') (hg:AllBare g') :
  Inv X pins σ H' { s with heap:=h',gens:=g',drawn:=d',toks:=t' }:=by
 have neL:∀ b o,X.s₀.heap.get? b=some o->b≠X.env.locals:=fun b o e=>Nat.ne_of_lt (Nat.lt_of_lt_of_le (Heap.lt_size e) I.ok.above)
 have neC:∀ b o,X.s₀.heap.get? b=some o->b∉X.ex->b∉ch:=fun b o e hx hb=>by
  rcases (hch b hb).1 with z|z
  ·exact hx z
  ·exact absurd (Nat.lt_of_lt_of_le (Heap.lt_size e) z) (Nat.lt_irrefl _)
 have cellK:∀ x c,X.env.cells.lookup x=some c->∀ v,s.heap.IsCell c v->h'.IsCell c v:=fun x c e v ⟨o,ho,hd⟩=>by
  have nch:c∉ch:=fun z=>(hch c z).2.2.1 x c e rfl
  by_cases hc:c∈X.fs
  ·obtain⟨sl,q⟩:=slot c o (I.cne x c e) hc nch ho (I.freeC x c e)
   exact⟨_,q,hd⟩
  ·exact⟨o,keep c o (I.cne x c e) hc nch ho (I.freeC x c e),hd⟩
 refine⟨I.ok,I.os,hg,⟨fun b o e n hb hx=>?_,fun b o e n hb hx=>?_,fun b o e n hx=>?_,fun b o e hx=>?_,fun b xs e=>tups b xs (I.base.tups b xs e),fun b o xs e=>frzs b o xs (I.base.frzs b o xs e),fun b ps e=>?_⟩,?_,fun x c e=>?_,?_,fun x c e=>?_,fun p hp=>?_,hok,I.len⟩
 ·exact keep b o (neL b o e) hb (neC b o e hx) (I.base.keep b o e n hb hx) (I.base.free b o e n hx)
 ·obtain⟨sl,e1⟩:=I.base.slot b o e n hb hx
  obtain⟨sl',e2⟩:=slot b _ (neL b o e) hb (neC b o e hx) e1 (I.base.free b o e n hx)
  exact⟨sl',e2⟩
 ·obtain⟨o',e1⟩:=I.base.there b o e hx
  exact free b o' (neC b o e hx) e1 (I.base.free b o e n hx)
 ·obtain⟨o',e1⟩:=I.base.there b o e hx
  exact there b o' (neC b o e hx) e1
 ·obtain⟨m1,e1⟩:=I.base.tbls b ps e
  obtain⟨m2,e2⟩:=tbls b _ e1
  exact⟨m1++m2,by rw[e2,Array.append_assoc]⟩
 ·obtain⟨m,hn,hl⟩:=I.loc
  refine⟨m,ns m hn,fun i x v e1 e2 e3=>?_⟩
  obtain⟨u,r,l⟩:=hl i x v e1 e2 e3
  refine⟨u,r,?_⟩
  rcases l with l|⟨k,c,e,z⟩
  ·exact .inl l
  ·exact .inr ⟨k,c,e,cellK x c e _ z⟩
 ·obtain⟨v,z⟩:=I.cell x c e
  exact⟨v,cellK x c e v z⟩
 ·obtain⟨m,⟨o,_,_,ho,_⟩,_⟩:=I.loc
  exact free _ o (fun z=>(hch _ z).2.1 rfl) ho I.free
 ·obtain⟨v,o,ho,hd⟩:=I.cell x c e
  exact free c o (fun z=>(hch c z).2.2.1 x c e rfl) ho (I.freeC x c e)
 ·obtain⟨e,n,ne,nf,d⟩:=I.pin p hp
  have nch:p.1∉ch:=fun z=>(hch p.1 z).2.2.2 p hp rfl
  exact⟨keep p.1 p.2 ne nf nch e n,free p.1 p.2 nch e n,ne,nf,d⟩
theorem Inv.un {t':Nat}(I:Inv X pins σ H s) (u:Un X.fs [] H H' s.heap h') (hok:HOk X.prog X.w H' h'):Inv X pins σ H' { s with heap:=h',toks:=t' }:=by
 obtain⟨m,⟨o,es,ep,ho,r⟩,_⟩:=id I.loc
 obtain⟨sl,hL⟩:=u.any ho I.free (by simp)
 exact I.step (g':=s.gens) (d':=s.drawn) (ch:=[]) (fun _ z=>nomatch z) (fun b o _ hb _ e n=>u.keep b o e n hb (by simp)) (fun b o _ hb _ e n=>u.slot b o e n hb (by simp)) (fun b o _ e n=>u.free b o e n (by simp)) (fun b o _ e=>u.there b o e (by simp)) u.tups u.frzs u.tbls (fun m' hm=>by
  obtain⟨o',es',ep',ho',r'⟩:=hm
  rw[ho] at ho';cases ho'
  exact⟨_,es',ep',hL,r'⟩) hok I.bare
theorem Inv.call {g':Array GenState}{t':Nat}{d':Drawn}{ch:List Addr}(I:Inv X pins σ H s) (u:Un (frs X.stack) ch H H' s.heap h') (hok:HOk X.prog X.w H' h') (hg:AllBare g')
  (hch:∀ b∈ch,(b∈X.ex\/X.s₀.heap.objs.size<=b)/\b≠X.env.locals/\(∀ x c,X.env.cells.lookup x=some c->c≠b)/\∀ p∈X.pn++pins,p.1≠b) :
  Inv X pins σ H' { s with heap:=h',gens:=g',drawn:=d',toks:=t' }:=by
 obtain⟨m,⟨o,es,ep,ho,r⟩,_⟩:=id I.loc
 obtain⟨sl,hL⟩:=u.any ho I.free fun z=>(hch _ z).2.1 rfl
 exact I.step (ch:=ch) hch (fun b o hL hb hc e n=>u.keep b o e n (fun z=>(List.mem_cons.mp (I.stkSub b z)).elim hL hb) hc) (fun b o _ _ hc e n=>u.any e n hc) (fun b o hc e n=>u.free b o e n hc) (fun b o hc e=>u.there b o e hc) u.tups u.frzs u.tbls (fun m' hm=>by
  obtain⟨o',es',ep',ho',r'⟩:=hm
  rw[ho] at ho';cases ho'
  exact⟨_,es',ep',hL,r'⟩) hok hg
theorem Inv.turned {t':Nat}{it:Addr}(I:Inv X pins σ H s) (k:∀ b o,b≠it->s.heap.get? b=some o->h'.get? b=some o) (hn:H it=none) (hL:it≠X.env.locals)
  (h1:it∈X.ex\/X.s₀.heap.objs.size<=it) (h2:∀ x c,X.env.cells.lookup x=some c->c≠it) (h3:∀ p∈X.pn++pins,p.1≠it):Inv X pins σ H { s with heap:=h',toks:=t' }:=by
 have nit:∀ b u,H b=some u->b≠it:=fun b u e z=>by rw[z,hn] at e;cases e
 refine I.step (g':=s.gens) (d':=s.drawn) (ch:=[it]) (fun b hb=>?_) (fun b o _ _ hc e _=>k b o (fun z=>hc (by simp[z])) e) (fun b o _ _ hc e _=>⟨o.slots,k b o (fun z=>hc (by simp[z])) e⟩) (fun _ _ _ _ n=>n)
  (fun b o hc e=>⟨o,k b o (fun z=>hc (by simp[z])) e⟩) (fun _ _ e=>e) (fun _ _ _ e=>e) (fun b ps e=>⟨#[],by rw[e];simp⟩) (fun m hm=>?_) (fun b u e=>?_) I.bare
 ·have e:b=it:=by simpa using hb
  subst e
  exact⟨h1,hL,h2,h3⟩
 ·obtain⟨o,es,ep,ho,r⟩:=hm
  exact⟨o,es,ep,k _ o (Ne.symm hL) ho,r⟩
 ·refine(I.hok b u e).stay (fun c v hc q=>k c v ?_ q) (fun _ q=>q) fun _ _ q=>q
  rcases hc with z|z
  ·rw[z];exact nit b u e
  ·exact nit c _ z
theorem Inv.tok (I:Inv X pins σ H s) (t:Nat):Inv X pins σ H { s with toks:=t }:=I.un (h':=s.heap) (t':=t) Un.refl I.hok
theorem Inv.kept {t':Nat}(I:Inv X pins σ H s) (k:∀ b u,s.heap.get? b=some u->h'.get? b=some u):Inv X pins σ H { s with heap:=h',toks:=t' }:=I.un (Un.kept k) (I.hok.kept k)
theorem Inv.laid {a:Addr}{o:HO}{t':Nat}(I:Inv X pins σ H s) (k:∀ b u,s.heap.get? b=some u->h'.get? b=some u) (hp:s.heap.objs.size<=a) (new:ObjOk X.prog X.w (upd H a o) h' a o) :
  Inv X pins σ (upd H a o) { s with heap:=h',toks:=t' }:=I.un (Un.laid k hp (I.hok.fresh hp)) (I.hok.laid k hp new)
theorem Inv.write {x e:Addr}{o:HO}{t':Nat}(I:Inv X pins σ H s) (mu:Mut (H x)) (he:e=x\/H e=some (.own x)) (k:∀ b u,b≠e->s.heap.get? b=some u->h'.get? b=some u) (heo:∃ u,h'.get? e=some u)
  (new:ObjOk X.prog X.w (upd H x o) h' x o):Inv X pins σ (upd H x o) { s with heap:=h',toks:=t' }:=I.un (Un.write mu he k heo) (I.hok.write mu he k heo new)
theorem Inv.weak {σ':List (Option V)}(I:Inv X pins σ H s) (hl:σ'.length=σ.length) (w:∀ (i:Nat) v,σ'[i]?=some (some v)->σ[i]?=some (some v)):Inv X pins σ' H s :=
 ⟨I.ok,I.os,I.bare,I.base,let ⟨m,hn,hl'⟩:=I.loc;⟨m,hn,fun i x v e1 e2 e3=>hl' i x v e1 (w i v e2) e3⟩,I.cell,I.free,I.freeC,I.pin,I.hok,hl.trans I.len⟩
theorem Inv.pins_of {pins':List (Addr × Obj)}(I:Inv X pins σ H s) (h:∀ p∈pins',s.heap.get? p.1=some p.2/\H p.1=none/\p.1≠X.env.locals/\p.1∉X.fs/\∀ v,p.2.data ≠ .cell v):Inv X pins' σ H s :=
 ⟨I.ok,I.os,I.bare,I.base,I.loc,I.cell,I.free,I.freeC,fun p hp=>(List.mem_append.mp hp).elim (fun z=>I.pin p (List.mem_append_left _ z)) (h p),I.hok,I.len⟩
theorem Zdq {N:List Str}(hN:N.Nodup) {i j:Nat}{x:Str}(a:N[i]?=some x) (b:N[j]?=some x):i=j:=by
 obtain⟨h1,e1⟩:=List.getElem?_eq_some_iff.mp a
 obtain⟨h2,e2⟩:=List.getElem?_eq_some_iff.mp b
 exact(List.getElem_inj hN).mp (e1.trans e2.symm)
theorem Zd4 {M:Model}{A:Around}{E:Value->Shared->Prop}{i:Nat}{x:Str}{v:V}{u:Value}{Q:Unit->Shared->Prop}(I:Inv X pins σ H s) (hN:X.N.Nodup) (hi:X.N[i]?=some x) (hx:Loc X.env.scope x) (r:RelV v u)
  (h:∀ s',Inv X pins (σ.set i (some v)) H s'->(∃ a,Heap.SameBut a s.heap s'.heap/\(a=X.env.locals\/X.env.cells.lookup x=some a))->Q () s') (hf:X.fn x=true\/X.env.scope.names.lookup x=some .local:=by first|exact .inl rfl|exact .inr rfl|assumption):wpAny M A (storeName X.env x u) Q E s:=by
 obtain⟨m,hn,hl⟩:=id I.loc
 have hcls:(X.env.scope.kind == .class||(X.env.scope.kind == .module&&X.env.locals != X.env.globals))=false:=by rw[I.ok.kind];rfl
 have hiσ:i<σ.length:=by rw[I.len];exact(List.getElem?_eq_some_iff.mp hi).1
 have cne:=I.cne
 have tracked:∀ {a:Addr} {h':Heap},(∃ o,s.heap.get? a=some o/\H a=none)->Heap.SameBut a s.heap h'->HOk X.prog X.w H h':=fun {a h'} ha hs b ob e=>by
  obtain⟨_,_,hfree⟩:=ha
  refine(I.hok b ob e).stay (fun c w' hc q=>(hs.2 c ?_).trans q) (fun _ q=>q) fun _ _ q=>q
  rintro rfl
  rcases hc with rfl|hc
  ·rw[hfree] at e;cases e
  ·rw[hfree] at hc;cases hc
 rcases hx with hk|hk
 ·refine wpAny_storeName_local hk hn (fun h' hn' hs=>?_) hcls
  obtain⟨oL,_,_,hoL,_⟩:=id hn
  refine h _ ⟨I.ok,I.os,I.bare,⟨fun b o e n hb hx=>?_,fun b o e n hb hx=>?_,I.base.free,fun b o e hx=>?_,I.base.tups,I.base.frzs,I.base.tbls⟩,⟨_,hn',fun j y v' e1 e2 e3=>?_⟩,fun y c e=>?_,I.free,I.freeC,fun p hp=>?_,tracked ⟨oL,hoL,I.free⟩ hs,by simpa using I.len⟩ ⟨_,hs,.inl rfl⟩
  ·exact(hs.2 b (Nat.ne_of_lt (Nat.lt_of_lt_of_le (Heap.lt_size e) I.ok.above))).trans (I.base.keep b o e n hb hx)
  ·obtain⟨sl,e1⟩:=I.base.slot b o e n hb hx
   exact⟨sl,(hs.2 b (Nat.ne_of_lt (Nat.lt_of_lt_of_le (Heap.lt_size e) I.ok.above))).trans e1⟩
  ·obtain⟨o',e1⟩:=I.base.there b o e hx
   exact⟨o',(hs.2 b (Nat.ne_of_lt (Nat.lt_of_lt_of_le (Heap.lt_size e) I.ok.above))).trans e1⟩
  ·by_cases hj:j=i
   ·subst hj
    rw[hi] at e1;cases e1
    rw[List.getElem?_set_self hiσ] at e2
    cases e2
    exact⟨u,r,.inl ⟨hk,by simp⟩⟩
   ·rw[List.getElem?_set_ne (Ne.symm hj)] at e2
    obtain⟨u',r',q⟩:=hl j y v' e1 e2 e3
    refine⟨u',r',?_⟩
    rcases q with ⟨k,e⟩|⟨k,c,e,z⟩
    ·refine .inl ⟨k,?_⟩
     have:y≠x:=fun e=>hj (Zdq hN e1 (e▸hi))
     simp[this,e]
    ·exact .inr ⟨k,c,e,z.sameBut hs (cne y c e)⟩
  ·obtain⟨w',z⟩:=I.cell y c e
   exact⟨w',z.sameBut hs (cne y c e)⟩
  ·obtain⟨e,n,ne,nf,d⟩:=I.pin p hp
   exact⟨(hs.2 p.1 ne).trans e,n,ne,nf,d⟩
 ·have hfn:X.fn x=true:=by
   rcases hf with z|z
   ·exact z
   ·rw[z] at hk;cases hk
  obtain⟨c,hc⟩:=I.ok.has x (.inl hk)
  obtain⟨w',z⟩:=I.cell x c hc
  refine wpAny_storeName_cell I.ok.kind hk hc z (fun h' hc' hs=>?_)
  obtain⟨oc,hoc,hocd⟩:=id z
  refine h { s with heap:=h' } ⟨I.ok,I.os,I.bare,⟨fun b o e n hb hx=>?_,fun b o e n hb hx=>?_,I.base.free,fun b o e hx=>?_,I.base.tups,I.base.frzs,I.base.tbls⟩,⟨m,hn.sameBut hs (Ne.symm (cne x c hc)),fun j y v' e1 e2 e3=>?_⟩,fun y c' e=>?_,I.free,I.freeC,fun p hp=>?_,tracked ⟨oc,hoc,I.freeC x c hc⟩ hs,by simpa using I.len⟩ ⟨c,hs,.inr hc⟩
  ·exact(hs.2 b (Nat.ne_of_lt (Nat.lt_of_lt_of_le (Heap.lt_size e) (I.ok.cab x c hfn hc)))).trans (I.base.keep b o e n hb hx)
  ·obtain⟨sl,e1⟩:=I.base.slot b o e n hb hx
   exact⟨sl,(hs.2 b (Nat.ne_of_lt (Nat.lt_of_lt_of_le (Heap.lt_size e) (I.ok.cab x c hfn hc)))).trans e1⟩
  ·obtain⟨o',e1⟩:=I.base.there b o e hx
   exact⟨o',(hs.2 b (Nat.ne_of_lt (Nat.lt_of_lt_of_le (Heap.lt_size e) (I.ok.cab x c hfn hc)))).trans e1⟩
  ·by_cases hj:j=i
   ·subst hj
    rw[hi] at e1;cases e1
    rw[List.getElem?_set_self hiσ] at e2
    cases e2
    exact⟨u,r,.inr ⟨.inl hk,c,hc,hc'⟩⟩
   ·rw[List.getElem?_set_ne (Ne.symm hj)] at e2
    obtain⟨u',r',q⟩:=hl j y v' e1 e2 e3
    refine⟨u',r',?_⟩
    rcases q with q|⟨k,c',e,z'⟩
    ·exact .inl q
    ·refine .inr ⟨k,c',e,z'.sameBut hs ?_⟩
     rintro rfl
     exact hj (Zdq hN e1 (I.ok.inj _ _ _ e hc▸hi))
  ·by_cases hcc:c'=c
   ·subst hcc;exact⟨_,hc'⟩
   ·obtain⟨w2,z2⟩:=I.cell y c' e
    exact⟨w2,z2.sameBut hs hcc⟩
  ·obtain⟨e,n,ne,nf,d⟩:=I.pin p hp
   refine⟨(hs.2 p.1 ?_).trans e,n,ne,nf,d⟩
   intro q
   rw[q,hoc] at e
   have q':oc=p.2:=Option.some.inj e
   exact d w' (by rw[← q'];exact hocd)
theorem Zdc {M:Model}{A:Around}{E:Value->Shared->Prop}{i:Nat}{x:Str}{v:V}{u:Value}{Q:Unit->Shared->Prop}(I:Inv X pins σ H s) (hN:X.N.Nodup) (hi:X.N[i]?=some x) (hx:Loc X.env.scope x) (r:RelV v u)
  (h:∀ s',Inv X pins (σ.set i (some v)) H s'->Q () s') (hf:X.fn x=true\/X.env.scope.names.lookup x=some .local:=by first|exact .inl rfl|exact .inr rfl|assumption):wpAny M A (storeName X.env x u) Q E s :=
 Zd4 I hN hi hx r (fun s' I' _=>h s' I') hf
theorem Inv.call' {s':Shared}{ch:List Addr}(I:Inv X pins σ H s) (ho:s'.os=s.os) (u:Un (frs X.stack) ch H H' s.heap s'.heap) (hok:HOk X.prog X.w H' s'.heap) (hg:AllBare s'.gens)
  (hch:∀ b∈ch,(b∈X.ex\/X.s₀.heap.objs.size<=b)/\b≠X.env.locals/\(∀ x c,X.env.cells.lookup x=some c->c≠b)/\∀ p∈X.pn++pins,p.1≠b):Inv X pins σ H' s':=by
 obtain⟨h',g',d',t',o'⟩:=s'
 have e:o'=s.os:=ho
 subst e
 exact I.call (g':=g') (t':=t') (d':=d') u hok hg hch
end
abbrev XK:=Value->Option Addr->Hp->Prop
abbrev St:=List (Option V)
abbrev VK:=V->Hp->Prop
abbrev TE:=St->Hp->VK->Prop
abbrev TT:=St->Hp->(Bool->Hp->Prop)->Prop
abbrev TA:=St->Hp->(List V->Hp->Prop)->Prop
structure Ends where
 nx:St->Hp->Prop
 rt:VK
 bk:St->Hp->Prop:=fun _ _=>False
 ct:St->Hp->Prop:=fun _ _=>False
abbrev TS:=Ends->St->Hp->Prop
def EP (X:Cx) (pins:List (Addr × Obj)) (σ:St) (Q:VK) (u:Value) (s':Shared):Prop:=∃ v H',Inv X pins σ H' s'/\RelV v u/\Q v H'
def TP (X:Cx) (pins:List (Addr × Obj)) (σ:St) (Q:Bool->Hp->Prop) (b:Bool) (s':Shared):Prop:=∃ H',Inv X pins σ H' s'/\Q b H'
def AP (X:Cx) (pins:List (Addr × Obj)) (σ:St) (Q:List V->Hp->Prop) (us:List Value) (s':Shared):Prop:=∃ vs H',Inv X pins σ H' s'/\Vals vs us/\Q vs H'
def SP (X:Cx) (pins:List (Addr × Obj)) (D:Ends) (f:Flow) (s':Shared):Prop :=
 match f with
 | .next=>∃ σ' H',Inv X pins σ' H' s'/\D.nx σ' H'
 | .brk=>∃ σ' H',Inv X pins σ' H' s'/\D.bk σ' H'
 | .cont=>∃ σ' H',Inv X pins σ' H' s'/\D.ct σ' H'
 | .ret u=>∃ v σ' H',Inv X pins σ' H' s'/\RelV v u/\D.rt v H'
def PE (X:Cx) (e:Expr) (t:TE):Prop :=
 ∀ (pins:List (Addr × Obj)) (s:Shared) (σ:St) (H:Hp) (Q:VK),Inv X pins σ H s->t σ H Q->wpAny (model X.prog X.w) X.A (eval e X.env) (EP X pins σ Q) X.xe s
def PT (X:Cx) (e:Expr) (t:TT):Prop :=
 ∀ (pins:List (Addr × Obj)) (s:Shared) (σ:St) (H:Hp) (Q:Bool->Hp->Prop),Inv X pins σ H s->t σ H Q->wpAny (model X.prog X.w) X.A (isTrue e X.env (eval e X.env)) (TP X pins σ Q) X.xe s
def PW (X:Cx) (e:Expr) (t:TT):Prop :=
 ∀ (whole:Sem Value) (pins:List (Addr × Obj)) (s:Shared) (σ:St) (H:Hp) (Q:Bool->Hp->Prop),Inv X pins σ H s->t σ H Q->wpAny (model X.prog X.w) X.A (isTrue e X.env whole) (TP X pins σ Q) X.xe s
theorem PW.pt {X:Cx}{e:Expr}{t:TT}(h:PW X e t):PT X e t:=h _
def PA (X:Cx) (es:List Expr) (t:TA):Prop :=
 ∀ (pos:Pos) (pins:List (Addr × Obj)) (s:Shared) (σ:St) (H:Hp) (Q:List V->Hp->Prop),Inv X pins σ H s->t σ H Q->wpAny (model X.prog X.w) X.A (spliced (backTo pos (starEach es X.env))) (AP X pins σ Q) X.xe s
def PS (X:Cx) (st:Stmt) (t:TS):Prop :=
 ∀ (pins:List (Addr × Obj)) (s:Shared) (σ:St) (H:Hp) (D:Ends),Inv X pins σ H s->t D σ H->wpAny (model X.prog X.w) X.A (exec st X.env) (SP X pins D) X.xe s
def PSs (X:Cx) (st:List Stmt) (t:TS):Prop :=
 ∀ (pins:List (Addr × Obj)) (s:Shared) (σ:St) (H:Hp) (D:Ends),Inv X pins σ H s->t D σ H->wpAny (model X.prog X.w) X.A (execs st X.env) (SP X pins D) X.xe s
theorem thn {α:Type}{t:Sem α}{Q Q':α->Shared->Prop}{M:Model}{A:Around}{E:Value->Shared->Prop}{s:Shared}(h:wpAny M A t Q E s) (hQ:∀ a s,Q a s->Q' a s):wpAny M A t Q' E s:=wpAny_mono h hQ fun _ _ x=>x
end L2
namespace L2
open PySem PySem.Spec PyProof.Rows
section
variable {X:Cx}
theorem bin {a b:Expr}{ta tb:TE}(ha:PE X a ta) (hb:PE X b tb) {pins:List (Addr × Obj)}{s:Shared}{σ:St}{H:Hp}{R:V->V->Hp->Prop}(I:Inv X pins σ H s) (h:ta σ H fun x H1=>tb σ H1 fun y H2=>R x y H2)
  {α:Type} {Q:α->Shared->Prop} {f:Value->Value->Sem α}
  (hf:∀ v u s2 x y H2,Inv X pins σ H2 s2->RelV x v->RelV y u->R x y H2->wpAny (model X.prog X.w) X.A (f v u) Q X.xe s2) :
  wpAny (model X.prog X.w) X.A (eval a X.env) (fun v s₁=>wpAny (model X.prog X.w) X.A (eval b X.env) (fun u s₂=>wpAny (model X.prog X.w) X.A (f v u) Q X.xe s₂) X.xe s₁) X.xe s:=by
 refine thn (ha pins s σ H _ I h) fun v s1 ⟨x,H1,I1,r1,q1⟩=>?_
 refine thn (hb pins s1 σ H1 _ I1 q1) fun u s2 ⟨y,H2,I2,r2,q2⟩=>?_
 exact hf v u s2 x y H2 I2 r1 r2 q2
def tVar (i:Nat):TE:=fun σ H Q=>∃ v,σ[i]?=some (some v)/\Q v H
def tC (v:V):TE:=fun _ H Q=>Q v H
theorem Zq7 {i:Nat}{x:Str}{pos:Pos}(hN:X.N[i]?=some x) (hv:Vis X.env.scope x) (hd:(x == ("__debug__" : Str))=false:=by decide) (hcd:(x == ("__classdict__" : Str))=false:=by decide):PE X (.Name x pos) (tVar i):=by
 intro pins s σ H Q I h
 obtain⟨v,e,h⟩:=h
 obtain⟨m,hn,hl⟩:=I.loc
 obtain⟨u,r,l⟩:=hl i x v hN e hv
 have fin:EP X pins σ Q u s:=⟨v,H,I,r,h⟩
 rcases l with ⟨hk,hm⟩|⟨hk,c,hc,hcell⟩
 ·exact wpAny_Name (wpAny_loadName_local I.ok.kind hk hn hm fin) hd
 ·rcases hk with hk|hk
  ·exact wpAny_Name (wpAny_loadName_cell I.ok.kind hk hc hcell fin) hd
  ·exact wpAny_Name (wpAny_loadName_free I.ok.kind hk hc hcell fin hcd) hd
theorem Zd {i j pos}:PE X (.Constant (.int i) j pos) (tC (.int i)):=fun _ _ _ H _ I h=>wpAny_Constant_int ⟨.int i,H,I.tok _,⟨_,rfl⟩,h⟩
theorem Ye {b j pos}:PE X (.Constant (.bool b) j pos) (tC (.bl b)):=fun _ _ _ H _ I h=>Constant_bool ⟨.bl b,H,I,rfl,h⟩
theorem Y4 {j pos}:PE X (.Constant .none j pos) (tC .non):=fun _ _ _ H _ I h=>Constant_none ⟨.non,H,I,rfl,h⟩
theorem Zq {x j pos}:PE X (.Constant (.str x) j pos) (tC (.str x)):=fun _ _ _ H _ I h=>Calls.Constant_str ⟨.str x,H,I.tok _,⟨_,rfl⟩,h⟩
def Gl (X:Cx) (x:Str):Prop:=X.env.kindOf x=some .globalImplicit
theorem Je {E:Value->Shared->Prop}{pins:List (Addr × Obj)}{s:Shared}{σ:St}{H:Hp}{x:Str}{u:Value}{pos:Pos}{Q:Value->Shared->Prop}(I:Inv X pins σ H s) (hg:Gl X x) (hm:X.mg x=some u) (h:Q u s)
  (hd:(x == ("__debug__" : Str))=false:=by decide):wpAny (model X.prog X.w) X.A (eval (.Name x pos) X.env) Q E s :=
 Calls.Name_function_global I.ok.kind hg (Calls.loadGlobal_global (by rw[I.ok.glob];exact I.mod.glob.keeps I.bk) hm h) hd
theorem Jr {E:Value->Shared->Prop}{pins:List (Addr × Obj)}{s:Shared}{σ:St}{H:Hp}{x:Str}{u:Value}{pos:Pos}{Q:Value->Shared->Prop}(I:Inv X pins σ H s) (hg:Gl X x) (hm:X.mg x=none) (hv:bootBuiltins x=some u) (h:Q u s)
  (hn:x ≠ "__name__" := by decide) (hd:(x == ("__debug__" : Str))=false:=by decide):wpAny (model X.prog X.w) X.A (eval (.Name x pos) X.env) Q E s:=by
 obtain⟨mb,h1,h2⟩:=I.mod.blt
 exact Calls.Name_function_global I.ok.kind hg (Calls.loadGlobal_builtin (by rw[I.ok.glob];exact I.mod.glob.keeps I.bk) hm (by rw[I.ok.blt];exact h1.keeps I.bk) ((h2 x hn).trans hv) h) hd
theorem Zbl {x:Str}{v:V}{u:Value}{pos:Pos}(hg:Gl X x) (hm:X.mg x=some u) (r:RelV v u) (hd:(x == ("__debug__" : Str))=false:=by decide):PE X (.Name x pos) (tC v) :=
 fun _ _ _ H _ I h=>Je I hg hm ⟨v,H,I,r,h⟩ hd
theorem Zjb {x:Str}{v:V}{u:Value}{pos:Pos}(hg:Gl X x) (hm:X.mg x=none) (hv:bootBuiltins x=some u) (r:RelV v u) (hn:x ≠ "__name__" := by decide) (hd:(x == ("__debug__" : Str))=false:=by decide):PE X (.Name x pos) (tC v) :=
 fun _ _ _ H _ I h=>Jr I hg hm hv ⟨v,H,I,r,h⟩ hn hd
variable {a b:Expr}{ta tb:TE}{pos:Pos}
def PC (X:Cx) (op:CmpOp) (a b:Expr) (t:TE):Prop :=
 ∀ (pins:List (Addr × Obj)) (s:Shared) (σ:St) (H:Hp) (Q:VK),Inv X pins σ H s->t σ H Q ->
  wpAny (model X.prog X.w) X.A (eval a X.env) (fun v s₁=>wpAny (model X.prog X.w) X.A (eval b X.env) (fun u s₂=>wpAny (model X.prog X.w) X.A (compareOp op v u) (EP X pins σ Q) X.xe s₂) X.xe s₁) X.xe s
theorem Zgj (b:Expr) {op:CmpOp}(h:op ≠ .In) (h2:op ≠ .NotIn):behindInMarks op b=false:=by
 have e1:(op == CmpOp.In)=false:=by cases op<;>first|rfl|exact absurd rfl h
 have e2:(op == CmpOp.NotIn)=false:=by cases op<;>first|rfl|exact absurd rfl h2
 cases b<;>simp[behindInMarks,e1,e2]
def tIsN (ta:TE):TE:=fun σ H Q=>ta σ H fun x H1=>Q (.bl (decide (x=.non))) H1
def Zsv (ta:TE):TE:=fun σ H Q=>ta σ H fun x H1=>Q (.bl (!decide (x=.non))) H1
theorem RelV.none_iff {x:V}{v:Value}(r:RelV x v):(v == Value.none)=decide (x=.non):=by
 cases x with
 | non=>cases r;rfl
 | bl _=>cases r;rfl
 | int _=>obtain⟨t,rfl⟩:=r;rfl
 | str _=>obtain⟨t,rfl⟩:=r;rfl
 | byt _=>obtain⟨t,rfl⟩:=r;rfl
 | flt _=>obtain⟨t,rfl⟩:=r;rfl
 | ref _=>cases r;rfl
 | ty _=>cases r;rfl
theorem Zgg {j pos'}(ha:PE X a ta):PC X .Is a (.Constant .none j pos') (tIsN ta):=by
 intro pins s σ H Q I h
 refine thn (ha pins s σ H _ I h) fun v s1 ⟨x,H1,I1,r1,q1⟩=>?_
 exact Constant_none (is_none_gen ⟨.bl _,H1,I1,by rw[r1.none_iff];rfl,q1⟩)
theorem Zfp {j pos'}(ha:PE X a ta):PC X .IsNot a (.Constant .none j pos') (Zsv ta):=by
 intro pins s σ H Q I h
 refine thn (ha pins s σ H _ I h) fun v s1 ⟨x,H1,I1,r1,q1⟩=>?_
 exact Constant_none (isnot_none_gen ⟨.bl _,H1,I1,by rw[r1.none_iff];rfl,q1⟩)
def tB (t:TE):TT:=fun σ H Q=>t σ H fun x H1=>∃ c,x=.bl c/\Q c H1
theorem Zne {op:CmpOp}{t:TE}(h:PC X op a b t) (h1:behindInMarks op b=false:=by first|exact Zgj _ (by decide) (by decide)|rfl):PE X (.Compare a [op] [b] pos) t:=fun pins s σ H Q I hw=>wpAny_Compare1 (h pins s σ H Q I hw) h1
theorem Zec {op:CmpOp}{t:TE}(h:PC X op a b t) (h1:behindInMarks op b=false:=by first|exact Zgj _ (by decide) (by decide)|rfl):PT X (.Compare a [op] [b] pos) (tB t):=by
 intro pins s σ H Q I hw
 refine wpAny_isTrue_Compare1 (thn (h pins s σ H _ I hw) fun v s1 h1=>thn h1 fun u s2 h2=>thn h2 fun c s3 ⟨x,H1,I1,r1,q1⟩=>?_) h1
 obtain⟨d,rfl,q⟩:=q1
 cases r1
 exact wpAny_truthy_bool ⟨H1,I1,q⟩
theorem Zz {e:Expr}{t:TE}(h:PE X e t) (he:∀ whole,isTrue e X.env whole=(do let v ← whole;standAt e.pos;holding [v] (truthy v)):=by intro _;rfl):PT X e (tB t):=by
 intro pins s σ H Q I hw
 refine isTrue_plain (thn (h pins s σ H _ I hw) fun v s1 ⟨x,H1,I1,r1,q1⟩=>?_) (he _)
 obtain⟨d,rfl,q⟩:=q1
 cases r1
 exact wpAny_truthy_bool ⟨H1,I1,q⟩
variable {tA tB':TT}{rest:List Expr}
def tAnd (t u:TT):TT:=fun σ H Q=>t σ H fun c H1=>if c=true then u σ H1 Q else Q false H1
def tOr (t u:TT):TT:=fun σ H Q=>t σ H fun c H1=>if c=true then Q true H1 else u σ H1 Q
def tNot (t:TT):TT:=fun σ H Q=>t σ H fun c H1=>Q (!c) H1
theorem Zar (ha:PT X a tA):PW X (.BoolOp .And [a] pos) tA:=by
 intro wh pins s σ H Q I h
 refine isTrue_and (thn (ha pins s σ H Q I h) fun c s1 e=>?_)
 cases c with
 | true=>exact isTrue_and_nil e
 | false=>exact e
theorem Ja (ha:PT X a tA):PW X (.BoolOp .Or [a] pos) tA:=by
 intro wh pins s σ H Q I h
 refine isTrue_or (thn (ha pins s σ H Q I h) fun c s1 e=>?_)
 cases c with
 | false=>exact isTrue_or_nil e
 | true=>exact e
theorem Zb6 (ha:PT X a tA) (hb:PW X (.BoolOp .And (b::rest) pos) tB'):PW X (.BoolOp .And (a::b::rest) pos) (tAnd tA tB'):=by
 intro wh pins s σ H Q I h
 refine isTrue_and (thn (ha pins s σ H _ I h) fun c s1 ⟨H1,I1,q1⟩=>?_)
 cases c with
 | true=>exact hb wh pins s1 σ H1 Q I1 q1
 | false=>exact⟨H1,I1,q1⟩
theorem Yy (ha:PT X a tA) (hb:PW X (.BoolOp .Or (b::rest) pos) tB'):PW X (.BoolOp .Or (a::b::rest) pos) (tOr tA tB'):=by
 intro wh pins s σ H Q I h
 refine isTrue_or (thn (ha pins s σ H _ I h) fun c s1 ⟨H1,I1,q1⟩=>?_)
 cases c with
 | true=>exact⟨H1,I1,q1⟩
 | false=>exact hb wh pins s1 σ H1 Q I1 q1
theorem Yh (ha:PT X a tA):PT X (.UnaryOp .Not a pos) (tNot tA):=by
 intro pins s σ H Q I h
 exact isTrue_not (ha pins s σ H (fun c H1=>Q (!c) H1) I h)
def Zqj (ta tb:TE):TE:=fun σ H Q=>ta σ H fun x H1=>∃ c,x=.bl c/\if c=true then tb σ H1 Q else Q (.bl false) H1
def tOrV (ta tb:TE):TE:=fun σ H Q=>ta σ H fun x H1=>∃ c,x=.bl c/\if c=true then Q (.bl true) H1 else tb σ H1 Q
def Zsu (ta:TE):TE:=fun σ H Q=>ta σ H fun x H1=>∃ c,x=.bl c/\Q (.bl (!c)) H1
theorem Yk {op}{t:TE}(h:PE X a t):PE X (.BoolOp op [a] pos) t:=fun pins s σ H Q I hw=>BoolOp_one (h pins s σ H Q I hw)
theorem Ys (ha:PE X a ta) (hb:PE X (.BoolOp .And (b::rest) pos) tb):PE X (.BoolOp .And (a::b::rest) pos) (Zqj ta tb):=by
 intro pins s σ H Q I h
 refine BoolOp_and (thn (ha pins s σ H _ I h) fun v s1 ⟨x,H1,I1,r1,q1⟩=>?_)
 obtain⟨c,rfl,q1⟩:=q1
 cases r1
 refine wpAny_truthy_bool ?_
 cases c with
 | true=>exact hb pins s1 σ H1 Q I1 q1
 | false=>exact⟨.bl false,H1,I1,rfl,q1⟩
theorem Zoz (ha:PE X a ta) (hb:PE X (.BoolOp .Or (b::rest) pos) tb):PE X (.BoolOp .Or (a::b::rest) pos) (tOrV ta tb):=by
 intro pins s σ H Q I h
 refine BoolOp_or (thn (ha pins s σ H _ I h) fun v s1 ⟨x,H1,I1,r1,q1⟩=>?_)
 obtain⟨c,rfl,q1⟩:=q1
 cases r1
 refine wpAny_truthy_bool ?_
 cases c with
 | false=>exact hb pins s1 σ H1 Q I1 q1
 | true=>exact⟨.bl true,H1,I1,rfl,q1⟩
theorem Zi8 (ha:PE X a ta):PE X (.UnaryOp .Not a pos) (Zsu ta):=by
 intro pins s σ H Q I h
 refine UnaryOp_ (thn (ha pins s σ H _ I h) fun v s1 ⟨x,H1,I1,r1,q1⟩=>?_)
 obtain⟨c,rfl,q1⟩:=q1
 cases r1
 exact not_of (wpAny_truthy_bool ⟨.bl (!c),H1,I1,rfl,q1⟩)
def tIf (t:TT) (ta tb:TE):TE:=fun σ H Q=>t σ H fun c H1=>if c=true then ta σ H1 Q else tb σ H1 Q
theorem Zdn {c:Expr}(hc:PT X c tA) (ha:PE X a ta) (hb:PE X b tb):PE X (.IfExp c a b pos) (tIf tA ta tb):=by
 intro pins s σ H Q I h
 refine wpAny_IfExp (thn (hc pins s σ H _ I h) fun d s1 ⟨H1,I1,q1⟩=>?_)
 cases d with
 | true=>exact ha pins s1 σ H1 Q I1 q1
 | false=>exact hb pins s1 σ H1 Q I1 q1
end
end L2
namespace L2
open PySem PySem.Spec PyProof.Rows
def SqL (K:PySem.W.Frag) (H:Hp) (a:Addr) (xs:List V):Prop :=
 Rd H a (.lst xs) \/
  ∃ (o:Obj) (its:Array Value) (n:Nat),K.lookup a=some o/\o.cls=.type "list" /\ o.dict=none/\o.data=.seq its n/\its.size<=sizeLine/\Vals xs its.toList
def SqT (K:PySem.W.Frag) (H:Hp) (a:Addr) (xs:List V):Prop :=
 Rd H a (.tup xs) \/
  ∃ (o:Obj) (its:Array Value) (n:Nat),K.lookup a=some o/\o.cls=.type "tuple" /\ o.data=.seq its n/\its.size<=sizeLine/\Vals xs its.toList
def absV:Value->Option V
 | .none=>some .non
 | .bool b=>some (.bl b)
 | .int i _=>some (.int i)
 | .str x _=>some (.str x)
 | .bytes b _=>some (.byt b)
 | .float b _=>some (.flt b)
 | .ref a=>some (.ref a)
 | .type n=>some (.ty n)
 | _=>none
theorem RelV.abs {x:V}{u:Value}(r:RelV x u):absV u=some x:=by
 cases x with
 | non=>cases r;rfl
 | bl _=>cases r;rfl
 | int _=>obtain⟨t,rfl⟩:=r;rfl
 | str _=>obtain⟨t,rfl⟩:=r;rfl
 | byt _=>obtain⟨t,rfl⟩:=r;rfl
 | flt _=>obtain⟨t,rfl⟩:=r;rfl
 | ref _=>cases r;rfl
 | ty _=>cases r;rfl
theorem RelV.inj {x y:V}{u:Value}(r:RelV x u) (q:RelV y u):x=y:=Option.some.inj (r.abs.symm.trans q.abs)
theorem Vals.inj:∀ {xs ys:List V}{us:List Value},Vals xs us->Vals ys us->xs=ys
 | _,_,_,.nil,.nil=>rfl
 | _,_,_,.cons r t,.cons r' t'=>by rw[r.inj r',Vals.inj t t']
section
variable {X:Cx}{pins:List (Addr × Obj)}{σ:St}{H:Hp}{s:Shared}{a:Addr}{xs ys:List V}
theorem SqL.of {K:PySem.W.Frag}(h:H a=some (.lst xs)):SqL K H a xs:=.inl (.inl h)
theorem SqT.of {K:PySem.W.Frag}(h:H a=some (.tup xs)):SqT K H a xs:=.inl (.inl h)
theorem Inv.list (I:Inv X pins σ H s) (h:SqL X.K H a xs):∃ its:List Value,Vals xs its/\PlainL s.heap a its.toArray/\xs.length<=sizeLine:=by
 rcases h with h|⟨o,its,n,hk,hc,hd,hs,hz,r⟩
 ·obtain⟨z,its,n,r,e⟩:=h.ok I.hok
  exact⟨its,r,⟨_,n,e,rfl,rfl,rfl⟩,z⟩
 ·refine⟨its.toList,r,⟨o,n,I.kIn a o hk,hc,hd,by simpa using hs⟩,?_⟩
  have e:=r.length
  simp only [Array.length_toList] at e
  omega
theorem Inv.tuple (I:Inv X pins σ H s) (h:SqT X.K H a xs):∃ its:List Value,Vals xs its/\IsTup s.heap a its.toArray/\xs.length<=sizeLine:=by
 rcases h with h|⟨o,its,n,hk,hc,hs,hz,r⟩
 ·obtain⟨z,its,r,p⟩:=h.ok I.hok
  exact⟨its,r,p,z⟩
 ·refine⟨its.toList,r,⟨o,I.kIn a o hk,hc,n,by simpa using hs⟩,?_⟩
  have e:=r.length
  simp only [Array.length_toList] at e
  omega
theorem Inv.list_inj (I:Inv X pins σ H s) (h:SqL X.K H a xs) (h':SqL X.K H a ys):xs=ys:=by
 obtain⟨its,r,⟨o,n,e,_,_,d⟩,_⟩:=I.list h
 obtain⟨its',r',⟨o',n',e',_,_,d'⟩,_⟩:=I.list h'
 rw[e] at e';cases e'
 rw[d] at d'
 injection d' with d1 _
 have:its=its':=by simpa using congrArg Array.toList d1
 subst this
 exact r.inj r'
end
abbrev Cx.wish (X:Cx) (E:Value->Shared->Prop):Cx:={ X with xe:=E }
abbrev Cx.nox (X:Cx):Cx:=X.wish fun _ _=>False
theorem Cx.Ok.wish {X:Cx}(ok:X.Ok) (E:Value->Shared->Prop):(X.wish E).Ok :=
 ⟨ok.mod,ok.kind,ok.glob,ok.blt,ok.above,ok.inj,ok.has,ok.cab,ok.hd,ok.frames,ok.stk,ok.exf,ok.bs,ok.bsz,ok.noex,ok.exfs,ok.funs,ok.frf⟩
theorem Cx.Ok.unwish {X:Cx}{E:Value->Shared->Prop}(ok:(X.wish E).Ok):X.Ok :=
 ⟨ok.mod,ok.kind,ok.glob,ok.blt,ok.above,ok.inj,ok.has,ok.cab,ok.hd,ok.frames,ok.stk,ok.exf,ok.bs,ok.bsz,ok.noex,ok.exfs,ok.funs,ok.frf⟩
section
variable {X:Cx}{pins:List (Addr × Obj)}{σ:St}{H:Hp}{s:Shared}{E:Value->Shared->Prop}
theorem Inv.wish (I:Inv X pins σ H s) (E:Value->Shared->Prop):Inv (X.wish E) pins σ H s:=⟨I.ok.wish E,I.os,I.bare,I.base,I.loc,I.cell,I.free,I.freeC,I.pin,I.hok,I.len⟩
theorem Inv.unwish (I:Inv (X.wish E) pins σ H s):Inv X pins σ H s:=⟨I.ok.unwish,I.os,I.bare,I.base,I.loc,I.cell,I.free,I.freeC,I.pin,I.hok,I.len⟩
theorem SP.unwish {D:Ends}{f:Flow}{s':Shared}(h:SP (X.wish E) pins D f s'):SP X pins D f s':=by
 cases f with
 | next=>obtain⟨σ',H',I,q⟩:=h;exact⟨σ',H',I.unwish,q⟩
 | brk=>obtain⟨σ',H',I,q⟩:=h;exact⟨σ',H',I.unwish,q⟩
 | cont=>obtain⟨σ',H',I,q⟩:=h;exact⟨σ',H',I.unwish,q⟩
 | ret u=>obtain⟨v,σ',H',I,r,q⟩:=h;exact⟨v,σ',H',I.unwish,r,q⟩
theorem PE.nox {e:Expr}{t:TE}(h:PE X.nox e t):PE X e t:=fun pins s σ H Q I hw =>
 wpAny_mono (h pins s σ H Q (I.wish _) hw) (fun _ _ ⟨v,H',I',r,q⟩=>⟨v,H',I'.unwish,r,q⟩) fun _ _ z=>False.elim z
theorem PT.nox {e:Expr}{t:TT}(h:PT X.nox e t):PT X e t:=fun pins s σ H Q I hw =>
 wpAny_mono (h pins s σ H Q (I.wish _) hw) (fun _ _ ⟨H',I',q⟩=>⟨H',I'.unwish,q⟩) fun _ _ z=>False.elim z
theorem PSs.nox {st:List Stmt}{t:TS}(h:PSs X.nox st t):PSs X st t:=fun pins s σ H D I hw =>
 wpAny_mono (h pins s σ H D (I.wish _) hw) (fun _ _ q=>q.unwish) fun _ _ z=>False.elim z
end
section
variable {X:Cx}{st:Stmt}{rest:List Stmt}{t u:TS}{e:Expr}{te:TE}{pos:Pos}
def Zqd:TS:=fun D σ H=>D.nx σ H
def tSeq (t u:TS):TS:=fun D σ H=>t { D with nx:=u D } σ H
theorem Zo:PSs X [] Zqd:=fun _ _ σ H _ I h=>wpAny_execs_nil ⟨σ,H,I,h⟩
theorem Zh (h1:PS X st t) (h2:PSs X rest u):PSs X (st::rest) (tSeq t u):=by
 intro pins s σ H D I h
 refine wpAny_execs_cons (thn (h1 pins s σ H { D with nx:=u D } I h) fun f s1 q=>?_)
 cases f with
 | next =>
  obtain⟨σ',H',I',q⟩:=q
  exact h2 pins s1 σ' H' D I' q
 | ret v=>exact q
 | brk=>exact q
 | cont=>exact q
theorem Zf (h1:PS X st t):PSs X [st] t:=by
 intro pins s σ H D I h
 refine wpAny_execs_cons (thn (h1 pins s σ H D I h) fun f s1 q=>?_)
 cases f with
 | next=>exact wpAny_execs_nil q
 | ret v=>exact q
 | brk=>exact q
 | cont=>exact q
theorem Zi1:PS X (.Pass pos) Zqd:=fun _ _ σ H _ I h=>wpAny_Pass ⟨σ,H,I,h⟩
theorem Inv.quiet {pins:List (Addr × Obj)}{σ:St}{H:Hp}{s:Shared}(I:Inv X pins σ H s):interactive X.env=false:=by simp[interactive,I.ok.kind]
def Zsy (te:TE):TS:=fun D σ H=>te σ H fun _ H1=>D.nx σ H1
theorem Z8 (he:PE X e te) (hs:swapsWith e none pos.line X.env=pure false:=by rfl):PS X (.Expr e pos) (Zsy te):=by
 intro pins s σ H D I h
 exact wpAny_Expr_any (thn (he pins s σ H _ I h) fun v s1 ⟨x,H1,I1,r1,q1⟩=>⟨σ,H1,I1,q1⟩) I.quiet hs
def tRet (te:TE):TS:=fun D σ H=>te σ H D.rt
theorem Zj (he:PE X e te):PS X (.Return (some e) pos) (tRet te):=by
 intro pins s σ H D I h
 exact wpAny_Return_some (thn (he pins s σ H _ I h) fun v s1 ⟨x,H1,I1,r1,q1⟩=>⟨x,σ,H1,I1,r1,q1⟩)
def tIfS (c:TT) (t u:TS):TS:=fun D σ H=>c σ H fun b H1=>if b=true then t D σ H1 else u D σ H1
theorem Zn {c:Expr}{a b:List Stmt}{tc:TT}(hc:PT X c tc) (ha:PSs X a t) (hb:PSs X b u):PS X (.If c a b pos) (tIfS tc t u):=by
 intro pins s σ H D I h
 refine wpAny_If (thn (hc pins s σ H _ I h) fun d s1 ⟨H1,I1,q1⟩=>?_)
 cases d with
 | true=>exact ha pins s1 σ H1 D I1 q1
 | false=>exact hb pins s1 σ H1 D I1 q1
def Zmr:TS:=fun _ _ _=>False
theorem Zai:PS X st Zmr:=fun _ _ _ _ _ _ h=>h.elim
theorem Ziw {sts:List Stmt}:PSs X sts Zmr:=fun _ _ _ _ _ _ h=>h.elim
end
abbrev TG:=V->St->Hp->(St->Hp->Prop)->Prop
abbrev TGs:=List V->St->Hp->(St->Hp->Prop)->Prop
def PG (X:Cx) (target:Expr) (t:TG):Prop :=
 ∀ (pins:List (Addr × Obj)) (s:Shared) (σ:St) (H:Hp) (v:V) (u:Value) (Q:St->Hp->Prop),Inv X pins σ H s->RelV v u->t v σ H Q ->
  wpAny (model X.prog X.w) X.A (assign target X.env u) (fun _ s'=>∃ σ' H',Inv X pins σ' H' s'/\Q σ' H') X.xe s
def PGs (X:Cx) (ts:List Expr) (t:TGs):Prop :=
 ∀ (pins:List (Addr × Obj)) (s:Shared) (σ:St) (H:Hp) (vs:List V) (us:List Value) (Q:St->Hp->Prop),Inv X pins σ H s->Vals vs us->t vs σ H Q ->
  wpAny (model X.prog X.w) X.A (assignInOrder ((assignEach ts X.env).map (·.2)) us) (fun _ s'=>∃ σ' H',Inv X pins σ' H' s'/\Q σ' H') X.xe s
abbrev TSet:=V->V->V->Hp->(Hp->Prop)->Prop
def PSet (X:Cx) (t:TSet):Prop :=
 ∀ (pins:List (Addr × Obj)) (s:Shared) (σ:St) (H:Hp) (o i v:V) (ov iv u:Value) (Q:Hp->Prop),Inv X pins σ H s->RelV o ov->RelV i iv->RelV v u->t o i v H Q ->
  wpAny (model X.prog X.w) X.A (setItem ov iv u) (fun _ s'=>∃ H',Inv X pins σ H' s'/\Q H') X.xe s
section
variable {X:Cx}{pos:Pos}
def Zlw (i:Nat):TG:=fun v σ H Q=>Q (σ.set i (some v)) H
theorem Ya {i:Nat}{x:Str}(hN:X.N.Nodup) (hi:X.N[i]?=some x) (hx:Loc X.env.scope x) (hf:X.fn x=true\/X.env.scope.names.lookup x=some .local:=by first|exact .inl rfl|exact .inr rfl|assumption):PG X (.Name x pos) (Zlw i):=by
 intro pins s σ H v u Q I r h
 exact wpAny_assign_Name (Zdc I hN hi hx r (fun s' I'=>⟨_,H,I',h⟩) hf)
def gNil:TGs:=fun vs σ H Q=>vs=[]/\Q σ H
def Ztk (t:TG) (u:TGs):TGs:=fun vs σ H Q=>∃ v r,vs=v::r/\t v σ H fun σ' H'=>u r σ' H' Q
theorem Zbk:PGs X [] gNil:=by
 intro pins s σ H vs us Q I r h
 obtain⟨e,h⟩:=h
 subst e
 cases r
 exact assignInOrder_nil ⟨σ,H,I,h⟩
theorem Y0 {e:Expr}{es:List Expr}{t:TG}{u:TGs}(h1:PG X e t) (h2:PGs X es u)
  (hs:(assignEach (e::es) X.env).map (·.2)=assign e X.env::(assignEach es X.env).map (·.2):=by rfl):PGs X (e::es) (Ztk t u):=by
 intro pins s σ H vs us Q I r h
 obtain⟨v,vr,e1,h⟩:=h
 subst e1
 cases r with
 | cons r rr =>
  rw[hs]
  refine assignInOrder_cons (thn (h1 pins s σ H _ _ _ I r h) fun _ s1 ⟨σ1,H1,I1,q1⟩=>?_)
  exact h2 pins s1 σ1 H1 _ _ Q I1 rr q1
def gTup (K:PySem.W.Frag) (n:Nat) (t:TGs):TG:=fun v σ H Q=>∃ a xs,v=.ref a/\SqT K H a xs/\xs.length=n/\t xs σ H Q
theorem Zi5 {es:List Expr}{k:Nat}{t:TGs}{n:Nat}(hc:X.calm=true) (h:PGs X es t)
  (hn:(assignEach es X.env).length=n:=by rfl) (hst:(assignEach es X.env).findIdx? (·.1)=none:=by rfl):PG X (.Tuple es k pos) (gTup X.K n t):=by
 intro pins s σ H v u Q I r hw
 obtain⟨a,xs,e1,hq,hl,hw⟩:=hw
 subst e1
 cases r
 obtain⟨its,rv,ht,hz⟩:=I.tuple hq
 refine assign_Tuple_tuple (I.ok.hd hc) ht (by simp[hn,← hl,rv.length]) hst fun h' hx=>?_
 have I1:Inv X pins σ H { s with heap:=h' }:=I.kept (t':=s.toks) fun b o e=>hx b o (Nat.ne_of_lt (Heap.lt_size e)) e
 exact h pins _ σ H xs _ Q I1 (by simpa using rv) hw
def gSub (to ti:TE) (t:TSet):TG:=fun v σ H Q=>to σ H fun o H1=>ti σ H1 fun i H2=>t o i v H2 fun H3=>Q σ H3
theorem Zq5 {o i:Expr}{to ti:TE}{t:TSet}(ho:PE X o to) (hi:PE X i ti) (hs:PSet X t)
  (ha:∀ v,assign (.Subscript o i pos) X.env v=(do
    let ov ← holding [v] (eval o X.env)
    let iv ← holding [v,ov] (eval i X.env)
    standAt pos
    holding [v,ov,iv] (setItem ov iv v)
    release [v,ov,iv] []):=by intro _;rfl):PG X (.Subscript o i pos) (gSub to ti t):=by
 intro pins s σ H v u Q I r h
 rw[ha]
 refine wpAny_bind (wpAny_holding (thn (ho pins s σ H _ I h) fun ov s1 ⟨x,H1,I1,r1,q1⟩=>?_))
 refine wpAny_bind (wpAny_holding (thn (hi pins s1 σ H1 _ I1 q1) fun iv s2 ⟨y,H2,I2,r2,q2⟩=>?_))
 refine wpAny_bind (wpAny_standAt (wpAny_bind (wpAny_holding (thn (hs pins s2 σ H2 x y v ov iv u _ I2 r1 r2 r q2) fun _ s3 ⟨H3,I3,q3⟩=>?_))))
 exact wpAny_release ⟨σ,H3,I3,q3⟩
def tAsg (te:TE) (g:TG):TS:=fun D σ H=>te σ H fun x H1=>g x σ H1 D.nx
theorem Zi2 {tg e:Expr}{te:TE}{g:TG}(he:PE X e te) (hg:PG X tg g) (hs:swapsWithSole [tg] e pos.line X.env=pure false:=by rfl) (hw:swappedStores [tg] e X.env=pure none:=by rfl)
  (h1:(assignEach [tg] X.env).map (·.2)=[assign tg X.env]:=by rfl):PS X (.Assign [tg] e pos) (tAsg te g):=by
 intro pins s σ H D I h
 refine wpAny_Assign_stores (thn (he pins s σ H _ I h) fun v s1 ⟨x,H1,I1,r1,q1⟩=>?_) hs hw
 rw[h1]
 exact thn (hg pins s1 σ H1 x v _ I1 r1 q1) fun _ s2 q=>q
theorem Zp {i:Nat}{x:Str}{e:Expr}{te:TE}{pos':Pos}(hN:X.N.Nodup) (hi:X.N[i]?=some x) (hx:Loc X.env.scope x) (he:PE X e te) (hs:swapsWith e (some (.Name x pos')) pos.line X.env=pure false:=by rfl) (hf:X.fn x=true\/X.env.scope.names.lookup x=some .local:=by first|exact .inl rfl|exact .inr rfl|assumption) :
  PS X (.Assign [.Name x pos'] e pos) (tAsg te (Zlw i)):=by
 intro pins s σ H D I h
 refine wpAny_Assign_Name (thn (he pins s σ H _ I h) fun v s1 ⟨y,H1,I1,r1,q1⟩=>?_) hs
 exact Zdc I1 hN hi hx r1 (fun s2 I2=>⟨_,H1,I2,q1⟩) hf
end
section
variable {X:Cx}{pos:Pos}
end
structure It where
 go:Nat->Hp->Prop
 yld:Nat->Hp->V->Hp->Prop
 stop:Nat->Hp->Prop
def FpOk (X:Cx) (pins:List (Addr × Obj)) (H:Hp) (b:Addr):Prop :=
 H b=none/\b≠X.env.locals/\b∉X.fs/\(b∈X.ex\/X.s₀.heap.objs.size<=b)/\(∀ x c,X.env.cells.lookup x=some c->c≠b)/\∀ p∈X.pn++pins,p.1≠b
theorem Inv.fpOk {X:Cx}{pins:List (Addr × Obj)}{σ:St}{H H':Hp}{s:Shared}{b:Addr}(I:Inv X pins σ H s) (hb:s.heap.objs.size<=b) (hn:H' b=none):FpOk X pins H' b:=by
 refine⟨hn,Nat.ne_of_gt (Nat.lt_of_lt_of_le I.lt hb),I.nofs hb,.inr (Nat.le_trans I.sz hb),fun x c e z=>?_,fun p hp z=>?_⟩
 ·obtain⟨v,q⟩:=I.cell x c e
  exact absurd (Nat.lt_of_lt_of_le q.lt (by rw[z];exact hb)) (Nat.lt_irrefl _)
 ·exact absurd (Nat.lt_of_lt_of_le (Heap.lt_size (I.pin p hp).1) (by rw[z];exact hb)) (Nat.lt_irrefl _)
structure Turn (P:Program) (w:World) (K:PySem.W.Frag) (tg:Expr) (J:It) (fp:List Addr) (it:Addr) (tn:Nat->Heap->Prop):Prop where
 mem:it∈fp
 obj:∀ i h,tn i h->∀ b∈fp,∃ o,h.get? b=some o/\∀ v,o.data ≠ .cell v
 keep:∀ i h h',tn i h->(∀ b∈fp,∀ o,h.get? b=some o->h'.get? b=some o)->tn i h'
 item:∀ (X:Cx),X.prog=P->X.w=w->X.K=K->X.calm=true->∀ (i:Nat) (pins:List (Addr × Obj)) (s:Shared) (σ:St) (H:Hp) (E:Value->Shared->Prop),Inv X pins σ H s->(∀ b∈fp,FpOk X pins H b)->tn i s.heap->J.go i H ->
  wpAny (model P w) X.A (pyNext (.ref it)) (fun r s1=>∃ u,r=some u /\
   wpAny (model P w) X.A (letOwnedTupleGo tg (.ref it) u) (fun _ s2=>∃ x H',Inv X pins σ H' s2/\RelV x u/\J.yld i H x H'/\tn (i+1) s2.heap/\∀ b∈fp,H' b=none) E s1) E s
 done:∀ (X:Cx),X.prog=P->X.w=w->X.K=K->X.calm=true->∀ (i:Nat) (pins:List (Addr × Obj)) (s:Shared) (σ:St) (H:Hp) (E:Value->Shared->Prop),Inv X pins σ H s->(∀ b∈fp,FpOk X pins H b)->tn i s.heap->J.stop i H ->
  wpAny (model P w) X.A (pyNext (.ref it)) (fun r s1=>r=none/\Inv X pins σ H s1) E s
 self:∀ (A:Around) (i:Nat) (s:Shared) (Q:Value->Shared->Prop) (E:Value->Shared->Prop),tn i s.heap->Q (.ref it) s->wpAny (model P w) A (pyIter (.ref it)) Q E s
abbrev TI:=St->Hp->(It->Hp->Prop)->Prop
def PIE (X:Cx) (pins:List (Addr × Obj)) (σ:St) (tg:Expr) (R:It->Hp->Prop) (itv:Value) (s2:Shared):Prop :=
 ∃ (it:Addr) (fp:List Addr) (tn:Nat->Heap->Prop) (J:It) (H':Hp),itv=.ref it/\Inv X pins σ H' s2/\Turn X.prog X.w X.K tg J fp it tn/\tn 0 s2.heap/\(∀ b∈fp,FpOk X pins H' b)/\R J H'
def PI (X:Cx) (tg iter:Expr) (wi:TI):Prop :=
 ∀ (pins:List (Addr × Obj)) (s:Shared) (σ:St) (H:Hp) (R:It->Hp->Prop),Inv X pins σ H s->wi σ H R ->
  wpAny (model X.prog X.w) X.A (eval iter X.env) (fun v s1=>wpAny (model X.prog X.w) X.A (pyIter v) (PIE X pins σ tg R) X.xe s1) X.xe s
theorem Zpf {M:Model}{A:Around}{E:Value->Shared->Prop}{s:Shared}{tg:Expr}{it:Addr}{u:Value}{o:Obj}{n:String}{vs:Array Value}{Q:Unit->Shared->Prop}(ho:s.heap.get? it=some o) (hc:o.cls=.type n) (hd:o.data=.fields vs)
  (hn:["enumerate", "zip", "dict_itemiterator", "dict_reverseitemiterator", "odict_iterator", "itertools.zip_longest", "itertools.pairwise"].contains n=false) (hQ:Q () s):wpAny M A (letOwnedTupleGo tg (.ref it) u) Q E s:=by
 unfold letOwnedTupleGo
 cases tg<;>first
  | exact wpAny_pure hQ
  | (cases u<;>first
      | exact wpAny_pure hQ
      | (refine wpAny_bind (wpAny_load ho ?_)
         rw[hc,hd]
         show wpAny M A (if (["enumerate", "zip", "dict_itemiterator", "dict_reverseitemiterator", "odict_iterator", "itertools.zip_longest", "itertools.pairwise"].contains n&&vs[0]? == some (rawInt _))=true then _ else _) Q E s
         rw[if_neg (by intro h;rw[hn,Bool.false_and] at h;cases h)]
         exact wpAny_pure hQ))
    
def Itl (K:PySem.W.Frag) (a:Addr):It :=
 ⟨fun i H=>∃ xs x,SqL K H a xs/\xs[i]?=some x,fun i H x H'=>H'=H/\∀ xs,SqL K H a xs->xs[i]?=some x,fun i H=>∃ xs,SqL K H a xs/\xs.length<=i⟩
def Itr (lo:Int) (n:Nat):It:=⟨fun i _=>i<n,fun i H x H'=>H'=H/\x=.int (lo+i),fun i _=>n<=i⟩
theorem Zh2 {P:Program}{w:World}{K:PySem.W.Frag}{tg:Expr}(a it:Addr):Turn P w K tg (Itl K a) [it] it (fun i h=>h.IsListIter it a i) where
 mem:=by simp
 obj:=fun i h st b hb=>by
  have e:b=it:=by simpa using hb
  subst e
  obtain⟨o,e,c,d⟩:=st
  exact⟨o,e,fun v z=>by rw[d] at z;cases z⟩
 keep:=fun i h h' st k=>st.at fun o e=>k it (by simp) o e
 item:=by
  intro X hP hw hK hc i pins s σ H E I hf st hg
  subst hP hw hK
  obtain⟨xs,x,hq,hx⟩:=hg
  obtain⟨its,rv,p,hz⟩:=I.list hq
  obtain⟨u,hu,ru⟩:=rv.get hx
  obtain⟨f0,f1,f2,f3,f4,f5⟩:=hf it (by simp)
  refine wpAny_pyNext_list_item st p.isList (x:=u) (by simpa using hu) fun h' st' sb=>?_
  have I1:Inv X pins σ H { s with heap:=h' }:=I.turned (t':=s.toks) (fun b o hb e=>(sb.2 b hb).trans e) f0 f1 f3 f4 f5
  obtain⟨o,e,c,d⟩:=id st'
  exact⟨u,rfl,Zpf (s:={ s with heap:=h' }) e c d (by decide) ⟨x,H,I1,ru,⟨rfl,fun ys hy=>by rw[I.list_inj hy hq];exact hx⟩,st',fun b hb=>(hf b hb).1⟩⟩
 done:=by
  intro X hP hw hK hc i pins s σ H E I hf st hg
  subst hP hw hK
  obtain⟨xs,hq,hx⟩:=hg
  obtain⟨its,rv,p,hz⟩:=I.list hq
  obtain⟨f0,f1,f2,f3,f4,f5⟩:=hf it (by simp)
  have hl:=rv.length
  exact wpAny_pyNext_list_end (I.ok.hd hc) st p.isList (by simp;omega) fun h' eb=>⟨rfl,I.turned (t':=s.toks) (fun b o hb e=>eb b o hb e) f0 f1 f3 f4 f5⟩
 self:=fun _ _ _ _ _ st h=>wpAny_pyIter_listiter st h
theorem Zg0 {P:Program}{w:World}{K:PySem.W.Frag}{tg:Expr}(it:Addr) (lo:Int) (n:Nat):Turn P w K tg (Itr lo n) [it] it (fun i h=>IsRangeIter h it (lo+(i:Nat) * 1) ((n:Int) - (i:Nat)) 1) where
 mem:=by simp
 obj:=fun i h st b hb=>by
  have e:b=it:=by simpa using hb
  subst e
  exact⟨_,st,fun v z=>by
   have z':Data.fields _=Data.cell v:=z
   cases z'⟩
 keep:=fun i h h' st k=>k it (by simp) _ st
 item:=by
  intro X hP hw hK hc i pins s σ H E I hf st hg
  subst hP hw hK
  obtain⟨f0,f1,f2,f3,f4,f5⟩:=hf it (by simp)
  have W:=Walks.range (prog:=X.prog) (w:=X.w) (I.ok.hd hc) it lo 1 n
  refine W.item i s _ _ hg st fun v h' tk hv st' kk=>?_
  obtain⟨t,rfl⟩:=hv
  have I1:Inv X pins σ H { s with heap:=h',toks:=tk }:=I.turned (fun b o hb e=>kk b o (by simpa using hb) e) f0 f1 f3 f4 f5
  refine⟨_,rfl,Zpf (s:={ s with heap:=h',toks:=tk }) (n := "range_iterator") st' rfl rfl (by decide) ⟨.int (lo+i),H,I1,⟨t,?_⟩,⟨rfl,rfl⟩,st',fun b hb=>(hf b hb).1⟩⟩
  rw[Int.mul_one]
 done:=by
  intro X hP hw hK hc i pins s σ H E I hf st hg
  subst hP hw hK
  obtain⟨f0,f1,f2,f3,f4,f5⟩:=hf it (by simp)
  exact wpAny_pyNext_range_end (I.ok.hd hc) st (by have:n<=i:=hg;omega) fun h' eb=>⟨rfl,I.turned (t':=s.toks) (fun b o hb e=>eb b o hb e) f0 f1 f3 f4 f5⟩
 self:=fun _ _ _ _ _ st h=>wpAny_pyIter_rangeiter st h
end L2
namespace L2
open PySem PySem.Spec PyProof.Rows
section
variable {X:Cx}{tg:Expr}
def Ztg (K:PySem.W.Frag) (tl:TE):TI:=fun σ H R=>tl σ H fun x H1=>∃ a,x=.ref a/\(∃ xs,SqL K H1 a xs)/\R (Itl K a) H1
theorem Zb7 {l:Expr}{tl:TE}(hl:PE X l tl):PI X tg l (Ztg X.K tl):=by
 intro pins s σ H R I h
 refine thn (hl pins s σ H _ I h) fun v s1 ⟨x,H1,I1,r1,q1⟩=>?_
 obtain⟨a,e,⟨xs,hq⟩,q⟩:=q1
 subst e
 cases r1
 obtain⟨its,rv,p,hz⟩:=I1.list hq
 refine wpAny_pyIter_list p.isList ?_
 refine⟨s1.heap.objs.size,[s1.heap.objs.size],_,_,H1,rfl,I1.kept (t':=s1.toks) fun b o e=>Heap.get?_push_of_some _ e,Zh2 a _,⟨_,Heap.get?_push_size _ rfl,rfl,rfl⟩,fun b hb=>?_,q⟩
 have e:b=s1.heap.objs.size:=by simpa using hb
 subst e
 exact I1.fpOk (Nat.le_refl _) (I1.hok.fresh (Nat.le_refl _))
theorem Zla {pins:List (Addr × Obj)}{σ:St}{H:Hp}{s:Shared}{R:It->Hp->Prop}{E:Value->Shared->Prop}{lo hi:Int}{t u v:Tok}{tk:Nat}(I:Inv X pins σ H s) (h1 : -(2 ^ 62)<=lo) (h2:lo<2 ^ 62) (h3 : -(2 ^ 62)<=hi) (h4:hi<2 ^ 62)
  (q:R (Itr lo (hi - lo).toNat) H):wpAny (model X.prog X.w) X.A (pyIter (.ref s.heap.objs.size)) (PIE X pins σ tg R) E { s with heap:=s.heap.push { cls:=.type "range",data:=.fields #[.int lo t,.int hi u,.int 1 v] },toks:=tk }:=by
 refine wpAny_pyIter_range (IsRange.new ..) (small_one h1 h2 h3 h4) ?_
 have I1:Inv X pins σ H { s with heap:=s.heap.push { cls:=.type "range",data:=.fields #[.int lo t,.int hi u,.int 1 v] },toks:=tk }:=I.kept fun b o e=>Heap.get?_push_of_some _ e
 refine⟨(s.heap.push { cls:=.type "range",data:=.fields #[.int lo t,.int hi u,.int 1 v] }).objs.size,[(s.heap.push { cls:=.type "range",data:=.fields #[.int lo t,.int hi u,.int 1 v] }).objs.size],_,_,H,rfl,
  I1.kept (t':=tk) fun b o e=>Heap.get?_push_of_some _ e,Zg0 _ lo (hi - lo).toNat,?_,fun b hb=>?_,q⟩
 ·have e1:lo+((0:Nat):Int) * 1=lo:=by simp
  have e2:(((hi - lo).toNat:Nat):Int) - ((0:Nat):Int)=Builtin.Range.rangeSize lo hi 1:=by rw[rangeSize_one];split<;>omega
  show IsRangeIter _ _ (lo+((0:Nat):Int) * 1) ((((hi - lo).toNat:Nat):Int) - ((0:Nat):Int)) 1
  rw[e1,e2]
  exact Heap.get?_push_size _ rfl
 ·have e:b=(s.heap.push { cls:=.type "range",data:=.fields #[.int lo t,.int hi u,.int 1 v] }).objs.size:=by simpa using hb
  subst e
  exact I1.fpOk (Nat.le_refl _) (I1.hok.fresh (Nat.le_refl _))
def Ztf (ta:TA):TI:=fun σ H R=>ta σ H fun vs H1=>∃ j:Int,vs=[.int j] /\ -(2 ^ 62)<=j/\j<2 ^ 62/\R (Itr 0 j.toNat) H1
theorem Zaf {a:Expr}{ta:TA}{p pos:Pos}(hg:Gl X "range") (hm:X.mg "range" = none) (ha:PA X [a] ta) (hs:starEach [a] X.env=[(false,eval a X.env)]:=by rfl):PI X tg (.Call (.Name "range" p) [a] [] pos) (Ztf ta):=by
 intro pins s σ H R I h
 refine Call_ (Jr I hg hm boot_range (PyProof.Rows.callWith_type1 (thn (ha pos pins s σ H _ I h) fun us s1 ⟨vs,H1,I1,r1,q1⟩=>?_) hs rfl))
 obtain⟨j,e,q1,q2,q⟩:=q1
 subst e
 cases r1 with
 | cons r rr =>
  cases rr
  obtain⟨t,rfl⟩:=r
  exact call_range_1 (Zla I1 (by omega) (by omega) q1 q2 (by simpa using q))
def tFor (wi:TI) (g:TG) (tb:TS):TS:=fun D σ H=>wi σ H fun J H1=>∃ W:Nat->Nat->St->Hp->Prop,(∃ m,W 0 m σ H1)/\∀ i m σ H,W i m σ H ->
 (J.stop i H/\D.nx σ H)\/(J.go i H/\∃ N:St->Hp->Prop,(∀ σ' H',N σ' H'->∃ m',m'<m/\W (i+1) m' σ' H')/\∀ x H',J.yld i H x H'->g x σ H' fun σ2 H2=>tb { D with nx:=N,ct:=N,bk:=D.nx } σ2 H2)
def Zee (fp:List Addr) (h:Heap):List (Addr × Obj):=fp.filterMap fun b=>(h.get? b).map fun o=>(b,o)
theorem Zan {fp:List Addr}{h:Heap}{b:Addr}{o:Obj}(hb:b∈fp) (e:h.get? b=some o):(b,o)∈Zee fp h:=List.mem_filterMap.mpr ⟨b,hb,by rw[e];rfl⟩
theorem Zjf {fp:List Addr}{h:Heap}{p:Addr × Obj}(hp:p∈Zee fp h):p.1∈fp/\h.get? p.1=some p.2:=by
 obtain⟨b,hb,e⟩:=List.mem_filterMap.mp hp
 cases q:h.get? b with
 | none=>rw[q] at e;cases e
 | some o =>
  rw[q] at e
  have e':(b,o)=p:=Option.some.inj e
  subst e'
  exact⟨hb,q⟩
theorem Inv.pinned {pins:List (Addr × Obj)}{σ:St}{H:Hp}{s:Shared}{fp:List Addr}(I:Inv X pins σ H s) (hf:∀ b∈fp,FpOk X pins H b) (ho:∀ b∈fp,∃ o,s.heap.get? b=some o/\∀ v,o.data ≠ .cell v):Inv X (pins++Zee fp s.heap) σ H s :=
 I.pins_of fun p hp=>(List.mem_append.mp hp).elim (fun z=>I.pin p (List.mem_append_right _ z)) fun z=>by
  obtain⟨hb,e⟩:=Zjf z
  obtain⟨f0,f1,f2,_⟩:=hf p.1 hb
  obtain⟨o,e',d⟩:=ho p.1 hb
  rw[e] at e';cases e'
  exact⟨e,f0,f1,f2,d⟩
theorem Inv.unpinned {pins pl:List (Addr × Obj)}{σ:St}{H:Hp}{s:Shared}(I:Inv X (pins++pl) σ H s):Inv X pins σ H s:=I.pins_of fun p hp=>I.pin p (List.mem_append_right _ (List.mem_append_left _ hp))
theorem Zcx {iter:Expr}{body:List Stmt}{wi:TI}{g:TG}{tb:TS}{pos:Pos}(hp:PassesOwn (model X.prog X.w) X.A X.env X.xe) (hc:X.calm=true) (hi:PI X tg iter wi) (hg:PG X tg g) (hb:PSs X body tb)
  (hs:∀ x,foldedSetIterable iter X.env x=pure x:=by intro _;rfl):PS X (.For tg iter body [] pos) (tFor wi g tb):=by
 intro pins s σ H D I h
 refine wpAny_For (thn (hi pins s σ H _ I h) fun v s1 h1=>thn h1 fun itv s2 h2=>?_) hs
 obtain⟨it,fp,tn,J,H2,e,I2,T,st2,f2,W,⟨m0,w0⟩,turn⟩:=h2
 subst e
 have stat:∀ {H':Hp},(∀ b∈fp,H' b=none)->∀ b∈fp,FpOk X pins H' b:=fun hn b hb=>⟨hn b hb,(f2 b hb).2⟩
 refine codeAny_forLoop_any (fun n s'=>∃ i σ' H',Inv X pins σ' H' s'/\tn i s'.heap/\(∀ b∈fp,H' b=none)/\W i n σ' H') ?_ m0 ⟨0,σ,H2,I2,st2,fun b hb=>(f2 b hb).1,w0⟩
 rintro n s3 ⟨i,σ3,H3,I3,st3,fr3,w3⟩
 rcases turn i n σ3 H3 w3 with ⟨stop,qn⟩|⟨go,N,hN,step⟩
 ·refine wpAny_passesOwn hp (thn (T.done X rfl rfl rfl hc i pins s3 σ3 H3 X.xe I3 (stat fr3) st3 stop) fun r s4 ⟨hr,I4⟩=>?_)
  subst hr
  exact wpAny_execs_nil ⟨σ3,H3,I4,qn⟩
 ·refine wpAny_passesOwn hp (thn (T.item X rfl rfl rfl hc i pins s3 σ3 H3 X.xe I3 (stat fr3) st3 go) fun r s4 ⟨u,hr,h4⟩=>?_)
  subst hr
  refine wpAny_passesOwn hp (thn h4 fun _ s5 ⟨x,H5,I5,r5,y5,st5,fr5⟩=>?_)
  have I5':=I5.pinned (stat fr5) (T.obj _ _ st5)
  refine wpAny_passesOwn hp (thn (hg _ s5 σ3 H5 x u _ I5' r5 (step x H5 y5)) fun _ s6 ⟨σ6,H6,I6,q6⟩=>?_)
  refine wpAny_passesOwn hp (thn (hb _ s6 σ6 H6 _ I6 q6) fun f s7 q7=>?_)
  have again:∀ {σ7:St} {H7:Hp},Inv X (pins++Zee fp s5.heap) σ7 H7 s7->N σ7 H7->∃ m,m<n/\∃ i σ' H',Inv X pins σ' H' s7/\tn i s7.heap/\(∀ b∈fp,H' b=none)/\W i m σ' H':=fun {σ7 H7} I7 n7=>by
   obtain⟨m',hm,w7⟩:=hN σ7 H7 n7
   refine⟨m',hm,i+1,σ7,H7,I7.unpinned,T.keep _ _ _ st5 fun b hb o e=>(I7.pin (b,o) (List.mem_append_right _ (List.mem_append_right _ (Zan hb e)))).1,fun b hb=>?_,w7⟩
   obtain⟨o,e,d⟩:=T.obj _ _ st5 b hb
   exact(I7.pin (b,o) (List.mem_append_right _ (List.mem_append_right _ (Zan hb e)))).2.1
  cases f with
  | next=>obtain⟨σ7,H7,I7,n7⟩:=q7;exact again I7 n7
  | cont=>obtain⟨σ7,H7,I7,n7⟩:=q7;exact again I7 n7
  | brk=>obtain⟨σ7,H7,I7,q7⟩:=q7;exact⟨σ7,H7,I7.unpinned,q7⟩
  | ret v=>obtain⟨x7,σ7,H7,I7,r7,q7⟩:=q7;exact⟨x7,σ7,H7,I7.unpinned,r7,q7⟩
end
theorem Zbe {lo:Int}{n:Nat}{g:TG}{tb:TS}{D:Ends}{σ:St}{H:Hp}(Pv:Nat->St->Hp->Prop) (h0:Pv 0 σ H)
  (hs:∀ i σ H,i<n->Pv i σ H->g (.int (lo+i)) σ H fun σ2 H2=>tb { D with nx:=Pv (i+1),ct:=Pv (i+1),bk:=D.nx } σ2 H2) (hd:∀ σ H,Pv n σ H->D.nx σ H) :
  ∃ W:Nat->Nat->St->Hp->Prop,(∃ m,W 0 m σ H)/\∀ i m σ H,W i m σ H ->
   ((Itr lo n).stop i H/\D.nx σ H)\/((Itr lo n).go i H/\∃ N:St->Hp->Prop,(∀ σ' H',N σ' H'->∃ m',m'<m/\W (i+1) m' σ' H')/\∀ x H',(Itr lo n).yld i H x H'->g x σ H' fun σ2 H2=>tb { D with nx:=N,ct:=N,bk:=D.nx } σ2 H2):=by
 refine⟨fun i m σ H=>m=n - i/\i<=n/\Pv i σ H,⟨n,by simp,Nat.zero_le _,h0⟩,?_⟩
 rintro i m σ H ⟨rfl,hi,p⟩
 by_cases hlt:i<n
 ·refine .inr ⟨hlt,Pv (i+1),fun σ' H' p'=>⟨n - (i+1),by omega,rfl,hlt,p'⟩,fun x H' y=>?_⟩
  obtain⟨e,y⟩:=y
  subst e y
  exact hs i σ _ hlt p
 ·have e:i=n:=by omega
  subst e
  exact .inl ⟨Nat.le_refl _,hd σ H p⟩
end L2
namespace L2
open PySem PySem.Spec PyProof.Rows
abbrev R2:=V->V->Hp->VK->Prop
def OpR (X:Cx) (f:Value->Value->Sem Value) (r:R2):Prop :=
 ∀ (pins:List (Addr × Obj)) (s:Shared) (σ:St) (H:Hp) (x y:V) (v u:Value) (Q:VK),Inv X pins σ H s->RelV x v->RelV y u->r x y H Q ->
  wpAny (model X.prog X.w) X.A (f v u) (EP X pins σ Q) X.xe s
def UnR (X:Cx) (f:Value->Sem Value) (r:V->Hp->VK->Prop):Prop :=
 ∀ (pins:List (Addr × Obj)) (s:Shared) (σ:St) (H:Hp) (x:V) (v:Value) (Q:VK),Inv X pins σ H s->RelV x v->r x H Q ->
  wpAny (model X.prog X.w) X.A (f v) (EP X pins σ Q) X.xe s
def CallR (X:Cx) (f:Value) (r:List V->Hp->VK->Prop):Prop :=
 ∀ (pins:List (Addr × Obj)) (s:Shared) (σ:St) (H:Hp) (xs:List V) (us:List Value) (Q:VK),Inv X pins σ H s->Vals xs us->r xs H Q ->
  wpAny (model X.prog X.w) X.A (call f us) (EP X pins σ Q) X.xe s
def TruR (X:Cx) (r:V->Hp->(Bool->Hp->Prop)->Prop):Prop :=
 ∀ (pins:List (Addr × Obj)) (s:Shared) (σ:St) (H:Hp) (x:V) (v:Value) (Q:Bool->Hp->Prop),Inv X pins σ H s->RelV x v->r x H Q ->
  wpAny (model X.prog X.w) X.A (truthy v) (TP X pins σ Q) X.xe s
def tOp (r:R2) (ta tb:TE):TE:=fun σ H Q=>ta σ H fun x H1=>tb σ H1 fun y H2=>r x y H2 Q
def tUn (r:V->Hp->VK->Prop) (ta:TE):TE:=fun σ H Q=>ta σ H fun x H1=>r x H1 Q
def rI (C:Int->Int->Prop) (g:Int->Int->V):R2:=fun x y H Q=>∃ i j,x=.int i/\y=.int j/\C i j/\Q (g i j) H
def rI0 (g:Int->Int->V):R2:=fun x y H Q=>∃ i j,x=.int i/\y=.int j/\Q (g i j) H
def rU (g:Int->V):V->Hp->VK->Prop:=fun x H Q=>∃ i,x=.int i/\Q (g i) H
section
variable {X:Cx}{a b c:Expr}{ta tb tc:TE}{pos:Pos}
theorem binT (ha:PE X a ta) (hb:PE X b tb) {pins:List (Addr × Obj)}{s:Shared}{σ:St}{H:Hp}{R:V->V->Hp->Prop}(I:Inv X pins σ H s)
  (h:ta σ H fun x H1=>tb σ H1 fun y H2=>R x y H2) {Q:Value->Shared->Prop} {f:Value->Value->Sem Value}
  (hf:∀ v u s2 x y H2,Inv X pins σ H2 s2->RelV x v->RelV y u->R x y H2->wpAny (model X.prog X.w) X.A (f v u) Q X.xe s2) :
  wpAny (model X.prog X.w) X.A (eval a X.env) (fun v s₁=>wpAny (model X.prog X.w) X.A (eval b X.env) (fun u s₂=>wpAny (model X.prog X.w) X.A (f v u) Q X.xe s₂) X.xe s₁) X.xe s:=by
 refine thn (ha pins s σ H _ I h) fun v s1 ⟨x,H1,I1,r1,q1⟩=>?_
 refine thn (hb pins s1 σ H1 _ I1 q1) fun u s2 ⟨y,H2,I2,r2,q2⟩=>?_
 exact hf v u s2 x y H2 I2 r1 r2 q2
theorem Zi {op:Operator}{r:R2}(ho:OpR X (binaryOp op) r) (ha:PE X a ta) (hb:PE X b tb):PE X (.BinOp a op b pos) (tOp r ta tb):=by
 intro pins s σ H Q I h
 exact wpAny_BinOp (binT ha hb I h fun v u s2 x y H2 I2 rx ry q=>ho pins s2 σ H2 x y v u Q I2 rx ry q)
theorem Zg6 {op:UnaryOp}{r:V->Hp->VK->Prop}(ho:UnR X (unaryOp op) r) (ha:PE X a ta):PE X (.UnaryOp op a pos) (tUn r ta):=by
 intro pins s σ H Q I h
 exact UnaryOp_ (thn (ha pins s σ H _ I h) fun v s1 ⟨x,H1,I1,r1,q1⟩=>ho pins s1 σ H1 x v Q I1 r1 q1)
theorem opI {f:Value->Value->Sem Value}{C:Int->Int->Prop}{g:Int->Int->Int}
  (rule:∀ (i j:Int) (t u:Tok) (s:Shared) (Q:Value->Shared->Prop) (E:Value->Shared->Prop),C i j->Q (.int (g i j) s.toks) { s with toks:=s.toks+1 }->wpAny (model X.prog X.w) X.A (f (.int i t) (.int j u)) Q E s) :
  OpR X f (rI C fun i j=>.int (g i j)):=by
 intro pins s σ H x y v u Q I rx ry h
 obtain⟨i,j,rfl,rfl,hc,q⟩:=h
 obtain⟨t,rfl⟩:=rx
 obtain⟨t',rfl⟩:=ry
 exact rule i j t t' s _ _ hc ⟨.int (g i j),H,I.tok _,⟨_,rfl⟩,q⟩
theorem opI0 {f:Value->Value->Sem Value}{g:Int->Int->Int}
  (rule:∀ (i j:Int) (t u:Tok) (s:Shared) (Q:Value->Shared->Prop) (E:Value->Shared->Prop),Q (.int (g i j) s.toks) { s with toks:=s.toks+1 }->wpAny (model X.prog X.w) X.A (f (.int i t) (.int j u)) Q E s) :
  OpR X f (rI0 fun i j=>.int (g i j)):=by
 intro pins s σ H x y v u Q I rx ry h
 obtain⟨i,j,rfl,rfl,q⟩:=h
 obtain⟨t,rfl⟩:=rx
 obtain⟨t',rfl⟩:=ry
 exact rule i j t t' s _ _ ⟨.int (g i j),H,I.tok _,⟨_,rfl⟩,q⟩
theorem opB0 {f:Value->Value->Sem Value}{g:Int->Int->Bool}
  (rule:∀ (i j:Int) (t u:Tok) (s:Shared) (Q:Value->Shared->Prop) (E:Value->Shared->Prop),Q (.bool (g i j)) s->wpAny (model X.prog X.w) X.A (f (.int i t) (.int j u)) Q E s) :
  OpR X f (rI0 fun i j=>.bl (g i j)):=by
 intro pins s σ H x y v u Q I rx ry h
 obtain⟨i,j,rfl,rfl,q⟩:=h
 obtain⟨t,rfl⟩:=rx
 obtain⟨t',rfl⟩:=ry
 exact rule i j t t' s _ _ ⟨.bl (g i j),H,I,rfl,q⟩
def CDiv (i j:Int):Prop:=0<j/\j<1073741824
def CPow (i j:Int):Prop:=0<=j/\j<=1000000/\i.natAbs<2 ^ 64
def CMul (i j:Int):Prop:=(-(2 ^ 64)<i/\i<2 ^ 64)\/(-(2 ^ 64)<j/\j<2 ^ 64)
theorem CMul.ok {i j:Int}(h:CMul i j):IntMulOk i j:=by
 rcases h with ⟨h1,h2⟩|⟨h1,h2⟩
 ·exact .of_left (intBits_le_64 h1 h2)
 ·exact .of_right (intBits_le_64 h1 h2)
theorem Yi:OpR X (binaryOp .Add) (rI0 fun i j=>.int (i+j)):=opI0 fun _ _ _ _ _ _ _ q=>add_int q
theorem Zcy:OpR X (binaryOp .Sub) (rI0 fun i j=>.int (i - j)):=opI0 fun _ _ _ _ _ _ _ q=>sub_int q
theorem Yo:OpR X (binaryOp .Mult) (rI CMul fun i j=>.int (i * j)):=opI fun _ _ _ _ _ _ _ hc q=>mul_int q hc.ok
theorem Zau:OpR X (binaryOp .FloorDiv) (rI CDiv fun i j=>.int (i / j)):=opI fun i j _ _ _ _ _ hc q=>by
 have h1:(0:Int)<j:=hc.1
 have h2:j<1073741824:=hc.2
 exact floordiv_int (by omega) (by rw[Int.fdiv_eq_ediv_of_nonneg i (by omega)];exact q) (.inl (PyProof.noPylong_small (by omega)))
theorem Zv:OpR X (binaryOp .Mod) (rI (fun _ j=>0<j) fun i j=>.int (i % j)):=opI fun i j _ _ _ _ _ hc q=>by
 have h1:(0:Int)<j:=hc
 exact mod_int' (by omega) (by rw[Int.fmod_eq_emod_of_nonneg i (by omega)];exact q)
theorem Yz:OpR X (binaryOp .Pow) (rI CPow fun i j=>.int (i ^ j.toNat)):=opI fun _ _ _ _ _ _ _ hc q=>pow_int_small hc.1 hc.2.1 hc.2.2 q
theorem unI {f:Value->Sem Value}{g:Int->Int}
  (rule:∀ (i:Int) (t:Tok) (s:Shared) (Q:Value->Shared->Prop) (E:Value->Shared->Prop),Q (.int (g i) s.toks) { s with toks:=s.toks+1 }->wpAny (model X.prog X.w) X.A (f (.int i t)) Q E s) :
  UnR X f (rU fun i=>.int (g i)):=by
 intro pins s σ H x v Q I rx h
 obtain⟨i,rfl,q⟩:=h
 obtain⟨t,rfl⟩:=rx
 exact rule i t s _ _ ⟨.int (g i),H,I.tok _,⟨_,rfl⟩,q⟩
theorem Zcq:UnR X (unaryOp .USub) (rU fun i=>.int (-i)):=unI fun _ _ _ _ _ q=>neg_int q
end
def scal:V->V->Bool
 | .non,.non=>true | .non,.int _=>true | .int _,.non=>true | .non,.bl _=>true | .bl _,.non=>true | .non,.str _=>true | .str _,.non=>true
 | .int _,.int _=>true | .bl _,.bl _=>true | .str _,.str _=>true | .byt _,.byt _=>true
 | .int _,.str _=>true | .str _,.int _=>true | .bl _,.str _=>true | .str _,.bl _=>true
 | _,_=>false
def rEq:R2:=fun x y H Q=>scal x y=true/\Q (.bl (decide (x=y))) H
def rNe:R2:=fun x y H Q=>scal x y=true/\Q (.bl (!decide (x=y))) H
theorem Zj8 {i j:Int}:decide (V.int i=V.int j)=(i == j):=by
 rw[Bool.eq_iff_iff]
 simp
theorem Zny {i j:Bool}:decide (V.bl i=V.bl j)=(i == j):=by
 rw[Bool.eq_iff_iff]
 simp
theorem Zj7 {i j:Str}:decide (V.str i=V.str j)=(i == j):=by
 rw[Bool.eq_iff_iff]
 simp
theorem Zj9 {i j:Array UInt8}:decide (V.byt i=V.byt j)=(i.toList == j.toList):=by
 rw[Bool.eq_iff_iff]
 cases i
 cases j
 simp
section
variable {X:Cx}{a b c:Expr}{ta tb tc:TE}{pos:Pos}
theorem Z4 {pins:List (Addr × Obj)}{σ:St}{H:Hp}{s:Shared}{Q:VK}{k k':Bool}(I:Inv X pins σ H s) (q:Q (.bl k) H) (e:k=k'):EP X pins σ Q (.bool k') s:=by
 subst e
 exact⟨.bl k,H,I,rfl,q⟩
theorem Zy:OpR X (compareOp .Eq) rEq:=by
 intro pins s σ H x y v u Q I rx ry h
 obtain⟨hs,q⟩:=h
 cases x with
 | non =>
  cases rx
  cases y with
  | non=>cases ry;exact PySem.EqNone.eq_none_none (Z4 I q (by simp))
  | bl j=>cases ry;exact PySem.EqNone.eq_none_bool (Z4 I q (by simp))
  | int j=>obtain⟨t',rfl⟩:=ry;exact PySem.EqNone.eq_none_int (Z4 I q (by simp))
  | str j=>obtain⟨t',rfl⟩:=ry;exact PySem.EqNone.eq_none_str (Z4 I q (by simp))
  | _=>exact absurd (show false=true from hs) Bool.false_ne_true
 | bl i =>
  cases rx
  cases y with
  | non=>cases ry;exact PySem.EqNone.eq_bool_none (Z4 I q (by simp))
  | bl j=>cases ry;exact eq_bool (Z4 I q Zny)
  | str j=>obtain⟨t',rfl⟩:=ry;exact PySem.EqMixed.eq_bool_str (Z4 I q (by simp))
  | _=>exact absurd (show false=true from hs) Bool.false_ne_true
 | int i =>
  obtain⟨t,rfl⟩:=rx
  cases y with
  | non=>cases ry;exact PySem.EqNone.eq_int_none (Z4 I q (by simp))
  | int j=>obtain⟨t',rfl⟩:=ry;exact eq_int (Z4 I q Zj8)
  | str j=>obtain⟨t',rfl⟩:=ry;exact PySem.EqMixed.eq_int_str (Z4 I q (by simp))
  | _=>exact absurd (show false=true from hs) Bool.false_ne_true
 | str i =>
  obtain⟨t,rfl⟩:=rx
  cases y with
  | non=>cases ry;exact PySem.EqNone.eq_str_none (Z4 I q (by simp))
  | bl j=>cases ry;exact PySem.EqMixed.eq_str_bool (Z4 I q (by simp))
  | int j=>obtain⟨t',rfl⟩:=ry;exact PySem.EqMixed.eq_str_int (Z4 I q (by simp))
  | str j=>obtain⟨t',rfl⟩:=ry;exact eq_str (Z4 I q Zj7)
  | _=>exact absurd (show false=true from hs) Bool.false_ne_true
 | byt i =>
  obtain⟨t,rfl⟩:=rx
  cases y with
  | byt j=>obtain⟨t',rfl⟩:=ry;exact PySem.W.eq_bytes (Z4 I q Zj9)
  | _=>exact absurd (show false=true from hs) Bool.false_ne_true
 | _=>cases y<;>exact absurd (show false=true from hs) Bool.false_ne_true
theorem Zje:OpR X (compareOp .NotEq) rNe:=by
 intro pins s σ H x y v u Q I rx ry h
 obtain⟨hs,q⟩:=h
 cases x with
 | non =>
  cases rx
  cases y with
  | non=>cases ry;exact PySem.EqNone.ne_none_none (Z4 I q (by simp))
  | bl j=>cases ry;exact PySem.EqNone.ne_none_bool (Z4 I q (by simp))
  | int j=>obtain⟨t',rfl⟩:=ry;exact PySem.EqNone.ne_none_int (Z4 I q (by simp))
  | str j=>obtain⟨t',rfl⟩:=ry;exact PySem.EqNone.ne_none_str (Z4 I q (by simp))
  | _=>exact absurd (show false=true from hs) Bool.false_ne_true
 | bl i =>
  cases rx
  cases y with
  | non=>cases ry;exact PySem.EqNone.ne_bool_none (Z4 I q (by simp))
  | bl j=>cases ry;exact ne_bool (Z4 I q (congrArg not Zny))
  | str j=>obtain⟨t',rfl⟩:=ry;exact PySem.EqMixed.ne_bool_str (Z4 I q (by simp))
  | _=>exact absurd (show false=true from hs) Bool.false_ne_true
 | int i =>
  obtain⟨t,rfl⟩:=rx
  cases y with
  | non=>cases ry;exact PySem.EqNone.ne_int_none (Z4 I q (by simp))
  | int j=>obtain⟨t',rfl⟩:=ry;exact ne_int (Z4 I q (congrArg not Zj8))
  | str j=>obtain⟨t',rfl⟩:=ry;exact PySem.EqMixed.ne_int_str (Z4 I q (by simp))
  | _=>exact absurd (show false=true from hs) Bool.false_ne_true
 | str i =>
  obtain⟨t,rfl⟩:=rx
  cases y with
  | non=>cases ry;exact PySem.EqNone.ne_str_none (Z4 I q (by simp))
  | bl j=>cases ry;exact PySem.EqMixed.ne_str_bool (Z4 I q (by simp))
  | int j=>obtain⟨t',rfl⟩:=ry;exact PySem.EqMixed.ne_str_int (Z4 I q (by simp))
  | str j=>obtain⟨t',rfl⟩:=ry;exact ne_str (Z4 I q (congrArg not Zj7))
  | _=>exact absurd (show false=true from hs) Bool.false_ne_true
 | byt i =>
  obtain⟨t,rfl⟩:=rx
  cases y with
  | byt j=>obtain⟨t',rfl⟩:=ry;exact PySem.W.ne_bytes (Z4 I q (congrArg not Zj9))
  | _=>exact absurd (show false=true from hs) Bool.false_ne_true
 | _=>cases y<;>exact absurd (show false=true from hs) Bool.false_ne_true
theorem Zg8:OpR X (compareOp .Lt) (rI0 fun i j=>.bl (decide (i<j))):=opB0 fun _ _ _ _ _ _ _ q=>lt_int q
theorem Zg9:OpR X (compareOp .LtE) (rI0 fun i j=>.bl (decide (i<=j))):=opB0 fun _ _ _ _ _ _ _ q=>le_int q
theorem Zrh:OpR X (compareOp .Gt) (rI0 fun i j=>.bl (decide (j<i))):=opB0 fun _ _ _ _ _ _ _ q=>gt_int q
theorem Zta:OpR X (compareOp .GtE) (rI0 fun i j=>.bl (decide (j<=i))):=opB0 fun _ _ _ _ _ _ _ q=>ge_int q
theorem OpR.or {f:Value->Value->Sem Value}{r r':R2}(h:OpR X f r) (h':OpR X f r'):OpR X f (fun x y H Q=>r x y H Q\/r' x y H Q):=by
 intro pins s σ H x y v u Q I rx ry q
 rcases q with q|q
 ·exact h pins s σ H x y v u Q I rx ry q
 ·exact h' pins s σ H x y v u Q I rx ry q
theorem Zs (b:Expr) {op:CmpOp}(h:op ≠ .In:=by decide) (h2:op ≠ .NotIn:=by decide):behindInMarks op b=false:=by
 have e1:(op == CmpOp.In)=false:=by cases op<;>first|rfl|exact absurd rfl h
 have e2:(op == CmpOp.NotIn)=false:=by cases op<;>first|rfl|exact absurd rfl h2
 cases b<;>simp[behindInMarks,e1,e2]
theorem Y1 {op:CmpOp}{r:R2}(ho:OpR X (compareOp op) r) (ha:PE X a ta) (hb:PE X b tb) (hm:behindInMarks op b=false):PE X (.Compare a [op] [b] pos) (tOp r ta tb):=by
 intro pins s σ H Q I h
 exact wpAny_Compare1 (binT ha hb I h fun v u s2 x y H2 I2 rx ry q=>ho pins s2 σ H2 x y v u Q I2 rx ry q) hm
def Zss (t:TE):TT:=fun σ H Q=>t σ H fun x H'=>∃ k,x=.bl k/\Q k H'
theorem Zu {op:CmpOp}{r:R2}(ho:OpR X (compareOp op) r) (ha:PE X a ta) (hb:PE X b tb) (hm:behindInMarks op b=false):PT X (.Compare a [op] [b] pos) (Zss (tOp r ta tb)):=by
 intro pins s σ H Q I h
 refine wpAny_isTrue_Compare1 (thn (ha pins s σ H _ I h) fun v s1 ⟨x,H1,I1,r1,q1⟩=>thn (hb pins s1 σ H1 _ I1 q1) fun u s2 ⟨y,H2,I2,r2,q2⟩ =>
  thn (ho pins s2 σ H2 x y v u _ I2 r1 r2 q2) fun c s3 ⟨z,H3,I3,r3,k,e,q3⟩=>?_) hm
 subst e
 cases r3
 exact wpAny_truthy_bool ⟨H3,I3,q3⟩
def Zqh (r r':R2) (ta tb tc:TE):TE:=fun σ H Q=>ta σ H fun x H1=>tb σ H1 fun y H2=>r x y H2 fun z H3=>∃ k,z=.bl k /\
 (if k=true then tc σ H3 fun w' H4=>r' y w' H4 Q else Q (.bl false) H3)
theorem Zdo {op op':CmpOp}{r r':R2}(ho:OpR X (compareOp op) r) (ho':OpR X (compareOp op') r') (ha:PE X a ta) (hb:PE X b tb) (hc:PE X c tc)
  (hm:lastMarks [op,op'] [b,c]=false:=by with_unfolding_all rfl):PE X (.Compare a [op,op'] [b,c] pos) (Zqh r r' ta tb tc):=by
 intro pins s σ H Q I h
 refine Compare_chain (thn (ha pins s σ H _ I h) fun v s1 ⟨x,H1,I1,r1,q1⟩=>chain_link (thn (hb pins s1 σ H1 _ I1 q1) fun u s2 ⟨y,H2,I2,r2,q2⟩ =>
  thn (ho pins s2 σ H2 x y v u _ I2 r1 r2 q2) fun d s3 ⟨z,H3,I3,r3,k,e,q3⟩=>?_)) hm
 subst e
 cases r3
 refine wpAny_truthy_bool ?_
 cases k with
 | false=>exact ite_ff ⟨.bl false,H3,I3,rfl,q3⟩
 | true=>exact ite_tt (chain_last (thn (hc pins s3 σ H3 _ I3 q3) fun w' s4 ⟨z',H4,I4,r4,q4⟩=>ho' pins s4 σ H4 y z' u w' Q I4 r2 r4 q4))
def TruV (K:PySem.W.Frag) (x:V) (H:Hp) (k:Bool):Prop :=
 match x with
 | .non=>k=false
 | .bl b=>k=b
 | .int i=>k=(i != 0)
 | .str y=>y.length<=sizeLine/\k=((y.length:Int) != 0)
 | .byt y=>y.size<=sizeLine/\k=((y.size:Int) != 0)
 | .ref p=>(∃ xs,SqL K H p xs/\k = !xs.isEmpty)\/(∃ xs,SqT K H p xs/\k = !xs.isEmpty)\/∃ kvs,H p=some (.dK kvs)/\k = !kvs.isEmpty
 | _=>False
theorem Zhi {κ:Type}{kvs:List (κ × V)}{vs:List (κ × Value)}(r:KV kvs vs):(!vs.isEmpty) = !kvs.isEmpty:=by
 cases r<;>rfl
theorem Zc0 {xs:List V}{its:List Value}(r:Vals xs its):(!its.toArray.isEmpty) = !xs.isEmpty:=by
 cases r<;>simp
theorem Zek:(sizeLine:Nat)<2 ^ 63:=by rw[sizeLine_eq];decide
theorem Zmq:TruR X (fun x H Q=>∃ k,TruV X.K x H k/\Q k H):=by
 intro pins s σ H x v Q I rx h
 obtain⟨k,e,q⟩:=h
 have hl:=Zek
 have hs:sizeLine=16777216:=sizeLine_eq
 cases x with
 | non =>
  cases rx
  have e':k=false:=e
  subst e'
  exact truthy_none ⟨H,I,q⟩
 | bl b =>
  cases rx
  have e':k=b:=e
  subst e'
  exact wpAny_truthy_bool ⟨H,I,q⟩
 | int i =>
  obtain⟨t,rfl⟩:=rx
  have e':k=(i != 0):=e
  subst e'
  exact PySem.P.truthy_int ⟨H,I,q⟩
 | str y =>
  obtain⟨t,rfl⟩:=rx
  obtain⟨hy,e'⟩:y.length<=sizeLine/\k=((y.length:Int) != 0):=e
  subst e'
  exact PySem.P.truthy_str (by omega) ⟨H,I.tok _,q⟩
 | byt y =>
  obtain⟨t,rfl⟩:=rx
  obtain⟨hy,e'⟩:y.size<=sizeLine/\k=((y.size:Int) != 0):=e
  subst e'
  exact PySem.W.truthy_bytes (by omega) ⟨H,I.tok _,q⟩
 | ref p =>
  cases rx
  have e':(∃ xs,SqL X.K H p xs/\k = !xs.isEmpty)\/(∃ xs,SqT X.K H p xs/\k = !xs.isEmpty)\/∃ kvs,H p=some (.dK kvs)/\k = !kvs.isEmpty:=e
  rcases e' with ⟨xs,hx,e'⟩|⟨xs,hx,e'⟩|⟨kvs,hx,e'⟩
  ·subst e'
   obtain⟨its,r,pl,hz⟩:=I.list hx
   have hlen:=r.length
   exact wpAny_truthy_list pl.isList (by simp only [List.size_toArray];omega) ⟨H,I.tok _,by rw[Zc0 r];exact q⟩
  ·subst e'
   obtain⟨its,r,pl,hz⟩:=I.tuple hx
   have hlen:=r.length
   exact truthy_tuple pl (by simp only [List.size_toArray];omega) ⟨H,I.tok _,by rw[Zc0 r];exact q⟩
  ·subst e'
   obtain⟨hz,hS,vs,r,m⟩:kvs.length<=sizeLine/\(p == sysModules)=false/\∃ vs,KV kvs vs/\s.heap.DictOf (Yp X.prog X.w) p vs:=I.hok p _ hx
   have hlen:kvs.length=vs.length:=Paired.length r
   exact wpAny_truthy_dict hS m (by omega) ⟨H,I.tok _,by rw[Zhi r];exact q⟩
 | _=>exact(show False from e).elim
theorem Zlg (ha:PE X a ta) (he:∀ whole,isTrue a X.env whole=(do let v ← whole;standAt a.pos;holding [v] (truthy v))) :
  PT X a (fun σ H Q=>ta σ H fun x H'=>∃ k,TruV X.K x H' k/\Q k H'):=by
 intro pins s σ H Q I h
 exact isTrue_plain (thn (ha pins s σ H _ I h) fun v s1 ⟨x,H1,I1,r1,q1⟩=>Zmq pins s1 σ H1 x v Q I1 r1 q1) (he _)
theorem Zff {x:V}{us:List Value}(r:Vals [x] us):∃ u,us=[u]/\RelV x u:=by
 cases r with
 | cons r1 r2=>cases r2;exact⟨_,rfl,r1⟩
theorem Zn2 {x y:V}{us:List Value}(r:Vals [x,y] us):∃ u w',us=[u,w']/\RelV x u/\RelV y w':=by
 cases r with
 | cons r1 r2 =>
  cases r2 with
  | cons r3 r4=>cases r4;exact⟨_,_,rfl,r1,r3⟩
end
end L2
namespace L2
open PySem PySem.Spec PyProof.Rows
structure ObjM (h:Heap) (x dx C:Addr) (mA:Str->Option Value):Prop where
 obj:h.get? x=some (PySem.W.instObj C dx)
 ns:h.Ns1 dx mA
 ne:dx≠x
theorem Zjl {h:Heap}{dx:Addr}{mA:Str->Option Value}(n:h.Ns1 dx mA):∃ od,h.get? dx=some od/\∀ name,PySem.W.lookIn name od=some (mA name):=by
 obtain⟨o,es,ep,ho,hd,hk,_,hm⟩:=n
 refine⟨o,ho,fun name=>?_⟩
 have e:=hm name
 unfold nsFind findBy at e
 rw[← Array.find?_toList] at e
 unfold PySem.W.lookIn
 rw[hd]
 dsimp only
 split
 ·rename_i y q
  rw[q] at e
  exact congrArg some e
 ·rename_i q
  rw[q] at e
  have a:es.toList.any (·.refKey)=false:=by
   rw[List.any_eq_false]
   intro y hy
   obtain⟨z,t,hkey⟩:=hk y (Array.mem_toList_iff.mp hy)
   simp[DictEntry.refKey,hkey]
  have a':¬ es.toList.any (·.refKey)=true:=by rw[a];exact Bool.false_ne_true
  rw[if_neg a']
  exact congrArg some e
theorem ObjM.look {h:Heap}{x dx C:Addr}{mA:Str->Option Value}(I:ObjM h x dx C mA):∃ od,PySem.W.InstAt h x (PySem.W.instObj C dx) C (some od)/\∀ name,PySem.W.lookIn name od=some (mA name) :=
 let ⟨od,ho,hl⟩:=Zjl I.ns
 ⟨od,⟨I.obj,rfl,rfl,ho⟩,hl⟩
section
variable {prog:Program}{w:World}{A:Around}{E:Value->Shared->Prop}{s:Shared}{K:PySem.W.Frag}{x dx C f:Addr}{mA:Str->Option Value}{name:Str}{v:Value}
theorem Zpg {expr:Bool}{Q:Value->Shared->Prop}(X:K.In s.heap) (I:ObjM s.heap x dx C mA) (hg:PySem.W.plainGet K C name=true) (hh:PySem.W.hasDictIn K C=true)
  (ha:PySem.W.findIn K (.ref C) name=some none) (hv:mA name=some v) (hv':PySem.W.handedIn v=true) (h:Q v { s with toks:=s.toks+1 }) :
  wpAny (model prog w) A (getAttr (.ref x) name expr) Q E s:=by
 obtain⟨od,J,hl⟩:=I.look
 exact PySem.W.get_value X J (PySem.W.plainGet_of hg).1 (PySem.W.findObj_own hh ha rfl (by rw[hl,hv])) hv' h
theorem Zlu {pl:Sem Bool}{Q:Value × List Value->Shared->Prop}(X:K.In s.heap) (I:ObjM s.heap x dx C mA) (hg:PySem.W.plainGet K C name=true)
  (hf:PySem.W.findIn K (.ref C) name=some (some (.ref f))) (ht:PySem.W.isFn K (.ref f)=true) (hv:mA name=none) (h:Q (.ref f,[.ref x]) s) :
  wpAny (model prog w) A (getMethod (.ref x) name pl) Q E s:=by
 obtain⟨od,J,hl⟩:=I.look
 exact PySem.W.method_fn X J (PySem.W.plainGet_of hg).1 (PySem.W.plainGet_of hg).2 hf (beq_iff_eq.mp ht) (by show (PySem.W.lookIn name od).map (·.isSome)=some false;rw[hl,hv];rfl) h
theorem Zoj {ns:List Str}{Q:Unit->Shared->Prop}(X:K.In s.heap) (I:ObjM s.heap x dx C mA)
  (hs:PySem.W.findIn K (.ref C) "__setattr__" = some (some (.builtin "object.__setattr__"))) (hp:PySem.W.plainOver K C=true) (ht:PySem.W.takerIn K C name=some none) (hh:PySem.W.hasDictIn K C=true)
  (hw:PySem.Within mA ns) (hsz:ns.length<=sizeLine)
  (h:∀ h',ObjM h' x dx C (fun y=>if y=name then some v else mA y)->Heap.SameBut dx s.heap h'->Q () { s with heap:=h',toks:=s.toks+2 }) :
  wpAny (model prog w) A (setAttr (.ref x) name v) Q E s:=by
 obtain⟨od,J,hl⟩:=I.look
 refine PySem.W.set_plain X J hs (PySem.W.osa_open (s:={ s with toks:=s.toks+1 }) (r:=none) X J hp ht fun b=>?_)
 obtain⟨cd,hc,hd'⟩:=PySem.W.any_some hh
 have hx:s.heap.get? x=some ⟨.ref C,some dx,.plain,#[]⟩:=I.obj
 refine wpAny_bind (wpAny_pure (wpAny_bind (wpAny_bind (wpAny_loadPart hx (wpAny_bind (PySem.W.Looks.here (s:={ s with toks:=s.toks+1 }) (PySem.W.looks_clsIn X hc) ?_))))))
 rw[hd']
 refine wpAny_pure (a:=some dx) (wpAny_bind (wpAny_pure (wpAny_bind ?_)))
 refine wpAny_nsSet1 (s:={ s with toks:=s.toks+1 }) I.ns fun h' hn2 hs2=>?_
 obtain⟨oD,esD,epD,hoD,hdD,hcD⟩:=hn2.count (PySem.Within.cons name v hw)
 refine wpAny_bind (wpAny_lookBehind hoD (by rw[hdD];exact pastItsLine_dict (Nat.le_trans hcD (by rw[List.length_cons];omega))) ?_)
 exact wpAny_pure (h _ ⟨(hs2.2 _ (Ne.symm I.ne)).trans I.obj,hn2,I.ne⟩ hs2)
theorem Zln {R:Result->Shared->Prop}{vs:List Value}{kw:List (Str × Value)}(X:K.In s.heap) (hm:PySem.W.makesIn K C=true)
  (hi:PySem.W.findIn K (.ref C) "__init__" = some (some (.ref f))) (hf:PySem.W.typeIn K (.ref f)=some (.type "function"))
  (h:codeAny (model prog w) (A.under (.builtin "type.__call__" ⟨.ref C::vs,kw⟩)) (.call (.ref f) ⟨.ref (s.heap.objs.size+1)::vs,kw⟩) (PySem.W.InitBack (s.heap.objs.size+1) R)
    { s with heap:=(s.heap.push PySem.W.emptyDict).push (PySem.W.instObj C s.heap.objs.size) }) :
  codeAny (model prog w) A (.call (.ref C) ⟨vs,kw⟩) R s:=by
 obtain⟨hh,g,d,t,os⟩:=s
 exact PySem.W.make_core (PySem.W.makes_of X hm) (PySem.W.looks_findIn X hi) (fun self=>PySem.W.bind_fn X self hf) (.inl rfl) h
end
def putF (f:Str) (v:V):List (Str × V)->List (Str × V)
 | []=>[(f,v)]
 | (g,x)::r=>if g=f then (g,v)::r else (g,x)::putF f v r
theorem Zaw (f g:Str) (v:V):∀ fs:List (Str × V),(putF f v fs).lookup g=if g=f then some v else fs.lookup g
 | []=>by
  show List.lookup g [(f,v)]=_
  by_cases h:g=f
  ·have hb:(g == f)=true:=beq_iff_eq.mpr h
   simp only [List.lookup,hb,if_pos h]
  ·have hb:(g == f)=false:=beq_eq_false_iff_ne.mpr h
   simp only [List.lookup,hb,if_neg h]
 | (k,x)::r=>by
  have ih:=Zaw f g v r
  rw[show putF f v ((k,x)::r)=(if k=f then (k,v)::r else (k,x)::putF f v r) from rfl]
  by_cases hk:k=f
  ·rw[if_pos hk]
   by_cases h:g=k
   ·have hb:(g == k)=true:=beq_iff_eq.mpr h
    simp only [List.lookup,hb,if_pos (h.trans hk)]
   ·have hb:(g == k)=false:=beq_eq_false_iff_ne.mpr h
    simp only [List.lookup,hb,if_neg (fun e:g=f=>h (e.trans hk.symm))]
  ·rw[if_neg hk]
   by_cases h:g=k
   ·have hb:(g == k)=true:=beq_iff_eq.mpr h
    simp only [List.lookup,hb,if_neg (fun e:g=f=>hk (h.symm.trans e))]
   ·have hb:(g == k)=false:=beq_eq_false_iff_ne.mpr h
    simp only [List.lookup,hb]
    exact ih
theorem Zal (f:Str) (v:V):∀ fs:List (Str × V),f∈(putF f v fs).map (·.1)/\∀ g,g∈fs.map (·.1)->g∈(putF f v fs).map (·.1)
 | []=>⟨by simp[putF],fun g h=>by simp at h⟩
 | (k,x)::r=>by
  obtain⟨i1,i2⟩:=Zal f v r
  rw[show putF f v ((k,x)::r)=(if k=f then (k,v)::r else (k,x)::putF f v r) from rfl]
  by_cases hk:k=f
  ·rw[if_pos hk]
   subst hk
   exact⟨by simp,fun g h=>by simpa using h⟩
  ·rw[if_neg hk]
   refine⟨?_,fun g h=>?_⟩
   ·rw[List.map_cons]
    exact List.mem_cons_of_mem _ i1
   ·rw[List.map_cons] at h ⊢
    rcases List.mem_cons.mp h with e|e
    ·exact List.mem_cons.mpr (.inl e)
    ·exact List.mem_cons_of_mem _ (i2 g e)
theorem Zca (f:Str) (v:V):∀ fs:List (Str × V),(putF f v fs).length<=fs.length+1
 | []=>by simp[putF]
 | (k,x)::r=>by
  have ih:=Zca f v r
  rw[show putF f v ((k,x)::r)=(if k=f then (k,v)::r else (k,x)::putF f v r) from rfl]
  by_cases hk:k=f
  ·rw[if_pos hk,List.length_cons,List.length_cons];omega
  ·rw[if_neg hk,List.length_cons,List.length_cons];omega
theorem RelO.some_of {v:V}{o:Option Value}(r:RelO (some v) o):∃ u,o=some u/\RelV v u:=by
 cases o with
 | none=>exact(show False from r).elim
 | some u=>exact⟨u,rfl,r⟩
theorem RelO.none_of {o:Option Value}(r:RelO none o):o=none:=by
 cases o with
 | none=>rfl
 | some u=>exact(show False from r).elim
theorem Zet {v:V}{u:Value}(r:RelV v u):PySem.W.handedIn u=true:=by
 cases v with
 | non=>cases (show u=Value.none from r);rfl
 | bl b=>cases (show u=Value.bool b from r);rfl
 | int i=>obtain⟨t,e⟩:=(show ∃ t,u=Value.int i t from r);cases e;rfl
 | str x=>obtain⟨t,e⟩:=(show ∃ t,u=Value.str x t from r);cases e;rfl
 | byt b=>obtain⟨t,e⟩:=(show ∃ t,u=Value.bytes b t from r);cases e;rfl
 | flt b=>obtain⟨t,e⟩:=(show ∃ t,u=Value.float b t from r);cases e;rfl
 | ref a=>cases (show u=Value.ref a from r);rfl
 | ty n=>cases (show u=Value.type n from r);rfl
section
variable {P:Program}{w:World}{H H':Hp}{h h':Heap}{a C dx:Addr}{fs fs':List (Str × V)}
theorem Zdu (hok:HOk P w H h) (e:H a=some (.ins C dx fs)):∃ mA,ObjM h a dx C mA/\(∀ f,RelO (fs.lookup f) (mA f))/\PySem.Within mA (fs.map (·.1))/\fs.length<=1000/\H dx=some (.own a):=by
 obtain⟨d,z,ne,ob,mA,n,r,q⟩:=(show ObjOk P w H h a (.ins C dx fs) from hok a _ e)
 exact⟨mA,⟨ob,n,ne⟩,r,q,z,d⟩
end
structure Cls (K:PySem.W.Frag) (C:Addr):Prop where
 pg:PySem.W.plainGet K C Str.empty=true
 hd:PySem.W.hasDictIn K C=true
 po:PySem.W.plainOver K C=true
 sa:PySem.W.findIn K (.ref C) "__setattr__" = some (some (.builtin "object.__setattr__"))
theorem Cls.get {K:PySem.W.Frag}{C:Addr}(c:Cls K C) (f:Str):PySem.W.plainGet K C f=true:=c.pg
def NoAttr (K:PySem.W.Frag) (C:Addr) (f:Str):Prop:=PySem.W.findIn K (.ref C) f=some none
theorem NoAttr.taker {K:PySem.W.Frag}{C:Addr}{f:Str}(n:NoAttr K C f):PySem.W.takerIn K C f=some none:=by
 unfold PySem.W.takerIn
 rw[show PySem.W.findIn K (.ref C) f=some none from n]
 rfl
structure Meth (K:PySem.W.Frag) (C:Addr) (m:Str) (f:Addr):Prop where
 at_:PySem.W.findIn K (.ref C) m=some (some (.ref f))
 fn:PySem.W.isFn K (.ref f)=true
 kp:PySem.W.keepIn K (.ref f)=true
section
variable {X:Cx}{pins:List (Addr × Obj)}{σ:St}{H:Hp}{s:Shared}{a C dx:Addr}{fs:List (Str × V)}{f:Str}{v:V}{A:Around}{E:Value->Shared->Prop}
theorem Zc2 {b:Bool}{Q:Value->Shared->Prop}(I:Inv X pins σ H s) (e:H a=some (.ins C dx fs)) (c:Cls X.K C) (n:NoAttr X.K C f) (l:fs.lookup f=some v)
  (h:∀ u s',Inv X pins σ H s'->RelV v u->Q u s'):wpAny (model X.prog X.w) A (getAttr (.ref a) f b) Q E s:=by
 obtain⟨mA,O,r,_,_,_⟩:=Zdu I.hok e
 obtain⟨u,hu,ru⟩:=RelO.some_of (v:=v) (o:=mA f) (by rw[← l];exact r f)
 exact Zpg I.kIn O (c.get f) c.hd n hu (Zet ru) (h u _ (I.tok _) ru)
theorem Zbn {m:Str}{g:Addr}{pl:Sem Bool}{Q:Value × List Value->Shared->Prop}(I:Inv X pins σ H s) (e:H a=some (.ins C dx fs)) (c:Cls X.K C) (k:Meth X.K C m g) (l:fs.lookup m=none)
  (h:Q (.ref g,[.ref a]) s):wpAny (model X.prog X.w) A (getMethod (.ref a) m pl) Q E s:=by
 obtain⟨mA,O,r,_,_,_⟩:=Zdu I.hok e
 have hn:mA m=none:=RelO.none_of (by rw[← l];exact r m)
 exact Zlu I.kIn O (c.get m) k.at_ k.fn hn h
theorem Zct {y:V}{u:Value}{Q:Unit->Shared->Prop}(I:Inv X pins σ H s) (e:H a=some (.ins C dx fs)) (c:Cls X.K C) (n:NoAttr X.K C f) (hl:fs.length<1000) (ry:RelV y u)
  (h:∀ s',Inv X pins σ (upd H a (.ins C dx (putF f y fs))) s'->Q () s'):wpAny (model X.prog X.w) A (setAttr (.ref a) f u) Q E s:=by
 obtain⟨mA,O,r,wi,_,ho⟩:=Zdu I.hok e
 have hz:(fs.map (·.1)).length<=sizeLine:=by rw[List.length_map,sizeLine_eq];omega
 refine Zoj I.kIn O c.sa c.po n.taker c.hd wi hz fun h' O' sb=>h _ ?_
 have hd:∃ o,h'.get? dx=some o:=let ⟨o,_,_,e',_⟩:=O'.ns;⟨o,e'⟩
 refine I.write (x:=a) (e:=dx) (by rw[e];exact True.intro) (.inr ho) (fun b q hb z=>(sb.2 b hb).trans z) hd ?_
 refine⟨by rw[Zb O.ne];exact ho,?_,O.ne,O'.obj,_,O'.ns,fun g=>?_,fun g hg=>?_⟩
 ·have:=Zca f y fs;omega
 ·show RelO ((putF f y fs).lookup g) (if g=f then some u else mA g)
  rw[Zaw]
  by_cases q:g=f
  ·rw[if_pos q,if_pos q];exact ry
  ·rw[if_neg q,if_neg q];exact r g
 ·by_cases q:g=f
  ·rw[q];exact(Zal f y fs).1
  ·refine(Zal f y fs).2 g (wi g fun z=>hg ?_)
   show (if g=f then some u else mA g)=none
   rw[if_neg q];exact z
theorem Inv.made (I:Inv X pins σ H s):Inv X pins σ (upd (upd H s.heap.objs.size (.own (s.heap.objs.size+1))) (s.heap.objs.size+1) (.ins C s.heap.objs.size []))
  { s with heap:=(s.heap.push PySem.W.emptyDict).push (PySem.W.instObj C s.heap.objs.size) }:=by
 have e1:(s.heap.push PySem.W.emptyDict).get? s.heap.objs.size=some PySem.W.emptyDict:=Heap.get?_push_size s.heap rfl
 have e2:((s.heap.push PySem.W.emptyDict).push (PySem.W.instObj C s.heap.objs.size)).get? (s.heap.objs.size+1)=some (PySem.W.instObj C s.heap.objs.size):=by
  have:=Heap.get?_push_size (s.heap.push PySem.W.emptyDict) (o:=PySem.W.instObj C s.heap.objs.size) rfl
  rwa [Heap.size_push] at this
 have e3:(s.heap.push PySem.W.emptyDict).Ns s.heap.objs.size (fun _=>none):=⟨PySem.W.emptyDict,#[],_,e1,rfl,(fun e he=>absurd he (by simp)),fun _=>rfl⟩
 have I1:=I.laid (a:=s.heap.objs.size) (o:=.own (s.heap.objs.size+1)) (h':=s.heap.push PySem.W.emptyDict) (t':=s.toks) (fun b u q=>Heap.get?_push_of_some _ q) (Nat.le_refl _) ⟨_,e1⟩
 refine I1.laid (a:=s.heap.objs.size+1) (o:=.ins C s.heap.objs.size []) (t':=s.toks) (fun b u q=>Heap.get?_push_of_some _ q) (Nat.le_of_eq (Heap.size_push _ _)) ?_
 have ne:s.heap.objs.size≠s.heap.objs.size+1:=Nat.ne_of_lt (Nat.lt_succ_self _)
 refine⟨by rw[Zb ne,Ze],Nat.zero_le _,ne,e2,fun _=>none,(Heap.Ns1.of_empty e3).at fun o q=>Heap.get?_push_of_some _ q,fun _=>True.intro,fun y hy=>absurd rfl hy⟩
theorem Zkn {prog:Program}{w:World}{env:Env}{e:Expr}{f:Str}{pos:Pos}{s:Shared}{Q:Value->Shared->Prop}(hb:attributeBase e f env (eval e env)=eval e env)
  (h:wpAny (model prog w) A (eval e env) (fun o s₁=>wpAny (model prog w) A (getAttr o f true) Q E s₁) E s):wpAny (model prog w) A (eval (.Attribute e f pos) env) Q E s :=
 Attribute_any_ h (by rw[arm_eval_Attribute,hb])
end
def tFld (K:PySem.W.Frag) (ta:TE) (f:Str):TE:=fun σ H Q=>ta σ H fun x H1=>∃ a C dx fs v,x=.ref a/\H1 a=some (.ins C dx fs)/\Cls K C/\NoAttr K C f/\fs.lookup f=some v/\Q v H1
def sFld (K:PySem.W.Frag) (ta tv:TE) (f:Str):TS:=fun D σ H=>tv σ H fun y H1=>ta σ H1 fun x H2=>∃ a C dx fs,x=.ref a/\H2 a=some (.ins C dx fs)/\Cls K C/\NoAttr K C f/\fs.length<1000 /\
 D.nx σ (upd H2 a (.ins C dx (putF f y fs)))
def InOp (X:Cx) (op:Operator) (rd:V->V->Hp->VK->Prop):Prop :=
 ∀ (pins:List (Addr × Obj)) (s:Shared) (σ:St) (H:Hp) (x y:V) (u v:Value) (Q:VK),Inv X pins σ H s->RelV x u->RelV y v->rd x y H Q->wpAny (model X.prog X.w) X.A (inplaceOp op u v) (EP X pins σ Q) X.xe s
def Zor (K:PySem.W.Frag) (ta tv:TE) (rd:V->V->Hp->VK->Prop) (f:Str):TS:=fun D σ H=>ta σ H fun x H1=>∃ a C dx fs v,x=.ref a/\H1 a=some (.ins C dx fs)/\Cls K C/\NoAttr K C f/\fs.lookup f=some v /\
 tv σ H1 fun y H2=>rd v y H2 fun z H3=>∃ dx' fs',H3 a=some (.ins C dx' fs')/\fs'.length<1000/\D.nx σ (upd H3 a (.ins C dx' (putF f z fs')))
section
variable {X:Cx}{o e value:Expr}{f:Str}{pos pos' tpos:Pos}{ta tv:TE}
theorem Zt (he:PE X e ta) (hb:attributeBase e f X.env (eval e X.env)=eval e X.env):PE X (.Attribute e f pos) (tFld X.K ta f):=by
 intro pins s σ H Q I h
 refine Zkn hb (thn (he pins s σ H _ I h) fun u s1 ⟨x,H1,I1,rx,a,C,dx,fs,v,ex,ea,c,n,l,q⟩=>?_)
 subst ex
 obtain rfl:u=Value.ref a:=rx
 exact Zc2 I1 ea c n l fun u' s2 I2 ru=>⟨v,H1,I2,ru,q⟩
theorem Yj (ha:PE X o ta) (hv:PE X value tv) (hs:swapsWith value (some (.Attribute o f pos')) pos.line X.env=pure false):PS X (.Assign [.Attribute o f pos'] value pos) (sFld X.K ta tv f):=by
 intro pins s σ H D I h
 refine plainObj_wpAny_Assign_Attribute (thn (hv pins s σ H _ I h) fun u s1 ⟨y,H1,I1,ry,q⟩=>thn (ha pins s1 σ H1 _ I1 q) fun ov s2 ⟨x,H2,I2,rx,a,C,dx,fs,ex,ea,c,n,l,q2⟩=>?_) hs
 subst ex
 obtain rfl:ov=Value.ref a:=rx
 exact Zct I2 ea c n l ry fun s3 I3=>⟨σ,_,I3,q2⟩
theorem Za6 {op:Operator}{rd:V->V->Hp->VK->Prop}(ha:PE X o ta) (hv:PE X value tv) (hop:InOp X op rd):PS X (.AugAssign (.Attribute o f tpos) op value pos) (Zor X.K ta tv rd f):=by
 intro pins s σ H D I h
 refine wpAny_AugAssign_AttributeAny (thn (ha pins s σ H _ I h) fun ov s1 ⟨x,H1,I1,rx,a,C,dx,fs,v,ex,ea,c,n,l,q⟩=>?_)
 subst ex
 obtain rfl:ov=Value.ref a:=rx
 refine Zc2 I1 ea c n l fun u s2 I2 ru=>thn (hv pins s2 σ H1 _ I2 q) fun w3 s3 ⟨y,H2,I3,ry,q3⟩=>thn (hop pins s3 σ H2 v y u w3 _ I3 ru ry q3) fun w4 s4 ⟨z,H3,I4,rz,dx',fs',ea',l',q4⟩=>?_
 exact Zct I4 ea' c n l' rz fun s5 I5=>⟨σ,_,I5,q4⟩
def rAdd:V->V->Hp->VK->Prop:=fun x y H Q=>∃ i j,x=.int i/\y=.int j/\Q (.int (i+j)) H
theorem Zgq:InOp X .Add rAdd:=by
 rintro pins s σ H x y u v Q I rx ry ⟨i,j,rfl,rfl,q⟩
 obtain⟨t,rfl⟩:=(show ∃ t,u=Value.int i t from rx)
 obtain⟨t',rfl⟩:=(show ∃ t',v=Value.int j t' from ry)
 exact PyProof.Rows.iadd_int ⟨.int (i+j),H,I.tok _,⟨_,rfl⟩,q⟩
theorem Zo9 {pl:Sem Bool}{m:Str}{apos:Pos}{args:List Expr}{pins:List (Addr × Obj)}{s:Shared}{σ:St}{H:Hp}{Q:Value->Shared->Prop}{te:TE}(he:PE X e te) (I:Inv X pins σ H s)
  (h:te σ H fun x H1=>∃ a C dx fs g,x=.ref a/\H1 a=some (.ins C dx fs)/\Cls X.K C/\Meth X.K C m g/\fs.lookup m=none /\
    ∀ s1,Inv X pins σ H1 s1->wpAny (model X.prog X.w) X.A (callWith pos (.ref g) [.ref a] (backTo pos (starEach args X.env)) (backToKw pos (keywordEach [] X.env))) Q X.xe s1)
  (ht:eval (.Call (.Attribute e m apos) args [] pos) X.env=(do
    let ov ← eval e X.env
    standAt apos.atName
    let (f,first) ← holding [ov] (getMethod ov m pl)
    callWith pos f first (backTo pos (starEach args X.env)) (backToKw pos (keywordEach [] X.env)))) :
  wpAny (model X.prog X.w) X.A (eval (.Call (.Attribute e m apos) args [] pos) X.env) Q X.xe s:=by
 refine PySem.W.methodCall_KW (pl:=pl) (thn (he pins s σ H _ I h) fun u s1 ⟨x,H1,I1,rx,a,C,dx,fs,g,ex,ea,c,k,l,q⟩=>?_) ht
 subst ex
 obtain rfl:u=Value.ref a:=rx
 exact Zbn I1 ea c k l (q s1 I1)
end
section
variable {X:Cx}{pins:List (Addr × Obj)}{σ:St}{H:Hp}{s:Shared}{A:Around}{E:Value->Shared->Prop}{Q:Value->Shared->Prop}{c:Value}{b:Bool}
inductive TyOf (K:PySem.W.Frag) (H:Hp):V->Value->Prop where
 | non:TyOf K H .non (.type "NoneType")
 | bl (x:Bool):TyOf K H (.bl x) (.type "bool")
 | int (i:Int):TyOf K H (.int i) (.type "int")
 | str (x:Str):TyOf K H (.str x) (.type "str")
 | flt (x:UInt64):TyOf K H (.flt x) (.type "float")
 | lst {a:Addr} {xs:List V} (e:H a=some (.lst xs)):TyOf K H (.ref a) (.type "list")
 | frz {a:Addr} {o:Obj} {xs:List V} (e:H a=some (.frz o (.lst xs))):TyOf K H (.ref a) (.type "list")
 | tup {a:Addr} {xs:List V} (e:H a=some (.tup xs)):TyOf K H (.ref a) (.type "tuple")
 | dK {a:Addr} {kvs:List (Key × V)} (e:H a=some (.dK kvs)):TyOf K H (.ref a) (.type "dict")
 | dT {a:Addr} {kvs:List (List Key × V)} (e:H a=some (.dT kvs)):TyOf K H (.ref a) (.type "dict")
 | ins {a C dx:Addr} {fs:List (Str × V)} (e:H a=some (.ins C dx fs)) (cl:Cls K C) (ha:PySem.W.findIn K (.ref C) "__class__" = some (some (.builtin "object.__class__")))
   (hn:PySem.W.specialIn K (.builtin "object.__class__") "__get__" = some (some (.builtin "getset_descriptor.__get__"))) (htk:PySem.W.takesIn K (.builtin "object.__class__")=some true)
   (hm:PySem.W.mroIn K C (.type "object")=some true):TyOf K H (.ref a) (.ref C)
theorem Zjq {x:V}{u t:Value}(I:Inv X pins σ H s) (rx:RelV x u) (ty:TyOf X.K H x t) (e:PySem.W.kitOne X.K t c=some b) (h:∀ tk,Q (.bool b) { s with toks:=tk }) :
  wpAny (model X.prog X.w) A (call (.builtin "isinstance") [u,c]) Q E s:=by
 cases ty with
 | non=>cases (show u=Value.none from rx);exact PySem.W.kia_one PySem.W.kitx_none I.kIn True.intro e (fun z=>nomatch z) h
 | bl y=>cases (show u=Value.bool y from rx);exact PySem.W.kia_one PySem.W.kitx_bool I.kIn True.intro e (fun z=>nomatch z) h
 | int i=>obtain⟨t,q⟩:=(show ∃ t,u=Value.int i t from rx);cases q;exact PySem.W.kia_one PySem.W.kitx_int I.kIn True.intro e (fun z=>nomatch z) h
 | str y=>obtain⟨t,q⟩:=(show ∃ t,u=Value.str y t from rx);cases q;exact PySem.W.kia_one PySem.W.kitx_str I.kIn True.intro e (fun z=>nomatch z) h
 | flt y=>obtain⟨t,q⟩:=(show ∃ t,u=Value.float y t from rx);cases q;exact PySem.W.kia_one PySem.W.kitx_float I.kIn True.intro e (fun z=>nomatch z) h
 | @lst a xs ea =>
  cases (show u=Value.ref a from rx)
  obtain⟨_,_,n,_,h1⟩:=(show ObjOk X.prog X.w H s.heap a (.lst xs) from I.hok a _ ea)
  exact PySem.W.kia_one PySem.W.kitx_list I.kIn ⟨_,h1,rfl⟩ e (fun z=>nomatch z) h
 | @frz a ob xs ea =>
  cases (show u=Value.ref a from rx)
  obtain⟨_,_,_,n,_,h1⟩:=(show ObjOk X.prog X.w H s.heap a (.frz ob (.lst xs)) from I.hok a _ ea)
  exact PySem.W.kia_one PySem.W.kitx_list I.kIn ⟨_,h1,rfl⟩ e (fun z=>nomatch z) h
 | @tup a xs ea =>
  cases (show u=Value.ref a from rx)
  obtain⟨_,_,_,p⟩:=(show ObjOk X.prog X.w H s.heap a (.tup xs) from I.hok a _ ea)
  obtain⟨o,h1,h2,_⟩:=p
  exact PySem.W.kia_one PySem.W.kitx_tuple I.kIn ⟨o,h1,h2⟩ e (fun z=>nomatch z) h
 | @dK a kvs ea =>
  cases (show u=Value.ref a from rx)
  obtain⟨_,_,vs,_,p⟩:=(show ObjOk X.prog X.w H s.heap a (.dK kvs) from I.hok a _ ea)
  obtain⟨o,es,ep,h1,h2,_⟩:=p
  exact PySem.W.kia_one PySem.W.kitx_dict I.kIn ⟨o,h1,h2.1⟩ e (fun z=>nomatch z) h
 | @dT a kvs ea =>
  cases (show u=Value.ref a from rx)
  obtain⟨_,_,xs,_,o,es,ep,h1,h2,_⟩:=(show ObjOk X.prog X.w H s.heap a (.dT kvs) from I.hok a _ ea)
  exact PySem.W.kia_one PySem.W.kitx_dict I.kIn ⟨o,h1,h2.1⟩ e (fun z=>nomatch z) h
 | @ins a C dx fs ea cl ha hn htk hm =>
  cases (show u=Value.ref a from rx)
  obtain⟨mA,O,_⟩:=Zdu I.hok ea
  obtain⟨od,J,_⟩:=O.look
  exact PySem.W.kia_one (PySem.W.kitx_own (cl.get _) cl.hd ha hn htk hm) I.kIn J e (fun z=>nomatch z) h
end
end L2
namespace L2
open PySem PySem.Spec PyProof.Rows
structure Room (k:Nat) (A:Around):Prop where
 hd:A.handled=none
 dp:A.depth+3 * k+5<recursionLimit
 un:A.units+16 * k+200<cLine
theorem Room.mono {j k:Nat}{A:Around}(r:Room k A) (h:j<=k):Room j A:=⟨r.hd,by have:=r.dp;omega,by have:=r.un;omega⟩
theorem Room.deeper {k:Nat}{A:Around}(r:Room (k+1) A) (env:Env):Room k (A.deeper env) :=
 ⟨r.hd,by have:=r.dp;show A.depth+1+3 * k+5<_;omega,by have:=r.un;show A.units+3+16 * k+200<_;omega⟩
theorem Room.in1 {k:Nat}{A:Around}(r:Room (k+1) A):Room k A.in1 :=
 ⟨r.hd,by have:=r.dp;show A.depth+3 * k+5<_;omega,by have:=r.un;show A.units+1+16 * k+200<_;omega⟩
theorem Zhd {A:Around}{C:Addr}{us:List Value}{kw:List (Str × Value)}:(A.under (.builtin "type.__call__" ⟨.ref C::us,kw⟩)).depth=A.depth+1:=by
 first|rfl|simp[Around.under,Code.weight,Code.isCreation,Code.isGuard,Code.isCaller,Code.frames,Code.isFrame,guardIds]
theorem Zhc {A:Around}{C:Addr}{us:List Value}{kw:List (Str × Value)}:(A.under (.builtin "type.__call__" ⟨.ref C::us,kw⟩)).units=A.units+1:=by
 first|rfl|simp[Around.under,Code.cUnits,Code.frames,Code.isFrame]
theorem Room.make {k:Nat}{A:Around}(r:Room (k+1) A) (C:Addr) (us:List Value) (kw:List (Str × Value)):Room k (A.under (.builtin "type.__call__" ⟨.ref C::us,kw⟩)) :=
 ⟨r.hd,by have:=r.dp;rw[Zhd];omega,by have:=r.un;rw[Zhc];omega⟩
theorem Room.depth {k:Nat}{A:Around}(r:Room k A):A.depth<recursionLimit:=by have:=r.dp;omega
theorem Room.units {k:Nat}{A:Around}(r:Room k A):A.units+64<cLine:=by have:=r.un;omega
theorem Room.units0 {k:Nat}{A:Around}(r:Room k A):A.units<cLine:=by have:=r.un;omega
def tNil:TA:=fun _ H Q=>Q [] H
def Yr (ta:TE) (tr:TA):TA:=fun σ H Q=>ta σ H fun x H1=>tr σ H1 fun xs H2=>Q (x::xs) H2
section
variable {X:Cx}{e:Expr}{es:List Expr}{te:TE}{t:TA}{pos:Pos}
theorem Zc:PA X [] tNil:=fun _ _ _ _ H Q I h=>Calls.spliced_nil ⟨[],H,I,.nil,h⟩
theorem Za (ha:PE X e te) (hr:PA X es t) (hs:starEach (e::es) X.env=(false,eval e X.env)::starEach es X.env:=by rfl):PA X (e::es) (Yr te t):=by
 intro pos pins s σ H Q I h
 rw[hs]
 show wpAny _ _ (spliced ((false,eval e X.env)::backTo pos (starEach es X.env))) _ _ s
 refine Calls.spliced_cons (thn (ha pins s σ H _ I h) fun u s1 ⟨x,H1,I1,r1,q1⟩=>?_)
 exact thn (hr pos pins s1 σ H1 _ I1 q1) fun us s2 ⟨xs,H2,I2,r2,q2⟩=>⟨x::xs,H2,I2,.cons r1 r2,q2⟩
def tTup (t:TA):TE:=fun σ H Q=>t σ H fun xs H1=>xs.length<=sizeLine/\∀ p,H1 p=none->Q (.ref p) (upd H1 p (.tup xs))
def tLst (t:TA):TE:=fun σ H Q=>t σ H fun xs H1=>xs.length<=sizeLine/\∀ p,H1 p=none->Q (.ref p) (upd H1 p (.lst xs))
theorem Z5 {x1}(h:PA X es t):PE X (.Tuple es x1 pos) (tTup t):=by
 intro pins s σ H Q I hq
 refine wpAny_Tuple_spliced (thn (h pos pins s σ H _ I hq) fun us s1 ⟨xs,H1,I1,r,z,q⟩=>⟨by rw[← r.length];exact z,?_⟩)
 have hf:H1 s1.heap.objs.size=none:=I1.hok.fresh (Nat.le_refl _)
 refine⟨.ref s1.heap.objs.size,upd H1 s1.heap.objs.size (.tup xs),I1.laid (t':=s1.toks) (fun b u e=>Heap.get?_push_of_some _ e) (Nat.le_refl _) ?_,rfl,q _ hf⟩
 exact⟨z,us,r,⟨_,Heap.get?_push_size _ rfl,rfl,_,rfl⟩⟩
theorem Z0 (h:PA X es t):PE X (.List es pos) (tLst t):=by
 intro pins s σ H Q I hq
 refine wpAny_List_spliced (thn (h pos pins s σ H _ I hq) fun us s1 ⟨xs,H1,I1,r,z,q⟩=>⟨by rw[← r.length];exact z,?_⟩)
 have hf:H1 s1.heap.objs.size=none:=I1.hok.fresh (Nat.le_refl _)
 refine⟨.ref s1.heap.objs.size,upd H1 s1.heap.objs.size (.lst xs),I1.laid (t':=s1.toks) (fun b u e=>Heap.get?_push_of_some _ e) (Nat.le_refl _) ?_,rfl,q _ hf⟩
 exact⟨z,us,0,r,Heap.get?_push_size _ rfl⟩
end
abbrev Sp:=List V->Hp->VK->XK->Prop
abbrev CXT:=List Env->Hp->Shared->XK->Value->Shared->Prop
structure Env0 (P:Program) (w:World) (K:PySem.W.Frag) (mg:Str->Option Value) (base:Heap) (A:Around) (outer:List Env) (s:Shared) (H:Hp):Prop where
 frames:A.frames=some outer
 mod:Mod K mg base
 bs:∀ b o,base.get? b=some o->s.heap.get? b=some o/\H b=none
 bsz:base.objs.size<=s.heap.objs.size
 funs:s.heap.FunFrames base outer
 frf:∀ b∈frs outer,H b=none
 hok:HOk P w H s.heap
 bare:AllBare s.gens
def CE (outer:List Env) (P:Program) (w:World) (H:Hp) (s:Shared) (Q:VK) (u:Value) (s':Shared):Prop :=
 ∃ v H',s'.os=s.os/\AllBare s'.gens/\Un (frs outer) [] H H' s.heap s'.heap/\HOk P w H' s'.heap/\RelV v u/\Q v H'
def CR (CX:CXT) (outer:List Env) (P:Program) (w:World) (H:Hp) (s:Shared) (Q:VK) (E:XK) (r:Result) (s':Shared):Prop :=
 match r with
 | .ok (.ret u)=>CE outer P w H s Q u s'
 | .ok _=>False
 | .error e=>CX outer H s E e s'
structure FnOk (P:Program) (w:World) (K:PySem.W.Frag) (mg:Str->Option Value) (base:Heap) (CX:CXT) (k:Nat) (f:Addr) (fd:FuncData) (ps:List Str) (sp:Sp):Prop where
 len:∀ vs H Q E,sp vs H Q E->vs.length=ps.length
 run:∀ (A:Around) (outer:List Env) (s:Shared) (H:Hp) (args:Args) (us:List Value) (vs:List V) (Q:VK) (E:XK),Room k A->Env0 P w K mg base A outer s H->BindsTo s fd args (ps.zip us)->Vals vs us->sp vs H Q E ->
  codeAny (model P w) A (.call (.ref f) args) (CR CX outer P w H s Q E) s
theorem FnOk.mono {P:Program}{w:World}{K:PySem.W.Frag}{mg:Str->Option Value}{base:Heap}{CX:CXT}{j k:Nat}{f:Addr}{fd:FuncData}{ps:List Str}{sp:Sp}(F:FnOk P w K mg base CX j f fd ps sp) (h:j<=k) :
  FnOk P w K mg base CX k f fd ps sp:=⟨F.len,fun A outer s H args us vs Q E hr=>F.run A outer s H args us vs Q E (hr.mono h)⟩
theorem FnOk.imp {P:Program}{w:World}{K:PySem.W.Frag}{mg:Str->Option Value}{base:Heap}{CX:CXT}{k:Nat}{f:Addr}{fd:FuncData}{ps:List Str}{sp sp':Sp}(F:FnOk P w K mg base CX k f fd ps sp)
  (h:∀ vs H Q E,sp' vs H Q E->sp vs H Q E):FnOk P w K mg base CX k f fd ps sp' :=
 ⟨fun vs H Q E q=>F.len vs H Q E (h _ _ _ _ q),fun A outer s H args us vs Q E hr he hb hv hs=>F.run A outer s H args us vs Q E hr he hb hv (h _ _ _ _ hs)⟩
theorem Env0.make {P:Program}{w:World}{K:PySem.W.Frag}{mg:Str->Option Value}{base:Heap}{A:Around}{outer:List Env}{s:Shared}{H:Hp}(e:Env0 P w K mg base A outer s H) (C:Addr) (us:List Value) (kw:List (Str × Value)) :
  Env0 P w K mg base (A.under (.builtin "type.__call__" ⟨.ref C::us,kw⟩)) outer s H:=⟨by first|exact e.frames|(simpa [Around.under,Code.envs,Code.isFrame,pushEnvs] using e.frames),e.mod,e.bs,e.bsz,e.funs,e.frf,e.hok,e.bare⟩
theorem Env0.in1 {P:Program}{w:World}{K:PySem.W.Frag}{mg:Str->Option Value}{base:Heap}{A:Around}{outer:List Env}{s:Shared}{H:Hp}(e:Env0 P w K mg base A outer s H) :
  Env0 P w K mg base A.in1 outer s H:=⟨e.frames,e.mod,e.bs,e.bsz,e.funs,e.frf,e.hok,e.bare⟩
section
variable {X:Cx}{pins:List (Addr × Obj)}{σ:St}{H:Hp}{s s':Shared}
theorem Inv.env0 (I:Inv X pins σ H s):Env0 X.prog X.w X.K X.mg X.base X.A X.stack s H :=
 ⟨I.ok.frames,I.ok.mod,I.bs,Nat.le_trans I.ok.bsz I.sz,I.stack,I.stkFree,I.hok,I.bare⟩
theorem Inv.after {Q:VK}{u:Value}(I:Inv X pins σ H s) (h:CE X.stack X.prog X.w H s Q u s'):EP X pins σ Q u s':=by
 obtain⟨v,H',os,bare,un,hok,r,q⟩:=h
 obtain⟨hh,g,d,t,os'⟩:=s'
 obtain rfl:os'=s.os:=os
 exact⟨v,H',I.call (h':=hh) (g':=g) (d':=d) (t':=t) (ch:=[]) un hok bare (fun b z=>absurd z (by simp)),r,q⟩
end
def Zg1 (sp:Sp) (dvs:List V) (E:XK) (t:TA):TE:=fun σ H Q=>t σ H fun vs H1=>sp (vs++dvs) H1 Q E
def Zk1 (C:Addr) (m:Str) (sp:Sp) (dvs:List V) (E:XK) (ta:TE) (t:TA):TE:=fun σ H Q=>ta σ H fun x H1=>∃ a dx fs,x=.ref a/\H1 a=some (.ins C dx fs)/\fs.lookup m=none /\
 t σ H1 fun vs H2=>sp (x::(vs++dvs)) H2 Q E
def Zod (C:Addr) (sp:Sp) (dvs:List V) (E:XK) (t:TA):TE:=fun σ H Q=>t σ H fun vs H1=>∀ x dx,H1 x=none->H1 dx=none->dx≠x ->
 sp (.ref x::(vs++dvs)) (upd (upd H1 dx (.own x)) x (.ins C dx [])) (fun v H2=>v=.non/\Q (.ref x) H2) E
def Binds (K:PySem.W.Frag) (fd:FuncData) (ps:List Str) (ds:List Value):Prop :=
 ∀ (s:Shared) (us:List Value),K.In s.heap->(us++ds).length=ps.length->BindsTo s fd ⟨us,[]⟩ (ps.zip (us++ds))
theorem Binds.all {K:PySem.W.Frag}{fd:FuncData}{ps:List Str}(h:∀ us:List Value,us.length=ps.length->bindArgs fd ⟨us,[]⟩=pure (ps.zip us)):Binds K fd ps []:=fun s us _ hl=>by
 rw[List.append_nil] at hl ⊢
 exact .of_eq (h us hl)
def Yq (CX:CXT) (X:Cx) (E:XK):Prop:=∀ (pins:List (Addr × Obj)) (σ:St) (H:Hp) (s:Shared) (e:Value) (s':Shared),Inv X pins σ H s->CX X.stack H s E e s'->X.xe e s'
section
variable {X:Cx}{CX:CXT}{k:Nat}{f C:Addr}{fd:FuncData}{ps:List Str}{sp:Sp}{dvs:List V}{ds:List Value}{E:XK}{x m:Str}{p pos apos:Pos}{e o:Expr}{es:List Expr}{ta:TE}{t:TA}
theorem Zgc {pins:List (Addr × Obj)}{σ:St}{H:Hp}{s:Shared}{Q:VK}{us:List Value}{vs:List V}(F:FnOk X.prog X.w X.K X.mg X.base CX k f fd ps sp) (hr:Room k X.A) (hb:Binds X.K fd ps ds) (hd:Vals dvs ds) (hx:Yq CX X E)
  (I:Inv X pins σ H s) (r:Vals vs us) (h:sp (vs++dvs) H Q E):wpAny (model X.prog X.w) X.A (call (.ref f) us) (EP X pins σ Q) X.xe s:=by
 have r2:Vals (vs++dvs) (us++ds):=r.append hd
 have hl:(us++ds).length=ps.length:=by rw[← r2.length];exact F.len _ _ _ _ h
 refine wpAny_call (codeAny_mono (F.run X.A X.stack s H ⟨us,[]⟩ (us++ds) (vs++dvs) Q E hr I.env0 (hb s us I.kIn hl) r2 h) fun r s' hq=>?_)
 cases r with
 | error e=>exact hx pins σ H s e s' I hq
 | ok fl =>
  cases fl with
  | ret u=>exact I.after hq
  | next=>exact False.elim hq
  | brk=>exact False.elim hq
  | cont=>exact False.elim hq
theorem Zo4 (F:FnOk X.prog X.w X.K X.mg X.base CX k f fd ps sp) (hr:Room k X.A) (hg:Gl X x) (hm:X.mg x=some (.ref f)) (hk:PySem.W.keepIn X.K (.ref f)=true) (hb:Binds X.K fd ps ds) (hd:Vals dvs ds) (hx:Yq CX X E)
  (ha:PA X (e::es) t) (hdb:(x == ("__debug__" : Str))=false:=by decide) (he:starEach (e::es) X.env=(false,eval e X.env)::starEach es X.env:=by rfl) (hpl:(backTo pos (starEach es X.env)).any (·.1)=false:=by rfl) :
  PE X (.Call (.Name x p) (e::es) [] pos) (Zg1 sp dvs E t):=by
 intro pins s σ H Q I h
 refine wpAny_Call_Name_kw (Je I hg hm ?_ hdb)
 refine PySem.W.callWith_K (h₀:=X.base) I.ok.mod.kin hk (thn (ha pos pins s σ H _ I h) fun us s1 ⟨vs,H1,I1,r,q⟩=>⟨I1.kIn,?_⟩) he hpl
 exact Zgc F hr hb hd hx I1 r q
theorem Zo1 {pl:Sem Bool}(he:PE X o ta) (c:Cls X.K C) (hm:Meth X.K C m f) (F:FnOk X.prog X.w X.K X.mg X.base CX k f fd ps sp) (hr:Room k X.A) (hb:Binds X.K fd ps ds) (hd:Vals dvs ds) (hx:Yq CX X E) (ha:PA X (e::es) t)
  (hst:starEach (e::es) X.env=(false,eval e X.env)::starEach es X.env:=by rfl) (hpl:(backTo pos (starEach es X.env)).any (·.1)=false:=by rfl)
  (ht:eval (.Call (.Attribute o m apos) (e::es) [] pos) X.env=(do
    let ov ← eval o X.env
    standAt apos.atName
    let (f,first) ← holding [ov] (getMethod ov m pl)
    callWith pos f first (backTo pos (starEach (e::es) X.env)) (backToKw pos (keywordEach [] X.env))):=by rfl) :
  PE X (.Call (.Attribute o m apos) (e::es) [] pos) (Zk1 C m sp dvs E ta t):=by
 intro pins s σ H Q I h
 refine PySem.W.methodCall_KW (pl:=pl) (thn (he pins s σ H _ I h) fun u s1 ⟨x,H1,I1,rx,a,dx,fs,ex,ea,l,q⟩=>?_) ht
 subst ex
 obtain rfl:u=Value.ref a:=rx
 refine Zbn I1 ea c hm l ?_
 refine PySem.W.callWith_K (first:=[.ref a]) (h₀:=X.base) I.ok.mod.kin hm.kp (thn (ha pos pins s1 σ H1 _ I1 q) fun us s2 ⟨vs,H2,I2,r,q2⟩=>⟨I2.kIn,?_⟩) hst hpl
 exact Zgc (us:=.ref a::us) (vs:=.ref a::vs) F hr hb hd hx I2 (.cons rfl r) q2
theorem Zlh {pl:Sem Bool}(he:PE X o ta) (c:Cls X.K C) (hm:Meth X.K C m f) (F:FnOk X.prog X.w X.K X.mg X.base CX k f fd ps sp) (hr:Room k X.A) (hb:Binds X.K fd ps ds) (hd:Vals dvs ds) (hx:Yq CX X E)
  (ht:eval (.Call (.Attribute o m apos) [] [] pos) X.env=(do
    let ov ← eval o X.env
    standAt apos.atName
    let (f,first) ← holding [ov] (getMethod ov m pl)
    callWith pos f first (backTo pos (starEach [] X.env)) (backToKw pos (keywordEach [] X.env))):=by rfl) :
  PE X (.Call (.Attribute o m apos) [] [] pos) (Zk1 C m sp dvs E ta tNil):=by
 intro pins s σ H Q I h
 refine PySem.W.methodCall_KW (pl:=pl) (thn (he pins s σ H _ I h) fun u s1 ⟨x,H1,I1,rx,a,dx,fs,ex,ea,l,q⟩=>?_) ht
 subst ex
 obtain rfl:u=Value.ref a:=rx
 refine Zbn I1 ea c hm l ?_
 exact PySem.W.callWith_K0 (first:=[.ref a]) I1.kIn hm.kp (Zgc (us:=[.ref a]) (vs:=[.ref a]) F hr hb hd hx I1 (.cons rfl .nil) q)
structure Mk (K:PySem.W.Frag) (C f:Addr):Prop where
 makes:PySem.W.makesIn K C=true
 init:PySem.W.findIn K (.ref C) "__init__" = some (some (.ref f))
 fn:PySem.W.isFn K (.ref f)=true
 kp:PySem.W.keepIn K (.ref C)=true
theorem Zk8 {pins:List (Addr × Obj)}{σ:St}{H:Hp}{s:Shared}{Q:VK}{us:List Value}{vs:List V}(M:Mk X.K C f) (F:FnOk X.prog X.w X.K X.mg X.base CX k f fd ps sp) (hr:Room (k+1) X.A) (hb:Binds X.K fd ps ds) (hd:Vals dvs ds)
  (hx:Yq CX X E) (I:Inv X pins σ H s) (r:Vals vs us)
  (h:∀ x dx,H x=none->H dx=none->dx≠x->sp (.ref x::(vs++dvs)) (upd (upd H dx (.own x)) x (.ins C dx [])) (fun v H2=>v=.non/\Q (.ref x) H2) E) :
  wpAny (model X.prog X.w) X.A (call (.ref C) us) (EP X pins σ Q) X.xe s:=by
 have hq:=h (s.heap.objs.size+1) s.heap.objs.size (I.hok.fresh (Nat.le_succ _)) (I.hok.fresh (Nat.le_refl _)) (Nat.ne_of_lt (Nat.lt_succ_self _))
 have I2:=Inv.made (C:=C) I
 have r2:Vals (V.ref (s.heap.objs.size+1)::(vs++dvs)) (Value.ref (s.heap.objs.size+1)::(us++ds)):=.cons rfl (r.append hd)
 have hl:(Value.ref (s.heap.objs.size+1)::us++ds).length=ps.length:=by
  have e:=r2.length
  rw[F.len _ _ _ _ hq] at e
  exact e.symm
 refine wpAny_call (Zln (f:=f) I.kIn M.makes M.init (beq_iff_eq.mp M.fn) (codeAny_mono (F.run _ X.stack _ _ ⟨Value.ref (s.heap.objs.size+1)::us,[]⟩ (Value.ref (s.heap.objs.size+1)::(us++ds)) _ _ E (hr.make C us [])
  (I2.env0.make C us []) (hb _ (Value.ref (s.heap.objs.size+1)::us) I2.kIn hl) r2 hq) fun r s' hq'=>?_))
 cases r with
 | error e=>exact hx pins σ _ _ e s' I2 hq'
 | ok fl =>
  cases fl with
  | ret u =>
   obtain⟨v,H',I3,rv,ev,q3⟩:=I2.after hq'
   subst ev
   exact⟨rv,⟨V.ref (s.heap.objs.size+1),H',I3,rfl,q3⟩⟩
  | next=>exact False.elim hq'
  | brk=>exact False.elim hq'
  | cont=>exact False.elim hq'
theorem Zi9 (M:Mk X.K C f) (F:FnOk X.prog X.w X.K X.mg X.base CX k f fd ps sp) (hr:Room (k+1) X.A) (hg:Gl X x) (hm:X.mg x=some (.ref C)) (hb:Binds X.K fd ps ds) (hd:Vals dvs ds) (hx:Yq CX X E)
  (ha:PA X (e::es) t) (hdb:(x == ("__debug__" : Str))=false:=by decide) (he:starEach (e::es) X.env=(false,eval e X.env)::starEach es X.env:=by rfl) (hpl:(backTo pos (starEach es X.env)).any (·.1)=false:=by rfl) :
  PE X (.Call (.Name x p) (e::es) [] pos) (Zod C sp dvs E t):=by
 intro pins s σ H Q I h
 refine wpAny_Call_Name_kw (Je I hg hm ?_ hdb)
 refine PySem.W.callWith_K (h₀:=X.base) I.ok.mod.kin M.kp (thn (ha pos pins s σ H _ I h) fun us s1 ⟨vs,H1,I1,r,q⟩=>⟨I1.kIn,?_⟩) he hpl
 exact Zk8 M F hr hb hd hx I1 r q
end
section
variable {X:Cx}{CX:CXT}{k:Nat}{f C:Addr}{fd:FuncData}{ps ks:List Str}{sp:Sp}{E:XK}{x m:Str}{p pos apos kpos:Pos}{e o:Expr}{es:List Expr}{kws:List Keyword}{te ta:TE}{t tk:TA}{nm:Option Str}
variable {g:List Value->List Value->List Value}{gV:List V->List V->List V}
end
structure FnScope (N P:List Str) (sc:Scope):Prop where
 kind:sc.kind=.function
 co:sc.isCoroutine=false
 gen:sc.isGenerator=false
 nd:N.Nodup
 pre:N.take P.length=P
 par:∀ x∈P,sc.names.lookup x=some .local\/sc.names.lookup x=some .cell
 nofree:∀ y∈sc.names,y.2 ≠ .free
theorem Zfa {kindOf:Str->Option NameKind}{x:Str}:∀ {binds:List (Str × Value)}{m:Str->Option Value},(∀ v,(x,v)∉binds)->bindL kindOf binds m x=m x
 | [],_,_=>rfl
 | (n,v)::r,m,h=>by
  unfold bindL
  rw[Zfa fun w hw=>h w (List.mem_cons_of_mem _ hw)]
  split
  ·have:x≠n:=by rintro rfl;exact h v List.mem_cons_self
   simp[this]
  ·rfl
theorem Zfc {kindOf:Str->Option NameKind}{x:Str}:∀ {binds:List (Str × Value)}{m:Str->Option Value},(∀ v,(x,v)∉binds)->bindC kindOf binds m x=m x
 | [],_,_=>rfl
 | (n,v)::r,m,h=>by
  unfold bindC
  rw[Zfc fun w hw=>h w (List.mem_cons_of_mem _ hw)]
  split
  ·rfl
  ·have:x≠n:=by rintro rfl;exact h v List.mem_cons_self
   simp[this]
theorem Zfb {kindOf:Str->Option NameKind}{x:Str}{v:Value}:∀ {P:List Str}{vs:List Value}{i:Nat}{m:Str->Option Value},P.Nodup->P[i]?=some x->vs[i]?=some v->kindOf x=some .local ->
  bindL kindOf (P.zip vs) m x=some v
 | [],_,_,_,_,h,_,_=>by simp at h
 | _::_,[],_,_,_,_,h,_=>by simp at h
 | p::P,w::vs,0,m,nd,h1,h2,hk=>by
  simp at h1 h2;subst h1;subst h2
  show bindL kindOf ((p,w)::P.zip vs) m p=_
  unfold bindL
  rw[Zfa fun v hv=>(List.nodup_cons.mp nd).1 (List.of_mem_zip hv).1,if_pos hk]
  simp
 | p::P,w::vs,i+1,m,nd,h1,h2,hk=>by
  show bindL kindOf ((p,w)::P.zip vs) m x=_
  unfold bindL
  exact Zfb (i:=i) (List.nodup_cons.mp nd).2 (by simpa using h1) (by simpa using h2) hk
theorem Zfd {kindOf:Str->Option NameKind}{x:Str}{v:Value}:∀ {P:List Str}{vs:List Value}{i:Nat}{m:Str->Option Value},P.Nodup->P[i]?=some x->vs[i]?=some v->kindOf x≠some .local ->
  bindC kindOf (P.zip vs) m x=some v
 | [],_,_,_,_,h,_,_=>by simp at h
 | _::_,[],_,_,_,_,h,_=>by simp at h
 | p::P,w::vs,0,m,nd,h1,h2,hk=>by
  simp at h1 h2;subst h1;subst h2
  show bindC kindOf ((p,w)::P.zip vs) m p=_
  unfold bindC
  rw[Zfc fun v hv=>(List.nodup_cons.mp nd).1 (List.of_mem_zip hv).1,if_neg hk]
  simp
 | p::P,w::vs,i+1,m,nd,h1,h2,hk=>by
  show bindC kindOf ((p,w)::P.zip vs) m x=_
  unfold bindC
  exact Zfd (i:=i) (List.nodup_cons.mp nd).2 (by simpa using h1) (by simpa using h2) hk
def Z3 (N:List Str) (vs:List V):St:=vs.map some++List.replicate (N.length - vs.length) none
def cxOf (CX:CXT) (P:Program) (w:World) (K:PySem.W.Frag) (mg:Str->Option Value) (base:Heap) (N:List Str) (qual:Str) (scope:Scope) (f:Addr) (cd:Value) (A:Around) (outer:List Env) (s:Shared) (H:Hp) (E:XK):Cx where
 prog:=P
 w:=w
 K:=K
 mg:=mg
 base:=base
 A:=A.deeper (envOfC qual scope s.heap.objs.size f cd)
 N:=N
 s₀:=s
 H₀:=H
 env:=envOfC qual scope s.heap.objs.size f cd
 outer:=outer
 stack:=envOfC qual scope s.heap.objs.size f cd::outer
 ex:=[]
 calm:=true
 fn:=fun _=>true
 pn:=[]
 xe:=fun e s'=>wpAny (model P w) (A.deeper (envOfC qual scope s.heap.objs.size f cd)) (leaving (envOfC qual scope s.heap.objs.size f cd) e) (fun _ s''=>CX outer H s E e s'') (fun e' s''=>CX outer H s E e' s'') s'
theorem Zgz {sc:Scope}{n:Nat}{x:Str}(h:sc.names.lookup x=some .cell):∃ c,(cellsFrom n sc.names []).lookup x=some c:=by
 have q:=PySem.W.cellsFrom_some sc.names n [] (.inl h)
 exact Option.isSome_iff_exists.mp q
theorem Zen {CX:CXT}{P:Program}{w:World}{K:PySem.W.Frag}{mg:Str->Option Value}{base:Heap}{N ps:List Str}{qual:Str}{scope:Scope}{f:Addr}{cd:Value}{A:Around}{outer:List Env}{s s1:Shared}{H:Hp}{E:XK}{us:List Value}{vs:List V}
  (S:FnScope N ps scope) (hd:A.handled=none) (e0:Env0 P w K mg base A outer s H) (hl:vs.length=ps.length) (r:Vals vs us)
  (x:InCallC s s.heap.objs.size (bindL (envOfC qual scope s.heap.objs.size f cd).kindOf (ps.zip us) fun _=>none) (cellsFrom (s.heap.objs.size+1) scope.names []) (bindC (envOfC qual scope s.heap.objs.size f cd).kindOf (ps.zip us) fun _=>none) s1) :
  Inv (cxOf CX P w K mg base N qual scope f cd A outer s H E) [] (Z3 N vs) H s1:=by
 have hpl:ps.length<=N.length:=by have:=congrArg List.length S.pre;rw[List.length_take] at this;omega
 obtain⟨h1,tk,rfl,hk⟩:=x.done
 have noA:∀ b:Addr,b∉(cxOf CX P w K mg base N qual scope f cd A outer s H E).ex:=fun b z=>absurd (show b∈([]:List Addr) from z) (by simp)
 refine⟨⟨e0.mod,S.kind,rfl,rfl,Nat.le_refl _,fun y z c h1 h2=>?_,fun y hy=>?_,fun y c _ h=>?_,fun _=>hd,Around.frames_deeper e0.frames,.inr ⟨rfl,rfl⟩,fun b z=>absurd z (noA b),e0.bs,e0.bsz,fun b _ _=>noA b,fun b z=>absurd z (noA b),e0.funs,e0.frf⟩,
  rfl,e0.bare,Un.kept hk,⟨_,x.toInCall.ns,fun i y v h1 h2 h3=>?_⟩,fun y c h=>⟨_,x.cell y c h⟩,e0.hok.fresh (Nat.le_refl _),fun y c h=>?_,fun p hp=>absurd (show p∈([]:List (Addr × Obj)) from hp) (by simp),e0.hok.kept hk,?_⟩
 ·exact name_of_addr x.apart (PySem.mem_of_lookup h1) (PySem.mem_of_lookup h2)
 ·have hy:scope.names.lookup y=some .cell\/scope.names.lookup y=some .free:=hy
  rcases hy with hy|hy
  ·exact Zgz hy
  ·exact absurd rfl (S.nofree _ (PySem.mem_of_lookup hy))
 ·exact Nat.le_of_lt (x.above y c (PySem.mem_of_lookup h))
 ·have hi:i<vs.length:=by
   unfold Z3 at h2
   by_cases hi:i<vs.length
   ·exact hi
   ·rw[List.getElem?_append_right (by simpa using hi)] at h2
    rw[List.getElem?_replicate] at h2
    split at h2<;>cases h2
  have ha:vs[i]?=some v:=by
   unfold Z3 at h2
   rw[List.getElem?_append_left (by simpa using hi),List.getElem?_map] at h2
   cases e:vs[i]? with
   | none=>rw[e] at h2;cases h2
   | some a=>rw[e] at h2;cases h2;rfl
  obtain⟨u,hu,rv⟩:=r.get ha
  have hp:ps[i]?=some y:=by
   rw[← S.pre,List.getElem?_take_of_lt (by omega)];exact h1
  have ndP:ps.Nodup:=by rw[← S.pre];exact S.nd.sublist (List.take_sublist _ _)
  refine⟨u,rv,?_⟩
  rcases S.par y (List.mem_of_getElem? hp) with k|k
  ·exact .inl ⟨k,Zfb ndP hp hu k⟩
  ·obtain⟨c,e⟩:=Zgz (n:=s.heap.objs.size+1) k
   refine .inr ⟨.inl k,c,e,?_⟩
   have q:=x.cell y c e
   rw[Zfd ndP hp hu (by show scope.names.lookup y≠_;rw[k];decide)] at q
   exact q
 ·exact e0.hok.fresh (Nat.le_of_lt (x.above y c (PySem.mem_of_lookup h)))
 ·unfold Z3
  show _=N.length
  rw[List.length_append,List.length_map,List.length_replicate]
  omega
theorem Zdw {CX:CXT}{P:Program}{w:World}{K:PySem.W.Frag}{mg:Str->Option Value}{base:Heap}{k:Nat}{f:Addr}{name qual:Str}{params:Arguments}{body:List Stmt}{scope:Scope}{dV kV doc pm cdv ct oc:Value}{an od:Option Addr}
  {osl:Array (Option Value)} {N ps:List Str} {sp:Sp} (lk:K.lookup f=some ⟨oc,od,.func (PySem.W.fnOf name qual params body scope dV kV doc pm an cdv ct),osl⟩) (hcd:PySem.W.codeIn K cdv qual=true) (S:FnScope N ps scope)
  (len:∀ vs H Q E,sp vs H Q E->vs.length=ps.length)
  (hbody:∀ (A:Around) (outer:List Env) (s:Shared) (H:Hp) (vs:List V) (Q:VK) (E:XK),Room k (A.deeper (envOfC qual scope s.heap.objs.size f cdv))->sp vs H Q E ->
    ∃ t,PSs (cxOf CX P w K mg base N qual scope f cdv A outer s H E) body t/\t { nx:=fun _ H'=>Q .non H',rt:=Q } (Z3 N vs) H) :
  FnOk P w K mg base CX (k+1) f (PySem.W.fnOf name qual params body scope dV kV doc pm an cdv ct) ps sp:=by
 refine⟨len,fun A outer s H args us vs Q E hr e0 hb r hsp=>?_⟩
 have hl:=len _ _ _ _ hsp
 have KX:K.In s.heap:=e0.mod.kin.keeps fun b o e=>(e0.bs b o e).1
 have lim:s.heap.NoLimit:=e0.mod.nolimit.keeps fun b o e=>(e0.bs b o e).1
 have hkind:∀ y∈ps.zip us,scope.names.lookup y.1=some .local\/(scope.names.lookup y.1=some .cell/\((cellsFrom (s.heap.objs.size+1) scope.names []).lookup y.1).isSome=true):=fun⟨n,v⟩ hy=>by
  rcases S.par n (List.of_mem_zip hy).1 with q|q
  ·exact .inl q
  ·exact .inr ⟨q,PySem.W.cellsFrom_some _ _ _ (.inl q)⟩
 refine codeAny_call_function hr.depth (KX _ _ lk) rfl S.co S.gen rfl (PySem.W.codeRec_of KX hcd) (hb _ _ _ _ ?_)
 refine wpAny_newFunctionEnv_cells S.kind hkind fun env he s1 x=>?_
 subst he
 refine⟨lim.keeps x.toInCall.keep,codeAny_func ?_⟩
 obtain⟨t,ht,hq⟩:=hbody A outer s H vs Q E (hr.deeper _) hsp
 have I:Inv (cxOf CX P w K mg base N qual scope f cdv A outer s H E) [] (Z3 N vs) H s1:=Zen S hr.hd e0 hl r x
 refine wpAny_mono (ht [] s1 (Z3 N vs) H _ I hq) (fun fl s' hs=>?_) fun e s' hs=>hs
 have fin:∀ {σ':St} {H':Hp} {v:V} {u:Value},Inv (cxOf CX P w K mg base N qual scope f cdv A outer s H E) [] σ' H' s'->RelV v u->Q v H'->CE outer P w H s Q u s' :=
  fun {σ' H' v u} J rv q=>⟨v,H',J.os,J.bare,J.base,J.hok,rv,q⟩
 cases fl with
 | ret u =>
  obtain⟨v,σ',H',J,rv,q⟩:=hs
  exact fin J rv q
 | next =>
  obtain⟨σ',H',J,q⟩:=hs
  exact fin (v:=V.non) (u:=Value.none) J rfl q
 | brk =>
  obtain⟨_,_,_,q⟩:=hs
  exact False.elim q
 | cont =>
  obtain⟨_,_,_,q⟩:=hs
  exact False.elim q
end L2
namespace L2
open PySem PySem.Spec PyProof.Rows
section
variable {X:Cx}{x:Str}{p pos:Pos}{e:Expr}{es:List Expr}{t:TA}{id T:String}{r:List V->Hp->VK->Prop}
def tCB (r:List V->Hp->VK->Prop) (t:TA):TE:=fun σ H Q=>t σ H fun vs H1=>r vs H1 Q
theorem Za8 (hc:CallR X (.builtin id) r) (hg:Gl X x) (hm:X.mg x=none) (hv:bootBuiltins x=some (.builtin id)) (ha:PA X (e::es) t) (hn:x ≠ "__name__" := by decide) (hdb:(x == ("__debug__" : Str))=false:=by decide)
  (he:starEach (e::es) X.env=(false,eval e X.env)::starEach es X.env:=by rfl) (hpl:(backTo pos (starEach es X.env)).any (·.1)=false:=by rfl):PE X (.Call (.Name x p) (e::es) [] pos) (tCB r t):=by
 intro pins s σ H Q I h
 refine wpAny_Call_Name_kw (Jr I hg hm hv ?_ hn hdb)
 exact PyProof.Rows.callWith_builtin1 (thn (ha pos pins s σ H _ I h) fun us s1 ⟨vs,H1,I1,r1,q1⟩=>hc pins s1 σ H1 vs us Q I1 r1 q1) he hpl
theorem Zja (hc:CallR X (.type T) r) (hg:Gl X x) (hm:X.mg x=none) (hv:bootBuiltins x=some (.type T)) (ha:PA X (e::es) t) (hn:x ≠ "__name__" := by decide) (hdb:(x == ("__debug__" : Str))=false:=by decide)
  (he:starEach (e::es) X.env=(false,eval e X.env)::starEach es X.env:=by rfl) (hpl:(backTo pos (starEach es X.env)).any (·.1)=false:=by rfl):PE X (.Call (.Name x p) (e::es) [] pos) (tCB r t):=by
 intro pins s σ H Q I h
 refine wpAny_Call_Name_kw (Jr I hg hm hv ?_ hn hdb)
 exact PyProof.Rows.callWith_type1 (thn (ha pos pins s σ H _ I h) fun us s1 ⟨vs,H1,I1,r1,q1⟩=>hc pins s1 σ H1 vs us Q I1 r1 q1) he hpl
end
end L2
namespace HT
open PySem PyProof.Rows
def lexLt:List Int->List Int->Bool
 | [],[]=>false
 | [],_::_=>true
 | _::_,[]=>false
 | x::xs,y::ys=>if x=y then lexLt xs ys else decide (x<y)
theorem lexLt_cons (x y:Int) (xs ys:List Int):lexLt (x::xs) (y::ys)=if x=y then lexLt xs ys else decide (x<y):=rfl
theorem lexLt_nil_nil:lexLt [] []=false:=rfl
theorem Zcm (y:Int) (ys:List Int):lexLt [] (y::ys)=true:=rfl
theorem Zcn (x:Int) (xs:List Int):lexLt (x::xs) []=false:=rfl
theorem Zl8 (A:Around) (s:Shared) (a:Int) (t:Tok) (c:Int) (u:Tok):∃ e,SeqAt.EqAt A s (.int a t) (.int c u) e/\(e=true ↔ a=c) :=
 ⟨(a == c),SeqAt.EqAt.int_int a t c u,by simp⟩
theorem Zk9 (A:Around) (s:Shared) (a:Int) (t:Tok) (c:Int) (u:Tok) (prog:Program) (w:World) (E:Value->Shared->Prop) (Q:Value->Shared->Prop) (h:Q (.bool (decide (a<c))) s) :
  wpAny (model prog w) A (richCompare .Lt (.int a t) (.int c u)) Q E s :=
 (PyProof.Rows.lt_int h:wpAny (model prog w) A (compareOp .Lt (.int a t) (.int c u)) Q E s)
section
open PySem.SeqAt
open PySem.AutoSeq1 (wpAny_loadPart')
open PySem.MeetsSeq PySem.MeetsSeq2 PySem.MeetsSeq3
theorem Zdb (l b:Addr) (items items2:Array Value) (n n2:Nat) (dd dd2:Option Addr) (sl sl2:Array (Option Value)) (ns ms:List Int) (hi:IntsAre items.toList ns) (hj:IntsAre items2.toList ms) :
  Meets (Builtin.«tuple.__lt__» ⟨[.ref l,.ref b],[]⟩)
   (fun _ R s=>s.heap.get? l=some { cls:=.type "tuple",dict:=dd,data:=.seq items n,slots:=sl }/\s.heap.get? b=some { cls:=.type "tuple",dict:=dd2,data:=.seq items2 n2,slots:=sl2 } /\
     R (.ok (.ret (.bool (lexLt ns ms)))) s) :=
 .of_wp fun prog w A R s h=>by
  obtain⟨hp,g,d,tk,os⟩:=s;obtain⟨hl,hb,h⟩:=h
  have f2:=AutoSeq1.sub_tuple_tuple
  have z1:items.size=ns.length:=by rw[← hi.length];simp
  have z2:items2.size=ms.length:=by rw[← hj.length];simp
  wp_walk using wpAny_loadPart' hl,wpAny_loadPart' hb,wpAny_forIn_list _ (fun rest b s'=>b.1=none/\s'=⟨hp,g,d,tk,os⟩/\∃ (vs ws:List Value) (ns' ms':List Int),rest=vs.zip ws /\
   IntsAre vs ns'/\IntsAre ws ms'/\ns'.length+items2.size=ms'.length+items.size/\R (.ok (.ret (.bool (lexLt ns' ms')))) ⟨hp,g,d,tk,os⟩) _
  case turn =>
   rintro⟨y,x⟩ rest b s' ⟨hb',rfl,vs,ws,ns',ms',hz,hvi,hwi,hlen,hR⟩
   cases hvi with
   | nil=>rw[List.zip_nil_left] at hz;cases hz
   | cons a t hvi' =>
    cases hwi with
    | nil=>rw[List.zip_nil_right] at hz;cases hz
    | cons c u hwi' =>
     rw[List.zip_cons_cons] at hz
     injection hz with hyx hrest
     injection hyx with hy hx
     subst hy hx
     rw[lexLt_cons] at hR
     simp only [List.length_cons] at hlen
     obtain⟨e,he,hiff⟩:=Zl8 A.in1 ⟨hp,g,d,tk,os⟩ a t c u
     refine wpAny_bind (he prog w _ _ ?_)
     cases e with
     | true =>
      rw[if_pos (hiff.mp rfl)] at hR
      wp_walk
      exact⟨rfl,rfl,_,_,_,_,hrest,hvi',hwi',by omega,hR⟩
     | false =>
      rw[if_neg (fun q=>absurd (hiff.mpr q) Bool.false_ne_true)] at hR
      have hri:=Zk9 A.in1 ⟨hp,g,d,tk,os⟩ a t c u prog w
      wp_walk using hri
      exact⟨_,rfl,by simpa using hR⟩
  case fin =>
   rintro⟨b1,b2⟩ s' ⟨hb',rfl,vs,ws,ns',ms',hz,hvi,hwi,hlen,hR⟩
   simp only at hb'
   subst hb'
   have hv:lexLt ns' ms'=decide (items.size<items2.size):=by
    cases hvi with
    | nil =>
     cases hwi with
     | nil =>
      simp only [List.length_nil] at hlen
      rw[lexLt_nil_nil]
      exact(decide_eq_false (by omega)).symm
     | cons c u hw =>
      simp only [List.length_nil,List.length_cons] at hlen
      rw[Zcm]
      exact(decide_eq_true (by omega)).symm
    | cons a t hv =>
     cases hwi with
     | nil =>
      simp only [List.length_nil,List.length_cons] at hlen
      rw[Zcn]
      exact(decide_eq_false (by omega)).symm
     | cons c u hw =>
      rw[List.zip_cons_cons] at hz
      cases hz
   rw[hv] at hR
   wp_walk
   exact⟨_,rfl,by simpa [Builtin.Tuple.tupleCompareSizes] using hR⟩
  case h =>
   exact⟨rfl,rfl,items.toList,items2.toList,ns,ms,rfl,hi,hj,by omega,h⟩
end
section
variable {prog:Program}{w:World}{A:Around}{E:Value->Shared->Prop}{s:Shared}
theorem lt_tupInts {l b:Addr}{items items2:Array Value}{ns ms:List Int}{Q:Value->Shared->Prop}(hl:IsTup s.heap l items) (hb:IsTup s.heap b items2) (hi:IntsAre items.toList ns) (hj:IntsAre items2.toList ms)
  (hu:A.units<cLine) (h:Q (.bool (lexLt ns ms)) s):wpAny (model prog w) A (compareOp .Lt (.ref l) (.ref b)) Q E s:=by
 obtain⟨⟨cls,dd,data,sl⟩,ho,hc,n,hd⟩:=id hl
 obtain⟨⟨cls2,dd2,data2,sl2⟩,ho2,hc2,n2,hd2⟩:=id hb
 simp only at hc hd hc2 hd2
 subst hc hd hc2 hd2
 exact richCompare_meets_room (op:=.Lt) ⟨_,ho,rfl⟩ ⟨_,ho2,rfl⟩ PySem.F.slot_tuple_lt PySem.F.entry_tuple_lt (PySem.F.args_tuple_lt_2 _ _) (Zdb l b items items2 n n2 dd dd2 sl sl2 ns ms hi hj)
  ⟨ho,ho2,show Value.bool (lexLt ns ms)≠Value.notImplemented/\Q (.bool (lexLt ns ms)) s from ⟨(fun x=>nomatch x),h⟩⟩ hu
def sIx (n d:Nat):Option Int->Nat
 | none=>d
 | some v=>if v<0 then (v+(n:Int)).toNat else min v.toNat n
theorem sIx_none (n d:Nat):sIx n d none=d:=rfl
theorem sIx_nat (n d k:Nat):sIx n d (some (k:Int))=min k n:=by
 show (if (k:Int)<0 then ((k:Int)+(n:Int)).toNat else min (k:Int).toNat n)=min k n
 rw[if_neg (by omega),Int.toNat_natCast]
end
end HT
namespace L2
open PySem PySem.Spec PyProof.Rows
abbrev TO:=St->Hp->(Option Int->Hp->Prop)->Prop
def PO (X:Cx) (e:Option Expr) (t:TO):Prop :=
 ∀ (pins:List (Addr × Obj)) (s:Shared) (σ:St) (H:Hp) (Q:Option Int->Hp->Prop),Inv X pins σ H s->t σ H Q ->
  wpAny (model X.prog X.w) X.A (evalPart e X.env) (fun u s'=>∃ o H',Inv X pins σ H' s'/\IsPart u o/\Q o H') X.xe s
def Zoc:TO:=fun _ H Q=>Q none H
def Zst (t:TE):TO:=fun σ H Q=>t σ H fun x H1=>∃ i,x=.int i/\Q (some i) H1
theorem Zc1 {ns:List Int}:∀ {us:List Value},Vals (ns.map V.int) us->IntsAre us ns:=by
 induction ns with
 | nil=>intro us r;rw[List.map_nil] at r;cases r;exact .nil
 | cons n ns ih =>
  intro us r
  rw[List.map_cons] at r
  cases r with
  | cons r1 r2 =>
   obtain⟨t,e⟩:=r1
   subst e
   exact .cons n t (ih r2)
section
variable {X:Cx}{e:Expr}{te:TE}{lo hi:Option Expr}{tl th:TO}{pos p2:Pos}
theorem Zak:PO X none Zoc:=by
 intro pins s σ H Q I h
 rw[evalPart_none]
 exact wpAny_pure ⟨none,H,I,.none,h⟩
theorem Jb (h:PE X e te):PO X (some e) (Zst te):=by
 intro pins s σ H Q I hw
 rw[evalPart_some]
 refine thn (h pins s σ H _ I hw) fun u s1 ⟨x,H1,I1,r1,q1⟩=>?_
 obtain⟨i,rfl,q⟩:=q1
 obtain⟨t,rfl⟩:=r1
 exact⟨some i,H1,I1,.int i t,q⟩
def SlR (X:Cx) (r:V->Option Int->Option Int->Hp->VK->Prop):Prop :=
 ∀ (pins:List (Addr × Obj)) (s:Shared) (σ:St) (H:Hp) (x:V) (v vl vu:Value) (lo hi:Option Int) (sl:Addr) (Q:VK),Inv X pins σ H s->RelV x v->s.heap.IsSliceOf sl vl vu .none->IsPart vl lo->IsPart vu hi->r x lo hi H Q ->
  ∃ T id,typeLookup (.type T) "__getitem__" = pure (some (.builtin id))/\s.TypeIs v T/\wpAny (model X.prog X.w) X.A (getItem v (.ref sl)) (EP X pins σ Q) X.xe s
theorem SlR.or {r r':V->Option Int->Option Int->Hp->VK->Prop}(h:SlR X r) (h':SlR X r'):SlR X (fun x lo hi H Q=>r x lo hi H Q\/r' x lo hi H Q):=by
 intro pins s σ H x v vl vu lo hi sl Q I rx hs pl pu q
 rcases q with q|q
 ·exact h pins s σ H x v vl vu lo hi sl Q I rx hs pl pu q
 ·exact h' pins s σ H x v vl vu lo hi sl Q I rx hs pl pu q
def tSl (r:V->Option Int->Option Int->Hp->VK->Prop) (te:TE) (tl th:TO):TE:=fun σ H Q=>te σ H fun x H1=>tl σ H1 fun l H2=>th σ H2 fun u H3=>r x l u H3 Q
theorem Jo {r:V->Option Int->Option Int->Hp->VK->Prop}(hr:SlR X r) (he:PE X e te) (hl:PO X lo tl) (hu:PO X hi th):PE X (.Subscript e (.Slice lo hi none p2) pos) (tSl r te tl th):=by
 intro pins s σ H Q I h
 refine Subscript_ (thn (he pins s σ H _ I h) fun v s1 ⟨x,H1,I1,r1,q1⟩=>?_)
 refine wpAny_Slice (thn (hl pins s1 σ H1 _ I1 q1) fun vl s2 ⟨l,H2,I2,pl,q2⟩=>thn (hu pins s2 σ H2 _ I2 q2) fun vu s3 ⟨u,H3,I3,pu,q3⟩=>?_)
 rw[evalPart_none]
 refine wpAny_pure ?_
 have I4:Inv X pins σ H3 { s3 with heap:=s3.heap.push { cls:=.type "slice",data:=.fields #[vl,vu,.none] } }:=I3.kept (t':=s3.toks) fun b ob q=>Heap.get?_push_of_some _ q
 obtain⟨T,id,hT,ht,hg⟩:=hr pins { s3 with heap:=s3.heap.push { cls:=.type "slice",data:=.fields #[vl,vu,.none] } } σ H3 x v vl vu l u s3.heap.objs.size Q I4 r1 (Heap.IsSliceOf.new ..) pl pu q3
 show wpAny (model X.prog X.w) X.A (subscriptTail e (.Slice lo hi none p2) v (.ref s3.heap.objs.size)) (EP X pins σ Q) X.xe { s3 with heap:=s3.heap.push { cls:=.type "slice",data:=.fields #[vl,vu,.none] } }
 exact tail_any (ops:=[.ref s3.heap.objs.size,v]) ht hT hg (by with_unfolding_all rfl)
def cutV (xs:List V) (lo hi:Option Int):List V:=(xs.drop (HT.sIx xs.length 0 lo)).take (HT.sIx xs.length xs.length hi - HT.sIx xs.length 0 lo)
theorem Zfz (xs:List V) (lo hi:Option Int):(cutV xs lo hi).length<=xs.length:=by
 unfold cutV
 rw[List.length_take,List.length_drop]
 omega
def rLtT (K:PySem.W.Frag):R2:=fun x y H Q=>∃ a b ns ms,x=.ref a/\y=.ref b/\SqT K H a (ns.map V.int)/\SqT K H b (ms.map V.int)/\Q (.bl (HT.lexLt ns ms)) H
theorem Zrg (hu:X.A.units<cLine):OpR X (compareOp .Lt) (rLtT X.K):=by
 intro pins s σ H x y v u Q I rx ry h
 obtain⟨a,b,ns,ms,rfl,rfl,ha,hb,q⟩:=h
 cases rx
 cases ry
 obtain⟨its,r1,p1,_⟩:=I.tuple ha
 obtain⟨its2,r2,p2,_⟩:=I.tuple hb
 have i1:IntsAre its.toArray.toList ns:=Zc1 r1
 have i2:IntsAre its2.toArray.toList ms:=Zc1 r2
 exact HT.lt_tupInts p1 p2 i1 i2 hu ⟨.bl (HT.lexLt ns ms),H,I,rfl,q⟩
end
end L2
namespace L2
open PySem PySem.Spec PyProof.Rows
def ixN (n:Nat) (i:Int):Option Nat:=if 0<=i then (if i<n then some i.toNat else none) else if -(n:Int)<=i then some (i+n).toNat else none
def atI {α:Type}(xs:List α) (i:Int):Option α:=(ixN xs.length i).bind fun j=>xs[j]?
theorem Zjp {n:Nat}{i:Int}{j:Nat}(h:ixN n i=some j):seqIndex? i n=some j/\j<n /\ -(n:Int)<=i/\i<n:=by
 unfold ixN at h
 by_cases h0:0<=i
 ·rw[if_pos h0] at h
  by_cases h1:i<n
  ·rw[if_pos h1] at h
   have e:i.toNat=j:=Option.some.inj h
   exact⟨by rw[seqIndex_of h0 h1,e],by omega,by omega,h1⟩
  ·rw[if_neg h1] at h;cases h
 ·rw[if_neg h0] at h
  by_cases h1 : -(n:Int)<=i
  ·rw[if_pos h1] at h
   have e:(i+n).toNat=j:=Option.some.inj h
   exact⟨by rw[seqIndex_neg (by omega) h1,e],by omega,h1,by omega⟩
  ·rw[if_neg h1] at h;cases h
theorem Zkp {α:Type}{xs:List α}{i:Int}{v:α}(h:atI xs i=some v):∃ j,seqIndex? i xs.length=some j/\xs[j]?=some v/\j<xs.length /\ -(xs.length:Int)<=i/\i<xs.length:=by
 unfold atI at h
 cases e:ixN xs.length i with
 | none=>rw[e] at h;cases h
 | some j =>
  rw[e] at h
  obtain⟨h1,h2,h3,h4⟩:=Zjp e
  exact⟨j,h1,h,h2,h3,h4⟩
theorem Zcj {α:Type}{xs:List α}{j:Nat}{v:α}(h:xs[j]?=some v):atI xs (j:Int)=some v:=by
 have hj:j<xs.length:=(List.getElem?_eq_some_iff.mp h).1
 have e:ixN xs.length (j:Int)=some j:=by
  unfold ixN
  rw[if_pos (by omega),if_pos (by omega)];simp
 unfold atI;rw[e];exact h
def Zku (b:Expr):Prop:=∀ o i,subscripted b false o i=operate [o,i] (getItem o i)
def IxR (X:Cx) (r:R2):Prop :=
 ∀ (value slice:Expr) (pins:List (Addr × Obj)) (s:Shared) (σ:St) (H:Hp) (x y:V) (v u:Value) (Q:VK),Inv X pins σ H s->RelV x v->RelV y u->r x y H Q ->
  subscripted slice false v u=operate [v,u] (getItem v u)->wpAny (model X.prog X.w) X.A (subscriptTail value slice v u) (EP X pins σ Q) X.xe s
def MtR (X:Cx) (id:String) (r:V->List V->Hp->VK->Prop):Prop :=
 ∀ (pins:List (Addr × Obj)) (s:Shared) (σ:St) (H:Hp) (x:V) (xs:List V) (v:Value) (us:List Value) (Q:VK),Inv X pins σ H s->RelV x v->Vals xs us->r x xs H Q ->
  wpAny (model X.prog X.w) X.A (call (.builtin id) (v::us)) (EP X pins σ Q) X.xe s
section
variable {X:Cx}{a b:Expr}{ta tb:TE}{pos:Pos}
theorem IxR.or {r r':R2}(h:IxR X r) (h':IxR X r'):IxR X (fun x y H Q=>r x y H Q\/r' x y H Q):=by
 intro value slice pins s σ H x y v u Q I rx ry q hs
 rcases q with q|q
 ·exact h value slice pins s σ H x y v u Q I rx ry q hs
 ·exact h' value slice pins s σ H x y v u Q I rx ry q hs
theorem MtR.or {id:String}{r r':V->List V->Hp->VK->Prop}(h:MtR X id r) (h':MtR X id r'):MtR X id (fun x xs H Q=>r x xs H Q\/r' x xs H Q):=by
 intro pins s σ H x xs v us Q I rx rs q
 rcases q with q|q
 ·exact h pins s σ H x xs v us Q I rx rs q
 ·exact h' pins s σ H x xs v us Q I rx rs q
theorem Zr {r:R2}(hr:IxR X r) (ha:PE X a ta) (hb:PE X b tb) (hs:Zku b):PE X (.Subscript a b pos) (tOp r ta tb):=by
 intro pins s σ H Q I h
 exact Subscript_ (binT ha hb I h fun v u s2 x y H2 I2 rx ry q=>hr a b pins s2 σ H2 x y v u Q I2 rx ry q (hs _ _))
def rIxL (K:PySem.W.Frag):R2:=fun x y H Q=>∃ p xs i v,x=.ref p/\y=.int i/\SqL K H p xs/\atI xs i=some v/\Q v H
def rIxT (K:PySem.W.Frag):R2:=fun x y H Q=>∃ p xs i v,x=.ref p/\y=.int i/\SqT K H p xs/\atI xs i=some v/\Q v H
theorem Z9:IxR X (rIxL X.K):=by
 intro value slice pins s σ H x y v u Q I rx ry h hs
 obtain⟨p,xs,i,z,rfl,rfl,hq,he,q⟩:=h
 cases rx
 obtain⟨t,rfl⟩:=ry
 obtain⟨its,r,pl,hz⟩:=I.list hq
 obtain⟨j,h1,h2,h3,h4,h5⟩:=Zkp he
 obtain⟨w,ew,rw'⟩:=r.get h2
 have hl:=r.length
 have hn:=Zek
 have fin:EP X pins σ Q w s:=⟨z,H,I,rw',q⟩
 by_cases h0:0<=i
 ·have hj:i.toNat=j:=by
   rw[seqIndex_of h0 h5] at h1
   exact Option.some.inj h1
  exact item_listR pl.isList h0 (by omega) (by rw[hj];simpa using ew) fin hs
 ·have hj:(i+(its.toArray.size:Int)).toNat=j:=by
   rw[seqIndex_neg (by omega) h4] at h1
   rw[List.size_toArray,← hl]
   exact Option.some.inj h1
  exact subscriptTail_builtinR (x:=w) pl.isList.typeIs slot_list_getitem.lookup
   (wpAny_getItem_list_neg (Q:=fun r s'=>r=w/\EP X pins σ Q r s') pl.isList (by omega) (by rw[List.size_toArray]<;>omega) (by omega) (by rw[hj];simpa using ew) ⟨rfl,fin⟩) hs
theorem Zx:IxR X (rIxT X.K):=by
 intro value slice pins s σ H x y v u Q I rx ry h hs
 obtain⟨p,xs,i,z,rfl,rfl,hq,he,q⟩:=h
 cases rx
 obtain⟨t,rfl⟩:=ry
 obtain⟨its,r,pl,hz⟩:=I.tuple hq
 obtain⟨j,h1,h2,h3,h4,h5⟩:=Zkp he
 obtain⟨w,ew,rw'⟩:=r.get h2
 have hl:=r.length
 have hn:=Zek
 have fin:EP X pins σ Q w s:=⟨z,H,I,rw',q⟩
 exact subscriptTail_builtinR (x:=w) pl.typeIs slot_tuple_getitem.lookup
  (getItem_tuple (j:=j) (Q:=fun r s'=>r=w/\EP X pins σ Q r s') pl (by omega) (by omega) (by rw[List.size_toArray,← hl];exact h1) (by simpa using ew) ⟨rfl,fin⟩) hs
theorem Zhb (its:List Value) (n j:Nat) (u:Value):Obj.mapSeq (·.setIfInBounds j u) { cls:=.type "list",data:=.seq its.toArray n }={ cls:=.type "list",data:=.seq (its.set j u).toArray n }:=by
 simp[Obj.mapSeq]
theorem Inv.lst {pins:List (Addr × Obj)}{σ:St}{H:Hp}{s:Shared}{p:Addr}{xs:List V}(I:Inv X pins σ H s) (h:H p=some (.lst xs)) :
  ∃ (its:List Value) (n:Nat),Vals xs its/\s.heap.get? p=some { cls:=.type "list",data:=.seq its.toArray n }/\xs.length<=sizeLine:=by
 obtain⟨z,its,n,r,e⟩:=I.hok p _ h
 exact⟨its,n,r,e,z⟩
theorem Inv.lstUpd {pins:List (Addr × Obj)}{σ:St}{H:Hp}{s:Shared}{p:Addr}{xs ys:List V}{its its':List Value}{n n':Nat}{f:Obj->Obj}(I:Inv X pins σ H s) (h:H p=some (.lst xs))
  (ho:s.heap.get? p=some { cls:=.type "list",data:=.seq its.toArray n }) (hf:f { cls:=.type "list",data:=.seq its.toArray n }={ cls:=.type "list",data:=.seq its'.toArray n' }) (r:Vals ys its') (hz:ys.length<=sizeLine) (t:Nat) :
  Inv X pins σ (upd H p (.lst ys)) { s with heap:=s.heap.update p f,toks:=t }:=by
 have e:(s.heap.update p f).get? p=some { cls:=.type "list",data:=.seq its'.toArray n' }:=by
  rw[Heap.get?_update_self f ho (by rw[hf]<;>rfl),hf]
 refine I.write (x:=p) (e:=p) (by rw[h];trivial) (.inl rfl) (fun b u hb q=>(Heap.get?_update_other _ _ (Ne.symm hb)).trans q) ⟨_,e⟩ ?_
 exact⟨hz,its',n',r,e⟩
def Zs7:V->V->V->Hp->(Hp->Prop)->Prop:=fun o i v H Q=>∃ p xs k j,o=.ref p/\i=.int k/\H p=some (.lst xs)/\ixN xs.length k=some j/\Q (upd H p (.lst (xs.set j v)))
theorem Zk4:PSet X Zs7:=by
 intro pins s σ H o i v ov iv u Q I ro ri rv h
 obtain⟨p,xs,k,j,rfl,rfl,hp,hj,q⟩:=h
 cases ro
 obtain⟨t,rfl⟩:=ri
 obtain⟨its,n,r,ho,hz⟩:=I.lst hp
 obtain⟨h1,h2,h3,h4⟩:=Zjp hj
 have hl:=r.length
 have hn:=Zek
 have I':Inv X pins σ (upd H p (.lst (xs.set j v))) { s with heap:=s.heap.update p (Obj.mapSeq (·.setIfInBounds j u)) } :=
  I.lstUpd hp ho (Zhb its n j u) (r.set rv j) (by rw[List.length_set];exact hz) s.toks
 by_cases h0:0<=k
 ·have hk:k.toNat=j:=by
   rw[seqIndex_of h0 h4] at h1
   exact Option.some.inj h1
  exact PySem.W.ki_setAt ho h0 (by omega) (by rw[List.size_toArray,← hl];exact h4) (by rw[hk];exact⟨_,I',q⟩)
 ·have hk:(k+(its.toArray.size:Int)).toNat=j:=by
   rw[seqIndex_neg (by omega) h3] at h1
   rw[List.size_toArray,← hl]
   exact Option.some.inj h1
  exact PySem.W.ki_setBack ho (by omega) (by rw[List.size_toArray,← hl];exact h3) (by omega) (by rw[hk];exact⟨_,I',q⟩)
theorem Zea (lo hi:Option Int) (n:Nat):(sliceBounds lo hi none n).1=((HT.sIx n 0 lo:Nat):Int)/\(sliceBounds lo hi none n).2.1=((HT.sIx n n hi:Nat):Int)/\(sliceBounds lo hi none n).2.2=1:=by
 refine⟨?_,?_,rfl⟩
 ·cases lo with
  | none=>simp[sliceBounds,HT.sIx]
  | some i =>
   simp only [sliceBounds,HT.sIx,Option.getD_none,show (1:Int) > 0 by decide,if_true]
   by_cases h:i<0
   ·simp only [h,if_true]<;>omega
   ·simp only [h,if_false]<;>omega
 ·cases hi with
  | none=>simp[sliceBounds,HT.sIx]
  | some i =>
   simp only [sliceBounds,HT.sIx,Option.getD_none,show (1:Int) > 0 by decide,if_true]
   by_cases h:i<0
   ·simp only [h,if_true]<;>omega
   ·simp only [h,if_false]<;>omega
theorem Zdh (its:List Value) (lo hi:Option Int):slicePick its.toArray lo hi none=((its.drop (HT.sIx its.length 0 lo)).take (HT.sIx its.length its.length hi - HT.sIx its.length 0 lo)).toArray:=by
 obtain⟨h1,h2,h3⟩:=Zea lo hi its.toArray.size
 unfold slicePick
 rw[h1,h2,h3]
 simp only [sliceRange_one,pick_run,List.size_toArray]<;>rfl
def rSlL (K:PySem.W.Frag):V->Option Int->Option Int->Hp->VK->Prop:=fun x lo hi H Q=>∃ a xs,x=.ref a/\SqL K H a xs/\∀ p,H p=none->Q (.ref p) (upd H p (.lst (cutV xs lo hi)))
theorem Jm:SlR X (rSlL X.K):=by
 intro pins s σ H x v vl vu lo hi sl Q I rx hs pl pu h
 obtain⟨a,xs,rfl,hx,q⟩:=h
 cases rx
 obtain⟨its,r,ht,hz⟩:=I.list hx
 have hlen:=r.length
 refine⟨"list",_,slot_list_getitem.lookup,ht.isList.typeIs,?_⟩
 refine wpAny_getItem_list_slice ht.isList hs pl pu .none (by simp) ?_ (by rw[List.size_toArray]<;>omega)
 rw[Zdh,← hlen]
 refine⟨.ref s.heap.objs.size,_,I.laid (t':=s.toks) (o:=.lst (cutV xs lo hi)) (fun b ob q=>Heap.get?_push_of_some _ q) (Nat.le_refl _) ?_,rfl,q _ (I.hok.fresh (Nat.le_refl _))⟩
 exact⟨Nat.le_trans (Zfz xs lo hi) hz,_,0,(r.drop (HT.sIx xs.length 0 lo)).take (HT.sIx xs.length xs.length hi - HT.sIx xs.length 0 lo),Heap.get?_push_size _ rfl⟩
def Zdx:V->Bool
 | .non=>true
 | .bl _=>true
 | .int _=>true
 | .str _=>true
 | _=>false
def eqV:V->V->Bool
 | .non,.non=>true
 | .bl a,.bl b=>a == b
 | .bl a,.int b=>(if a then 1 else 0) == b
 | .int a,.bl b=>a == (if b then 1 else 0)
 | .int a,.int b=>a == b
 | .str a,.str b=>a == b
 | _,_=>false
theorem Zsf {A:Around}{s:Shared}{y x:V}{u v:Value}(ry:RelV y u) (rx:RelV x v) (fy:Zdx y=true) (fx:Zdx x=true):SeqAt.EqAt A s u v (eqV y x):=by
 cases y with
 | non =>
  cases ry
  cases x with
  | non=>cases rx;exact SeqAt.EqAt.same _
  | bl b=>cases rx;exact SeqAt.EqAt.none_bool b
  | int b=>obtain⟨t,rfl⟩:=rx;exact SeqAt.EqAt.none_int b t
  | str b=>obtain⟨t,rfl⟩:=rx;exact SeqAt.EqAt.none_str b t
  | _=>exact absurd (show false=true from fx) Bool.false_ne_true
 | bl a =>
  cases ry
  cases x with
  | non=>cases rx;exact SeqAt.EqAt.bool_none a
  | bl b=>cases rx;exact SeqAt.EqAt.bool_bool a b
  | int b=>obtain⟨t,rfl⟩:=rx;exact SeqAt.EqAt.bool_int a b t
  | str b=>obtain⟨t,rfl⟩:=rx;exact SeqAt.EqAt.bool_str a b t
  | _=>exact absurd (show false=true from fx) Bool.false_ne_true
 | int a =>
  obtain⟨t',rfl⟩:=ry
  cases x with
  | non=>cases rx;exact SeqAt.EqAt.int_none a t'
  | bl b=>cases rx;exact SeqAt.EqAt.int_bool a t' b
  | int b=>obtain⟨t,rfl⟩:=rx;exact SeqAt.EqAt.int_int a t' b t
  | str b=>obtain⟨t,rfl⟩:=rx;exact SeqAt.EqAt.int_str a t' b t
  | _=>exact absurd (show false=true from fx) Bool.false_ne_true
 | str a =>
  obtain⟨t',rfl⟩:=ry
  cases x with
  | non=>cases rx;exact SeqAt.EqAt.str_none a t'
  | bl b=>cases rx;exact SeqAt.EqAt.str_bool a t' b
  | int b=>obtain⟨t,rfl⟩:=rx;exact SeqAt.EqAt.str_int a t' b t
  | str b=>obtain⟨t,rfl⟩:=rx;exact SeqAt.EqAt.str_str a t' b t
  | _=>exact absurd (show false=true from fx) Bool.false_ne_true
 | _=>exact absurd (show false=true from fy) Bool.false_ne_true
def eqU (x:V) (u:Value):Bool:=match u with
 | .none=>eqV .non x
 | .bool b=>eqV (.bl b) x
 | .int i _=>eqV (.int i) x
 | .str z _=>eqV (.str z) x
 | _=>false
theorem Znx {x y:V}{u:Value}(r:RelV y u) (f:Zdx y=true):eqU x u=eqV y x:=by
 cases y with
 | non=>cases r;rfl
 | bl b=>cases r;rfl
 | int i=>obtain⟨t,rfl⟩:=r;rfl
 | str z=>obtain⟨t,rfl⟩:=r;rfl
 | _=>exact absurd (show false=true from f) Bool.false_ne_true
theorem Zf0 {x:V}:∀ {xs:List V}{us:List Value},Vals xs us->xs.all Zdx=true->us.any (eqU x)=xs.any fun y=>eqV y x
 | _,_,.nil,_=>rfl
 | y::xs,u::us,.cons r t,f=>by
  rw[List.all_cons,Bool.and_eq_true] at f
  rw[List.any_cons,List.any_cons,Znx r f.1,Zf0 t f.2]
theorem Zdr {A:Around}{s:Shared}{x:V}{v:Value}(rx:RelV x v) (fx:Zdx x=true):∀ {xs:List V}{us:List Value},Vals xs us->xs.all Zdx=true->∀ u∈us,SeqAt.EqAt A s u v (eqU x u)
 | _,_,.nil,_=>fun u hu=>by cases hu
 | y::xs,u::us,.cons r t,f=>fun u' hu=>by
  rw[List.all_cons,Bool.and_eq_true] at f
  rcases List.mem_cons.mp hu with rfl|hu
  ·rw[Znx r f.1];exact Zsf r rx f.1 fx
  ·exact Zdr rx fx t f.2 u' hu
def inV (x:V) (xs:List V):Bool:=xs.any fun y=>eqV y x
def rIn (K:PySem.W.Frag) (neg:Bool):R2:=fun x y H Q=>∃ p xs,y=.ref p/\(SqL K H p xs\/SqT K H p xs)/\Zdx x=true/\xs.all Zdx=true/\Q (.bl (if neg then !inV x xs else inV x xs)) H
theorem Zef:OpR X (compareOp .In) (rIn X.K false):=by
 intro pins s σ H x y v u Q I rx ry h
 obtain⟨p,xs,rfl,hq,fx,fs,q⟩:=h
 cases ry
 rcases hq with hq|hq
 ·obtain⟨its,r,pl,hz⟩:=I.list hq
  refine SeqAt.in_listAt (eqU x) pl.isList (fun w hw=>Zdr rx fx r fs w (by simpa using hw)) ⟨.bl _,H,I,rfl,?_⟩
  rw[show its.toArray.any (eqU x)=its.any (eqU x) by simp,Zf0 r fs]
  exact q
 ·obtain⟨its,r,pl,hz⟩:=I.tuple hq
  refine SeqAt.in_tupleAt (eqU x) pl (fun w hw=>Zdr rx fx r fs w (by simpa using hw)) ⟨.bl _,H,I,rfl,?_⟩
  rw[show its.toArray.any (eqU x)=its.any (eqU x) by simp,Zf0 r fs]
  exact q
theorem Ze7:CallR X (.builtin "len") (fun xs H Q=>∃ p ys,xs=[.ref p]/\(SqL X.K H p ys\/SqT X.K H p ys)/\Q (.int ys.length) H):=by
 intro pins s σ H xs us Q I r h
 obtain⟨p,ys,rfl,hq,q⟩:=h
 obtain⟨u,rfl,rx⟩:=Zff r
 cases rx
 have hn:=Zek
 rcases hq with hq|hq
 ·obtain⟨its,r',pl,hz⟩:=I.list hq
  have hlen:=r'.length
  exact Calls.call_len_list pl.isList (by simp only [List.size_toArray]<;>omega) ⟨.int ys.length,H,I.tok _,⟨s.toks+1,by rw[List.size_toArray,hlen]⟩,q⟩
 ·obtain⟨its,r',pl,hz⟩:=I.tuple hq
  have hlen:=r'.length
  exact len_tuple pl (by simp only [List.size_toArray]<;>omega) ⟨.int ys.length,H,I.tok _,⟨s.toks+1,by rw[List.size_toArray,hlen]⟩,q⟩
theorem CallR.or {f:Value}{r r':List V->Hp->VK->Prop}(h:CallR X f r) (h':CallR X f r'):CallR X f (fun xs H Q=>r xs H Q\/r' xs H Q):=by
 intro pins s σ H xs us Q I rs q
 rcases q with q|q
 ·exact h pins s σ H xs us Q I rs q
 ·exact h' pins s σ H xs us Q I rs q
theorem Ze6:CallR X (.type "list") (fun xs H Q=>∃ p ys,xs=[.ref p]/\(SqL X.K H p ys\/SqT X.K H p ys)/\∀ l,H l=none->Q (.ref l) (upd H l (.lst ys))):=by
 intro pins s σ H xs us Q I r h
 obtain⟨p,ys,rfl,hq,q⟩:=h
 obtain⟨u,rfl,rx⟩:=Zff r
 cases rx
 have fin:∀ (its:List Value),Vals ys its->ys.length<=sizeLine->∀ (h':Heap) (c':Nat),(∀ b o',s.heap.get? b=some o'->h'.get? b=some o') ->
   h'.get? s.heap.objs.size=some { cls:=.type "list",dict:=none,data:=.seq its.toArray c',slots:=#[] }->EP X pins σ Q (.ref s.heap.objs.size) { s with heap:=h' }:=fun its r' hz h' c' kp e =>
  ⟨.ref s.heap.objs.size,_,I.laid (t':=s.toks) kp (Nat.le_refl _) (show ObjOk X.prog X.w _ h' _ (.lst ys) from ⟨hz,its,c',r',e⟩),rfl,q _ (I.hok.fresh (Nat.le_refl _))⟩
 rcases hq with hq|hq
 ·obtain⟨its,r',pl,hz⟩:=I.list hq
  have hlen:=r'.length
  obtain⟨o,ho,hc,n,hd⟩:=pl.isList
  exact call_list_seq p (.inl rfl) ho hc hd (fun h' c' kp e=>fin its r' hz h' c' kp e) (by simp only [List.size_toArray]<;>omega)
 ·obtain⟨its,r',pl,hz⟩:=I.tuple hq
  have hlen:=r'.length
  obtain⟨o,ho,hc,n,hd⟩:=pl
  exact call_list_seq p (.inr rfl) ho hc hd (fun h' c' kp e=>fin its r' hz h' c' kp e) (by simp only [List.size_toArray]<;>omega)
def tyV (K:PySem.W.Frag) (T:String) (x:V) (H:Hp):Prop:=match x with
 | .str _=>T = "str"
 | .int _=>T = "int"
 | .ref p=>(T = "list" /\ ∃ xs,SqL K H p xs)\/(T = "tuple" /\ ∃ o,K.lookup p=some o/\o.cls=.type "tuple" /\ o.dict=none) \/
   (T = "dict" /\ ((∃ kvs,H p=some (.dK kvs))\/∃ kvs,H p=some (.dT kvs)))\/(T = "set" /\ ∃ S n,H p=some (.set S n))
 | _=>False
theorem Zmn {pins:List (Addr × Obj)}{σ:St}{H:Hp}{s:Shared}{T:String}{x:V}{v:Value}(I:Inv X pins σ H s) (r:RelV x v) (ty:tyV X.K T x H) :
  s.TypeIs v T/\∀ a,v=.ref a->∃ ob,s.heap.get? a=some ob/\ob.dict=none:=by
 cases x with
 | str z =>
  obtain⟨t,rfl⟩:=r
  cases (show T = "str" from ty)
  exact⟨typeIs_str s z t,fun _ e=>nomatch e⟩
 | int i =>
  obtain⟨t,rfl⟩:=r
  cases (show T = "int" from ty)
  exact⟨typeIs_int s i t,fun _ e=>nomatch e⟩
 | ref p =>
  cases r
  rcases ty with ⟨rfl,xs,hq⟩|⟨rfl,o,hk,hc,hd⟩|⟨rfl,hk⟩|⟨rfl,S,n,hk⟩
  ·obtain⟨its,_,pl,_⟩:=I.list hq
   refine⟨pl.isList.typeIs,fun a e=>?_⟩
   cases e
   obtain⟨o,n,e,c,hd,_⟩:=pl
   exact⟨o,e,hd⟩
  ·refine⟨⟨o,I.kIn p o hk,hc⟩,fun a e=>?_⟩
   cases e
   exact⟨o,I.kIn _ o hk,hd⟩
  ·have z:∃ o,s.heap.get? p=some o/\o.ExactDict:=by
    rcases hk with ⟨kvs,hk⟩|⟨kvs,hk⟩
    ·obtain⟨_,_,_,_,o,_,_,e,ex,_⟩:=I.hok p _ hk
     exact⟨o,e,ex⟩
    ·obtain⟨_,_,_,_,o,_,_,e,ex,_⟩:=I.hok p _ hk
     exact⟨o,e,ex⟩
   obtain⟨o,e,ex⟩:=z
   refine⟨⟨o,e,ex.1⟩,fun a e2=>?_⟩
   cases e2
   exact⟨o,e,ex.2.1⟩
  ·obtain⟨o,_,_,_,e,ex,_⟩:=I.hok p _ hk
   refine⟨⟨o,e,ex.1⟩,fun a e2=>?_⟩
   cases e2
   exact⟨o,e,ex.2.1⟩
 | _=>exact False.elim ty
def tBM0 (K:PySem.W.Frag) (T:String) (r:V->List V->Hp->VK->Prop) (to:TE):TE:=fun σ H Q=>to σ H fun x H1=>tyV K T x H1/\r x [] H1 Q
def tBM (K:PySem.W.Frag) (T:String) (r:V->List V->Hp->VK->Prop) (to:TE) (t:TA):TE:=fun σ H Q=>to σ H fun x H1=>tyV K T x H1/\t σ H1 fun xs H2=>r x xs H2 Q
variable {o e:Expr}{es:List Expr}{to:TE}{t:TA}{name:Str}{apos cpos:Pos}{T id:String}{r:V->List V->Hp->VK->Prop}
theorem Znf (pa:PlainAttrs T) (slot:Slot T name id) (hty:typeOf (.builtin id)=pure (.type "method_descriptor")) (hm:MtR X id r) (ho:PE X o to)
  (hbase:attributeBase o name X.env (eval o X.env)=eval o X.env:=by rfl) (hline:(apos.endLine == cpos.line)=true:=by rfl):PE X (.Call (.Attribute o name apos) [] [] cpos) (tBM0 X.K T r to):=by
 intro pins s σ H Q I h
 refine wpAny_Call_method0_late hbase hline (thn (ho pins s σ H _ I h) fun v s1 ⟨x,H1,I1,r1,ty,q1⟩=>?_)
 obtain⟨h1,h2⟩:=Zmn I1 r1 ty
 exact⟨T,id,pa,slot,hty,h1,h2,Calls.callWith_builtin rfl (PySem.evalArgs_none (hm pins s1 σ H1 x [] v [] Q I1 r1 .nil q1))⟩
theorem Jc (pa:PlainAttrs T) (slot:Slot T name id) (hty:typeOf (.builtin id)=pure (.type "method_descriptor")) (hm:MtR X id r) (ho:PE X o to) (ha:PA X (e::es) t)
  (hbase:attributeBase o name X.env (eval o X.env)=eval o X.env:=by rfl)
  (hfew:((backTo cpos (starEach (e::es) X.env)).all (fun x=>!x.1)&&(backToKw cpos (keywordEach [] X.env)).all (fun x=>x.1.isSome)
    && decide ((e::es).length+([]:List Keyword).length+(if ([]:List Keyword).isEmpty then 0 else 1)<30))=true:=by rfl)
  (hline:(apos.endLine == cpos.line)=true:=by rfl) (hs:starEach (e::es) X.env=(false,eval e X.env)::starEach es X.env:=by rfl) (hplain:(backTo cpos (starEach es X.env)).any (·.1)=false:=by rfl) :
  PE X (.Call (.Attribute o name apos) (e::es) [] cpos) (tBM X.K T r to t):=by
 intro pins s σ H Q I h
 refine wpAny_Call_method_late hbase hfew hline rfl (thn (ho pins s σ H _ I h) fun v s1 ⟨x,H1,I1,r1,ty,q1⟩=>?_)
 obtain⟨h1,h2⟩:=Zmn I1 r1 ty
 refine⟨T,id,pa,slot,hty,h1,h2,?_⟩
 have hA:=ha cpos pins s1 σ H1 _ I1 q1
 rw[hs] at hA ⊢
 refine Calls.callWith_builtin (by show (false||(backTo cpos (starEach es X.env)).any (·.1))=false;rw[hplain]<;>rfl) (Calls.evalArgs_plain ?_)
 exact thn hA fun us s2 ⟨vs,H2,I2,r2,q2⟩=>hm pins s2 σ H2 x vs v us Q I2 r1 r2 q2
end
end L2
namespace L2
open PySem PySem.Spec PyProof.Rows
def MtM (X:Cx) (id:String) (r:V->List V->Hp->VK->Prop):Prop :=
 ∀ (pins:List (Addr × Obj)) (s:Shared) (σ:St) (H:Hp) (x:V) (xs:List V) (v:Value) (us:List Value) (Q:VK),Inv X pins σ H s->RelV x v->Vals xs us->r x xs H Q ->
  wpAny (model X.prog X.w) X.A (call (.builtin id) (v::us)) (EP X pins σ Q) X.xe s
theorem Vals.one:∀ {x:V}{us:List Value},Vals [x] us->∃ u,us=[u]/\RelV x u
 | _,_,.cons r .nil=>⟨_,rfl,r⟩
theorem Vals.two:∀ {x y:V}{us:List Value},Vals [x,y] us->∃ u v,us=[u,v]/\RelV x u/\RelV y v
 | _,_,_,.cons r (.cons q .nil)=>⟨_,_,rfl,r,q⟩
theorem Vals.zero:∀ {us:List Value},Vals [] us->us=[]
 | _,.nil=>rfl
theorem Vals.dropLast {xs:List V}{us:List Value}(h:Vals xs us):Vals xs.dropLast us.dropLast:=by
 induction h with
 | nil=>exact .nil
 | cons r t ih =>
  cases t with
  | nil=>exact .nil
  | cons q t'=>exact .cons r ih
theorem Vals.eraseIdx:∀ {xs:List V}{us:List Value}(i:Nat),Vals xs us->Vals (xs.eraseIdx i) (us.eraseIdx i)
 | _,_,_,.nil=>.nil
 | _,_,0,.cons _ t=>t
 | _,_,i+1,.cons r t=>.cons r (Vals.eraseIdx i t)
theorem Vals.reverse {xs:List V}{us:List Value}(h:Vals xs us):Vals xs.reverse us.reverse:=by
 induction h with
 | nil=>exact .nil
 | cons r t ih=>rw[List.reverse_cons,List.reverse_cons];exact Vals.append ih (.cons r .nil)
theorem Zhq {α:Type}(l:List α):l.eraseIdx (l.length - 1)=l.dropLast:=by
 induction l with
 | nil=>rfl
 | cons a r ih =>
  cases r with
  | nil=>rfl
  | cons b r =>
   have e:(a::b::r).length - 1=((b::r).length - 1)+1:=by
    have h1:(a::b::r).length=r.length+2:=rfl
    have h2:(b::r).length=r.length+1:=rfl
    omega
   rw[e,List.eraseIdx_cons_succ,ih]
   all_goals rfl
theorem Zel {α:Type}:∀ (l:List α) (i:Nat),(l.eraseIdx i).length<=l.length
 | [],_=>Nat.le_refl _
 | _::_,0=>Nat.le_succ _
 | _::r,i+1=>Nat.succ_le_succ (Zel r i)
section
variable {X:Cx}{pins:List (Addr × Obj)}{σ:St}{H:Hp}{s:Shared}{l b:Addr}{xs ys zs:List V}
theorem Inv.lset {its its':List Value}{n:Nat}{f:Array Value->Array Value}{t':Nat}(I:Inv X pins σ H s) (hH:H l=some (.lst xs))
  (e:s.heap.get? l=some { cls:=.type "list",data:=.seq its.toArray n }) (hf:f its.toArray=its'.toArray) (hv:Vals ys its') (hz:ys.length<=sizeLine) :
  Inv X pins σ (upd H l (.lst ys)) { s with heap:=s.heap.update l (Obj.mapSeq f),toks:=t' }:=by
 have q:=PySem.IsL.update e f
 rw[hf] at q
 refine I.write (x:=l) (e:=l) (by rw[hH];exact trivial) (.inl rfl) (fun b' u hb hu=>(Heap.get?_update_other s.heap (Obj.mapSeq f) (Ne.symm hb)).trans hu) ⟨_,q⟩ ?_
 exact⟨hz,its',_,hv,q⟩
theorem Inv.lnew {its:List Value}{t':Nat}(I:Inv X pins σ H s) (hv:Vals ys its) (hz:ys.length<=sizeLine) :
  Inv X pins σ (upd H s.heap.objs.size (.lst ys)) { s with heap:=s.heap.push { cls:=.type "list",data:=.seq its.toArray },toks:=t' } :=
 I.laid (fun _ _ q=>Heap.get?_push_of_some _ q) (Nat.le_refl _) ⟨hz,its,0,hv,Heap.get?_push_size _ rfl⟩
theorem Inv.fresh (I:Inv X pins σ H s):H s.heap.objs.size=none:=I.hok.fresh (Nat.le_refl _)
theorem Inv.lstM (I:Inv X pins σ H s) (hH:H l=some (.lst xs)):xs.length<=sizeLine/\∃ (its:List Value) (n:Nat),Vals xs its/\xs.length=its.length/\s.heap.get? l=some { cls:=.type "list",data:=.seq its.toArray n }:=by
 obtain⟨z,its,n,r,e⟩:=I.hok l _ hH
 exact⟨z,its,n,r,r.length,e⟩
theorem Zlk {n:Nat}(h:n<=sizeLine):Builtin.List.listTooLong n=false:=by
 unfold Builtin.List.listTooLong
 exact decide_eq_false (by omega)
end
section
variable {X:Cx}
def Zox:V->List V->Hp->VK->Prop:=fun x vs H Q=>∃ l xs y,x=.ref l/\vs=[y]/\H l=some (.lst xs)/\xs.length<sizeLine/\Q .non (upd H l (.lst (xs++[y])))
theorem Zac:MtM X "list.append" Zox:=by
 intro pins s σ H x vs v us Q I rx rv h
 obtain⟨l,xs,y,rfl,rfl,hH,hz,q⟩:=h
 cases rx
 obtain⟨u,rfl,ru⟩:=rv.one
 obtain⟨z,its,n,r,hl,e⟩:=I.lstM hH
 refine call_meets F.slot_list_append ⟨_,e,rfl⟩ F.entry_list_append (F.args_list_append_2 _ _) (PySem.list_append l its.toArray n u (by rw[List.size_toArray];omega)) ⟨e,?_⟩
 refine⟨.non,_,I.lset (its':=its++[u]) hH e (by simp) (r.append (.cons ru .nil)) ?_,rfl,q⟩
 rw[List.length_append,List.length_singleton]
 omega
def Zow:V->List V->Hp->VK->Prop:=fun x vs H Q=>∃ l b xs zs,x=.ref l/\vs=[.ref b]/\H l=some (.lst xs)/\H b=some (.lst zs)/\xs.length+zs.length<=sizeLine/\Q .non (upd H l (.lst (xs++zs)))
theorem Zrk:MtM X "list.extend" Zow:=by
 intro pins s σ H x vs v us Q I rx rv h
 obtain⟨l,b,xs,zs,rfl,rfl,hH,hB,hz,q⟩:=h
 cases rx
 obtain⟨u,rfl,ru⟩:=rv.one
 cases ru
 obtain⟨z,its,n,r,hl,e⟩:=I.lstM hH
 obtain⟨z2,its2,n2,r2,hl2,e2⟩:=I.lstM hB
 have hsz:its.toArray.size+its2.toArray.size<=sizeLine:=by rw[List.size_toArray,List.size_toArray];omega
 have hlong:¬ (!its.toArray.isEmpty&&Builtin.List.listTooLong (its.toArray.size+its2.toArray.size))=true:=by
  rw[Zlk hsz,Bool.and_false]
  exact Bool.false_ne_true
 refine call_meets F.slot_list_extend ⟨_,e,rfl⟩ F.entry_list_extend (F.args_list_extend_2 _ _)
  (AutoSeq1.list_extend_list_list_0 l its.toArray n b its2.toArray n2 hlong (by rw[List.size_toArray];omega) (by omega)) ⟨e,e2,?_⟩
 refine⟨.non,_,I.lset (its':=its++its2) hH e (by simp) (r.append r2) ?_,rfl,q⟩
 rw[List.length_append]
 omega
def rPop:V->List V->Hp->VK->Prop:=fun x vs H Q=>∃ l xs y,x=.ref l/\vs=[]/\H l=some (.lst xs)/\xs[xs.length - 1]?=some y/\Q y (upd H l (.lst xs.dropLast))
theorem Znj:MtM X "list.pop" rPop:=by
 intro pins s σ H x vs v us Q I rx rv h
 obtain⟨l,xs,y,rfl,rfl,hH,hy,q⟩:=h
 cases rx
 have hus:=rv.zero
 subst hus
 obtain⟨z,its,n,r,hl,e⟩:=I.lstM hH
 obtain⟨u,hu,ru⟩:=r.get hy
 have hy':its.toArray[its.toArray.size - 1]?=some u:=by
  show its.toArray[its.length - 1]?=some u
  rw[← Array.getElem?_toList,← hl]
  exact hu
 refine call_meets F.slot_list_pop ⟨_,e,rfl⟩ F.entry_list_pop (F.args_list_pop_1 _) (MeetsSeq.list_pop_last l its.toArray n u hy' (by rw[List.size_toArray];omega)) ⟨e,?_⟩
 refine⟨y,_,I.lset (its':=its.dropLast) hH e ?_ r.dropLast ?_,ru,q⟩
 ·show its.toArray.eraseIdxIfInBounds (its.toArray.size - 1)=its.dropLast.toArray
  rw[List.size_toArray,List.eraseIdxIfInBounds_toArray,Zhq]
 ·rw[List.length_dropLast]
  omega
def rCat:R2:=fun x y H Q=>∃ l b xs zs,x=.ref l/\y=.ref b/\H l=some (.lst xs)/\H b=some (.lst zs)/\xs.length+zs.length<=sizeLine/\∀ p,H p=none->Q (.ref p) (upd H p (.lst (xs++zs)))
theorem Zbr:OpR X (binaryOp .Add) rCat:=by
 intro pins s σ H x y v u Q I rx ry h
 obtain⟨l,b,xs,zs,rfl,rfl,hH,hB,hz,q⟩:=h
 cases rx
 cases ry
 obtain⟨z,its,n,r,hl,e⟩:=I.lstM hH
 obtain⟨z2,its2,n2,r2,hl2,e2⟩:=I.lstM hB
 refine PySem.P.add_list e e2 ?_ (by rw[List.size_toArray,List.size_toArray];omega)
 have ea:its.toArray++its2.toArray=(its++its2).toArray:=by simp
 rw[ea]
 exact⟨.ref _,_,I.lnew (t':=s.toks) (r.append r2) (by rw[List.length_append];omega),rfl,q _ I.fresh⟩
end
section
variable {prog:Program}{w:World}{A:Around}{E:Value->Shared->Prop}{s:Shared}
end
section
variable {X:Cx}
end
end L2
namespace Att
open PySem PySem.W PySem.Calls PyProof.Rows
theorem Zcc {P:Params}{h:Heap}:∀ (ns:List Int) (vs:List Value),WellAll P h vs (ns.map WData.int)->IntsAre vs ns:=by
 intro ns
 induction ns with
 | nil =>
  intro vs w
  rw[List.map_nil] at w
  cases w
  exact .nil
 | cons n ns ih =>
  intro vs w
  rw[List.map_cons] at w
  cases w with
  | cons a b =>
   cases a
   exact .cons _ _ (ih _ b)
theorem Zim {l:OpenLaw}{n:Nat}(hn:l.most=some n) {P:Params}{h:Heap}{args:List WData}{vals:List Value}
  (hpre:l.row.toRowW.claim.pre args=true) (hwl:WellAll P h vals args) :
  ∃ a vs ns,vals=[Value.ref a]/\args=[WData.list (ns.map WData.int)]/\h.get? a=some { cls:=.type "list",data:=.seq vs.toArray }/\IntsAre vs ns/\ns.length<=n:=by
 have hsh:WShape.hasAll [] args [.list .int]=true:=(pre_splitW hpre).1
 have hc:l.pre.holds [] { args:=args }=true:=(pre_splitW hpre).2
 obtain⟨d,r,rfl,h1,h2⟩:=hasAllW_cons hsh
 obtain rfl:=hasAllW_nil h2
 obtain⟨xs,rfl,h3⟩:=hasW_list h1
 obtain⟨ns,rfl⟩:=items_int h3
 have hlen:ns.length<=n:=by
  unfold OpenLaw.pre at hc
  have h4:(WTm.not (.lt (.lit (.int (n:Int))) (.len (.arg 0)))).holds [] { args:=[.list (ns.map .int)] }=true:=by
   have h4:=(holds_andW hc).1
   rw[hn] at h4
   exact h4
  have h5:=condW_of h4 (w_not (w_lt w_lit (w_len_list (w_arg rfl))))
  rw[List.length_map] at h5
  refine Nat.le_of_not_lt fun q=>?_
  have q':(n:Int)<((ns.length:Nat):Int):=by omega
  first
   | (rw[decide_eq_true q'] at h5;exact absurd h5 (by decide))
   | (simp at h5;omega)
 cases hwl with
 | cons w1 w2 =>
  cases w2
  cases w1 with
  | list ho hall=>exact⟨_,_,ns,rfl,rfl,ho,Zcc ns _ hall,hlen⟩
theorem Zi3 (l:OpenLaw) (args:List WData):l.row.toRowW.claim.post args (.bool true) args=true :=
 postW_of (r:=l.row.toRowW) (X:=(true == true))
  (show WShape.has [] (.bool true) .bool=true by first|rfl|decide|simp[WShape.has,WShape.arms,WShape.armsAll])
  (show (WTm.eq .res (.lit (.bool true))).value [] { args:=args,res:=some (.bool true),after:=args }=some (.bool (true == true)) from w_eq_bool (w_res rfl) w_lit) rfl
theorem attach_call {l:OpenLaw}{n:Nat}{q:Program}{loose:List Str}{XP:(Str->Option Value)->Heap->Prop}{YP:World->Heap->Prop}{d:DefRec}
  (hn:l.most=some n) (hdf:d.params.defaults=[])
  (call:∀ (w:World) (s₀ s₁:Shared) (mg mb:Str->Option Value) (fa:Addr) (o:Obj) (pm cd doc:Value) (a:Addr) (vs:List Value) (ns:List Int),
    Ground q loose [] XP w s₀ mg mb s₁.heap->YP w s₁.heap ->
    s₁.heap.get? fa=some o->o.data=.func (docDef d.name d.params d.body d.scope pm cd doc)->s₁.heap.CodeRec cd d.name->mg d.name=some (.ref fa) ->
    s₁.heap.get? a=some { cls:=.type "list",data:=.seq vs.toArray }->IntsAre vs ns->ns.length<=n->s₁.gens = #[] ->
    codeAny (model l.prog w) callerA (.call (.ref fa) ⟨[.ref a],[]⟩) (fun r s'=>r=.ok (.ret (.bool true))/\OldK s₁.heap s'.heap/\s'.os=s₁.os/\AllBare s'.gens) s₁) :
  WalkO q loose XP YP l.row.toRowW d [] (fun f vs=>PySem.call f vs):=by
 intro w s₀ s₁ mg mb G Y fa o pm cd doc dV kV ho hd hcd hD hmg hg args vals as hpre hlay hrd hwl hlo
 obtain rfl:dV=.none:=Dflts.none hD hdf
 obtain rfl:kV=.none:=Dflts.noKw hD
 obtain⟨a,vs,ns,rfl,rfl,hobj,hints,hlen⟩:=Zim hn hpre hwl
 refine enter_call (codeAny_mono (call w s₀ s₁ mg mb fa o pm cd doc a vs ns G Y ho (fd_plain hd) hcd hmg hobj hints hlen hg) fun r s' hq=>?_)
 obtain⟨rfl,h2,h3,h4⟩:=hq
 exact⟨.inl ⟨.bool true,.bool true,[],rfl,fun _=>rfl,.bool true,Zi3 l _,fun _=>⟨List.Pairwise.nil,fun _ hm=>(nomatch hm)⟩⟩,h2,h3,h4⟩
section
variable {prog:Program}{w:World}{A:Around}{E:Value->Shared->Prop}{s:Shared}{K:Frag}
def Ztv (h:Heap) (L d:Addr):List (Addr × Obj):=(List.range h.objs.size).filterMap fun a=>if a=L\/a=d then none else (h.get? a).map fun o=>(a,o)
end
end Att
namespace L2
open PySem PySem.Spec PyProof.Rows
theorem Za1:∀ {vs:List Value}{ns:List Int},IntsAre vs ns->Vals (ns.map V.int) vs
 | _,_,.nil=>.nil
 | _,_,.cons n t h=>.cons ⟨t,rfl⟩ (Za1 h)
def Only (H:Hp):Prop:=∀ b,H b=none\/∃ o xs,H b=some (.frz o (.lst xs))
theorem Zlp {P:Program}{w:World}{K:PySem.W.Frag}{mg mb:Str->Option Value}{CX:CXT}{k:Nat}{fa a:Addr}{fd:FuncData}{x:Str}{sp:Sp}{s₁:Shared}{vs:List Value}{ns:List Int}
  (KX:K.In s₁.heap) (hns:s₁.heap.Ns mainGlobals mg) (hb:s₁.heap.Ns builtinsNs mb) (hbb:∀ x:Str,x ≠ "__name__"->mb x=bootBuiltins x) (hlim:s₁.heap.NoLimit) (hg:s₁.gens = #[])
  (ha:s₁.heap.get? a=some { cls:=.type "list",data:=.seq vs.toArray }) (hi:IntsAre vs ns) (hl:ns.length<=sizeLine) (hr:Room k callerA)
  (F:∀ base:Heap,K.In base->base.Ns mainGlobals mg->FnOk P w K mg base CX k fa fd [x] sp) (hbind:∀ (s:Shared) (u:Value),BindsTo s fd ⟨[u],[]⟩ [(x,u)])
  (hsp:∀ H:Hp,Only H->SqL K H a (ns.map V.int)->sp [.ref a] H (fun v _=>v=.bl true) fun _ _ _=>False)
  (hCX:∀ H e s',CX [] H s₁ (fun _ _ _=>False) e s'->False) :
  codeAny (model P w) callerA (.call (.ref fa) ⟨[.ref a],[]⟩) (fun r s'=>r=.ok (.ret (.bool true))/\OldK s₁.heap s'.heap/\s'.os=s₁.os/\AllBare s'.gens) s₁:=by
 have rv:=Za1 hi
 have lenV:=hi.length
 have core:∀ H:Hp,Only H->SqL K H a (ns.map V.int)->HOk P w H s₁.heap->(∀ b,H b≠none->b=a)->(H a≠none->K.lookup a=none) ->
   codeAny (model P w) callerA (.call (.ref fa) ⟨[.ref a],[]⟩) (fun r s'=>r=.ok (.ret (.bool true))/\OldK s₁.heap s'.heap/\s'.os=s₁.os/\AllBare s'.gens) s₁:=by
  intro H hO hS hok hA hK
  have base_of:∀ {b:Addr} {o:Obj},s₁.heap.get? b=some o->H b=none->(hidT s₁.heap H).get? b=some o:=fun e n=>Zbc e n
  have noA:∀ {b:Addr} {o:Obj} {es:Array DictEntry} {ep:Nat},s₁.heap.get? b=some o->o.data=.dict es ep->H b=none:=fun {b o es ep} e d=>by
   cases q:H b with
   | none=>rfl
   | some u =>
    have e':b=a:=hA b (by rw[q];simp)
    subst e'
    rw[ha] at e;cases e
    have d':Data.seq vs.toArray _=Data.dict es ep:=d
    cases d'
  have nsK:∀ {b:Addr} {m:Str->Option Value},s₁.heap.Ns b m->(hidT s₁.heap H).Ns b m:=fun {b m} ⟨o,es,ep,e,d,r⟩=>⟨o,es,ep,base_of e (noA e d),d,r⟩
  have hKb:K.In (hidT s₁.heap H):=fun b o e=>base_of (KX b o e) (by
   cases q:H b with
   | none=>rfl
   | some u =>
    have e':b=a:=hA b (by rw[q];simp)
    subst e'
    rw[hK (by rw[q];simp)] at e;cases e)
  have hM:Mod K mg (hidT s₁.heap H):=⟨hKb,nsK hns,⟨mb,nsK hb,hbb⟩,let ⟨mc,h1,h2⟩:=hlim;⟨mc,nsK h1,h2⟩⟩
  have e0:Env0 P w K mg (hidT s₁.heap H) callerA [] s₁ H:=⟨rfl,hM,fun b o e=>Zjg e,Nat.le_of_eq (Zes _ _),trivial,fun b hb=>absurd (show b∈([]:List Addr) from hb) (by simp),hok,.of_eq hg⟩
  refine codeAny_mono ((F _ hKb (nsK hns)).run callerA [] s₁ H ⟨[.ref a],[]⟩ [.ref a] [.ref a] _ _ hr e0 (hbind s₁ (.ref a)) (.cons rfl .nil) (hsp H hO hS)) fun r s' h=>?_
  cases r with
  | error e=>exact(hCX H e s' h).elim
  | ok fl =>
   cases fl with
   | next=>exact False.elim h
   | brk=>exact False.elim h
   | cont=>exact False.elim h
   | ret u =>
    obtain⟨v,H',os,bare,un,hok',r',q⟩:=h
    have q':v=.bl true:=q
    subst q'
    obtain rfl:u=Value.bool true:=r'
    refine⟨rfl,OldK.of_keep fun b o e=>?_,os,bare⟩
    cases q:H b with
    | none=>exact un.keep b o e q (by intro z;exact absurd (show b∈([]:List Addr) from z) (by simp)) (by simp)
    | some u =>
     rcases hO b with z|⟨ob,xs,z⟩
     ·rw[q] at z;cases z
     ·have z2:=un.frzs b ob _ z
      obtain⟨e1,_⟩:=hok b _ z
      obtain⟨e2,_⟩:=hok' b _ z2
      rw[e] at e1;cases e1
      exact e2
 cases hk:K.lookup a with
 | some o =>
  have e:=KX a o hk
  rw[ha] at e
  cases e
  refine core (fun _=>none) (fun _=>.inl rfl) (.inr ⟨_,vs.toArray,_,hk,rfl,rfl,rfl,by rw[List.size_toArray,lenV];exact hl,by simpa using rv⟩) (fun b u z=>by have z':(none:Option HO)=some u:=z;cases z') (fun b z=>absurd rfl z) fun z=>absurd rfl z
 | none =>
  refine core (fun b=>if b=a then some (.frz { cls:=.type "list",data:=.seq vs.toArray } (.lst (ns.map V.int))) else none) (fun b=>?_) (.inl (.inr ⟨{ cls:=.type "list",data:=.seq vs.toArray },if_pos rfl⟩)) (fun b u z=>?_) (fun b z=>?_) fun _=>hk
  ·by_cases hb:b=a
   ·exact .inr ⟨_,_,if_pos hb⟩
   ·exact .inl (if_neg hb)
  ·by_cases hb:b=a
   ·have z':=(if_pos hb).symm.trans z
    cases z'
    subst hb
    exact⟨ha,by rw[List.length_map];exact hl,vs,_,rv,ha⟩
   ·have z':=(if_neg hb).symm.trans z
    cases z'
  ·by_cases hb:b=a
   ·exact hb
   ·exact absurd (if_neg hb) z
end L2
namespace L2
open PySem PySem.Spec PyProof.Rows
abbrev KOf {K:PySem.W.Frag}{h:Heap}(_:K.In h):PySem.W.Frag:=K
theorem Zsq {l:PySem.W.OpenLaw}{n k:Nat}{q:Program}{loose:List Str}{XP:(Str->Option Value)->Heap->Prop}{YP:World->Heap->Prop}{d:DefRec}{K:Params->PySem.W.Frag}{CX:World->CXT}{sp:World->Sp}{x:Str}
  (hn:l.most=some n) (hn2:n<=sizeLine) (hdf:d.params.defaults=[]) (hr:Room k callerA)
  (hY:∀ (w:World) (h:Heap),YP w h->(K w.params).In h)
  (F:∀ (w:World) (mg:Str->Option Value) (fa:Addr) (h:Heap),(K w.params).In h->h.Ns mainGlobals mg->mg d.name=some (.ref fa) ->
   ∃ fd:FuncData,(∀ (s:Shared) (u:Value),BindsTo s fd ⟨[u],[]⟩ [(x,u)]) /\
    ∀ base:Heap,(K w.params).In base->base.Ns mainGlobals mg->FnOk l.prog w (K w.params) mg base (CX w) k fa fd [x] (sp w))
  (hsp:∀ (w:World) (H:Hp) (a:Addr) (ns:List Int),ns.length<=n->Only H->SqL (K w.params) H a (ns.map V.int)->sp w [.ref a] H (fun v _=>v=.bl true) fun _ _ _=>False)
  (hCX:∀ (w:World) (H:Hp) (s:Shared) (e:Value) (s':Shared),CX w [] H s (fun _ _ _=>False) e s'->False) :
  PySem.W.WalkO q loose XP YP l.row.toRowW d [] (fun f vs=>PySem.call f vs):=by
 refine Att.attach_call hn hdf fun w s₀ s₁ mg mb fa o pm cd doc a vs ns G Y ho hd hcd hmg hobj hints hlen hg=>?_
 have KX:=hY w _ Y
 obtain⟨fd,hb,hF⟩:=F w mg fa _ KX G.T.g hmg
 exact Zlp KX G.T.g G.T.b G.T.builtins G.T.nolimit hg hobj hints (Nat.le_trans hlen hn2) hr hF hb (fun H hO hS=>hsp w H a ns hlen hO hS) fun H e s'=>hCX w H s₁ e s'
end L2
namespace L2
open PySem PySem.Spec PyProof.Rows
def Zbm (s:Stmt) (j:Nat):Stmt:=match s with
 | .ClassDef _ _ _ body _ _ _ _ _ _ _=>body.getD j (.Pass ⟨0,0,0,0⟩)
 | _=>.Pass ⟨0,0,0,0⟩
def Z7 (s:Stmt):Arguments:=match s with
 | .FunctionDef _ a _ _ _ _ _ _ _ _=>a
 | _=>{ posonlyargs:=[],args:=[],vararg:=none,kwonlyargs:=[],kw_defaults:=[],kwarg:=none,defaults:=[] }
def Zw (s:Stmt):List Stmt:=match s with
 | .FunctionDef _ _ b _ _ _ _ _ _ _=>b
 | _=>[]
def Zg (s:Stmt):Scope:=match s with
 | .FunctionDef _ _ _ _ _ _ sc _ _ _=>sc
 | _=>{ kind:=.function,names:=[],isGenerator:=false,isCoroutine:=false }
abbrev CX0:CXT:=fun _ _ _ _ _ _=>False
abbrev E0:XK:=fun _ _ _=>False
theorem Zk {X:Cx}:Yq CX0 X E0:=fun _ _ _ _ _ _ _ h=>h.elim
structure Fun (K:PySem.W.Frag) (x qual:Str) (st:Stmt) (f:Addr) (fd:FuncData):Prop where
 ex:∃ (oc:Value) (od:Option Addr) (kV doc pm:Value) (an:Option Addr) (cdv ct:Value) (osl:Array (Option Value)),
  fd=PySem.W.fnOf x qual (Z7 st) (Zw st) (Zg st) .none kV doc pm an cdv ct/\K.lookup f=some ⟨oc,od,.func fd,osl⟩/\PySem.W.codeIn K cdv qual=true
 kp:PySem.W.keepIn K (.ref f)=true
section
variable {P:Program}{w:World}{K:PySem.W.Frag}{mg:Str->Option Value}{base:Heap}
theorem Fun.ok {x qual:Str}{st:Stmt}{f:Addr}{fd:FuncData}{N ps:List Str}{k:Nat}{sp:Sp}(F:Fun K x qual st f fd) (S:FnScope N ps (Zg st)) (len:∀ vs H Q E,sp vs H Q E->vs.length=ps.length)
  (hbody:∀ (cdv:Value) (A:Around) (outer:List Env) (s:Shared) (H:Hp) (vs:List V) (Q:VK) (E:XK),Room k (A.deeper (envOfC qual (Zg st) s.heap.objs.size f cdv))->sp vs H Q E ->
    ∃ t,PSs (cxOf CX0 P w K mg base N qual (Zg st) f cdv A outer s H E).nox (Zw st) t/\t { nx:=fun _ H'=>Q .non H',rt:=Q } (Z3 N vs) H):FnOk P w K mg base CX0 (k+1) f fd ps sp:=by
 obtain⟨oc,od,kV,doc,pm,an,cdv,ct,osl,rfl,lk,hcd⟩:=F.ex
 refine Zdw lk hcd S len fun A outer s H vs Q E hr hsp=>?_
 obtain⟨t,h,q⟩:=hbody cdv A outer s H vs Q E hr hsp
 exact⟨t,h.nox,q⟩
theorem Fun.binds {x qual:Str}{st:Stmt}{f:Addr}{fd:FuncData}{ps:List Str}(F:Fun K x qual st f fd)
  (h:∀ (kV doc pm:Value) (an:Option Addr) (cdv ct:Value) (us:List Value),us.length=ps.length->bindArgs (PySem.W.fnOf x qual (Z7 st) (Zw st) (Zg st) .none kV doc pm an cdv ct) ⟨us,[]⟩=pure (ps.zip us)):Binds K fd ps []:=by
 obtain⟨oc,od,kV,doc,pm,an,cdv,ct,osl,rfl,lk,hcd⟩:=F.ex
 exact .all (h kV doc pm an cdv ct)
theorem Zbd {x qual:Str}{st:Stmt}{f:Addr}{oc:Value}{od an:Option Addr}{osl:Array (Option Value)}{kV doc pm cdv ct:Value}(l:K.lookup f=some ⟨oc,od,.func (PySem.W.fnOf x qual (Z7 st) (Zw st) (Zg st) .none kV doc pm an cdv ct),osl⟩)
  (c:PySem.W.codeIn K cdv qual=true) (k:PySem.W.keepIn K (.ref f)=true):Fun K x qual st f (PySem.W.fnOf x qual (Z7 st) (Zw st) (Zg st) .none kV doc pm an cdv ct):=⟨⟨oc,od,kV,doc,pm,an,cdv,ct,osl,rfl,l,c⟩,k⟩
end
theorem Zti {A:Around}{k:Nat}(hr:Room k A):A.units+1<cLine:=Nat.lt_of_le_of_lt (Nat.add_le_add_left (by decide:1<=64) _) hr.units
section
variable {X:Cx}
theorem pv (i:Nat) {x:Str}{pos:Pos}(hN:X.N[i]?=some x:=by rfl) (hv:Vis X.env.scope x:=by first|exact Or.inl rfl|exact Or.inr (.inl rfl)|exact Or.inr (Or.inr rfl)) (hd:(x == ("__debug__" : Str))=false:=by decide)
  (hcd:(x == ("__classdict__" : Str))=false:=by decide):PE X (.Name x pos) (tVar i):=Zq7 hN hv hd hcd
end
theorem iteF {A B:Prop}(h:B):if false=true then A else B:=by
 rw[if_neg Bool.false_ne_true]
 exact h
theorem iteT {A B:Prop}(h:A):if true=true then A else B:=by
 rw[if_pos rfl]
 exact h
theorem ite2 {c A B:Prop} [Decidable c] (h1:c->A) (h2:¬ c->B):if c then A else B:=by
 by_cases h:c
 ·rw[if_pos h]
  exact h1 h
 ·rw[if_neg h]
  exact h2 h
def Same (H H':Hp):Prop:=∀ b o,H b=some o->H' b=some o
theorem Same.refl (H:Hp):Same H H:=fun _ _ h=>h
theorem Same.trans {H H1 H2:Hp}(a:Same H H1) (b:Same H1 H2):Same H H2:=fun c o h=>b c o (a c o h)
theorem Same.free {H H':Hp}(e:Same H H') {l:Addr}(h:H' l=Option.none):H l=Option.none:=by
 cases q:H l with
 | none=>rfl
 | some o =>
  rw[e l o q] at h
  cases h
theorem Same.seq {K:PySem.W.Frag}{H H':Hp}{a:Addr}{xs:List V}(e:Same H H') (h:SqL K H a xs):SqL K H' a xs:=by
 rcases h with (h|⟨o,h⟩)|h
 ·exact .inl (.inl (e _ _ h))
 ·exact .inl (.inr ⟨o,e _ _ h⟩)
 ·exact .inr h
end L2
namespace L3
open PySem PySem.Spec PyProof.Rows L2
structure Fu (P:Program) (w:World) (K:PySem.W.Frag) (mg:Str->Option Value) (base:Heap) (CX:CXT) (k:Nat) (x:Str) (ps:List Str) (sp:Sp):Prop where
 ex:∃ f fd,FnOk P w K mg base CX k f fd ps sp/\mg x=some (.ref f)/\PySem.W.keepIn K (.ref f)=true/\Binds K fd ps []
section
variable {X:Cx}{CX:CXT}{j k:Nat}{x:Str}{ps:List Str}{sp:Sp}{E:XK}{p pos:Pos}{e:Expr}{es:List Expr}{t:TA}
theorem pc (F:Fu X.prog X.w X.K X.mg X.base CX j x ps sp) (hr:Room k X.A) (hx:Yq CX X E) (ha:PA X (e::es) t) (hj:j<=k:=by decide) (hg:Gl X x:=by rfl) (hdb:(x == ("__debug__" : Str))=false:=by decide)
  (he:starEach (e::es) X.env=(false,eval e X.env)::starEach es X.env:=by rfl) (hpl:(backTo pos (starEach es X.env)).any (·.1)=false:=by rfl):PE X (.Call (.Name x p) (e::es) [] pos) (Zg1 sp [] E t):=by
 obtain⟨f,fd,G,hm,hk,hb⟩:=F.ex
 exact Zo4 G (hr.mono hj) hg hm hk hb .nil hx ha hdb he hpl
end
theorem Vals.ins {x:V}{u:Value}(r:RelV x u) {xs:List V}{us:List Value}(k:Nat) (h:Vals xs us):Vals (xs.take k++x::xs.drop k) (us.take k++u::us.drop k) :=
 (h.take k).append (.cons r (h.drop k))
def Zjr {α:Type}(xs:List α) (k:Nat) (x:α):List α:=xs.take k++x::xs.drop k
theorem Zeo {α:Type}(xs:List α) (k:Nat) (x:α):(Zjr xs k x).length=xs.length+1:=by
 unfold Zjr
 rw[List.length_append,List.length_cons,List.length_take,List.length_drop]
 omega
def Zov:V->List V->Hp->VK->Prop:=fun x vs H Q=>∃ l xs i y,x=.ref l/\vs=[.int i,y]/\H l=some (.lst xs)/\xs.length<sizeLine/\0<=i/\i<=xs.length/\Q .non (upd H l (.lst (Zjr xs i.toNat y)))
section
variable {X:Cx}
theorem Zhj {i:Int}{n:Nat}(h0:0<=i) (h1:i<=n) (hn:n<=sizeLine):¬ (!Builtin.List.listFitsIndex i)=true:=by
 have hs:sizeLine=16777216:=sizeLine_eq
 have e:Builtin.List.listFitsIndex i=true:=by
  unfold Builtin.List.listFitsIndex
  simp only [Bool.and_eq_true,decide_eq_true_eq]
  omega
 rw[e]
 exact Bool.false_ne_true
theorem Zji:MtM X "list.insert" Zov:=by
 intro pins s σ H x vs v us Q I rx rv h
 obtain⟨l,xs,i,y,rfl,rfl,hH,hz,h0,h1,q⟩:=h
 cases rx
 obtain⟨u,u2,rfl,⟨t,rfl⟩,ru⟩:=rv.two
 obtain⟨z,its,n,r,hl,e⟩:=I.lstM hH
 refine call_meets F.slot_list_insert ⟨_,e,rfl⟩ F.entry_list_insert (F.args_list_insert_3 _ _ _) (PySem.AutoListH.list_insert_list_int_val_1 l its.toArray n i t u2 (Zhj h0 h1 z) (by rw[List.size_toArray];omega)) ⟨e,?_⟩
 refine⟨.non,_,I.lset (its':=its.take i.toNat++u2::its.drop i.toNat) hH e ?_ (Vals.ins ru _ r) (by rw[show (xs.take i.toNat++y::xs.drop i.toNat).length=xs.length+1 from Zeo xs i.toNat y];omega),rfl,q⟩
 have hk:(if i<0 then (i+((its.toArray.size:Nat):Int)).toNat else min i.toNat its.toArray.size)=i.toNat:=by
  rw[if_neg (by omega),List.size_toArray]
  omega
 show (its.toArray.extract 0 (if i<0 then (i+((its.toArray.size:Nat):Int)).toNat else min i.toNat its.toArray.size)).push u2++its.toArray.extract (if i<0 then (i+((its.toArray.size:Nat):Int)).toNat else min i.toNat its.toArray.size)=_
 rw[hk]
 apply Array.toList_inj.mp
 simp
 exact List.take_of_length_le (by rw[List.length_drop];omega)
theorem Zeh {α β:Type}(f:α->β):∀ (l:List α) (i:Nat),(l.map f).eraseIdx i=(l.eraseIdx i).map f
 | [],_=>rfl
 | _::_,0=>rfl
 | x::r,i+1=>by
  show f x::(r.map f).eraseIdx i=f x::(r.eraseIdx i).map f
  rw[Zeh f r i]
def Yv (n:Int):List Int->List Int
 | []=>[]
 | x::r=>if x=n then r else x::Yv n r
theorem Zbs (n:Int):∀ (xs:List Int),n∈xs->∃ j,∃ h:j<xs.length,xs[j]=n/\(∀ m (hm:m<xs.length),m<j->xs[m]≠n)/\Yv n xs=xs.eraseIdx j
 | [],h=>by cases h
 | x::r,h=>by
  by_cases e:x=n
  ·exact⟨0,by simp,e,fun m _ hm=>by omega,by unfold Yv;rw[if_pos e];rfl⟩
  ·have hr:n∈r:=by
    rcases List.mem_cons.mp h with q|q
    ·exact absurd q.symm e
    ·exact q
   obtain⟨j,hj,h1,h2,h3⟩:=Zbs n r hr
   refine⟨j+1,by simp;omega,by simpa using h1,fun m hm hlt=>?_,by unfold Yv;rw[if_neg e,h3];rfl⟩
   cases m with
   | zero=>simpa using e
   | succ m=>simpa using h2 m (by simpa using hm) (by omega)
def Zot:V->List V->Hp->VK->Prop:=fun x vs H Q=>∃ (l:Addr) (xs:List Int) (n:Int),x=.ref l/\vs=[.int n]/\H l=some (.lst (xs.map V.int))/\n∈xs/\Q .non (upd H l (.lst ((Yv n xs).map V.int)))
def isI (n:Int):Value->Bool
 | .int m _=>m == n
 | _=>false
theorem Zeg:MtM X "list.remove" Zot:=by
 intro pins s σ H x vs v us Q I rx rv h
 obtain⟨l,xs,m,rfl,rfl,hH,hm,q⟩:=h
 cases rx
 obtain⟨u,rfl,t,rfl⟩:=rv.one
 obtain⟨z,its,n,r,hl,e⟩:=I.lstM hH
 obtain⟨j,hj,h1,h2,h3⟩:=Zbs m xs hm
 have hlen:its.length=xs.length:=by rw[← hl,List.length_map]
 have at':∀ (i:Nat) (hi:i<its.toArray.size),∃ t',its.toArray[i]=.int (xs[i]'(by rw[List.size_toArray] at hi;omega)) t':=fun i hi=>by
  have hi':i<its.length:=by rw[List.size_toArray] at hi;exact hi
  have hx:(xs.map V.int)[i]?=some (V.int (xs[i]'(by omega))):=by
   rw[List.getElem?_map,List.getElem?_eq_getElem (by omega)];rfl
  obtain⟨u',hu',t',ru'⟩:=r.get hx
  refine⟨t',?_⟩
  rw[List.getElem?_eq_getElem hi'] at hu'
  have:=Option.some.inj hu'
  rw[← ru',← this]
  simp
 refine call_meets F.slot_list_remove ⟨_,e,rfl⟩ F.entry_list_remove (F.args_list_remove_2 _ _)
  (PySem.MeetsSeq.list_remove l its.toArray n (.int m t) (isI m) (fun y hy=>?_) j (by rw[List.size_toArray];omega) ?_ (fun i hi hlt=>?_) (by rw[List.size_toArray];omega)) ⟨e,?_⟩
 ·obtain⟨i,hi,rfl⟩:=Array.mem_iff_getElem.mp hy
  obtain⟨t',et⟩:=at' i hi
  rw[et]
  exact MeetsSeq.EqGives.int _ _ _ _
 ·obtain⟨t',et⟩:=at' j (by rw[List.size_toArray];omega)
  rw[et]
  show (_ == m)=true
  rw[h1];simp
 ·obtain⟨t',et⟩:=at' i hi
  rw[et]
  show (_ == m)=false
  exact beq_eq_false_iff_ne.mpr (h2 i (by rw[List.size_toArray] at hi;omega) hlt)
 ·refine⟨.non,_,I.lset (ys:=(Yv m xs).map V.int) (its':=its.eraseIdx j) hH e ?_ ?_ ?_,rfl,q⟩
  ·apply Array.toList_inj.mp
   rw[Array.eraseIdxIfInBounds_eq]
   rw[dif_pos (by rw[List.size_toArray];omega)]
   simp
  ·rw[h3,← Zeh]
   exact r.eraseIdx j
  ·rw[h3,List.length_map]
   have:=Zel xs j
   rw[List.length_map] at z
   omega
end
mutual
inductive Sh (K:PySem.W.Frag) (H:Hp):V->PyData->Prop
 | non:Sh K H .non .none
 | bl (b:Bool):Sh K H (.bl b) (.bool b)
 | int (i:Int):Sh K H (.int i) (.int i)
 | str (x:Str):Sh K H (.str x) (.str x)
 | lst {a:Addr} {xs:List V} {ds:List PyData} (h:SqL K H a xs) (r:ShL K H xs ds):Sh K H (.ref a) (.list ds)
 | tup {a:Addr} {xs:List V} {ds:List PyData} (h:SqT K H a xs) (r:ShL K H xs ds):Sh K H (.ref a) (.tuple ds)
inductive ShL (K:PySem.W.Frag) (H:Hp):List V->List PyData->Prop
 | nil:ShL K H [] []
 | cons {x:V} {xs:List V} {d:PyData} {ds:List PyData} (h:Sh K H x d) (r:ShL K H xs ds):ShL K H (x::xs) (d::ds)
end
section
variable {X:Cx}{pins:List (Addr × Obj)}{σ:L2.St}{H:Hp}{s:Shared}
theorem Sh.reads (I:Inv X pins σ H s) {x:V}{d:PyData}(h:Sh X.K H x d):∀ {u:Value},RelV x u->∃ as,Reads s.heap u d as:=by
 refine Sh.rec (motive_1:=fun x d _=>∀ {u:Value},RelV x u->∃ as,Reads s.heap u d as) (motive_2:=fun xs ds _=>∀ {us:List Value},Vals xs us->∃ as,ReadsAll s.heap us ds as) ?_ ?_ ?_ ?_ ?_ ?_ ?_ ?_ h
 ·intro u r;cases r;exact⟨_,.none⟩
 ·intro b u r;cases r;exact⟨_,.bool b⟩
 ·intro i u r;obtain⟨t,rfl⟩:=r;exact⟨_,.int i t⟩
 ·intro x u r;obtain⟨t,rfl⟩:=r;exact⟨_,.str x t⟩
 ·intro a xs ds hq _ ih u r
  cases r
  obtain⟨its,rv,pl,_⟩:=I.list hq
  obtain⟨as,ra⟩:=ih rv
  obtain⟨o,ho,hc,n,hd⟩:=pl.isList
  exact⟨_,.list ho hc hd (by simpa using ra)⟩
 ·intro a xs ds hq _ ih u r
  cases r
  obtain⟨its,rv,pl,_⟩:=I.tuple hq
  obtain⟨as,ra⟩:=ih rv
  obtain⟨o,ho,hc,n,hd⟩:=pl
  exact⟨_,.tuple ho hc hd (by simpa using ra)⟩
 ·intro us r;cases r;exact⟨_,.nil⟩
 ·intro x xs d ds _ _ ih1 ih2 us r
  cases r with
  | cons r1 r2 =>
   obtain⟨as,q1⟩:=ih1 r1
   obtain⟨bs,q2⟩:=ih2 r2
   exact⟨_,.cons q1 q2⟩
theorem ShL.ints {K:PySem.W.Frag}{H:Hp}:∀ ns:List Int,ShL K H (ns.map V.int) (ns.map PyData.int)
 | []=>.nil
 | n::r=>.cons (.int n) (ShL.ints r)
theorem Sh.ints {K:PySem.W.Frag}{H:Hp}{a:Addr}{ns:List Int}(h:SqL K H a (ns.map V.int)):Sh K H (.ref a) (.list (ns.map PyData.int)):=.lst h (ShL.ints ns)
end
section
variable {X:Cx}
def rEqD (K:PySem.W.Frag):R2:=fun x y H Q=>∃ d e,Sh K H x d/\Sh K H y e/\SeqAt.shaped d=true/\SeqAt.shaped e=true/\Q (.bl (PyData.eqv d e)) H
def rNeD (K:PySem.W.Frag):R2:=fun x y H Q=>∃ d e,Sh K H x d/\Sh K H y e/\SeqAt.shaped d=true/\SeqAt.shaped e=true/\Q (.bl (!PyData.eqv d e)) H
theorem Zgi (hu:X.A.units+64<cLine):OpR X (compareOp .Eq) (rEqD X.K):=by
 intro pins s σ H x y v u Q I rx ry h
 obtain⟨d,e,h1,h2,s1,s2,q⟩:=h
 obtain⟨as,r1⟩:=h1.reads I rx
 obtain⟨bs,r2⟩:=h2.reads I ry
 exact eq_dataH r1 r2 s1 s2 hu ⟨.bl _,H,I,rfl,q⟩
theorem Zgh (hu:X.A.units+64<cLine):OpR X (compareOp .NotEq) (rNeD X.K):=by
 intro pins s σ H x y v u Q I rx ry h
 obtain⟨d,e,h1,h2,s1,s2,q⟩:=h
 obtain⟨as,r1⟩:=h1.reads I rx
 obtain⟨bs,r2⟩:=h2.reads I ry
 exact ne_dataH r1 r2 s1 s2 hu ⟨.bl _,H,I,rfl,q⟩
def rEqI (K:PySem.W.Frag):R2:=fun x y H Q=>∃ (a b:Addr) (ns ms:List Int),x=.ref a/\y=.ref b/\SqL K H a (ns.map V.int)/\SqL K H b (ms.map V.int)/\Q (.bl (decide (ns=ms))) H
def rNeI (K:PySem.W.Frag):R2:=fun x y H Q=>∃ (a b:Addr) (ns ms:List Int),x=.ref a/\y=.ref b/\SqL K H a (ns.map V.int)/\SqL K H b (ms.map V.int)/\Q (.bl (!decide (ns=ms))) H
theorem Zgu (ns ms:List Int):PyData.eqv (.list (ns.map PyData.int)) (.list (ms.map PyData.int))=decide (ns=ms):=by
 have h:=PySem.W.ked_eqvAll ns ms
 simpa [PyData.eqv] using h
theorem Zri (hu:X.A.units+64<cLine):OpR X (compareOp .Eq) (rEqI X.K):=by
 intro pins s σ H x y v u Q I rx ry h
 obtain⟨a,b,ns,ms,rfl,rfl,h1,h2,q⟩:=h
 exact Zgi hu pins s σ H _ _ v u Q I rx ry ⟨_,_,Sh.ints h1,Sh.ints h2,PySem.W.ke_shaped_ints _,PySem.W.ke_shaped_ints _,by rw[Zgu];exact q⟩
theorem Zrf (hu:X.A.units+64<cLine):OpR X (compareOp .NotEq) (rNeI X.K):=by
 intro pins s σ H x y v u Q I rx ry h
 obtain⟨a,b,ns,ms,rfl,rfl,h1,h2,q⟩:=h
 exact Zgh hu pins s σ H _ _ v u Q I rx ry ⟨_,_,Sh.ints h1,Sh.ints h2,PySem.W.ke_shaped_ints _,PySem.W.ke_shaped_ints _,by rw[Zgu];exact q⟩
def rIsi (K:PySem.W.Frag):List V->Hp->VK->Prop:=fun xs H Q=>∃ x n t b,xs=[x,.ty n]/\TyOf K H x t/\PySem.W.kitOne K t (.type n)=some b/\Q (.bl b) H
theorem Zmh:CallR X (.builtin "isinstance") (rIsi X.K):=by
 intro pins s σ H xs us Q I r h
 obtain⟨x,n,t,b,rfl,ty,e,q⟩:=h
 obtain⟨u,c,rfl,ru,rc⟩:=Zn2 r
 cases (show c=Value.type n from rc)
 exact Zjq I ru ty e fun tk=>⟨.bl b,H,I.tok _,rfl,q⟩
theorem Inv.big {pins:List (Addr × Obj)}{σ:L2.St}{H:Hp}{s:Shared}(I:Inv X pins σ H s):sysModules<s.heap.objs.size:=by
 have h:mainGlobals<s.heap.objs.size:=(I.mod.glob.keeps I.bk).lt
 exact Nat.lt_trans (by decide) h
end
end L3
namespace L3
open PySem PySem.W PyProof.Rows
def pg (p:Array Nat) (i:Nat):Nat:=p.getD i 0
theorem Zi6 {p q:Array Nat}{i j:Nat}(h:p[i]?=q[j]?):pg p i=pg q j:=by
 unfold pg
 rw[Array.getD_eq_getD_getElem?,Array.getD_eq_getD_getElem?,h]
theorem Znc {p:Array Nat}{n:Nat}(hn:n<=p.size) (i:Nat):pg (kas_rev p 0 n) i=if i<n then pg p (n - 1 - i) else pg p i:=by
 have h:=getElem?_mirror_all (xs:=p) (i:=0) (j:=n) hn i
 unfold kas_rev
 by_cases hi:i<n
 ·rw[if_pos hi]
  rw[if_pos ⟨Nat.zero_le _,hi⟩] at h
  rw[show (0+n - 1 - i)=n - 1 - i by omega] at h
  exact Zi6 h
 ·rw[if_neg hi]
  rw[if_neg (fun z=>hi z.2)] at h
  exact Zi6 h
theorem Znd {p:Array Nat}{k d:Nat}(hk:k<p.size) (hd:d<=k) (i:Nat):pg (bubble p k d) i=if i=k - d then pg p k else if k - d<i/\i<=k then pg p (i - 1) else pg p i:=by
 have h:=getElem?_bubble hk d hd i
 by_cases h1:i=k - d
 ·rw[if_pos h1];rw[if_pos h1] at h;exact Zi6 h
 ·rw[if_neg h1];rw[if_neg h1] at h
  by_cases h2:k - d<i/\i<=k
  ·rw[if_pos h2];rw[if_pos h2] at h;exact Zi6 h
  ·rw[if_neg h2];rw[if_neg h2] at h;exact Zi6 h
structure Arr (n:Nat) (p:Array Nat):Prop where
 perm:p.Perm (List.range n).toArray
theorem Arr.size {n:Nat}{p:Array Nat}(a:Arr n p):p.size=n:=by
 have:=a.perm.size_eq
 simpa using this
theorem Arr.lt {n:Nat}{p:Array Nat}(a:Arr n p) {i:Nat}(hi:i<n):pg p i<n:=by
 have hs:=a.size
 have hm:p[i]'(by omega)∈p.toList:=by simp
 have h2:=(Array.perm_iff_toList_perm.mp a.perm).mem_iff.mp hm
 unfold pg
 have:p.getD i 0=p[i]'(by omega):=by simp[Array.getD,hs,hi]
 rw[this]
 simpa using h2
theorem Arr.inj {n:Nat}{p:Array Nat}(a:Arr n p) {i j:Nat}(hi:i<n) (hj:j<n) (h:pg p i=pg p j):i=j:=by
 have hs:=a.size
 have nd:p.toList.Nodup:=(Array.perm_iff_toList_perm.mp a.perm).nodup_iff.mpr (by simpa using List.nodup_range)
 have e1:p.getD i 0=p.toList[i]'(by simp;omega):=by simp[Array.getD,hs,hi]
 have e2:p.getD j 0=p.toList[j]'(by simp;omega):=by simp[Array.getD,hs,hj]
 unfold pg at h
 rw[e1,e2] at h
 exact(List.getElem_inj nd).mp h
theorem Arr.rev {n:Nat}{p:Array Nat}(a:Arr n p) (i j:Nat):Arr n (kas_rev p i j):=⟨(mirror_perm _ _ _ _).trans a.perm⟩
theorem Arr.bub {n:Nat}{p:Array Nat}(a:Arr n p) (i j:Nat):Arr n (bubble p i j):=⟨(bubble_perm _ _ _).trans a.perm⟩
structure Ord (n:Nat) (lt:Nat->Nat->Bool):Prop where
 irr:∀ i,lt i i=false
 tr:∀ i j k,lt i j=true->lt j k=true->lt i k=true
 tot:∀ i j,i<n->j<n->i≠j->lt i j=true\/lt j i=true
def Up (lt:Nat->Nat->Bool) (p:Array Nat) (m:Nat):Prop:=∀ i j,i<j->j<m->lt (pg p i) (pg p j)=true
def Down (lt:Nat->Nat->Bool) (p:Array Nat) (m:Nat):Prop:=∀ i j,i<j->j<m->lt (pg p j) (pg p i)=true
section
variable {n:Nat}{lt:Nat->Nat->Bool}{cmp:Nat->Nat->(Bool->Shared->Prop)->Shared->Prop}{I:Shared->Prop}
 (o:Ord n lt) (hc:∀ i j C s,i<n->j<n->I s->(∀ s',I s'->C (lt i j) s')->cmp i j C s)
include o hc
theorem Up.more {p:Array Nat}{m:Nat}(a:Arr n p) (hm:1<=m) (hmn:m<n) (u:Up lt p m) (h:lt (pg p m) (pg p (m - 1))=false):Up lt p (m+1):=by
 have h1:lt (pg p (m - 1)) (pg p m)=true:=by
  rcases o.tot _ _ (a.lt (i:=m) hmn) (a.lt (i:=m - 1) (by omega)) (fun e=>by have:=a.inj hmn (by omega) e;omega) with z|z
  ·rw[h] at z;cases z
  ·exact z
 intro i j hij hj
 by_cases e:j=m
 ·subst e
  by_cases e2:i=j - 1
  ·subst e2;exact h1
  ·exact o.tr _ _ _ (u i (j - 1) (by omega) (by omega)) h1
 ·exact u i j hij (by omega)
theorem Zkr {p:Array Nat}(a:Arr n p):∀ (f m:Nat) (s:Shared) (Q:Nat->Shared->Prop),1<=m->m+f=n->Up lt p m->I s ->
  (∀ m' s',m<=m'->m'<=n->Up lt p m'->(m'<n->lt (pg p m') (pg p (m' - 1))=true)->I s'->Q m' s')->(kas_asc p f m).kasWp cmp Q s
 | 0,m,s,Q,hm,hf,u,hi,hQ=>hQ m s (Nat.le_refl _) (by omega) u (fun z=>by omega) hi
 | f+1,m,s,Q,hm,hf,u,hi,hQ=>by
  refine hc _ _ _ _ (a.lt (i:=m) (by omega)) (a.lt (i:=m - 1) (by omega)) hi fun s' hi'=>?_
  cases q:lt (pg p m) (pg p (m - 1)) with
  | true =>
   have q':lt (p.getD m 0) (p.getD (m - 1) 0)=true:=q
   simp only [q',if_true]
   exact hQ m s' (Nat.le_refl _) (by omega) u (fun _=>q) hi'
  | false =>
   have q':lt (p.getD m 0) (p.getD (m - 1) 0)=false:=q
   simp only [q',Bool.false_eq_true,if_false]
   exact Zkr a f (m+1) s' Q (by omega) (by omega) (Up.more o hc a hm (by omega) u q) hi' fun m' s'' h1 h2 h3 h4 h5=>hQ m' s'' (by omega) h2 h3 h4 h5
theorem Zj6 {p:Array Nat}(a:Arr n p):∀ (f m:Nat) (s:Shared) (Q:Array Nat × Nat × Nat->Shared->Prop),2<=m->m+f=n->Down lt p m->I s ->
  (∀ m' s',m<=m'->m'<=n->Down lt p m'->I s'->Q (p,m',0) s')->(kas_desc f p m 0).kasWp cmp Q s
 | 0,m,s,Q,hm,hf,u,hi,hQ=>hQ m s (Nat.le_refl _) (by omega) u hi
 | f+1,m,s,Q,hm,hf,u,hi,hQ=>by
  refine hc _ _ _ _ (a.lt (i:=m) (by omega)) (a.lt (i:=m - 1) (by omega)) hi fun s' hi'=>?_
  cases q:lt (pg p m) (pg p (m - 1)) with
  | true =>
   have q':lt (p.getD m 0) (p.getD (m - 1) 0)=true:=q
   simp only [q',if_true,Nat.lt_irrefl,if_false,gt_iff_lt]
   refine Zj6 a f (m+1) s' Q (by omega) (by omega) (fun i j hij hj=>?_) hi' fun m' s'' h1 h2 h3 h4=>hQ m' s'' (by omega) h2 h3 h4
   by_cases e:j=m
   ·subst e
    by_cases e2:i=j - 1
    ·subst e2;exact q
    ·exact o.tr _ _ _ q (u i (j - 1) (by omega) (by omega))
   ·exact u i j hij (by omega)
  | false =>
   have q':lt (p.getD m 0) (p.getD (m - 1) 0)=false:=q
   simp only [q',Bool.false_eq_true,if_false]
   have q2:lt (p.getD (m - 1) 0) (p.getD m 0)=true:=by
    rcases o.tot _ _ (a.lt (i:=m) (by omega)) (a.lt (i:=m - 1) (by omega)) (fun e=>by have:=a.inj (by omega) (by omega) e;omega) with z|z
    ·rw[q] at z;cases z
    ·exact z
   refine hc _ _ _ _ (a.lt (i:=m - 1) (by omega)) (a.lt (i:=m) (by omega)) hi' fun s'' hi''=>?_
   simp only [q2,if_true]
   exact hQ m s'' (Nat.le_refl _) (by omega) u hi''
theorem Zmd {p:Array Nat}(a:Arr n p) (hn:2<=n) (s:Shared) (Q:Nat × Array Nat->Shared->Prop) (hi:I s)
  (hQ:∀ m p' s',1<=m->m<=n->Arr n p'->Up lt p' m->I s'->Q (m,p') s'):(kas_count n p).kasWp cmp Q s:=by
 unfold kas_count
 rw[KasT.kasWp_bind]
 refine Zkr o hc a (n - 1) 1 s _ (Nat.le_refl _) (by omega) (fun i j hij hj=>by omega) hi fun m s1 h1 h2 u h3 hi1=>?_
 try dsimp only
 by_cases e:m=n
 ·subst e
  rw[if_pos (by simp)]
  exact hQ m p s1 h1 h2 a u hi1
 ·rw[if_neg (by simpa using e)]
  by_cases e1:m > 1
  ·rw[if_pos e1]
   refine hc _ _ _ _ (a.lt (i:=0) (by omega)) (a.lt (i:=m - 1) (by omega)) hi1 fun s2 hi2=>?_
   have q:lt (p.getD 0 0) (p.getD (m - 1) 0)=true:=u 0 (m - 1) (by omega) (by omega)
   simp only [q,if_true]
   exact hQ m p s2 h1 h2 a u hi2
  ·rw[if_neg e1]
   have em:m=1:=by omega
   subst em
   unfold kas_descPart
   rw[KasT.kasWp_bind]
   have q:=h3 (by omega)
   refine Zj6 o hc a (n - (1+1)) (1+1) s1 _ (by omega) (by omega) (fun i j hij hj=>?_) hi1 fun m' s2 k1 k2 d hi2=>?_
   ·have:i=0:=by omega
    have:j=1:=by omega
    subst i;subst j;exact q
   ·simp only [gt_iff_lt,Nat.lt_irrefl,if_false]
    unfold kas_tail3
    rw[KasT.kasWp_bind]
    have a':=a.rev 0 m'
    refine Zkr o hc a' (n - m') m' s2 _ (by omega) (by omega) (fun i j hij hj=>?_) hi2 fun m2 s3 g1 g2 u2 _ hi3=>?_
    ·rw[Znc (by rw[a.size];omega),Znc (by rw[a.size];omega),if_pos (by omega),if_pos hj]
     exact d _ _ (by omega) (by omega)
    ·exact hQ m2 _ s3 (by omega) g2 a' u2 hi3
theorem Zdk {p:Array Nat}(a:Arr n p) {k:Nat}(hk:k<n) (u:Up lt p k):∀ (f l r:Nat) (s:Shared) (Q:Nat->Shared->Prop),l<=r->r<=k->r - l<=f->(∀ i,i<l->lt (pg p i) (pg p k)=true)->(∀ i,r<=i->i<k->lt (pg p k) (pg p i)=true)->I s ->
  (∀ l' s',l'<=k->(∀ i,i<l'->lt (pg p i) (pg p k)=true)->(∀ i,l'<=i->i<k->lt (pg p k) (pg p i)=true)->I s'->Q l' s')->(kas_place p k f l r).kasWp cmp Q s
 | 0,l,r,s,Q,h1,h2,h3,h4,h5,hi,hQ=>hQ l s (by omega) h4 (fun i hl hik=>h5 i (by omega) hik) hi
 | f+1,l,r,s,Q,h1,h2,h3,h4,h5,hi,hQ=>by
  unfold kas_place
  by_cases e:l ≥ r
  ·rw[if_pos e]
   exact hQ l s (by omega) h4 (fun i hl hik=>h5 i (by omega) hik) hi
  ·rw[if_neg e]
   have hm:(l+r) / 2<r:=by omega
   have hm2:l<=(l+r) / 2:=by omega
   refine hc _ _ _ _ (a.lt (i:=k) hk) (a.lt (i:=(l+r) / 2) (by omega)) hi fun s' hi'=>?_
   cases q:lt (pg p k) (pg p ((l+r) / 2)) with
   | true =>
    have q':lt (p.getD k 0) (p.getD ((l+r) / 2) 0)=true:=q
    simp only [q',if_true]
    refine Zdk a hk u f l ((l+r) / 2) s' Q hm2 (by omega) (by omega) h4 (fun i hl hik=>?_) hi' hQ
    by_cases e2:i=(l+r) / 2
    ·subst e2;exact q
    ·exact o.tr _ _ _ q (u _ i (by omega) hik)
   | false =>
    have q':lt (p.getD k 0) (p.getD ((l+r) / 2) 0)=false:=q
    simp only [q',Bool.false_eq_true,if_false]
    have q2:lt (pg p ((l+r) / 2)) (pg p k)=true:=by
     rcases o.tot _ _ (a.lt hk) (a.lt (i:=(l+r) / 2) (by omega)) (fun e=>by have:=a.inj hk (by omega) e;omega) with z|z
     ·rw[q] at z;cases z
     ·exact z
    refine Zdk a hk u f ((l+r) / 2+1) r s' Q (by omega) h2 (by omega) (fun i hl=>?_) h5 hi' hQ
    by_cases e2:i=(l+r) / 2
    ·subst e2;exact q2
    ·exact o.tr _ _ _ (u i _ (by omega) (by omega)) q2
theorem Znz:∀ (f k:Nat) (p:Array Nat) (s:Shared) (Q:Array Nat->Shared->Prop),Arr n p->k+f=n->Up lt p k->I s->(∀ p' s',Arr n p'->Up lt p' n->I s'->Q p' s')->(kas_bin f p k).kasWp cmp Q s
 | 0,k,p,s,Q,a,hf,u,hi,hQ=>hQ p s a (by rw[← hf];exact u) hi
 | f+1,k,p,s,Q,a,hf,u,hi,hQ=>by
  unfold kas_bin
  rw[KasT.kasWp_bind]
  have hs:=a.size
  refine Zdk o hc a (k:=k) (by omega) u k 0 k s _ (Nat.zero_le _) (Nat.le_refl _) (by omega) (fun i h=>by omega) (fun i h1 h2=>by omega) hi fun l s' hl h1 h2 hi'=>?_
  refine Znz f (k+1) _ s' Q (a.bub _ _) (by omega) (fun i j hij hj=>?_) hi' hQ
  rw[Znd (by omega) (by omega),Znd (by omega) (by omega)]
  have ek:k - (k - l)=l:=by omega
  rw[ek]
  by_cases ei:i=l
  ·rw[if_pos ei,if_neg (by omega),if_pos ⟨by omega,by omega⟩]
   exact h2 _ (by omega) (by omega)
  ·rw[if_neg ei]
   by_cases ej:j=l
   ·rw[if_pos ej,if_neg (by omega)]
    exact h1 i (by omega)
   ·rw[if_neg ej]
    by_cases e1:l<i/\i<=k
    ·rw[if_pos e1,if_pos ⟨by omega,by omega⟩]
     exact u _ _ (by omega) (by omega)
    ·rw[if_neg e1]
     by_cases e2:l<j/\j<=k
     ·rw[if_pos e2]
      exact u _ _ (by omega) (by omega)
     ·rw[if_neg e2]
      exact u _ _ (by omega) (by omega)
theorem Zoh (hn:2<=n) (s:Shared) (Q:Array Nat->Shared->Prop) (hi:I s) (hQ:∀ p s',Arr n p->Up lt p n->I s'->Q p s'):(kas_sort n).kasWp cmp Q s:=by
 unfold kas_sort
 rw[KasT.kasWp_bind]
 refine Zmd o hc ⟨Array.Perm.refl _⟩ hn s _ hi fun m p s1 h1 h2 a u hi1=>?_
 try dsimp only
 by_cases e:m<n
 ·rw[if_pos e]
  have em:max m 1=m:=by omega
  rw[em]
  exact Znz o hc (n - m) m p s1 Q a (by omega) u hi1 hQ
 ·rw[if_neg e]
  have em:m=n:=by omega
  subst em
  exact hQ p s1 a u hi1
end
end L3
namespace L3
open PySem PySem.Spec PyProof.Rows L2
structure Stp (X:Cx) (H H':Hp) (h h':Heap):Prop where
 keep:∀ b o,b≠X.env.locals->b∉X.fs->h.get? b=some o->H b=none->h'.get? b=some o
 slot:∀ b o,b≠X.env.locals->b∈X.fs->h.get? b=some o->H b=none->∃ sl,h'.get? b=some { o with slots:=sl }
 free:∀ b o,h.get? b=some o->H b=none->H' b=none
 there:∀ b o,h.get? b=some o->∃ o',h'.get? b=some o'
 tups:∀ b xs,H b=some (.tup xs)->H' b=some (.tup xs)
 frzs:∀ b o u,H b=some (.frz o u)->H' b=some (.frz o u)
 tbls:∀ b ps,H b=some (.tbl ps)->∃ more,H' b=some (.tbl (ps++more))
 ns:∀ m,h.Ns X.env.locals m->h'.Ns X.env.locals m
section
variable {X:Cx}{pins:List (Addr × Obj)}{σ:L2.St}{H H' H1 H2:Hp}{s s':Shared}{h h' h1 h2:Heap}
theorem Stp.refl:Stp X H H h h:=⟨fun _ _ _ _ e _=>e,fun b o _ _ e _=>⟨o.slots,e⟩,fun _ _ _ n=>n,fun _ o e=>⟨o,e⟩,fun _ _ e=>e,fun _ _ _ e=>e,fun _ ps e=>⟨#[],by rw[e];simp⟩,fun _ n=>n⟩
theorem Stp.trans (a:Stp X H H1 h h1) (b:Stp X H1 H2 h1 h2):Stp X H H2 h h2 where
 keep:=fun c o hL hf e n=>b.keep c o hL hf (a.keep c o hL hf e n) (a.free c o e n)
 slot:=fun c o hL hf e n=>by
  obtain⟨sl,e1⟩:=a.slot c o hL hf e n
  obtain⟨sl',e2⟩:=b.slot c _ hL hf e1 (a.free c o e n)
  exact⟨sl',e2⟩
 free:=fun c o e n=>by
  obtain⟨o',e1⟩:=a.there c o e
  exact b.free c o' e1 (a.free c o e n)
 there:=fun c o e=>by
  obtain⟨o',e1⟩:=a.there c o e
  exact b.there c o' e1
 tups:=fun c xs e=>b.tups c xs (a.tups c xs e)
 frzs:=fun c o u e=>b.frzs c o u (a.frzs c o u e)
 tbls:=fun c ps e=>by
  obtain⟨m1,e1⟩:=a.tbls c ps e
  obtain⟨m2,e2⟩:=b.tbls c _ e1
  exact⟨m1++m2,by rw[e2,Array.append_assoc]⟩
 ns:=fun m n=>b.ns m (a.ns m n)
theorem Stp.inv (I:Inv X pins σ H s) (t:Stp X H H' s.heap s'.heap) (ho:s'.os=s.os) (hok:HOk X.prog X.w H' s'.heap) (hg:AllBare s'.gens):Inv X pins σ H' s':=by
 obtain⟨h',g',d',t',o'⟩:=s'
 have e:o'=s.os:=ho
 subst e
 exact I.step (g':=g') (t':=t') (d':=d') (ch:=[]) (fun _ z=>nomatch z) (fun b o hL hf _ e n=>t.keep b o hL hf e n) (fun b o hL hf _ e n=>t.slot b o hL hf e n) (fun b o _ e n=>t.free b o e n)
  (fun b o _ e=>t.there b o e) t.tups t.frzs t.tbls t.ns hok hg
theorem Stp.of_un (I:Inv X pins σ H s) (u:Un (frs X.stack) [] H H' s.heap h'):Stp X H H' s.heap h' where
 keep:=fun b o hL hf e n=>u.keep b o e n (fun z=>(List.mem_cons.mp (I.stkSub b z)).elim hL hf) (by simp)
 slot:=fun b o _ _ e n=>u.any e n (by simp)
 free:=fun b o e n=>u.free b o e n (by simp)
 there:=fun b o e=>u.there b o e (by simp)
 tups:=u.tups
 frzs:=u.frzs
 tbls:=u.tbls
 ns:=fun m hm=>by
  obtain⟨o,es,ep,ho,r⟩:=hm
  obtain⟨sl,hL⟩:=u.any ho I.free (by simp)
  exact⟨_,es,ep,hL,r⟩
theorem Stp.kept (k:∀ b o,h.get? b=some o->h'.get? b=some o):Stp X H H h h' :=
 ⟨fun b o _ _ e _=>k b o e,fun b o _ _ e _=>⟨o.slots,k b o e⟩,fun _ _ _ n=>n,fun b o e=>⟨o,k b o e⟩,fun _ _ e=>e,fun _ _ _ e=>e,fun _ ps e=>⟨#[],by rw[e];simp⟩,fun _ n=>n.keeps k⟩
theorem Stp.over {D:Addr}(t:Stp X H H' h h1) (hD:h.get? D=none) (hn:∃ m,h1.Ns X.env.locals m) (k:∀ b o,b≠D->b≠X.env.locals->h1.get? b=some o->h2.get? b=some o) (ns:∀ m,h1.Ns X.env.locals m->h2.Ns X.env.locals m):Stp X H H' h h2:=by
 have nD:∀ b o,h.get? b=some o->b≠D:=fun b o e z=>by rw[z,hD] at e;cases e
 refine⟨fun b o hL hf e n=>k b o (nD b o e) hL (t.keep b o hL hf e n),fun b o hL hf e n=>?_,t.free,fun b o e=>?_,t.tups,t.frzs,t.tbls,fun m n=>ns m (t.ns m n)⟩
 ·obtain⟨sl,q⟩:=t.slot b o hL hf e n
  exact⟨sl,k b _ (nD b o e) hL q⟩
 ·by_cases hL:b=X.env.locals
  ·obtain⟨m,hm⟩:=hn
   obtain⟨o',_,_,q,_⟩:=ns m hm
   exact⟨o',by rw[hL];exact q⟩
  ·obtain⟨o',q⟩:=t.there b o e
   exact⟨o',k b o' (nD b o e) hL q⟩
theorem HOk.but {P:Program}{w:World}{H:Hp}{h1 h2:Heap}(ok:HOk P w H h1) (k:∀ b o,H b≠none->h1.get? b=some o->h2.get? b=some o):HOk P w H h2:=fun b u e =>
 (ok b u e).stay (fun c v hc q=>k c v (by
   rcases hc with z|z
   ·rw[z,e];simp
   ·rw[z];simp) q) (fun _ q=>q) fun _ _ q=>q
end
structure LamSc (p:Str) (fvs:List Str) (scope:Scope):Prop where
 kind:scope.kind=.function
 co:scope.isCoroutine=false
 gen:scope.isGenerator=false
 nocell:∀ y∈scope.names,y.2 ≠ .cell
 par:scope.names.lookup p=some .local
 free:∀ x,scope.names.lookup x=some .free->x∈fvs
 isf:∀ x∈fvs,scope.names.lookup x=some .free
structure Clo (cl:List (Str × Addr)) (fvs:List Str) (fs:List V) (H:Hp) (h:Heap):Prop where
 get:∀ (i:Nat) (x:Str) (v:V),fvs[i]?=some x->fs[i]?=some v->∃ c u,cl.lookup x=some c/\h.IsCell c (some u)/\RelV v u
 all:∀ x c,cl.lookup x=some c->(∃ v,h.IsCell c v)/\H c=none
 inj:∀ x y c,cl.lookup x=some c->cl.lookup y=some c->x=y
 has:∀ x∈fvs,∃ c,cl.lookup x=some c
 len:fs.length=fvs.length
def Zht (P:Program) (w:World) (K:PySem.W.Frag) (mg:Str->Option Value) (base:Heap) (N:List Str) (qual:Str) (scope:Scope) (f:Addr) (cd:Value) (cl:List (Str × Addr)) (A:Around) (outer:List Env) (s:Shared) (H:Hp):Cx where
 prog:=P
 w:=w
 K:=K
 mg:=mg
 base:=base
 A:=A.deeper (PySem.W.envX qual scope s.heap.objs.size f cd cl)
 N:=N
 s₀:=s
 H₀:=H
 env:=PySem.W.envX qual scope s.heap.objs.size f cd cl
 outer:=outer
 stack:=PySem.W.envX qual scope s.heap.objs.size f cd cl::outer
 ex:=[]
 fn:=fun _=>false
 calm:=true
 pn:=[]
 xe:=fun _ _=>False
theorem Zpc {P:Program}{w:World}{K:PySem.W.Frag}{mg:Str->Option Value}{base:Heap}{p qual:Str}{fvs:List Str}{scope:Scope}{f:Addr}{cd:Value}{cl:List (Str × Addr)}{A:Around}{outer:List Env}{s:Shared}{H:Hp}{h₁:Heap}{tk:Nat}
  {fs:List V} {v:V} {u:Value} (S:LamSc p fvs scope) (hd:A.handled=none) (e0:Env0 P w K mg base A outer s H) (C:Clo cl fvs fs H s.heap) (r:RelV v u)
  (hns:h₁.Ns s.heap.objs.size (fun x=>([(p,u)]:List (Str × Value)).reverse.lookup x)) (hk:∀ b o,s.heap.get? b=some o->h₁.get? b=some o) :
  Inv (Zht P w K mg base (p::fvs) qual scope f cd cl A outer s H) [] (some v::fs.map some) H { s with heap:=h₁,toks:=tk }:=by
 have noA:∀ b:Addr,b∉(Zht P w K mg base (p::fvs) qual scope f cd cl A outer s H).ex:=fun b z=>absurd (show b∈([]:List Addr) from z) (by simp)
 refine⟨⟨e0.mod,S.kind,rfl,rfl,Nat.le_refl _,C.inj,fun y hy=>?_,fun y c z _=>absurd (show false=true from z) Bool.false_ne_true,fun _=>hd,Around.frames_deeper e0.frames,.inr ⟨rfl,rfl⟩,fun b z=>absurd z (noA b),e0.bs,e0.bsz,fun b _ _=>noA b,fun b z=>absurd z (noA b),e0.funs,e0.frf⟩,
  rfl,e0.bare,Un.kept hk,⟨_,hns,fun i y z h1 h2 h3=>?_⟩,fun y c h=>?_,e0.hok.fresh (Nat.le_refl _),fun y c h=>(C.all y c h).2,fun q hq=>absurd (show q∈([]:List (Addr × Obj)) from hq) (by simp),e0.hok.kept hk,?_⟩
 ·have hy:scope.names.lookup y=some .cell\/scope.names.lookup y=some .free:=hy
  rcases hy with hy|hy
  ·exact absurd rfl (S.nocell _ (PySem.mem_of_lookup hy))
  ·exact C.has y (S.free y hy)
 ·cases i with
  | zero =>
   have e1:p=y:=Option.some.inj h1
   have e2:some v=some z:=Option.some.inj h2
   cases e2
   subst e1
   exact⟨u,r,.inl ⟨S.par,by simp[List.lookup]⟩⟩
  | succ i =>
   have h1:fvs[i]?=some y:=by
    have h1':(p::fvs)[i+1]?=some y:=h1
    simpa using h1'
   have h2:fs[i]?=some z:=by
    have h2':(fs.map some)[i]?=some (some z):=by simpa using h2
    rw[List.getElem?_map] at h2'
    cases e:fs[i]? with
    | none=>rw[e] at h2';cases h2'
    | some a=>rw[e] at h2';cases h2';rfl
   obtain⟨c,u',hc,hcell,r'⟩:=C.get i y z h1 h2
   exact⟨u',r',.inr ⟨.inr (S.isf y (List.mem_of_getElem? h1)),c,hc,hcell.keeps hk⟩⟩
 ·obtain⟨⟨v',hv⟩,_⟩:=C.all y c h
  exact⟨v',hv.keeps hk⟩
 ·show (some v::fs.map some).length=(p::fvs).length
  rw[List.length_cons,List.length_map,List.length_cons,C.len]
theorem Zpb {CX:CXT}{P:Program}{w:World}{K:PySem.W.Frag}{mg:Str->Option Value}{base:Heap}{k:Nat}{p name qual:Str}{params:Arguments}{body:Expr}{fvs:List Str}{scope:Scope}{f c':Addr}{cl:List (Str × Addr)}{A:Around}{outer:List Env}{s:Shared}{H:Hp}
  {fs:List V} {v:V} {u pm ctv:Value} {Q:VK} {E:XK} {t:TE} (hr:Room (k+1) A) (e0:Env0 P w K mg base A outer s H) (hf:s.heap.get? f=some (PySem.W.kla_obj name qual params body scope cl pm c' ctv)) (hcd:s.heap.CodeRec (.ref c') qual)
  (S:LamSc p fvs scope) (C:Clo cl fvs fs H s.heap) (r:RelV v u) (hbind:bindArgs (PySem.W.kla_fn name qual params body scope cl pm (.ref c') ctv) ⟨[u],[]⟩=pure [(p,u)])
  (hb:PE (Zht P w K mg base (p::fvs) qual scope f (.ref c') cl A outer s H) body t) (ht:t (some v::fs.map some) H Q) :
  codeAny (model P w) A (.call (.ref f) ⟨[u],[]⟩) (CR CX outer P w H s Q E) s:=by
 have lim:s.heap.NoLimit:=e0.mod.nolimit.keeps fun b o e=>(e0.bs b o e).1
 refine PySem.W.kla_callFunE hr.depth hf rfl S.co S.gen rfl hcd ?_
 rw[hbind]
 refine wpAny_pure (wpAny_newFunctionEnv S.nocell (fun y hy=>?_) (fun h₁ hns hsb=>?_) S.kind)
 ·have e:y=(p,u):=by simpa using hy
  rw[e]
  exact S.par
 ·have hk₁:∀ b o,s.heap.get? b=some o->h₁.get? b=some o:=fun b o e=>hsb.extBut b o (Nat.ne_of_lt (Heap.lt_size e)) (Heap.get?_push_of_some _ e)
  refine⟨lim.keeps hk₁,?_⟩
  show codeAny _ _ (.expr body (PySem.W.envX qual scope s.heap.objs.size f (.ref c') cl)) _ _
  have I:=Zpc (qual:=qual) (f:=f) (cd:=.ref c') (tk:=s.toks+([(p,u)]:List (Str × Value)).length) S hr.hd e0 C r hns hk₁
  exact PySem.W.kla_codeExpr (wpAny_mono (hb [] _ _ H Q I ht) (fun u' s' ⟨v',H',J,rv,q⟩=>⟨v',H',J.os,J.bare,J.base,J.hok,rv,q⟩) fun _ _ z=>z.elim)
def Jj (c:Addr) (q:Str):HO:=.ext fun h=>h.CodeRec (.ref c) q
def Tab (H:Hp) (P:Addr) (pos:Pos) (q:Str):Prop :=
 H P=some (.tbl #[])\/∃ c:Addr,H P=some (.tbl #[rawInt pos.line,rawInt pos.col,.ref c])/\H c=some (Jj c q)
def Kp (P:Addr) (H H':Hp):Prop:=∀ b o,H b=some o->b≠P->H' b=some o
theorem Kp.refl (P:Addr) (H:Hp):Kp P H H:=fun _ _ e _=>e
theorem Kp.trans {P:Addr}{H H1 H2:Hp}(a:Kp P H H1) (b:Kp P H1 H2):Kp P H H2:=fun c o e n=>b c o (a c o e n) n
theorem Kp.of_same {P:Addr}{H H':Hp}(a:Same H H'):Kp P H H':=fun c o e _=>a c o e
theorem Tab.ne {H:Hp}{P b:Addr}{pos:Pos}{q:Str}{o:HO}(t:Tab H P pos q) (e:H b=some o) (n:∀ ps,o ≠ .tbl ps):b≠P:=fun z=>by
 subst z
 rcases t with t|⟨c,t,_⟩
 ·rw[e] at t;exact n _ (Option.some.inj t)
 ·rw[e] at t;exact n _ (Option.some.inj t)
theorem Kp.seq {K:PySem.W.Frag}{P:Addr}{pos:Pos}{q:Str}{H H':Hp}{a:Addr}{xs:List V}(e:Kp P H H') (t:Tab H P pos q) (h:SqL K H a xs):SqL K H' a xs:=by
 rcases h with (h|⟨o,h⟩)|h
 ·exact .inl (.inl (e _ _ h (t.ne h fun _ z=>by cases z)))
 ·exact .inl (.inr ⟨o,e _ _ h (t.ne h fun _ z=>by cases z)⟩)
 ·exact .inr h
theorem Tab.kp {H H':Hp}{P P2:Addr}{pos pos2:Pos}{q q2:Str}(t2:Tab H P2 pos2 q2) (e:Kp P H H') (t:Tab H P pos q) (hne:P2≠P):Tab H' P2 pos2 q2:=by
 rcases t2 with t2|⟨c,t2,r⟩
 ·exact .inl (e _ _ t2 hne)
 ·exact .inr ⟨c,e _ _ t2 hne,e _ _ r (t.ne r fun _ z=>by cases z)⟩
theorem Tab.same {H H':Hp}{P:Addr}{pos:Pos}{q:Str}(t:Tab H P pos q) (a:Same H H'):Tab H' P pos q:=by
 rcases t with t|⟨c,t,r⟩
 ·exact .inl (a _ _ t)
 ·exact .inr ⟨c,a _ _ t,a _ _ r⟩
theorem Zkf {P:Program}{w:World}{H:Hp}{h:Heap}{c:Addr}{q:Str}(x:h.CodeRec (.ref c) q):ObjOk P w H h c (Jj c q):=by
 refine⟨x,?_,?_⟩
 ·obtain⟨c',o,vs,t,e,ho,_⟩:=x
  cases e
  exact⟨o,ho⟩
 ·rintro h1 h2 ⟨c',o,vs,t,e,ho,r⟩ k
  cases e
  exact⟨_,o,vs,t,rfl,k o ho,r⟩
def BMod (mg:Str->Option Value) (base:Heap):Prop:=∃ bm ob,mg "__builtins__" = some (.ref bm)/\bm≠builtinsNs/\base.get? bm=some ob/\ob.cls=.type "module" /\ ob.dict=some builtinsNs/\ob.data=.plain
end L3
namespace L3
open PySem PySem.Spec PyProof.Rows L2
section
variable {X:Cx}{pins:List (Addr × Obj)}{σ:L2.St}{H:Hp}{s:Shared}{E:Value->Shared->Prop}
theorem Zms (I:Inv X pins σ H s) {b:Addr}(hb:b∈frs X.stack):b<s.heap.objs.size:=by
 obtain⟨_,o,ho,_⟩:=I.stack.mem hb
 exact Heap.lt_size ho
theorem Zgm {c P:Addr}{params:Arguments}{body:Expr}{scope:Scope}{cl:List (Str × Addr)}{pos:Pos}{Qv:Value->Shared->Prop}(I:Inv X pins σ H s) (C:PySem.W.CodeHd X.base c P) (hb:BMod X.mg X.base)
  (hcode:X.env.code=.ref c) (hcl:closureFor scope X.env=pure cl) (hdef:defaultsOf params X.env=([],[])) (T:Tab H P pos (X.env.qual ++ "<lambda>"))
  (h:∀ (f c':Addr) (ctv pm:Value) (s':Shared) (H1:Hp),Inv X pins σ H1 s'->Stp X H H1 s.heap s'.heap->Kp P H H1->Tab H1 P pos (X.env.qual ++ "<lambda>")->s'.heap.get? f=some (PySem.W.kla_obj "<lambda>" (X.env.qual ++ "<lambda>") params body scope cl pm c' ctv) ->
    H1 f=none->s.heap.objs.size<=f->H1 c'=some (Jj c' (X.env.qual ++ "<lambda>"))->Qv (.ref f) s'):wpAny (model X.prog X.w) X.A (eval (.Lambda params body scope pos) X.env) Qv E s:=by
 have hg:s.heap.Ns mainGlobals X.mg:=I.mod.glob.keeps I.bk
 have hC:PySem.W.CodeHd s.heap c P:=C.keeps I.bk
 obtain⟨bm,ob,b1,b2,b3,b4,b5,b6⟩:=hb
 have b3':=I.bk _ _ b3
 have hbG:bm≠mainGlobals:=fun q=>by
  obtain⟨o,es,ep,e,hd,_⟩:=hg
  rw[q,e] at b3';cases b3';rw[hd] at b6;cases b6
 have tabAt:∀ ps,H P=some (.tbl ps)->s.heap.get? P=some (PySem.W.tabObj ps):=fun ps e=>I.hok P _ e
 have nP:∀ ps,H P=some (.tbl ps)->∀ b o,X.base.get? b=some o->b≠P:=fun ps e b o q z=>by
  have:=(I.bs b o q).2
  rw[z,e] at this;cases this
 refine PySem.W.kla_eval hdef ?_
 rcases T with T|⟨c',T,T2⟩
 ·have hgP:mainGlobals≠P:=by
   obtain⟨o,es,ep,e,_⟩:=I.mod.glob
   exact nP _ T _ _ e
  refine PySem.W.kla_makeFunction (mg:=X.mg) hcl I.ok.glob hg hcode hC (tabAt _ T) trivial rfl hgP ⟨bm,ob,b1,b2,hbG,nP _ T _ _ b3,b3',b4,b5,b6⟩ fun c' ctv h' tk hx hge hlt hrec htb=>?_
  have hPs:P<s.heap.objs.size:=Heap.lt_size (tabAt _ T)
  have hcn:H c'=none:=I.hok.fresh hge
  have hcP:c'≠P:=fun z=>by rw[z,T] at hcn;cases hcn
  have kp:∀ b o,b≠P->s.heap.get? b=some o->(h'.push (PySem.W.kla_obj "<lambda>" (X.env.qual ++ "<lambda>") params body scope cl ((X.mg "__name__").getD .none) c' ctv)).get? b=some o:=fun b o hbp e=>Heap.get?_push_of_some _ (hx b o hbp e)
  have old:∀ b,b≠P->b≠c'->upd (upd H c' (Jj c' (X.env.qual ++ "<lambda>"))) P (.tbl (#[] ++ #[rawInt pos.line,rawInt pos.col,.ref c'])) b=H b:=fun b h1 h2=>by rw[Zb h1,Zb h2]
  have hL:X.env.locals≠P:=fun z=>by have:=I.free;rw[z,T] at this;cases this
  have st:Stp X H (upd (upd H c' (Jj c' (X.env.qual ++ "<lambda>"))) P (.tbl (#[] ++ #[rawInt pos.line,rawInt pos.col,.ref c']))) s.heap (h'.push (PySem.W.kla_obj "<lambda>" (X.env.qual ++ "<lambda>") params body scope cl ((X.mg "__name__").getD .none) c' ctv)):=by
   refine⟨fun b o _ _ e n=>kp b o (fun z=>by rw[z,T] at n;cases n) e,fun b o _ _ e n=>⟨o.slots,kp b o (fun z=>by rw[z,T] at n;cases n) e⟩,fun b o e n=>?_,fun b o e=>?_,fun b xs e=>?_,fun b o u e=>?_,fun b ps e=>?_,fun m n=>?_⟩
   ·rw[old b (fun z=>by rw[z,T] at n;cases n) (Nat.ne_of_lt (Nat.lt_of_lt_of_le (Heap.lt_size e) hge))]
    exact n
   ·by_cases hbp:b=P
    ·rw[hbp];exact⟨_,Heap.get?_push_of_some _ htb⟩
    ·exact⟨o,kp b o hbp e⟩
   ·rw[old b (fun z=>by rw[z,T] at e;cases e) (fun z=>by rw[z,hcn] at e;cases e)]
    exact e
   ·rw[old b (fun z=>by rw[z,T] at e;cases e) (fun z=>by rw[z,hcn] at e;cases e)]
    exact e
   ·by_cases hbp:b=P
    ·subst hbp
     rw[T] at e;cases e
     exact⟨_,Ze⟩
    ·rw[old b hbp (fun z=>by rw[z,hcn] at e;cases e)]
     exact⟨#[],by rw[e];simp⟩
   ·obtain⟨o,es,ep,e,r⟩:=n
    exact⟨o,es,ep,kp _ o hL e,r⟩
  have hok:HOk X.prog X.w (upd (upd H c' (Jj c' (X.env.qual ++ "<lambda>"))) P (.tbl (#[] ++ #[rawInt pos.line,rawInt pos.col,.ref c']))) (h'.push (PySem.W.kla_obj "<lambda>" (X.env.qual ++ "<lambda>") params body scope cl ((X.mg "__name__").getD .none) c' ctv)):=fun b u e=>by
   by_cases hbp:b=P
   ·subst hbp
    rw[Ze] at e;cases e
    exact Heap.get?_push_of_some _ htb
   ·rw[Zb hbp] at e
    by_cases hbc:b=c'
    ·subst hbc
     rw[Ze] at e;cases e
     obtain⟨c2,oc,vs,t,e2,hoc,r⟩:=hrec
     cases e2
     exact Zkf ⟨b,oc,vs,t,rfl,Heap.get?_push_of_some _ hoc,r⟩
    ·rw[Zb hbc] at e
     refine(I.hok b u e).stay (fun d v hd q=>kp d v ?_ q) (fun d q=>?_) fun d xs q=>?_
     ·rcases hd with z|z
      ·rw[z];exact hbp
      ·intro w;rw[w,T] at z;cases z
     ·rw[old d (fun w=>by rw[w,T] at q;cases q) (fun w=>by rw[w,hcn] at q;cases q)];exact q
     ·rw[old d (fun w=>by rw[w,T] at q;cases q) (fun w=>by rw[w,hcn] at q;cases q)];exact q
  have hfn:upd (upd H c' (Jj c' (X.env.qual ++ "<lambda>"))) P (.tbl (#[] ++ #[rawInt pos.line,rawInt pos.col,.ref c'])) h'.objs.size=none:=by
   have hs:s.heap.objs.size<=h'.objs.size:=Nat.le_trans hge (Nat.le_of_lt hlt)
   rw[old _ (Nat.ne_of_gt (Nat.lt_of_lt_of_le hPs hs)) (Nat.ne_of_gt hlt)]
   exact I.hok.fresh hs
  refine h h'.objs.size c' ctv _ _ _ (Stp.inv (s':={ s with heap:=_,toks:=tk }) I st rfl hok I.bare) st (fun b o e n=>?_) (.inr ⟨c',Ze,by rw[Zb hcP,Ze]⟩) (Heap.get?_push_size _ rfl) hfn (Nat.le_trans hge (Nat.le_of_lt hlt)) (by rw[Zb hcP,Ze])
  rw[old b n (fun z=>by rw[z,hcn] at e;cases e)]
  exact e
 ·refine PySem.W.kla_makeFunctionHit (mg:=X.mg) (cv:=.ref c') hcl I.ok.glob hg hcode hC (tabAt _ T) (by simp[TriplesOk,rawInt]) (by simp[codeAmong,rawInt]) ⟨bm,ob,b1,b2,hbG,nP _ T _ _ b3,b3',b4,b5,b6⟩ fun ctv h' tk hk hsz=>?_
  have kp:∀ b o,s.heap.get? b=some o->(h'.push ({ cls:=.type "function",data:=.func (PySem.W.kla_fn "<lambda>" (X.env.qual ++ "<lambda>") params body scope cl ((X.mg "__name__").getD .none) (.ref c') ctv) }:Obj)).get? b=some o:=fun b o e=>Heap.get?_push_of_some _ (hk b o e)
  exact h h'.objs.size c' ctv _ _ H (I.kept (t':=tk) kp) (Stp.kept kp) (Kp.refl _ _) (.inr ⟨c',T,T2⟩) (Heap.get?_push_size _ rfl) (I.hok.fresh hsz) hsz T2
end
def klt (ky:Nat->Int × Int) (i j:Nat):Bool:=HT.lexLt [(ky i).1,(ky i).2] [(ky j).1,(ky j).2]
def Zcl (X:Cx) (pins:List (Addr × Obj)) (σ:L2.St) (H:Hp) (s:Shared) (A:Around) (f:Addr) (xs:List V) (ky:Nat->Int × Int):Prop :=
 ∀ (i:Nat) (x:V) (u:Value) (s1:Shared) (H1:Hp),xs[i]?=some x->RelV x u->Inv X pins σ H1 s1->Stp X H H1 s.heap s1.heap->Same H H1 ->
  wpAny (model X.prog X.w) A (call (.ref f) [u]) (CE X.stack X.prog X.w H1 s1 fun kv H2=>∃ p,kv=.ref p/\Same H1 H2/\H2 p=some (.tup [.int (ky i).1,.int (ky i).2])) (fun _ _=>False) s1
structure KS (X:Cx) (H:Hp) (s:Shared) (D kS e1:Nat) (ky:Nat->Int × Int) (ks:List Value) (H':Hp) (s':Shared):Prop where
 os:s'.os=s.os
 bare:AllBare s'.gens
 stp:Stp X H H' s.heap s'.heap
 hok:HOk X.prog X.w H' s'.heap
 same:Same H H'
 nD:H' D=none
 nK:H' kS=none
 oD:s'.heap.get? D=some (seqObj "list" #[] e1)
 oK:∃ e,s'.heap.get? kS=some (seqObj "list" ks.toArray e)
 key:∀ i v,ks[i]?=some v->∃ p,v=.ref p/\H' p=some (.tup [.int (ky i).1,.int (ky i).2])
section
variable {X:Cx}{pins:List (Addr × Obj)}{σ:L2.St}{H H':Hp}{s s':Shared}{D kS e1:Nat}{ky:Nat->Int × Int}{ks:List Value}
theorem Zrj {h:Heap}{L a:Addr}{f:Obj->Obj}{m:Str->Option Value}(hne:L≠a) (n:h.Ns L m):(h.update a f).Ns L m:=by
 obtain⟨o,es,ep,e,r⟩:=n
 exact⟨o,es,ep,(Heap.get?_update_other _ _ (Ne.symm hne)).trans e,r⟩
theorem Zab {a:Addr}{fo:Obj->Obj}{h:Heap}(I:Inv X pins σ H s) (ha:s.heap.objs.size<=a) (st:Stp X H H' s.heap h) (hok:HOk X.prog X.w H' h) (na:H' a=none) :
  Stp X H H' s.heap (h.update a fo)/\HOk X.prog X.w H' (h.update a fo):=by
 have hL:X.env.locals≠a:=Nat.ne_of_lt (Nat.lt_of_lt_of_le I.lt ha)
 obtain⟨m,hm,_⟩:=I.loc
 refine⟨st.over (D:=a) (Heap.get?_none_of_le ha) ⟨m,st.ns m hm⟩ (fun b o hb _ e=>(Heap.get?_update_other _ _ (Ne.symm hb)).trans e) fun m' n=>Zrj hL n,HOk.but hok fun b o hb e=>(Heap.get?_update_other _ _ fun z=>hb (by rw[← z];exact na)).trans e⟩
theorem KS.inv (I:Inv X pins σ H s) (k:KS X H s D kS e1 ky ks H' s'):Inv X pins σ H' s':=Stp.inv I k.stp k.os k.hok k.bare
theorem KS.turn {A:Around}{f:Addr}{xs:List V}{i:Nat}{x:V}{u:Value}{body:Sem (ForInStep PUnit)}{E:Value->Shared->Prop}(I:Inv X pins σ H s) (hD:s.heap.objs.size<=D) (hK:s.heap.objs.size<=kS) (hDK:D≠kS) (T:Zcl X pins σ H s A f xs ky)
  (hx:xs[i]?=some x) (ru:RelV x u) (hi:ks.length=i) (h64:i<64) (k:KS X H s D kS e1 ky ks H' s')
  (hb:∀ Q:ForInStep PUnit->Shared->Prop,wpAny (model X.prog X.w) A (call (.ref f) [u]) (fun kv s2=>∃ xs' n',s2.heap.get? kS=some (seqObj "list" xs' n')/\xs'.size<=sizeLine/\Q (.yield ⟨⟩) { s2 with heap:=s2.heap.update kS (Obj.mapSeq (·.push kv)) }) (fun _ _=>False) s'->wpAny (model X.prog X.w) A body Q E s') :
  wpAny (model X.prog X.w) A body (fun r s2=>r=.yield ⟨⟩/\∃ kv H2,KS X H s D kS e1 ky (ks++[kv]) H2 s2) E s':=by
 have J:=k.inv I
 refine hb _ (wpAny_mono (T i x u s' H' hx ru J k.stp k.same) (fun kv s2 h=>?_) fun _ _ z=>z)
 obtain⟨v,H2,os,bare,un,hok,rv,p,e,sm,hp⟩:=h
 subst e
 cases (show kv=.ref p from rv)
 obtain⟨eK,oK⟩:=k.oK
 have nf:∀ {a},s.heap.objs.size<=a->a∉frs X.stack:=fun ha z=>absurd (Nat.lt_of_lt_of_le (Zms I z) ha) (Nat.lt_irrefl _)
 have oK2:=un.keep kS _ oK k.nK (nf hK) (by simp)
 have oD2:=un.keep D _ k.oD k.nD (nf hD) (by simp)
 have nK2:=un.free kS _ oK k.nK (by simp)
 have nD2:=un.free D _ k.oD k.nD (by simp)
 obtain⟨st,hok'⟩:=Zab (fo:=Obj.mapSeq (·.push (Value.ref p))) I hK (k.stp.trans (Stp.of_un J un)) hok nK2
 refine⟨_,_,oK2,by rw[List.size_toArray,sizeLine_eq];omega,rfl,.ref p,H2,os.trans k.os,bare,st,hok',k.same.trans sm,nD2,nK2,(Heap.get?_update_other _ _ (Ne.symm hDK)).trans oD2,?_,fun j w hj=>?_⟩
 ·have q:=get?_update_seq oK2 (·.push (Value.ref p))
  rw[List.push_toArray] at q
  exact⟨_,q⟩
 ·by_cases hl:j<ks.length
  ·rw[List.getElem?_append_left hl] at hj
   obtain⟨q,e,hq⟩:=k.key j w hj
   exact⟨q,e,sm _ _ hq⟩
  ·rw[List.getElem?_append_right (by omega)] at hj
   have ej:j - ks.length=0:=by
    cases z:j - ks.length with
    | zero=>rfl
    | succ n=>rw[z] at hj;simp at hj
   rw[ej] at hj
   have:j=i:=by omega
   subst this
   cases hj
   exact⟨p,rfl,hp⟩
end
end L3
namespace L3
open PySem PySem.Spec PyProof.Rows L2
section
variable {X:Cx}{pins:List (Addr × Obj)}{σ:L2.St}{H H':Hp}{s s':Shared}{D kS e1:Nat}{ky:Nat->Int × Int}{ks:List Value}{h:Heap}
theorem track {o:HO}(I:Inv X pins σ H s) (hD:s.heap.objs.size<=D) (st:Stp X H H' s.heap h) (hok:HOk X.prog X.w H' h) (nD:H' D=none) (new:ObjOk X.prog X.w (upd H' D o) h D o) :
  Stp X H (upd H' D o) s.heap h/\HOk X.prog X.w (upd H' D o) h:=by
 have hn:H D=none:=I.hok.fresh hD
 have ne:∀ b u,H b=some u->b≠D:=fun b u e z=>by rw[z,hn] at e;cases e
 refine⟨⟨st.keep,st.slot,fun b u e n=>?_,st.there,fun b xs e=>?_,fun b ob u e=>?_,fun b ps e=>?_,st.ns⟩,fun b u e=>?_⟩
 ·rw[Zb (Nat.ne_of_lt (Nat.lt_of_lt_of_le (Heap.lt_size e) hD))]
  exact st.free b u e n
 ·rw[Zb (ne b _ e)];exact st.tups b xs e
 ·rw[Zb (ne b _ e)];exact st.frzs b ob u e
 ·rw[Zb (ne b _ e)];exact st.tbls b ps e
 ·by_cases hb:b=D
  ·subst hb
   rw[Ze] at e;cases e
   exact new
  ·rw[Zb hb] at e
   exact(hok b u e).stay (fun _ _ _ q=>q) (fun c q=>by rw[Zb (Zl q nD)];exact q) fun c xs q=>by rw[Zb (Zl q nD)];exact q
theorem Zb8 {p:Addr}{a b:Int}(J:Inv X pins σ H' s') (hp:H' p=some (.tup [.int a,.int b])):∃ (o:Obj) (t u:Tok) (n:Nat),s'.heap.get? p=some o/\o.cls=.type "tuple" /\ o.data=.seq #[.int a t,.int b u] n:=by
 obtain⟨_,its,r,o,ho,hc,n,hd⟩:=(show ObjOk X.prog X.w H' s'.heap p (.tup [.int a,.int b]) from J.hok p _ hp)
 obtain⟨u1,u2,rfl,⟨t,rfl⟩,⟨t',rfl⟩⟩:=Vals.two r
 exact⟨o,t,t',n,ho,hc,hd⟩
theorem Zrt {A:Around}{p q:Addr}{a b c d:Int}{Q:Bool->Shared->Prop}{E:Value->Shared->Prop}(J:Inv X pins σ H' s') (hp:H' p=some (.tup [.int a,.int b])) (hq:H' q=some (.tup [.int c,.int d]))
  (hQ:Q (HT.lexLt [a,b] [c,d]) s'):wpAny (model X.prog X.w) A (keyLt' (tuples' true) (.ref p) (.ref q)) Q E s':=by
 obtain⟨o,t,u,n,ho,_,hd⟩:=Zb8 J hp
 obtain⟨o2,t2,u2,n2,ho2,_,hd2⟩:=Zb8 J hq
 refine PySem.W.kat_lt ho hd ho2 hd2 ?_
 show PySem.W.KatLex _ _ A true _ Q [(Value.int a t,Value.int c t2),(Value.int b u,Value.int d u2)] 0 s'
 rw[HT.lexLt_cons] at hQ
 refine PySem.W.kat_cons (wpAny_eqBool_int ?_)
 by_cases h1:a=c
 ·rw[if_pos h1,HT.lexLt_cons] at hQ
  rw[show (a == c)=true from beq_iff_eq.mpr h1]
  refine PySem.W.kat_yes (PySem.W.kat_cons (wpAny_eqBool_int ?_))
  by_cases h2:b=d
  ·rw[if_pos h2,HT.lexLt_nil_nil] at hQ
   rw[show (b == d)=true from beq_iff_eq.mpr h2]
   exact PySem.W.kat_yes (PySem.W.kat_nil hQ)
  ·rw[if_neg h2] at hQ
   rw[show (b == d)=false from beq_eq_false_iff_ne.mpr h2]
   exact PySem.W.kat_no (PySem.W.kat_one _ _ (lt_int hQ))
 ·rw[if_neg h1] at hQ
  rw[show (a == c)=false from beq_eq_false_iff_ne.mpr h1]
  exact PySem.W.kat_no (oneLt_int hQ)
theorem Zh4 (J:Inv X pins σ H' s'):∀ (ks:List Value),(∀ v∈ks,∃ p a b,v=.ref p/\H' p=some (.tup [.int a,.int b]))->∃ fs:List Value,PySem.W.KatTups s'.heap ks fs/\fs.length=ks.length/\∀ v∈fs,∃ i t,v=.int i t
 | [],_=>⟨[],PySem.W.KatTups.nil,rfl,fun _ z=>nomatch z⟩
 | v::r,hk=>by
  obtain⟨fs,h1,h2,h3⟩:=Zh4 J r fun w hw=>hk w (List.mem_cons_of_mem _ hw)
  obtain⟨p,a,b,rfl,hp⟩:=hk v List.mem_cons_self
  obtain⟨o,t,u,n,ho,hc,hd⟩:=Zb8 J hp
  refine⟨.int a t::fs,PySem.W.KatTups.cons ho hc hd rfl h1,by rw[List.length_cons,List.length_cons,h2],fun w hw=>?_⟩
  rcases List.mem_cons.mp hw with e|hw
  ·exact⟨a,t,e⟩
  ·exact h3 w hw
theorem Zft {A:Around}{its:List Value}{P:SortSt->Shared->Prop}{E:Value->Shared->Prop}(J:Inv X pins σ H' s') (hl:ks.length=its.length) (h2:2<=its.length) (h64:its.length<64) (hord:Ord its.length (klt ky))
  (hk:∀ i v,ks[i]?=some v->∃ p,v=.ref p/\H' p=some (.tup [.int (ky i).1,.int (ky i).2]))
  (hP:∀ st p,Arr its.length p->Up (klt ky) p its.length->(arrOf st).map (·.2)=(p.toList.map fun i=>its.getD i Value.none).toArray->failedOf st=none->P st s') :
  wpAny (model X.prog X.w) A (keyKind' ks.toArray) (fun κ s2=>wpAny (model X.prog X.w) A ((sortRuns').run (SortSt.mk' κ (ks.toArray.zip its.toArray) #[] 7 none)) (fun r s3=>P r.2 s3) E s2) E s':=by
 obtain⟨fs,t1,t2,t3⟩:=Zh4 J ks fun v hv=>by
  obtain⟨i,hi,e⟩:=List.getElem_of_mem hv
  obtain⟨p,e1,e2⟩:=hk i v (by rw[List.getElem?_eq_getElem hi,e])
  exact⟨p,_,_,e1,e2⟩
 refine PySem.W.kat_kind (T:=.type "int") t1 (by omega) (fun v hv=>?_) (by decide+kernel) ?_
 ·obtain⟨i,t,rfl⟩:=t3 v hv
  exact PySem.W.Looks.of_pure rfl
 ·have et:(Value.type "int" != Value.type "tuple")=true:=by decide+kernel
  rw[et]
  refine PySem.W.kat_run (G:=fun p s2=>s2=s'/\Arr its.length p/\Up (klt ky) p its.length) hl h2 h64 (fun p st s2 _ har hf g=>?_) ?_
  ·obtain⟨rfl,a,u⟩:=g
   exact hP st p a u (PySem.W.kat_snds hl har) hf
  ·refine Zoh (I:=fun s2=>s2=s') hord (fun i j C s2 hi hj e hC=>?_) h2 s' _ rfl fun p s2 a u e=>⟨e,a,u⟩
   subst e
   have gi:∃ p,ks.getD i Value.none=.ref p/\H' p=some (.tup [.int (ky i).1,.int (ky i).2]):=by
    have hi':i<ks.length:=by omega
    obtain⟨p,e1,e2⟩:=hk i _ (List.getElem?_eq_getElem hi')
    exact⟨p,by simpa [List.getD,hi'] using e1,e2⟩
   have gj:∃ p,ks.getD j Value.none=.ref p/\H' p=some (.tup [.int (ky j).1,.int (ky j).2]):=by
    have hj':j<ks.length:=by omega
    obtain⟨p,e1,e2⟩:=hk j _ (List.getElem?_eq_getElem hj')
    exact⟨p,by simpa [List.getD,hj'] using e1,e2⟩
   obtain⟨p,ep,hp⟩:=gi
   obtain⟨q,eq,hq⟩:=gj
   show wpAny _ A (keyLt' (tuples' true) (ks.getD i Value.none) (ks.getD j Value.none)) C _ _
   rw[ep,eq]
   exact Zrt J hp hq (hC _ rfl)
theorem Zcw {α:Type}(d:α) (l:List α):(List.range l.length).map (fun i=>l.getD i d)=l:=by
 apply List.ext_getElem
 ·simp
 ·intro i h1 h2
  simp[List.getD,h2]
theorem Zd3 {xs:List V}{its:List Value}(r:Vals xs its):∀ (l:List Nat),(∀ i∈l,i<xs.length)->Vals (l.map fun i=>xs.getD i .non) (l.map fun i=>its.getD i Value.none)
 | [],_=>.nil
 | i::l,hl=>by
  have hi:=hl i List.mem_cons_self
  obtain⟨u,e,ru⟩:=r.get (i:=i) (List.getElem?_eq_getElem hi)
  have hi2:i<its.length:=by rw[← r.length];exact hi
  refine .cons ?_ (Zd3 r l fun j hj=>hl j (List.mem_cons_of_mem _ hj))
  have e1:xs.getD i .non=xs[i]:=by simp[List.getD,hi]
  have e2:its.getD i Value.none=u:=by simp[List.getD,e]
  show RelV (xs.getD i .non) (its.getD i Value.none)
  rw[e1,e2]
  exact ru
theorem Zij {A:Around}{st:SortSt}{out:List Value}{P:PySem.Fin->Shared->Prop}{E:Value->Shared->Prop}(I:Inv X pins σ H s) (hD:s.heap.objs.size<=D) (hK:s.heap.objs.size<=kS) (hDK:D≠kS) (k:KS X H s D kS e1 ky ks H' s') (hks:ks.length<64)
  (hout:(arrOf st).map (·.2)=out.toArray) (ho64:out.length<64) (hf:failedOf st=none)
  (hP:∀ s2:Shared,s2.os=s.os->AllBare s2.gens->Stp X H H' s.heap s2.heap->HOk X.prog X.w H' s2.heap->(∃ c,s2.heap.get? D=some (seqObj "list" out.toArray c))->P (.done (.ret .none)) s2) :
  wpAny (model X.prog X.w) A (ksk_tail D false e1 (.ref kS) st) P E s':=by
 obtain⟨eK,oK⟩:=k.oK
 have oD1:(s'.heap.update kS (Obj.mapSeq fun _=>(#[]:Array Value))).get? D=some (seqObj "list" #[] e1):=(Heap.get?_update_other _ _ (Ne.symm hDK)).trans k.oD
 obtain⟨st1,hok1⟩:=Zab (fo:=Obj.mapSeq fun _=>(#[]:Array Value)) I hK k.stp k.hok k.nK
 obtain⟨st2,hok2⟩:=Zab (fo:=Obj.mapSeq fun _=>out.toArray) I hD st1 hok1 k.nD
 unfold ksk_tail
 try dsimp only
 rw[hout]
 refine wpAny_bind (listUpdate_at oK rfl (wpAny_bind (wpAny_letGo (wpAny_bind (seqEpoch_at oD1 rfl (wpAny_bind (listUpdate_at oD1 rfl ?_ (Nat.zero_le _) ?_)))))) ?_ (Nat.zero_le _))
 ·rw[hf]
  simp only [bne_self_eq_false,Bool.false_eq_true,if_false]
  exact wpAny_pure (hP _ k.os k.bare st2 hok2 ⟨_,get?_update_seq oD1 fun _=>out.toArray⟩)
 ·simp only [Bool.false_eq_true,if_false,List.size_toArray]
  rw[sizeLine_eq];omega
 ·rw[List.size_toArray,sizeLine_eq];omega
end
section
variable {X:Cx}{pins:List (Addr × Obj)}{σ:L2.St}{H:Hp}{s:Shared}{ky:Nat->Int × Int}
theorem Zg3 {l f:Addr}{xs:List V}{Q:VK}{E:Value->Shared->Prop}(I:Inv X pins σ H s) (hq:SqL X.K H l xs) (h64:xs.length<64) (hord:Ord xs.length (klt ky)) (T:Zcl X pins σ H s X.A.in1.in1 f xs ky)
  (hQ:∀ (D:Addr) (H':Hp) (p:Array Nat),Same H H'->H' D=none->H D=none->Arr xs.length p->Up (klt ky) p xs.length->Q (.ref D) (upd H' D (.lst (p.toList.map fun i=>xs.getD i .non)))) :
  wpAny (model X.prog X.w) X.A (call (.builtin "sorted") [.ref l] [(Str.ofString "key",.ref f)]) (EP X pins σ Q) E s:=by
 obtain⟨its,rv,pl,hz⟩:=I.list hq
 have hlen:=rv.length
 have hz64:its.length<64:=by omega
 have hls:its.length<=sizeLine:=by rw[sizeLine_eq];omega
 refine call_function_entry_kw kind_sorted plain_sorted entry_sorted (ksk_s1 _ _) ?_
 unfold Builtin.«sorted»
 refine wpAny_bind (m:=checkCount "sorted" 1 1 _) (wpAny_pure (wpAny_bind (collect_list pl.isList (wpAny_bind (wpAny_newList ?_ hls)) hls)))
 generalize hg1:(s.heap.push (seqObj "list" #[] 0)).update s.heap.objs.size (Obj.mapSeq (· ++ its.toArray))=g1
 have zs1:g1.objs.size=s.heap.objs.size+1:=by rw[← hg1,Heap.size_update,size_push']
 have kp1:∀ b o,s.heap.get? b=some o->g1.get? b=some o:=fun b o e=>by
  rw[← hg1,Heap.get?_update_ne _ _ _ _ (Nat.ne_of_lt (Heap.lt_size e))]
  exact Heap.get?_push_of_some _ e
 show wpAny _ _ _ _ _ { s with heap:=g1.push (seqObj "list" its.toArray 0) }
 have oD0:(g1.push (seqObj "list" its.toArray 0)).get? g1.objs.size=some (seqObj "list" its.toArray 0):=Heap.get?_push_size _ rfl
 refine wpAny_bind (wpAny_holding (wpAny_call_entry_kw slot_list_sort ⟨_,oD0,rfl⟩ entry_list_sort ?body (ksk_l1 _ _)))
 case body =>
  show wpAny (model X.prog X.w) X.A.in1.in1 (Builtin.«list.sort» ⟨[.ref g1.objs.size],[(Str.ofString "key",.ref f)]⟩) _ _ _
  rw[ksk_t1]
  unfold ksk_tree
  refine wpAny_bind (listItems_at oD0 rfl (wpAny_bind (listUpdate_at oD0 rfl ?_ (by rw[List.size_toArray];exact hls) (Nat.zero_le _))))
  obtain⟨e1,oD1⟩:∃ e1,((g1.push (seqObj "list" its.toArray 0)).update g1.objs.size (Obj.mapSeq fun _=>(#[]:Array Value))).get? g1.objs.size=some (seqObj "list" #[] e1):=⟨_,get?_update_seq oD0 fun _=>#[]⟩
  generalize hg2:(g1.push (seqObj "list" its.toArray 0)).update g1.objs.size (Obj.mapSeq fun _=>(#[]:Array Value))=g2 at oD1
  have zs2:g2.objs.size=g1.objs.size+1:=by rw[← hg2,Heap.size_update,size_push']
  have kp2:∀ b o,s.heap.get? b=some o->g2.get? b=some o:=fun b o e=>by
   have:=kp1 b o e
   rw[← hg2,Heap.get?_update_ne _ _ _ _ (Nat.ne_of_lt (Heap.lt_size this))]
   exact Heap.get?_push_of_some _ this
  show wpAny _ _ _ _ _ { s with heap:=g2 }
  refine wpAny_bind (seqEpoch_at oD1 rfl (wpAny_bind (wpAny_newTuple (wpAny_bind (wpAny_newList (wpAny_holding ?_) (Nat.zero_le _))) (by simpa using hls))))
  show wpAny _ _ (ksk_rest g1.objs.size (.ref f) false its.toArray e1 (.ref (g2.push (seqObj "tuple" its.toArray 0)).objs.size)) _ _ { s with heap:=(g2.push (seqObj "tuple" its.toArray 0)).push (seqObj "list" #[] 0) }
  generalize hkS:(g2.push (seqObj "tuple" its.toArray 0)).objs.size=kS
  have ekS:kS=g1.objs.size+2:=by rw[← hkS,size_push',zs2]
  have hD:s.heap.objs.size<=g1.objs.size:=by omega
  have hK:s.heap.objs.size<=kS:=by omega
  have hDK:g1.objs.size≠kS:=by omega
  have kp3:∀ b o,s.heap.get? b=some o->((g2.push (seqObj "tuple" its.toArray 0)).push (seqObj "list" #[] 0)).get? b=some o:=fun b o e=>Heap.get?_push_of_some _ (Heap.get?_push_of_some _ (kp2 b o e))
  have K0:KS X H s g1.objs.size kS e1 ky [] H { s with heap:=(g2.push (seqObj "tuple" its.toArray 0)).push (seqObj "list" #[] 0) } :=
   ⟨rfl,I.bare,Stp.kept kp3,I.hok.kept kp3,Same.refl _,I.hok.fresh hD,I.hok.fresh hK,Heap.get?_push_of_some _ (Heap.get?_push_of_some _ oD1),⟨0,by rw[← hkS];exact Heap.get?_push_size _ rfl⟩,fun i v e=>by simp at e⟩
  unfold ksk_rest
  refine wpAny_bind (wpAny_rule ?_)
  rw[List.forIn_toArray]
  refine wpAny_bind (ksk_fold (fun i s2=>∃ ks H2,ks.length=i/\KS X H s g1.objs.size kS e1 ky ks H2 s2) its 0 _ ⟨[],H,rfl,K0⟩ (fun j x s2 hx hJ=>?_) fun s2 hJ=>?_)
  ·obtain⟨ks,H2,hl,k⟩:=hJ
   have hj:j<xs.length:=by rw[hlen];exact(List.getElem?_eq_some_iff.mp hx).1
   obtain⟨u,eu,ru⟩:=rv.get (i:=j) (List.getElem?_eq_getElem hj)
   rw[hx] at eu;cases eu
   refine wpAny_mono (KS.turn (i:=j) (x:=xs[j]) (u:=x) I hD hK hDK T (List.getElem?_eq_getElem hj) ru (by omega) (by omega) k (fun Q' hc=>?_)) (fun r s3 hr=>?_) fun _ _ z=>z
   ·refine wpAny_bind (wpAny_attempt (wpAny_mono hc (fun kv s3 h3=>?_) fun _ _ z=>z.elim))
    obtain⟨xs',n',o3,z3,q3⟩:=h3
    exact wpAny_bind (listUpdate_at o3 rfl (wpAny_pure q3) z3 (by rw[Array.size_push];omega))
   ·obtain⟨e,kv,H3,k3⟩:=hr
    exact⟨e,ks++[kv],H3,by rw[List.length_append,List.length_singleton];omega,k3⟩
  ·obtain⟨ks,H2,hl,k⟩:=hJ
   have hlk:ks.length=its.length:=by omega
   obtain⟨eK,oK⟩:=k.oK
   refine wpAny_bind (listItems_at oK rfl ?_)
   have fin:∀ (st:SortSt) (p:Array Nat),Arr its.length p->Up (klt ky) p its.length->(arrOf st).map (·.2)=(p.toList.map fun i=>its.getD i Value.none).toArray->failedOf st=none ->
     wpAny (model X.prog X.w) X.A.in1.in1 (ksk_tail g1.objs.size false e1 (.ref kS) st) (fun fin s'=>∃ v,fin=.done (.ret v)/\wpAny (model X.prog X.w) X.A.in1 (ret (.ref g1.objs.size)) (fun fin s'=>∃ v,fin=.done (.ret v)/\EP X pins σ Q v s') E s') E s2:=fun st p a u hout hf=>by
    have hpl:p.toList.length=its.length:=by rw[Array.length_toList];exact a.size
    refine Zij I hD hK hDK k (by omega) hout (by rw[List.length_map];omega) hf fun s3 os3 b3 st3 ok3 o3=>⟨_,rfl,wpAny_pure ⟨_,rfl,?_⟩⟩
    obtain⟨c,o3⟩:=o3
    have hv:Vals (p.toList.map fun i=>xs.getD i .non) (p.toList.map fun i=>its.getD i Value.none):=Zd3 rv _ fun i hi=>by
     have:=(Array.perm_iff_toList_perm.mp a.perm).mem_iff.mp hi
     rw[hlen]
     simpa using this
    obtain⟨st4,ok4⟩:=track (o:=.lst (p.toList.map fun i=>xs.getD i .non)) I hD st3 ok3 k.nD ⟨by rw[List.length_map,hpl];exact hls,_,c,hv,o3⟩
    rw[← hlen] at a u
    exact⟨.ref g1.objs.size,_,Stp.inv I st4 os3 ok4 b3,rfl,hQ _ H2 p k.same k.nD (I.hok.fresh hD) a u⟩
   unfold ksk_end
   simp only [Bool.false_eq_true,if_false]
   by_cases h2:its.toArray.size<2
   ·rw[if_pos h2,if_pos h2]
    refine wpAny_bind (wpAny_pure ?_)
    rw[StateT.run_pure]
    refine wpAny_bind (wpAny_pure (fin _ (List.range its.length).toArray ⟨Array.Perm.refl _⟩ (fun i j hij hj=>?_) ?_ rfl))
    ·rw[List.size_toArray] at h2;omega
    ·show ((ks.toArray.zip its.toArray).map (·.2))=_
     apply Array.toList_inj.mp
     rw[Array.toList_map,ksk_zip]
     simp only [List.toList_toArray,Zcw]
     exact List.map_snd_zip (by omega)
   ·rw[if_neg h2,if_neg h2]
    rw[List.size_toArray] at h2
    refine wpAny_bind (wpAny_mono (Zft (P:=fun st s3=>s3=s2/\∃ p,Arr its.length p/\Up (klt ky) p its.length/\(arrOf st).map (·.2)=(p.toList.map fun i=>its.getD i Value.none).toArray/\failedOf st=none) (E:=E) (k.inv I) hlk (by omega) hz64 (by rw[← hlen];exact hord) k.key
     fun st p a u ho hf=>⟨rfl,p,a,u,ho,hf⟩) (fun κ s3 h3=>wpAny_bind (wpAny_mono h3 (fun r s4 h4=>?_) fun _ _ z=>z)) fun _ _ z=>z)
    obtain⟨⟨⟩,st⟩:=r
    obtain⟨rfl,p,a,u,ho,hf⟩:=h4
    exact fin st p a u ho hf
end
end L3
namespace L3
open PySem PySem.Spec PyProof.Rows L2
structure MS (X:Cx) (H:Hp) (s:Shared) (l it S:Addr) (xs:List V) (ky:Nat->Int × Int) (j:Nat) (best:Option Nat) (H':Hp) (s':Shared):Prop where
 os:s'.os=s.os
 bare:AllBare s'.gens
 stp:Stp X H H' s.heap s'.heap
 hok:HOk X.prog X.w H' s'.heap
 same:Same H H'
 nI:H' it=none
 nS:H' S=none
 oI:s'.heap.IsListIter it l j
 oS:∃ c ws,s'.heap.get? S=some (seqObj "list" ws c)/\match best with
  | none=>ws = #[]
  | some i=>∃ x u p,xs[i]?=some x/\RelV x u/\ws = #[u,.ref p]/\H' p=some (.tup [.int (ky i).1,.int (ky i).2])
def Zf1 (ky:Nat->Int × Int) (n:Nat) (i:Nat):Prop:=i<n/\∀ j,j<n->j≠i->klt ky i j=true
theorem Zlm (a v d:Value):argsOk "min" ⟨[a],[(Str.ofString "key",v),(Str.ofString "default",d)]⟩:=by unfold argsOk;kernel_rfl
section
variable {X:Cx}{pins:List (Addr × Obj)}{σ:L2.St}{H H':Hp}{s s':Shared}{l it S f:Addr}{xs:List V}{ky:Nat->Int × Int}
theorem MS.inv (I:Inv X pins σ H s) {j:Nat}{b:Option Nat}(k:MS X H s l it S xs ky j b H' s'):Inv X pins σ H' s':=Stp.inv I k.stp k.os k.hok k.bare
theorem Zgo (a b:Int) (t u:Tok):IntsAre (#[Value.int a t,Value.int b u]:Array Value).toList [a,b]:=.cons a t (.cons b u .nil)
theorem Zo5 {A:Around}{p q:Addr}{a b c d:Int}{Q:Value->Shared->Prop}{E:Value->Shared->Prop}(J:Inv X pins σ H' s') (hu:A.units<cLine) (hp:H' p=some (.tup [.int a,.int b])) (hq:H' q=some (.tup [.int c,.int d]))
  (hQ:Q (.bool (HT.lexLt [a,b] [c,d])) s'):wpAny (model X.prog X.w) A (richCompare .Lt (.ref p) (.ref q)) Q E s':=by
 obtain⟨o,t,u,n,ho,hc,hd⟩:=Zb8 J hp
 obtain⟨o2,t2,u2,n2,ho2,hc2,hd2⟩:=Zb8 J hq
 exact(HT.lt_tupInts ⟨o,ho,hc,n,hd⟩ ⟨o2,ho2,hc2,n2,hd2⟩ (Zgo a b t u) (Zgo c d t2 u2) hu hQ:wpAny (model X.prog X.w) A (compareOp .Lt (.ref p) (.ref q)) Q E s')
theorem Zll {R:Result->Shared->Prop}(I:Inv X pins σ H s) (hh:X.A.handled=none) (hu:X.A.units+1<cLine) (hq:SqL X.K H l xs) (hI:s.heap.objs.size<=it) (hS:s.heap.objs.size<=S) (hIS:it≠S) (hord:Ord xs.length (klt ky))
  (T:Zcl X pins σ H s X.A.in1 f xs ky)
  (hR:∀ (i:Nat) (x:V) (u:Value) (H2:Hp) (s2:Shared),Inv X pins σ H2 s2->Same H H2->xs[i]?=some x->RelV x u->Zf1 ky xs.length i->R (.ok (.ret u)) s2)
  (hR0:∀ (H2:Hp) (s2:Shared),Inv X pins σ H2 s2->Same H H2->xs=[]->R (.ok (.ret .none)) s2) :
  ∀ (r j:Nat) (best:Option Nat) (H':Hp) (s':Shared),xs.length - j=r->j<=xs.length->(match best with|none=>j=0|some i=>Zf1 ky j i)->MS X H s l it S xs ky j best H' s' ->
   codeAny (model X.prog X.w) X.A (.builtin "min.loop" ⟨[.ref it,.ref f,.ref S],[(Str.ofString "default",Value.none)]⟩) R s':=by
 have hname:(toString "min" ++ toString ".loop" : String) = "min.loop" := by decide
 have ltl:l<s.heap.objs.size:=by
  obtain⟨its,_,pl,_⟩:=I.list hq
  obtain⟨o,ho,_⟩:=pl.isList
  exact Heap.lt_size ho
 have hlI:l≠it:=Nat.ne_of_lt (Nat.lt_of_lt_of_le ltl hI)
 have nf:∀ {a},s.heap.objs.size<=a->a∉frs X.stack:=fun ha z=>absurd (Nat.lt_of_lt_of_le (Zms I z) ha) (Nat.lt_irrefl _)
 have hL:∀ {a},s.heap.objs.size<=a->X.env.locals≠a:=fun ha=>Nat.ne_of_lt (Nat.lt_of_lt_of_le I.lt ha)
 have turned:∀ {j:Nat} {best:Option Nat} {H':Hp} {s':Shared} {h':Heap} {tk:Nat},MS X H s l it S xs ky j best H' s'->(∀ b o,b∉[it]->s'.heap.get? b=some o->h'.get? b=some o) ->
   Stp X H H' s.heap h'/\HOk X.prog X.w H' h':=fun {j best H' s' h' tk} k hk=>by
  obtain⟨m,hm,_⟩:=I.loc
  refine⟨k.stp.over (D:=it) (Heap.get?_none_of_le hI) ⟨m,k.stp.ns m hm⟩ (fun b o hb _ e=>hk b o (by simpa using hb) e) (fun m' n=>?_),HOk.but k.hok fun b o hb e=>hk b o (by simpa using fun z=>hb (by rw[z];exact k.nI)) e⟩
  obtain⟨o,es,ep,e,r⟩:=n
  exact⟨o,es,ep,hk _ o (by simpa using hL hI) e,r⟩
 intro r
 induction r with
 | zero =>
  intro j best H' s' hr hj hb k
  have J:=k.inv I
  obtain⟨its,rv,pl,hz⟩:=J.list (k.same.seq hq)
  have hlen:=rv.length
  have W:=Walks.list (prog:=X.prog) (w:=X.w) (A:=X.A.in1) hh it l hlI its.toArray
  obtain⟨c,ws,oS,hws⟩:=k.oS
  refine codeAny_builtin PySem.F.entry_min_loop ?_
  rw[Around.under_plainId PySem.F.plain_min_loop _]
  show wpAny _ X.A.in1 (seqItems? (.ref S) >>= _) _ _ _
  refine wpAny_bind (wpAny_seqItems oS rfl ?_)
  show wpAny _ X.A.in1 (tryCatch (pyNext (.ref it)) _ >>= _) _ _ _
  refine wpAny_bind (wpAny_tryCatch (W.done _ _ _ ⟨by rw[List.size_toArray,← hlen,show xs.length=j by omega];exact k.oI,pl.isList⟩ fun h' tk' hk'=>?_))
  obtain⟨st1,ok1⟩:=turned (tk:=tk') k hk'
  have oS1:=hk' S _ (by simpa using Ne.symm hIS) oS
  cases best with
  | none =>
   have e0:ws = #[]:=hws
   subst e0
   have ej:j=0:=hb
   show wpAny _ X.A.in1 (rule _ >>= _) _ _ _
   refine wpAny_bind (wpAny_rule (wpAny_pure ?_))
   exact hR0 H' _ (Stp.inv (s':={ s' with heap:=h',toks:=tk' }) I st1 k.os ok1 k.bare) k.same (List.eq_nil_of_length_eq_zero (by omega))
  | some i =>
   obtain⟨x,u,p,hx,ru,e0,hp⟩:=hws
   subst e0
   have hl:Zf1 ky j i:=hb
   obtain⟨st2,ok2⟩:=Zab (fo:=Obj.mapSeq fun _=>(#[]:Array Value)) I hS st1 ok1 k.nS
   show wpAny _ X.A.in1 (updateSeq S (fun _=>#[]) >>= _) _ _ _
   refine wpAny_bind (wpAny_updateSeq oS1 rfl (wpAny_bind (wpAny_letGo (wpAny_pure ?_))))
   exact hR i x u H' _ (Stp.inv (s':={ s' with heap:=_,toks:=tk' }) I st2 k.os ok2 k.bare) k.same hx ru (by rw[show xs.length=j by omega];exact hl)
 | succ r ih =>
  intro j best H' s' hr hj hb k
  have J:=k.inv I
  have hlt:j<xs.length:=by omega
  obtain⟨its,rv,pl,hz⟩:=J.list (k.same.seq hq)
  have hlen:=rv.length
  have W:=Walks.list (prog:=X.prog) (w:=X.w) (A:=X.A.in1) hh it l hlI its.toArray
  obtain⟨c,ws,oS,hws⟩:=k.oS
  refine codeAny_builtin PySem.F.entry_min_loop ?_
  rw[Around.under_plainId PySem.F.plain_min_loop _]
  show wpAny _ X.A.in1 (seqItems? (.ref S) >>= _) _ _ _
  refine wpAny_bind (wpAny_seqItems oS rfl ?_)
  show wpAny _ X.A.in1 (tryCatch (pyNext (.ref it)) _ >>= _) _ _ _
  refine wpAny_bind (wpAny_tryCatch (W.item j _ _ _ (by rw[List.size_toArray];omega) ⟨k.oI,pl.isList⟩ fun v h' tk' hP hst' hk'=>?_))
  have hv:its[j]?=some v:=by simpa using hP
  obtain⟨st1,ok1⟩:=turned (tk:=tk') k hk'
  have oS1:=hk' S _ (by simpa using Ne.symm hIS) oS
  have J1:Inv X pins σ H' { s' with heap:=h',toks:=tk' }:=Stp.inv (s':={ s' with heap:=h',toks:=tk' }) I st1 k.os ok1 k.bare
  obtain⟨u,eu,ru⟩:=rv.get (i:=j) (List.getElem?_eq_getElem hlt)
  rw[hv] at eu;cases eu
  show wpAny _ X.A.in1 (tryCatch (holding [v] (call (.ref f) [v])) _ >>= _) _ _ _
  refine wpAny_bind (wpAny_tryCatch (wpAny_holding (wpAny_mono (T j xs[j] v _ H' (List.getElem?_eq_getElem hlt) ru J1 st1 k.same) (fun kv s2 h2=>?_) fun _ _ z=>z.elim)))
  obtain⟨kvV,H2,os2,bare2,un,ok2,rkv,p,e,sm,hp⟩:=h2
  subst e
  cases (show kv=.ref p from rkv)
  have st2:Stp X H H2 s.heap s2.heap:=st1.trans (Stp.of_un J1 un)
  have oS2:=un.keep S _ oS1 k.nS (nf hS) (by simp)
  have nS2:=un.free S _ oS1 k.nS (by simp)
  obtain⟨oI',hoI',hoc,hod⟩:=id hst'.1
  have oI2:=un.keep it _ hoI' k.nI (nf hI) (by simp)
  have nI2:=un.free it _ hoI' k.nI (by simp)
  have J2:Inv X pins σ H2 s2:=Stp.inv I st2 (os2.trans k.os) ok2 bare2
  have put:∀ (best':Option Nat),best'=some j->(Zf1 ky (j+1) j)->codeAny (model X.prog X.w) X.A (.builtin "min.loop" ⟨[.ref it,.ref f,.ref S],[(Str.ofString "default",Value.none)]⟩) R { s2 with heap:=s2.heap.update S (Obj.mapSeq fun _=>#[v,.ref p]) }:=fun best' eb hl=>by
   obtain⟨st3,ok3⟩:=Zab (fo:=Obj.mapSeq fun _=>#[v,Value.ref p]) I hS st2 ok2 nS2
   refine ih (j+1) (some j) H2 _ (by omega) hlt hl ⟨os2.trans k.os,bare2,st3,ok3,k.same.trans sm,nI2,nS2,⟨oI',(Heap.get?_update_other _ _ (Ne.symm hIS)).trans oI2,hoc,hod⟩,?_⟩
   exact⟨_,_,get?_update_seq oS2 fun _=>#[v,Value.ref p],xs[j],v,p,List.getElem?_eq_getElem hlt,ru,rfl,hp⟩
  cases best with
  | none =>
   have e0:ws = #[]:=hws
   subst e0
   have ej:j=0:=hb
   show wpAny _ X.A.in1 (updateSeq S (fun _=>#[v,.ref p]) >>= _) _ _ _
   refine wpAny_bind (wpAny_updateSeq oS2 rfl ?_)
   rw[hname]
   exact wpAny_pure ⟨plainId_quiet PySem.F.plain_min_loop _,put _ rfl ⟨by omega,fun j' h1 h2=>by omega⟩⟩
  | some i =>
   obtain⟨x,ub,q,hx,rub,e0,hqq⟩:=hws
   subst e0
   have hl:Zf1 ky j i:=hb
   have hq2:=sm _ _ hqq
   show wpAny _ X.A.in1 (tryCatch (holding [v,.ref p] (richCompare .Lt (.ref p) (.ref q) >>= _)) _ >>= _) _ _ _
   refine wpAny_bind (wpAny_tryCatch (wpAny_holding (wpAny_bind (Zo5 J2 (by show X.A.units+1<cLine;exact hu) hp hq2 ?_))))
   refine wpAny_bind (wpAny_holding (wpAny_truthy_bool (wpAny_bind (wpAny_letGo (wpAny_pure ?_)))))
   cases hb':HT.lexLt [(ky j).1,(ky j).2] [(ky i).1,(ky i).2] with
   | true =>
    simp only [if_true]
    refine wpAny_bind (wpAny_updateSeq oS2 rfl (wpAny_bind (wpAny_letGo ?_)))
    rw[hname]
    refine wpAny_pure ⟨plainId_quiet PySem.F.plain_min_loop _,put _ rfl ⟨by omega,fun j' h1 h2=>?_⟩⟩
    by_cases e:j'=i
    ·subst e;exact hb'
    ·exact hord.tr _ _ _ (show klt ky j i=true from hb') (hl.2 j' (by omega) e)
   | false =>
    simp only [Bool.false_eq_true,if_false]
    refine wpAny_bind (wpAny_letGo ?_)
    rw[hname]
    have hij:i≠j:=fun z=>by have:=hl.1;omega
    have hlt2:klt ky i j=true:=by
     rcases hord.tot i j (by have:=hl.1;omega) hlt hij with z|z
     ·exact z
     ·have z':HT.lexLt [(ky j).1,(ky j).2] [(ky i).1,(ky i).2]=true:=z
      rw[hb'] at z';cases z'
    refine wpAny_pure ⟨plainId_quiet PySem.F.plain_min_loop _,ih (j+1) (some i) H2 s2 (by omega) hlt ⟨by have:=hl.1;omega,fun j' h1 h2=>?_⟩ ⟨os2.trans k.os,bare2,st2,ok2,k.same.trans sm,nI2,nS2,⟨oI',oI2,hoc,hod⟩,_,_,oS2,x,ub,q,hx,rub,rfl,hq2⟩⟩
    by_cases e:j'=j
    ·subst e;exact hlt2
    ·exact hl.2 j' (by omega) h2
theorem Zo8 {Q:VK}{E:Value->Shared->Prop}(I:Inv X pins σ H s) (hh:X.A.handled=none) (hu:X.A.units+1<cLine) (hq:SqL X.K H l xs) (hord:Ord xs.length (klt ky)) (T:Zcl X pins σ H s X.A.in1 f xs ky)
  (hQ:∀ (i:Nat) (x:V) (H2:Hp),Same H H2->xs[i]?=some x->Zf1 ky xs.length i->Q x H2) (hQ0:∀ H2,Same H H2->xs=[]->Q .non H2) :
  wpAny (model X.prog X.w) X.A (call (.builtin "min") [.ref l] [(Str.ofString "key",.ref f),(Str.ofString "default",Value.none)]) (EP X pins σ Q) E s:=by
 have hname:(toString "min" ++ toString ".loop" : String) = "min.loop" := by decide
 obtain⟨its,rv,pl,hz⟩:=I.list hq
 refine kmk_tree PySem.F.kind_min PySem.F.plain_min PySem.F.entry_min (Zlm _ _ _) ?_
 show wpAny _ X.A.in1 (Builtin.Builtins.bindParams "min" ["key", "default"] 0 ⟨[],[(Str.ofString "key",.ref f),(Str.ofString "default",Value.none)]⟩ >>= _) _ _ s
 refine wpAny_bind (wpAny_of_eq (show Builtin.Builtins.bindParams "min" ["key", "default"] 0 ⟨[],[(Str.ofString "key",Value.ref f),(Str.ofString "default",Value.none)]⟩=pure [some (.ref f),some Value.none] from rfl) ?_)
 refine wpAny_bind (wpAny_pure (wpAny_bind (wpAny_pyIter_list pl.isList (wpAny_bind (wpAny_newList ?_ (Nat.zero_le _))))))
 rw[hname]
 generalize hg:s.heap.push { cls:=.type "list_iterator",data:=.fields #[.ref l,.int 0 0] }=g
 have zg:g.objs.size=s.heap.objs.size+1:=by rw[← hg];exact size_push' ..
 have gI:g.get? s.heap.objs.size=some { cls:=.type "list_iterator",data:=.fields #[.ref l,.int 0 0] }:=by rw[← hg];exact Heap.get?_push_size _ rfl
 have kp:∀ b o,s.heap.get? b=some o->(g.push (seqObj "list" #[] 0)).get? b=some o:=fun b o e=>Heap.get?_push_of_some _ (by rw[← hg];exact Heap.get?_push_of_some _ e)
 refine wpAny_pure ⟨plainId_quiet PySem.F.plain_min_loop _,?_⟩
 refine Zll (it:=s.heap.objs.size) (S:=g.objs.size) I hh hu hq (Nat.le_refl _) (by rw[zg];exact Nat.le_succ _) (by rw[zg];exact Nat.ne_of_lt (Nat.lt_succ_self _)) hord T (fun i x u H2 s2 J sm hx ru hl=>⟨x,H2,J,ru,hQ i x H2 sm hx hl⟩) (fun H2 s2 J sm e=>⟨.non,H2,J,rfl,hQ0 H2 sm e⟩) _ 0 none H _ rfl (Nat.zero_le _) rfl
  ⟨rfl,I.bare,Stp.kept kp,I.hok.kept kp,Same.refl _,I.hok.fresh (Nat.le_refl _),I.hok.fresh (by rw[zg];exact Nat.le_succ _),⟨_,Heap.get?_push_of_some _ gI,rfl,rfl⟩,⟨0,#[],Heap.get?_push_size _ rfl,rfl⟩⟩
end
end L3
namespace L3
open PySem PySem.Spec PyProof.Rows L2
section
variable {prog:Program}{w:World}{A:Around}{R:Result->Shared->Prop}{s:Shared}
theorem Zkd {elt tg iter:Expr}{ifs:List Expr}{scope:Scope}{pos:Pos}{it acc:Value}{env:Env}(In:Nat->Shared->Prop)
  (turn:∀ n s,In n s->wpAny (model prog w) A (pyNext it) (fun r s₁=>match r with
    | none=>R (.ok .next) s₁
    | some v=>wpAny (model prog w) A (letOwnedTupleGo tg it v) (fun _ s₂=>wpAny (model prog w) A (assign tg env v) (fun _ s₃ =>
      wpAny (model prog w) A (forIn ifs true fun c r=>if r=true then do let ok ← isTrue c env (eval c env);pure (ForInStep.yield ok) else pure (ForInStep.yield r)) (fun ok s₄ =>
       if ok=true then wpAny (model prog w) A (eval elt env) (fun x s₅=>wpAny (model prog w) A (call (.builtin "list.append") [acc,x]) (fun _ s₆=>∃ m,m<n/\In m s₆) (fun _ _=>False) s₅) (fun _ _=>False) s₄
       else ∃ m,m<n/\In m s₄) (fun _ _=>False) s₃) (fun _ _=>False) s₂) (fun _ _=>False) s₁) (fun _ _=>False) s)
  (n:Nat) (h:In n s):codeAny (model prog w) A (.compLoop (.ListComp elt [⟨tg,iter,ifs,0⟩] scope pos) 0 it acc env) R s:=by
 refine codeAny_loop rfl In (fun n s hI=>?_) n h
 show wpAny _ A ((compTurn (.ListComp elt [⟨tg,iter,ifs,0⟩] scope pos) 0 it acc env).onRaise (fun x=>do noteFrame x env;theTreesLotGoes x)) _ _ s
 refine wpAny_noted ?_
 rw[compTurn_list]
 refine wpAny_bind (wpAny_standAt (wpAny_bind (wpAny_mono (turn n s hI) (fun r s₁ h₁=>?_) fun _ _ z=>z.elim)))
 cases r with
 | none=>exact wpAny_pure h₁
 | some v =>
  refine wpAny_bind (wpAny_mono h₁ (fun _ s₂ h₂=>wpAny_bind (wpAny_mono h₂ (fun _ s₃ h₃=>wpAny_bind (wpAny_mono h₃ (fun ok s₄ h₄=>?_) fun _ _ z=>z.elim)) fun _ _ z=>z.elim)) fun _ _ z=>z.elim)
  cases ok with
  | false=>exact wpAny_pure ⟨rfl,h₄⟩
  | true =>
   rw[if_pos rfl] at h₄
   refine wpAny_bind (wpAny_bind (wpAny_mono h₄ (fun x s₅ h₅=>wpAny_bind (wpAny_mono h₅ (fun _ s₆ h₆=>?_) fun _ _ z=>z.elim)) fun _ _ z=>z.elim))
   exact wpAny_pure (wpAny_pure ⟨rfl,h₆⟩)
end
def Yn (X:Cx) (N:List Str) (scope:Scope) (cl:List (Str × Addr)) (fp:List Addr) (C:Addr) (s:Shared) (H:Hp):Cx where
 prog:=X.prog
 w:=X.w
 K:=X.K
 mg:=X.mg
 base:=X.base
 A:=X.A
 N:=N
 s₀:=s
 H₀:=H
 env:=compEnvC scope cl C X.env
 outer:=X.stack
 stack:=X.stack
 ex:=fp
 fn:=fun _=>false
 calm:=X.calm
 pn:=[]
 xe:=fun _ _=>False
structure CompSc (X:Cx) (ts fvs:List Str) (scope:Scope) (cl:List (Str × Addr)):Prop where
 clos:closureFor scope X.env=pure cl
 kind:scope.kind=.function
 nocell:∀ y∈scope.names,y.2 ≠ .cell
 names:∀ y∈scope.names,y.2=.local->scope.names.lookup y.1=some .local
 vis:∀ x,((relabel scope X.env).names.lookup x=some .cell\/(relabel scope X.env).names.lookup x=some .free)->x∈fvs
 isf:∀ x∈fvs,(relabel scope X.env).names.lookup x=some .cell\/(relabel scope X.env).names.lookup x=some .free
 sub:∀ x c,cl.lookup x=some c->∃ y,X.env.cells.lookup y=some c
section
variable {X:Cx}{pins:List (Addr × Obj)}{σ:L2.St}{H H':Hp}{s s':Shared}{ts fvs:List Str}{scope:Scope}{cl:List (Str × Addr)}{fp:List Addr}{fs:List V}
theorem Zme {h₁:Heap}{tk:Nat}(I:Inv X pins σ H s) (S:CompSc X ts fvs scope cl) (Cl:Clo cl fvs fs H s.heap) (hf:∀ b∈fp,FpOk X pins H b) (ho:∀ b∈fp,∃ o,s.heap.get? b=some o)
  (hns:h₁.Ns (s.heap.objs.size+1) (fun _=>none)) (hD:h₁.get? s.heap.objs.size=some { cls:=.type "list",data:=.seq #[] }) (hk:∀ b o,s.heap.get? b=some o->h₁.get? b=some o) :
  Inv (Yn X (ts++fvs) scope cl fp (s.heap.objs.size+1) s H) [] (List.replicate ts.length none++fs.map some) (upd H s.heap.objs.size (.lst [])) { s with heap:=h₁,toks:=tk }:=by
 have nst:∀ b∈fp,b∉frs X.stack:=fun b hb z=>(List.mem_cons.mp (I.stkSub b z)).elim (hf b hb).2.1 (hf b hb).2.2.1
 have hnD:H s.heap.objs.size=none:=I.hok.fresh (Nat.le_refl _)
 have lt:∀ x c,cl.lookup x=some c->c<s.heap.objs.size:=fun x c e=>by
  obtain⟨⟨v,hv⟩,_⟩:=Cl.all x c e
  exact hv.lt
 refine⟨⟨I.ok.mod,S.kind,I.ok.glob,I.ok.blt,Nat.le_succ _,Cl.inj,fun y hy=>Cl.has y (S.vis y hy),fun y c z _=>absurd (show false=true from z) Bool.false_ne_true,I.ok.hd,I.ok.frames,.inl rfl,fun b hb=>?_,I.bs,Nat.le_trans I.ok.bsz I.sz,fun b o e hb=>?_,nst,I.stack,I.stkFree⟩,
  rfl,I.bare,Un.laid hk (Nat.le_refl _) hnD,⟨_,hns,fun i x v h1 h2 h3=>?_⟩,fun y c h=>?_,?_,fun y c h=>?_,fun p hp=>absurd (show p∈([]:List (Addr × Obj)) from hp) (by simp),I.hok.laid hk (Nat.le_refl _) ?_,?_⟩
 ·obtain⟨o,e⟩:=ho b hb
  refine⟨Nat.ne_of_lt (Nat.lt_succ_of_lt (Heap.lt_size e)),fun x c hc z=>?_⟩
  obtain⟨y,hy⟩:=S.sub x c hc
  exact(hf b hb).2.2.2.2.1 y c hy z
 ·have:=(I.bs b o e).2
  rcases (hf b hb).2.2.2.1 with z|z
  ·exact I.ok.noex b o e z
  ·exact absurd (Nat.lt_of_lt_of_le (Heap.lt_size (I.ok.bs b o e).1) z) (Nat.lt_irrefl _)
 ·by_cases hi:i<ts.length
  ·rw[List.getElem?_append_left (by simpa using hi),List.getElem?_replicate,if_pos hi] at h2
   cases h2
  ·rw[List.getElem?_append_right (by simpa using hi)] at h2
   have h1':(ts++fvs)[i]?=some x:=h1
   rw[List.getElem?_append_right (by omega)] at h1'
   simp only [List.length_replicate] at h2
   have h2':fs[i - ts.length]?=some v:=by
    rw[List.getElem?_map] at h2
    cases e:fs[i - ts.length]? with
    | none=>rw[e] at h2;cases h2
    | some a=>rw[e] at h2;cases h2;rfl
   obtain⟨c,u,hc,hcell,r⟩:=Cl.get _ x v h1' h2'
   exact⟨u,r,.inr ⟨S.isf x (List.mem_of_getElem? h1'),c,hc,hcell.keeps hk⟩⟩
 ·obtain⟨⟨v,hv⟩,_⟩:=Cl.all y c h
  exact⟨v,hv.keeps hk⟩
 ·show upd H s.heap.objs.size (.lst []) (s.heap.objs.size+1)=none
  rw[Zb (Nat.succ_ne_self _)]
  exact I.hok.fresh (Nat.le_succ _)
 ·rw[Zb (Nat.ne_of_lt (lt y c h))]
  exact(Cl.all y c h).2
 ·exact⟨Nat.zero_le _,[],0,.nil,hD⟩
 ·show (List.replicate ts.length none++fs.map some).length=(ts++fvs).length
  rw[List.length_append,List.length_replicate,List.length_map,List.length_append,Cl.len]
theorem Ze4 {σ':L2.St}{D C:Addr}{h':Heap}(I:Inv X pins σ H s) (hC:s.heap.objs.size<=C) (hf:∀ b∈fp,FpOk X pins H b) (J:Inv (Yn X (ts++fvs) scope cl fp C s H) [] σ' H' s')
  (hs:∀ b o,b≠C->s'.heap.get? b=some o->h'.get? b=some o):Inv X pins σ H' { s' with heap:=h' }:=by
 have u:Un (frs X.stack) fp H H' s.heap s'.heap:=J.base
 have nC:∀ b o,s.heap.get? b=some o->b≠C:=fun b o e=>Nat.ne_of_lt (Nat.lt_of_lt_of_le (Heap.lt_size e) hC)
 have hCn:H' C=none:=J.free
 refine I.call' (s':={ s' with heap:=h' }) J.os ⟨fun b o e n h1 h2=>hs b o (nC b o e) (u.keep b o e n h1 h2),fun b o e n h1 h2=>?_,u.free,fun b o e h2=>?_,u.tups,u.frzs,u.tbls⟩
  (HOk.but J.hok fun b o hb e=>hs b o (fun z=>hb (by rw[z];exact hCn)) e) J.bare fun b hb=>⟨(hf b hb).2.2.2.1,(hf b hb).2.1,(hf b hb).2.2.2.2.1,(hf b hb).2.2.2.2.2⟩
 ·obtain⟨sl,q⟩:=u.slot b o e n h1 h2
  exact⟨sl,hs b _ (nC b o e) q⟩
 ·obtain⟨o',q⟩:=u.there b o e h2
  exact⟨o',hs b _ (nC b o e) q⟩
end
def PIfs (X:Cx) (ifs:List Expr) (t:TT):Prop :=
 ∀ (pins:List (Addr × Obj)) (s:Shared) (σ:L2.St) (H:Hp) (Q:Bool->Hp->Prop),Inv X pins σ H s->t σ H Q ->
  wpAny (model X.prog X.w) X.A (forIn ifs true fun c r=>if r=true then do let ok ← isTrue c X.env (eval c X.env);pure (ForInStep.yield ok) else pure (ForInStep.yield r)) (TP X pins σ Q) X.xe s
theorem Zas {X:Cx}:PIfs X [] (fun _ H Q=>Q true H):=fun _ _ _ H _ I h=>wpAny_tests_nil ⟨H,I,h⟩
theorem Zfm {X:Cx}{c:Expr}{t:TT}(h:PT X c t):PIfs X [c] t:=fun pins s σ H Q I hq=>wpAny_tests_one (h pins s σ H Q I hq)
def Zqg (k:Nat) (js:List Nat) (wi:TI) (g:TG) (tc:TT) (te:TE):TE:=fun σ H Q=>wi σ H fun J H1=>∃ fs:List V,js.map (fun j=>σ[j]?)=fs.map (fun v=>some (some v))/\∀ D,H1 D=none ->
 ∃ W:Nat->Nat->List V->Hp->Prop,(∃ m,W 0 m [] (upd H1 D (.lst [])))/\∀ i m ys H2,W i m ys H2->H2 D=some (.lst ys)/\ys.length<sizeLine /\
  ((J.stop i H2/\Q (.ref D) H2)\/(J.go i H2/\∀ x H3,J.yld i H2 x H3->g x (List.replicate k none++fs.map some) H3 fun σ1 H4=>σ1.length=k+fs.length/\σ1.drop k=fs.map some/\tc σ1 H4 fun c H5=>if c=true
   then te σ1 H5 fun y H6=>H6 D=some (.lst ys)/\∃ m',m'<m/\W (i+1) m' (ys++[y]) (upd H6 D (.lst (ys++[y])))
   else ∃ m',m'<m/\W (i+1) m' ys H5))
theorem Zma {α:Type}{l:List (Option α)}{k:Nat}{fs:List α}(h:l.drop k=fs.map some) (i:Nat) (v:α) (e:(List.replicate k none++fs.map some)[i]?=some (some v)):l[i]?=some (some v):=by
 by_cases hi:i<k
 ·rw[List.getElem?_append_left (by simpa using hi),List.getElem?_replicate,if_pos hi] at e
  cases e
 ·rw[List.getElem?_append_right (by simpa using hi),List.length_replicate,← h,List.getElem?_drop] at e
  rw[show k+(i - k)=i by omega] at e
  exact e
section
variable {X:Cx}{pins:List (Addr × Obj)}{σ:L2.St}{H H':Hp}{s s':Shared}{ts fvs:List Str}{scope:Scope}{cl:List (Str × Addr)}{fp:List Addr}{fs:List V}{tg elt iter:Expr}{ifs:List Expr}{pos:Pos}{J:It}{it:Addr}{tn:Nat->Heap->Prop}{g:TG}{tc:TT}{te:TE}
theorem Zc4 {E:Value->Shared->Prop}{Q:VK}{RR:Value->Addr->Result->Shared->Prop}(I:Inv X pins σ H s) (hcalm:X.calm=true) (S:CompSc X ts fvs scope cl) (Cl:Clo cl fvs fs H s.heap) (T:Turn X.prog X.w X.K tg J fp it tn) (t0:tn 0 s.heap) (hf:∀ b∈fp,FpOk X pins H b)
  (hg:∀ fp C s H,PG (Yn X (ts++fvs) scope cl fp C s H) tg g) (hi:∀ fp C s H,PIfs (Yn X (ts++fvs) scope cl fp C s H) ifs tc) (he:∀ fp C s H,PE (Yn X (ts++fvs) scope cl fp C s H) elt te)
  (W:Nat->Nat->List V->Hp->Prop) (w0:∃ m,W 0 m [] (upd H s.heap.objs.size (.lst [])))
  (hW:∀ i m ys H2,W i m ys H2->H2 s.heap.objs.size=some (.lst ys)/\ys.length<sizeLine /\
    ((J.stop i H2/\Q (.ref s.heap.objs.size) H2)\/(J.go i H2/\∀ x H3,J.yld i H2 x H3->g x (List.replicate ts.length none++fs.map some) H3 fun σ1 H4=>σ1.length=ts.length+fs.length/\σ1.drop ts.length=fs.map some/\tc σ1 H4 fun c H5=>if c=true
     then te σ1 H5 fun y H6=>H6 s.heap.objs.size=some (.lst ys)/\∃ m',m'<m/\W (i+1) m' (ys++[y]) (upd H6 s.heap.objs.size (.lst (ys++[y])))
     else ∃ m',m'<m/\W (i+1) m' ys H5)))
  (hRR:∀ σ' H' s',Inv (Yn X (ts++fvs) scope cl fp (s.heap.objs.size+1) s H) [] σ' H' s'->Q (.ref s.heap.objs.size) H'->RR (.ref s.heap.objs.size) (s.heap.objs.size+1) (.ok .next) s') :
  wpAny (model X.prog X.w) X.A (newList []) (fun acc s₃=>wpAny (model X.prog X.w) X.A (newFunctionEnv scope X.env.globals cl [] X.env.qual none .none (some X.env)) (fun cenv s₄ =>
   codeAny (model X.prog X.w) X.A (.compStart (.ListComp elt [⟨tg,iter,ifs,0⟩] scope pos) 0 (.ref it) acc { cenv with scope:=relabel scope X.env }) (RR acc cenv.locals) s₄) E s₃) E s:=by
 refine wpAny_newList (wpAny_newFunctionEnv S.nocell (by intro y hy;simp at hy) (fun h₁ hns hsb=>?_) S.kind) (Nat.zero_le _)
 have zC:(s.heap.push { cls:=.type "list",dict:=none,data:=.seq ([]:List Value).toArray }).objs.size=s.heap.objs.size+1:=Heap.size_push _ _
 dsimp only at hns hsb ⊢
 rw[zC] at hns hsb ⊢
 have hk:∀ b o,s.heap.get? b=some o->h₁.get? b=some o:=fun b o e=>hsb.extBut b o (Nat.ne_of_lt (Nat.lt_succ_of_lt (Heap.lt_size e))) (Heap.get?_push_of_some _ (Heap.get?_push_of_some _ e))
 have hD:h₁.get? s.heap.objs.size=some { cls:=.type "list",data:=.seq #[] }:=hsb.extBut _ _ (Nat.ne_of_lt (Nat.lt_succ_self _)) (Heap.get?_push_of_some _ (Heap.get?_push_size _ rfl))
 have t1:tn 0 h₁:=T.keep _ _ _ t0 fun b _ o e=>hk b o e
 have I0:=Zme (tk:=s.toks+([]:List (Str × Value)).length) I S Cl hf (fun b hb=>let ⟨o,e,_⟩:=T.obj _ _ t0 b hb;⟨o,e⟩) hns hD hk
 have loop:∀ s₃:Shared,s₃={ s with heap:=h₁,toks:=s.toks+([]:List (Str × Value)).length } ->
   codeAny (model X.prog X.w) X.A (.compLoop (.ListComp elt [⟨tg,iter,ifs,0⟩] scope pos) 0 (.ref it) (.ref s.heap.objs.size) (compEnvC scope cl (s.heap.objs.size+1) X.env)) (RR (.ref s.heap.objs.size) (s.heap.objs.size+1)) s₃:=by
  rintro s₃ rfl
  obtain⟨m0,w0⟩:=w0
  refine Zkd (fun n s'=>∃ i ys H2,Inv (Yn X (ts++fvs) scope cl fp (s.heap.objs.size+1) s H) [] (List.replicate ts.length none++fs.map some) H2 s'/\tn i s'.heap/\(∀ b∈fp,H2 b=none)/\W i n ys H2) ?_ m0
   ⟨0,[],_,I0,t1,fun b hb=>?_,w0⟩
  ·rintro n s1 ⟨i,ys,H2,J1,tn1,n1,w1⟩
   have fpo:∀ {H3:Hp},(∀ b∈fp,H3 b=none)->∀ b∈fp,FpOk (Yn X (ts++fvs) scope cl fp (s.heap.objs.size+1) s H) [] H3 b:=fun hn b hb =>
    ⟨hn b hb,(J1.ok.exf b hb).1,J1.ok.exfs b hb,.inl hb,(J1.ok.exf b hb).2,fun p hp=>absurd (show p∈([]:List (Addr × Obj)) from hp) (by simp)⟩
   obtain⟨hD2,hz,step⟩:=hW i n ys H2 w1
   rcases step with ⟨stop,q⟩|⟨go,step⟩
   ·refine wpAny_mono (T.done (Yn X (ts++fvs) scope cl fp (s.heap.objs.size+1) s H) rfl rfl rfl hcalm i [] s1 _ H2 (fun _ _=>False) J1 (fpo n1) tn1 stop) (fun r s2 h2=>?_) fun _ _ z=>z
    obtain⟨rfl,J2⟩:=h2
    exact hRR _ H2 s2 J2 q
   ·refine wpAny_mono (T.item (Yn X (ts++fvs) scope cl fp (s.heap.objs.size+1) s H) rfl rfl rfl hcalm i [] s1 _ H2 (fun _ _=>False) J1 (fpo n1) tn1 go) (fun r s2 h2=>?_) fun _ _ z=>z
    obtain⟨u,rfl,h2⟩:=h2
    refine wpAny_mono h2 (fun _ s3 h3=>?_) fun _ _ z=>z
    obtain⟨x,H3,J3,rx,y3,tn3,n3⟩:=h3
    have J3':=J3.pinned (fpo n3) (T.obj _ _ tn3)
    refine thn (hg fp _ s H _ s3 _ H3 x u _ J3' rx (step x H3 y3)) fun _ s4 ⟨σ1,H4,J4,l4,d4,q4⟩=>?_
    refine thn (hi fp _ s H _ s4 σ1 H4 _ J4 q4) fun c s5 ⟨H5,J5,q5⟩=>?_
    have again:∀ {H7:Hp} {s7:Shared} {ys7:List V} {m7:Nat},Inv (Yn X (ts++fvs) scope cl fp (s.heap.objs.size+1) s H) ([]++Zee fp s3.heap) σ1 H7 s7->m7<n->W (i+1) m7 ys7 H7 ->
      ∃ m,m<n/\∃ i ys H2,Inv (Yn X (ts++fvs) scope cl fp (s.heap.objs.size+1) s H) [] (List.replicate ts.length none++fs.map some) H2 s7/\tn i s7.heap/\(∀ b∈fp,H2 b=none)/\W i m ys H2:=fun {H7 s7 ys7 m7} J7 hm w7=>by
     refine⟨m7,hm,i+1,ys7,H7,J7.unpinned.weak (by rw[l4,List.length_append,List.length_replicate,List.length_map]) (Zma d4),T.keep _ _ _ tn3 fun b hb o e=>(J7.pin (b,o) (List.mem_append_right _ (List.mem_append_right _ (Zan hb e)))).1,fun b hb=>?_,w7⟩
     obtain⟨o,e,_⟩:=T.obj _ _ tn3 b hb
     exact(J7.pin (b,o) (List.mem_append_right _ (List.mem_append_right _ (Zan hb e)))).2.1
    cases c with
    | false =>
     rw[if_neg Bool.false_ne_true] at q5 ⊢
     obtain⟨m7,hm,w7⟩:=q5
     exact again J5 hm w7
    | true =>
     rw[if_pos rfl] at q5 ⊢
     refine thn (he fp _ s H _ s5 σ1 H5 _ J5 q5) fun v s6 ⟨y,H6,J6,ry,hD6,m7,hm,w7⟩=>?_
     refine thn (Zac _ s6 σ1 H6 (.ref s.heap.objs.size) [y] (.ref s.heap.objs.size) [v] (fun _ H7=>W (i+1) m7 (ys++[y]) H7) J6 rfl (.cons ry .nil) ⟨_,ys,y,rfl,rfl,hD6,hz,w7⟩) fun _ s7 ⟨_,H7,J7,_,w7⟩=>?_
     exact again J7 hm w7
  ·rw[Zb (Nat.ne_of_lt (by obtain⟨o,e,_⟩:=T.obj _ _ t0 b hb;exact Heap.lt_size e))]
   exact(hf b hb).1
 exact codeAny_compStart_list (loop _ rfl) (T.self _ 0 _ _ _ t1 (loop _ rfl))
theorem Zkg {js:List Nat}(I:Inv X pins σ H s) (hsub:∀ x c,cl.lookup x=some c->∃ y,X.env.cells.lookup y=some c) (hhas:∀ x∈fvs,∃ c,cl.lookup x=some c/\X.env.cells.lookup x=some c)
  (hinj:∀ x y c,cl.lookup x=some c->cl.lookup y=some c->x=y) (hk:∀ x∈fvs,X.env.kindOf x=some .cell\/X.env.kindOf x=some .free) (hj:js.map (fun j=>X.N[j]?)=fvs.map some) (hv:js.map (fun j=>σ[j]?)=fs.map (fun v=>some (some v))):Clo cl fvs fs H s.heap:=by
 have l1:js.length=fvs.length:=by simpa using congrArg List.length hj
 have l2:js.length=fs.length:=by simpa using congrArg List.length hv
 refine⟨fun i x v h1 h2=>?_,fun x c e=>?_,hinj,fun x hx=>let ⟨c,e,_⟩:=hhas x hx;⟨c,e⟩,by omega⟩
 ·obtain⟨c,e1,e2⟩:=hhas x (List.mem_of_getElem? h1)
  have hi:i<js.length:=by rw[l1];exact(List.getElem?_eq_some_iff.mp h1).1
  have a1:X.N[js[i]]?=some x:=by
   have:=congrArg (fun l=>l[i]?) hj
   simp only [List.getElem?_map,List.getElem?_eq_getElem hi,h1,Option.map_some] at this
   exact Option.some.inj this
  have a2:σ[js[i]]?=some (some v):=by
   have:=congrArg (fun l=>l[i]?) hv
   simp only [List.getElem?_map,List.getElem?_eq_getElem hi,h2,Option.map_some] at this
   exact Option.some.inj this
  obtain⟨m,hn,hl⟩:=I.loc
  obtain⟨u,r,l⟩:=hl _ x v a1 a2 (by rcases hk x (List.mem_of_getElem? h1) with z|z;exact .inr (.inl z);exact .inr (.inr z))
  rcases l with ⟨k,_⟩|⟨k,c',e3,q⟩
  ·rcases hk x (List.mem_of_getElem? h1) with z|z<;>rw[k] at z<;>cases z
  ·rw[e2] at e3;cases e3
   exact⟨c,u,e1,q,r⟩
 ·obtain⟨y,hy⟩:=hsub x c e
  exact⟨I.cell y c hy,I.freeC y c hy⟩
end
end L3
namespace L3
open PySem PySem.Spec PyProof.Rows L2
structure LamSite (X:Cx) (P c:Addr) (p:Str) (fvs:List Str) (js:List Nat) (scope:Scope) (params:Arguments) (cl:List (Str × Addr)):Prop where
 sc:LamSc p fvs scope
 code:X.env.code=.ref c
 hd:PySem.W.CodeHd X.base c P
 bm:BMod X.mg X.base
 clos:closureFor scope X.env=pure cl
 dfl:defaultsOf params X.env=([],[])
 bind:∀ (body:Expr) (q:Str) (pm cd ctv u:Value),bindArgs (PySem.W.kla_fn "<lambda>" q params body scope cl pm cd ctv) ⟨[u],[]⟩=pure [(p,u)]
 has:∀ x∈fvs,∃ c,cl.lookup x=some c/\X.env.cells.lookup x=some c
 inj:∀ x y c,cl.lookup x=some c->cl.lookup y=some c->x=y
 sub:∀ x c,cl.lookup x=some c->∃ y,X.env.cells.lookup y=some c
 knd:∀ x∈fvs,X.env.kindOf x=some .cell\/X.env.kindOf x=some .free
 slots:js.map (fun j=>X.N[j]?)=fvs.map some
def KeyRd (P:Addr) (tb:TE) (fs xs:List V) (ky:Nat->Int × Int) (H:Hp):Prop :=
 ∀ (i:Nat) (v:V) (H2:Hp),xs[i]?=some v->Kp P H H2->tb (some v::fs.map some) H2 fun kv H3=>∃ p,kv=.ref p/\Same H2 H3/\H3 p=some (.tup [.int (ky i).1,.int (ky i).2])
section
variable {X:Cx}{pins:List (Addr × Obj)}{σ:L2.St}{H H1:Hp}{s s':Shared}{P c:Addr}{p:Str}{fvs:List Str}{js:List Nat}{scope:Scope}{params:Arguments}{cl:List (Str × Addr)}{body:Expr}{tb:TE}{k:Nat}
theorem Zgn {A:Around}{f c':Addr}{ctv pm:Value}{fs xs:List V}{ky:Nat->Int × Int}{q:Str}(L:LamSite X P c p fvs js scope params cl) (hr:Room (k+1) A) (hA:∀ s1 H2,Env0 X.prog X.w X.K X.mg X.base X.A X.stack s1 H2->Env0 X.prog X.w X.K X.mg X.base A X.stack s1 H2)
  (I:Inv X pins σ H1 s') (hv:js.map (fun j=>σ[j]?)=fs.map (fun v=>some (some v))) (hf:s'.heap.get? f=some (PySem.W.kla_obj "<lambda>" q params body scope cl pm c' ctv)) (nf:H1 f=none) (fL:f≠X.env.locals) (fF:f∉X.fs) (hc':H1 c'=some (Jj c' q))
  (hb:∀ (f:Addr) (c':Addr) (A':Around) (s'':Shared) (H'':Hp),Room k (A'.deeper (PySem.W.envX q scope s''.heap.objs.size f (.ref c') cl))->PE (Zht X.prog X.w X.K X.mg X.base (p::fvs) q scope f (.ref c') cl A' X.stack s'' H'') body tb)
  (hk:KeyRd P tb fs xs ky H1):Zcl X pins σ H1 s' A f xs ky:=by
 intro i x u s1 H2 hx ru J st sm
 have e0:=hA s1 H2 J.env0
 have hf1:=st.keep f _ fL fF hf nf
 have hcd:s1.heap.CodeRec (.ref c') q:=(show ObjOk X.prog X.w H2 s1.heap c' (Jj c' q) from J.hok c' _ (sm _ _ hc')).1
 refine wpAny_call (codeAny_mono (Zpb (CX:=CX0) (E:=E0) hr e0 hf1 hcd L.sc (Zkg J L.sub L.has L.inj L.knd L.slots hv) ru (L.bind _ _ _ _ _ _) (hb f c' A s1 H2 (hr.deeper _)) (hk i x H2 hx (Kp.of_same sm))) fun r s2 h2=>?_)
 cases r with
 | error e=>exact h2
 | ok fl =>
  cases fl with
  | ret u=>exact h2
  | next=>exact h2
  | brk=>exact h2
  | cont=>exact h2
theorem KeyRd.kp {fs xs:List V}{ky:Nat->Int × Int}{H H1:Hp}(h:KeyRd P tb fs xs ky H) (e:Kp P H H1):KeyRd P tb fs xs ky H1:=fun i v H2 hx k2=>h i v H2 hx (e.trans k2)
theorem Zni {vs:List V}{R:V->Prop}(h:match vs with | [x]=>R x|_=>False):∃ x,vs=[x]/\R x:=by
 match vs,h with
 | [x],h=>exact⟨x,rfl,h⟩
def Zso (K:PySem.W.Frag) (P:Addr) (lpos:Pos) (q:Str) (js:List Nat) (tb:TE) (σ:L2.St) (Q:VK) (x:V) (H1:Hp):Prop:=∃ a xs fs ky,x=.ref a/\SqL K H1 a xs/\xs.length<64/\js.map (fun j=>σ[j]?)=fs.map (fun v=>some (some v))/\Tab H1 P lpos q/\Ord xs.length (klt ky)/\KeyRd P tb fs xs ky H1 /\
 ∀ (D:Addr) (H2:Hp) (p:Array Nat),Kp P H1 H2->Tab H2 P lpos q->H2 D=none->Arr xs.length p->Up (klt ky) p xs.length->Q (.ref D) (upd H2 D (.lst (p.toList.map fun i=>xs.getD i .non)))
def Zqb (K:PySem.W.Frag) (P:Addr) (lpos:Pos) (q:Str) (js:List Nat) (ta tb:TE):TE:=fun σ H Q=>ta σ H fun x H1=>Zso K P lpos q js tb σ Q x H1
theorem Zg7 {e:Expr}{te:TE}{lpos kpos np pos:Pos}(hr:Room (k+3) X.A) (hm:X.mg "sorted" = none) (he:PE X e te) (L:LamSite X P c p fvs js scope params cl)
  (hb:∀ (f:Addr) (c':Addr) (A':Around) (s'':Shared) (H'':Hp),Room k (A'.deeper (PySem.W.envX (X.env.qual ++ "<lambda>") scope s''.heap.objs.size f (.ref c') cl))->PE (Zht X.prog X.w X.K X.mg X.base (p::fvs) (X.env.qual ++ "<lambda>") scope f (.ref c') cl A' X.stack s'' H'') body tb)
  (hg:Gl X "sorted" := by rfl) (hst:starEach [e] X.env=(false,eval e X.env)::starEach [] X.env:=by rfl) :
  PE X (.Call (.Name "sorted" np) [e] [⟨some "key",.Lambda params body scope lpos,kpos⟩] pos) (Zqb X.K P lpos (X.env.qual ++ "<lambda>") js te tb):=by
 intro pins s σ H Q I h
 refine wpAny_Call_Name_kw (Jr I hg hm boot_sorted ?_)
 refine callWith_builtin_kwB (by rw[hst];rfl) rfl (evalArgs_kw2 rfl ?_ hst)
 refine thn (Za he Zc hst pos pins s σ H (fun vs H1=>match vs with | [x]=>Zso X.K P lpos (X.env.qual ++ "<lambda>") js tb σ Q x H1|_=>False) I h) fun us s1 ⟨vs,H1,I1,r1,q1⟩=>?_
 obtain⟨x,rfl,a,xs,fs,ky,rfl,hq,h64,hv,hT,hord,hk,q⟩:=Zni q1
 obtain⟨u,rfl,ru⟩:=Zff r1
 cases ru
 show wpAny _ _ (evalAll [(do let v ← eval (.Lambda params body scope lpos) X.env;standAt pos;pure v)]) _ _ s1
 refine wpAny_evalAll_cons (wpAny_bind (Zgm I1 L.hd L.bm L.code L.clos L.dfl hT fun f c' ctv pm s2 H2 I2 st2 kp2 hT2 hf nf fsz hc'=>wpAny_bind (wpAny_standAt (wpAny_pure (wpAny_evalAll_nil ?_)))))
 have fL:f≠X.env.locals:=Nat.ne_of_gt (Nat.lt_of_lt_of_le I1.lt fsz)
 have fF:f∉X.fs:=I1.nofs fsz
 have hr1:Room (k+1) X.A.in1.in1:=(Room.in1 (k:=k+2) hr).in1
 exact Zg3 I2 (kp2.seq hT hq) h64 hord (Zgn L hr1 (fun s1 H2 e=>e.in1.in1) I2 hv hf nf fL fF hc' hb (hk.kp kp2)) fun D H3 pp sm nD _ a u=>q D H3 pp (kp2.trans (Kp.of_same sm)) (hT2.same sm) nD a u
def MinR (K:PySem.W.Frag) (P:Addr) (lpos:Pos) (q:Str) (js:List Nat) (tb:TE) (σ:L2.St) (Q:VK) (x:V) (H1:Hp):Prop:=∃ a xs fs ky,x=.ref a/\SqL K H1 a xs/\js.map (fun j=>σ[j]?)=fs.map (fun v=>some (some v))/\Tab H1 P lpos q/\Ord xs.length (klt ky)/\KeyRd P tb fs xs ky H1 /\
 (∀ (H2:Hp) (i:Nat) (x:V),Kp P H1 H2->Tab H2 P lpos q->xs[i]?=some x->Zf1 ky xs.length i->Q x H2)/\(∀ H2,Kp P H1 H2->Tab H2 P lpos q->xs=[]->Q .non H2)
def Zsw (K:PySem.W.Frag) (P:Addr) (lpos:Pos) (q:Str) (js:List Nat) (ta tb:TE):TE:=fun σ H Q=>ta σ H fun x H1=>MinR K P lpos q js tb σ Q x H1
theorem Zo0 {e:Expr}{te:TE}{lpos kpos kpos2 np pos cpos:Pos}{j:Nat}(hcalm:X.calm=true) (hr:Room (k+2) X.A) (hm:X.mg "min" = none) (he:PE X e te) (L:LamSite X P c p fvs js scope params cl)
  (hb:∀ (f:Addr) (c':Addr) (A':Around) (s'':Shared) (H'':Hp),Room k (A'.deeper (PySem.W.envX (X.env.qual ++ "<lambda>") scope s''.heap.objs.size f (.ref c') cl))->PE (Zht X.prog X.w X.K X.mg X.base (p::fvs) (X.env.qual ++ "<lambda>") scope f (.ref c') cl A' X.stack s'' H'') body tb)
  (hg:Gl X "min" := by rfl) (hst:starEach [e] X.env=(false,eval e X.env)::starEach [] X.env:=by rfl) :
  PE X (.Call (.Name "min" np) [e] [⟨some "key",.Lambda params body scope lpos,kpos⟩,⟨some "default",.Constant .none j cpos,kpos2⟩] pos) (Zsw X.K P lpos (X.env.qual ++ "<lambda>") js te tb):=by
 intro pins s σ H Q I h
 refine wpAny_Call_Name_kw (Jr I hg hm boot_min ?_)
 refine callWith_builtin_kwB (by rw[hst];rfl) rfl (evalArgs_kw2 rfl ?_ hst)
 refine thn (Za he Zc hst pos pins s σ H (fun vs H1=>match vs with | [x]=>MinR X.K P lpos (X.env.qual ++ "<lambda>") js tb σ Q x H1|_=>False) I h) fun us s1 ⟨vs,H1,I1,r1,q1⟩=>?_
 obtain⟨x,rfl,a,xs,fs,ky,rfl,hq,hv,hT,hord,hk,q,q0⟩:=Zni q1
 obtain⟨u,rfl,ru⟩:=Zff r1
 cases ru
 show wpAny _ _ (evalAll [(do let v ← eval (.Lambda params body scope lpos) X.env;standAt pos;pure v),(do let v ← eval (.Constant .none j cpos) X.env;standAt pos;pure v)]) _ _ s1
 refine wpAny_evalAll_cons (wpAny_bind (Zgm I1 L.hd L.bm L.code L.clos L.dfl hT fun f c' ctv pm s2 H2 I2 st2 kp2 hT2 hf nf fsz hc'=>wpAny_bind (wpAny_standAt (wpAny_pure ?_))))
 refine wpAny_evalAll_cons (wpAny_bind (Constant_none (wpAny_bind (wpAny_standAt (wpAny_pure (wpAny_evalAll_nil ?_))))))
 have fL:f≠X.env.locals:=Nat.ne_of_gt (Nat.lt_of_lt_of_le I1.lt fsz)
 have fF:f∉X.fs:=I1.nofs fsz
 have hr1:Room (k+1) X.A.in1:=Room.in1 (k:=k+1) hr
 exact Zo8 I2 (I1.ok.hd hcalm) (Zti hr) (kp2.seq hT hq) hord (Zgn L hr1 (fun s1 H2 e=>e.in1) I2 hv hf nf fL fF hc' hb (hk.kp kp2)) (fun i x H3 sm hx hl=>q H3 i x (kp2.trans (Kp.of_same sm)) (hT2.same sm) hx hl)
  fun H3 sm e=>q0 H3 (kp2.trans (Kp.of_same sm)) (hT2.same sm) e
end
structure CompSite (X:Cx) (ts fvs:List Str) (js:List Nat) (scope:Scope) (cl:List (Str × Addr)):Prop where
 sc:CompSc X ts fvs scope cl
 has:∀ x∈fvs,∃ c,cl.lookup x=some c/\X.env.cells.lookup x=some c
 inj:∀ x y c,cl.lookup x=some c->cl.lookup y=some c->x=y
 knd:∀ x∈fvs,X.env.kindOf x=some .cell\/X.env.kindOf x=some .free
 slots:js.map (fun j=>X.N[j]?)=fvs.map some
section
variable {X:Cx}{ts fvs:List Str}{js:List Nat}{scope:Scope}{cl:List (Str × Addr)}{tg elt iter:Expr}{ifs:List Expr}{pos:Pos}{wi:TI}{g:TG}{tc:TT}{te:TE}
theorem Jp (hcalm:X.calm=true) (S:CompSite X ts fvs js scope cl) (hi:PI X tg iter wi) (hg:∀ fp C s H,PG (Yn X (ts++fvs) scope cl fp C s H) tg g) (hif:∀ fp C s H,PIfs (Yn X (ts++fvs) scope cl fp C s H) ifs tc)
  (he:∀ fp C s H,PE (Yn X (ts++fvs) scope cl fp C s H) elt te) (hs:∀ x,foldedSetIterable iter X.env x=pure x:=by intro _;rfl) :
  PE X (.ListComp elt [⟨tg,iter,ifs,0⟩] scope pos) (Zqg ts.length js wi g tc te):=by
 intro pins s σ H Q I h
 rw[eval_ListComp]
 refine wpAny_comprehension_free (use:=none) rfl hs S.sc.clos S.sc.kind S.sc.names (thn (hi pins s σ H _ I h) fun xv s1 h1=>thn h1 fun itv s2 h2=>?_)
 obtain⟨it,fp,tn,J,H2,rfl,I2,T,st2,f2,fs,hfs,hD⟩:=h2
 obtain⟨W,w0,hW⟩:=hD s2.heap.objs.size (I2.hok.fresh (Nat.le_refl _))
 refine Zc4 (RR:=fun acc C=>compPost (model X.prog X.w) X.A X.xe none (EP X pins σ Q) acc C) (Q:=Q) I2 hcalm S.sc (Zkg I2 S.sc.sub S.has S.inj S.knd S.slots hfs) T st2 f2 hg hif he W w0 hW fun σ' H' s' J' q=>?_
 obtain⟨m,hn,_⟩:=J'.loc
 exact⟨m,hn,fun h' hs'=>⟨.ref _,H',Ze4 (D:=s2.heap.objs.size) I2 (Nat.le_succ _) f2 J' (fun b o hb e=>hs'.extBut b o hb e),rfl,q⟩⟩
theorem Zg5 {i:Nat}{y:Str}{py spos:Pos}(hcalm:X.calm=true) (hN:X.N.Nodup) (hi':X.N[i]?=some y) (hy:X.env.scope.names.lookup y=some .local) (S:CompSite X ts fvs js scope cl) (hi:PI X tg iter wi) (hg:∀ fp C s H,PG (Yn X (ts++fvs) scope cl fp C s H) tg g)
  (hif:∀ fp C s H,PIfs (Yn X (ts++fvs) scope cl fp C s H) ifs tc) (he:∀ fp C s H,PE (Yn X (ts++fvs) scope cl fp C s H) elt te)
  (hsw:swapsWith (.ListComp elt [⟨tg,iter,ifs,0⟩] scope pos) (some (.Name y py)) spos.line X.env=pure true:=by rfl) (hs:∀ x,foldedSetIterable iter X.env x=pure x:=by intro _;rfl) :
  PS X (.Assign [.Name y py] (.ListComp elt [⟨tg,iter,ifs,0⟩] scope pos) spos) (tAsg (Zqg ts.length js wi g tc te) (Zlw i)):=by
 intro pins s σ H D I h
 rw[exec_Assign_Name_used _ _ _ _ hsw]
 refine wpAny_bind (wpAny_standAt (wpAny_bind ?_))
 show wpAny _ X.A (do let _ ← comprehension (.ListComp elt [⟨tg,iter,ifs,0⟩] scope pos) scope X.env _ (newList []) false (eval iter X.env) (some (assign (.Name y py) X.env))) _ _ s
 refine wpAny_bind (thn (wpAny_comprehension_free (use:=some (assign (.Name y py) X.env)) (Q:=fun _ s'=>SP X pins D .next s') rfl hs S.sc.clos S.sc.kind S.sc.names (thn (hi pins s σ H _ I h) fun xv s1 h1=>thn h1 fun itv s2 h2=>?_)) fun _ s' hq=>wpAny_pure (wpAny_pure hq))
 obtain⟨it,fp,tn,J,H2,rfl,I2,T,st2,f2,fs,hfs,hD⟩:=h2
 obtain⟨W,w0,hW⟩:=hD s2.heap.objs.size (I2.hok.fresh (Nat.le_refl _))
 refine Zc4 (RR:=fun acc C=>compPost (model X.prog X.w) X.A X.xe (some (assign (.Name y py) X.env)) (fun _ s'=>SP X pins D .next s') acc C) (Q:=fun v H'=>Zlw i v σ H' D.nx) I2 hcalm S.sc (Zkg I2 S.sc.sub S.has S.inj S.knd S.slots hfs) T st2 f2 hg hif he W w0 hW fun σ' H' s' J' q=>?_
 have I3:Inv X pins σ H' { s' with heap:=s'.heap }:=Ze4 (D:=s2.heap.objs.size) I2 (Nat.le_succ _) f2 J' fun b o _ e=>e
 have hCL:s2.heap.objs.size+1≠X.env.locals:=Nat.ne_of_gt (Nat.lt_succ_of_lt I2.lt)
 have hCc:∀ x c,X.env.cells.lookup x=some c->c≠s2.heap.objs.size+1:=fun x c e=>by
  obtain⟨v,hv⟩:=I2.cell x c e
  exact Nat.ne_of_lt (Nat.lt_succ_of_lt hv.lt)
 refine wpAny_assign_Name (Zd4 (s:=s') I3 hN hi' (.inl hy) (show RelV (.ref s2.heap.objs.size) (.ref s2.heap.objs.size) from rfl) (fun s4 I4 hsb=>?_) (.inr hy))
 obtain⟨a,sb,ha⟩:=hsb
 have hCa:s2.heap.objs.size+1≠a:=by
  rcases ha with z|z
  ·rw[z];exact hCL
  ·exact Ne.symm (hCc y a z)
 obtain⟨m,hn,_⟩:=J'.loc
 refine⟨m,hn.sameBut sb hCa,fun h' hs'=>⟨_,H',I4.turned (t':=s4.toks) (it:=s2.heap.objs.size+1) (fun b o hb e=>hs'.extBut b o hb e) J'.free hCL (.inr (Nat.le_trans I2.sz (Nat.le_succ _))) hCc (fun p hp=>?_),q⟩⟩
 exact Nat.ne_of_lt (Nat.lt_succ_of_lt (Heap.lt_size (I2.pin p hp).1))
end
end L3
namespace L3
open PySem PySem.Spec PyProof.Rows L2
def Zkt (tabs:List (Addr × Addr)) (H:Hp):Prop:=∀ q∈tabs,H q.2=some (.tbl #[])
theorem Zjm {P:Program}{w:World}{K:PySem.W.Frag}{mg mb:Str->Option Value}{CX:Heap->CXT}{k:Nat}{fa a:Addr}{nm x:Str}{sp:Sp}{s₁:Shared}{vs:List Value}{ns:List Int}{tabs:List (Addr × Addr)}
  (KX:K.In s₁.heap) (hns:s₁.heap.Ns mainGlobals mg) (hb:s₁.heap.Ns builtinsNs mb) (hbb:∀ x:Str,x ≠ "__name__"->mb x=bootBuiltins x) (hlim:s₁.heap.NoLimit) (hg:s₁.gens = #[])
  (ha:s₁.heap.get? a=some { cls:=.type "list",data:=.seq vs.toArray }) (hi:IntsAre vs ns) (hl:ns.length<=sizeLine) (hr:Room k callerA)
  (hT:PySem.W.TabsAt tabs s₁.heap) (hK:PySem.W.noTabs K=true) (hbm:BMod mg s₁.heap)
  (F:∀ base:Heap,K.In base->base.Ns mainGlobals mg->BMod mg base->(∀ q∈tabs,PySem.W.CodeHd base q.1 q.2)->Fu P w K mg base (CX base) k nm [x] sp) (hmg:mg nm=some (.ref fa))
  (hsp:∀ H:Hp,SqL K H a (ns.map V.int)->Zkt tabs H->sp [.ref a] H (fun v _=>v=.bl true) fun _ _ _=>False)
  (hCX:∀ base H e s',CX base [] H s₁ (fun _ _ _=>False) e s'->False) :
  codeAny (model P w) callerA (.call (.ref fa) ⟨[.ref a],[]⟩) (fun r s'=>r=.ok (.ret (.bool true))/\OldK s₁.heap s'.heap/\s'.os=s₁.os/\AllBare s'.gens) s₁:=by
 have rv:=Za1 hi
 have lenV:=hi.length
 have aT:a∉tabs.map (·.2):=fun z=>by
  obtain⟨q,hq,e⟩:=List.mem_map.mp z
  have:=(hT q hq).2
  rw[e,ha] at this
  cases this
 have core:∀ H:Hp,(∀ b,b∈tabs.map (·.2)->H b=some (.tbl #[]))->(∀ b,b∉tabs.map (·.2)->H b=none\/(b=a/\K.lookup a=none/\H b=some (.frz { cls:=.type "list",data:=.seq vs.toArray } (.lst (ns.map V.int)))))->SqL K H a (ns.map V.int) ->
   codeAny (model P w) callerA (.call (.ref fa) ⟨[.ref a],[]⟩) (fun r s'=>r=.ok (.ret (.bool true))/\OldK s₁.heap s'.heap/\s'.os=s₁.os/\AllBare s'.gens) s₁:=by
  intro H h1 h2 hS
  have hok:HOk P w H s₁.heap:=fun b u e=>by
   by_cases hbt:b∈tabs.map (·.2)
   ·rw[h1 b hbt] at e;cases e
    obtain⟨q,hq,rfl⟩:=List.mem_map.mp hbt
    exact(hT q hq).2
   ·rcases h2 b hbt with z|⟨rfl,_,z⟩
    ·rw[z] at e;cases e
    ·rw[z] at e;cases e
     exact⟨ha,by rw[List.length_map];exact hl,vs,_,rv,ha⟩
  have free:∀ {b:Addr} {o:Obj},s₁.heap.get? b=some o->o≠PySem.W.tabObj #[]->(∀ its n,o.data=.seq its n->b=a->K.lookup a≠none)->H b=none:=fun {b o} e nt ns'=>by
   by_cases hbt:b∈tabs.map (·.2)
   ·obtain⟨q,hq,e2⟩:=List.mem_map.mp hbt
    have:=(hT q hq).2
    rw[e2,e] at this
    exact absurd (Option.some.inj this) nt
   ·rcases h2 b hbt with z|⟨eb,ek,z⟩
    ·exact z
    ·subst eb
     rw[ha] at e;cases e
     exact absurd ek (ns' _ _ rfl rfl)
  have nsK:∀ {b:Addr} {m:Str->Option Value},s₁.heap.Ns b m->(hidT s₁.heap H).Ns b m:=fun {b m} ⟨o,es,ep,e,d,r⟩ =>
   ⟨o,es,ep,Zbc e (free e (fun z=>by rw[z] at d;cases d) fun its n q _=>by rw[d] at q;cases q),d,r⟩
  have hKb:K.In (hidT s₁.heap H):=fun b o e=>Zbc (KX b o e) (free (KX b o e) (fun z=>by
   have q:=List.all_eq_true.mp hK (b,o) (PySem.W.mem_of_lookupK e)
   subst z
   exact absurd (show false=true from q) Bool.false_ne_true) fun its n _ eb z=>by rw[eb,z] at e;cases e)
  have hbm':BMod mg (hidT s₁.heap H):=by
   obtain⟨bm,ob,b1,b2,b3,b4,b5,b6⟩:=hbm
   exact⟨bm,ob,b1,b2,Zbc b3 (free b3 (fun z=>by rw[z] at b4;cases b4) fun its n q _=>by rw[b6] at q;cases q),b4,b5,b6⟩
  have hcd:∀ q∈tabs,PySem.W.CodeHd (hidT s₁.heap H) q.1 q.2:=fun q hq=>by
   obtain⟨o,vs',file,tf,flags,tg,inF,text,tt,e1,r1,r2,r⟩:=(hT q hq).1
   exact⟨o,vs',file,tf,flags,tg,inF,text,tt,Zbc e1 (free e1 (fun z=>by rw[z] at r1;cases r1) fun its n q' _=>by rw[r2] at q';cases q'),r1,r2,r⟩
  have hM:Mod K mg (hidT s₁.heap H):=⟨hKb,nsK hns,⟨mb,nsK hb,hbb⟩,let ⟨mc,h1,h2⟩:=hlim;⟨mc,nsK h1,h2⟩⟩
  have e0:Env0 P w K mg (hidT s₁.heap H) callerA [] s₁ H:=⟨rfl,hM,fun b o e=>Zjg e,Nat.le_of_eq (Zes _ _),trivial,fun b hb=>absurd (show b∈([]:List Addr) from hb) (by simp),hok,.of_eq hg⟩
  obtain⟨f,fd,FF,hm,_,hbn⟩:=(F _ hKb (nsK hns) hbm' hcd).ex
  rw[hmg] at hm
  cases hm
  refine codeAny_mono (FF.run callerA [] s₁ H ⟨[.ref a],[]⟩ [.ref a] [.ref a] _ _ hr e0 (hbn s₁ [.ref a] KX rfl) (.cons rfl .nil) (hsp H hS fun q hq=>h1 _ (List.mem_map_of_mem hq))) fun r s' h=>?_
  cases r with
  | error e=>exact(hCX _ H e s' h).elim
  | ok fl =>
   cases fl with
   | next=>exact False.elim h
   | brk=>exact False.elim h
   | cont=>exact False.elim h
   | ret u =>
    obtain⟨v,H',os,bare,un,hok',r',q⟩:=h
    have q':v=.bl true:=q
    subst q'
    obtain rfl:u=Value.bool true:=r'
    have tb:∀ b,b∈tabs.map (·.2)->∃ ps,s'.heap.get? b=some (PySem.W.tabObj ps):=fun b hbt=>by
     obtain⟨more,e⟩:=un.tbls b _ (h1 b hbt)
     exact⟨_,hok' b _ e⟩
    have kp:∀ b o,b∉tabs.map (·.2)->s₁.heap.get? b=some o->s'.heap.get? b=some o:=fun b o hbt e=>by
     rcases h2 b hbt with z|⟨rfl,_,z⟩
     ·exact un.keep b o e z (by intro z;exact absurd (show b∈([]:List Addr) from z) (by simp)) (by simp)
     ·obtain⟨e1,_⟩:=hok b _ z
      obtain⟨e2,_⟩:=hok' b _ (un.frzs b _ _ z)
      rw[e] at e1;cases e1
      exact e2
    refine⟨rfl,⟨fun b o e=>?_,fun b o e=>?_⟩,os,bare⟩
    ·by_cases hbt:b∈tabs.map (·.2)
     ·obtain⟨ps,hp⟩:=tb b hbt
      obtain⟨q,hq,rfl⟩:=List.mem_map.mp hbt
      have e2:=(hT q hq).2
      rw[e] at e2;cases e2
      exact .inr (.inl ⟨((hT q hq).1.tab (hT q hq).2).isCodeTable,rfl,#[],ps,rfl,by rw[Array.empty_append];exact hp⟩)
     ·exact .inl (kp b o hbt e)
    ·by_cases hbt:b∈tabs.map (·.2)
     ·obtain⟨ps,hp⟩:=tb b hbt
      exact⟨_,hp⟩
     ·exact⟨o,kp b o hbt e⟩
 cases hk:K.lookup a with
 | some o =>
  have e:=KX a o hk
  rw[ha] at e
  cases e
  refine core (fun b=>if b∈tabs.map (·.2) then some (.tbl #[]) else none) (fun b hbt=>if_pos hbt) (fun b hbt=>.inl (if_neg hbt)) (.inr ⟨_,vs.toArray,_,hk,rfl,rfl,rfl,by rw[List.size_toArray,lenV];exact hl,by simpa using rv⟩)
 | none =>
  refine core (fun b=>if b∈tabs.map (·.2) then some (.tbl #[]) else if b=a then some (.frz { cls:=.type "list",data:=.seq vs.toArray } (.lst (ns.map V.int))) else none) (fun b hbt=>if_pos hbt) (fun b hbt=>?_)
   (.inl (.inr ⟨{ cls:=.type "list",data:=.seq vs.toArray },by dsimp only;rw[if_neg aT,if_pos rfl]⟩))
  by_cases hba:b=a
  ·exact .inr ⟨hba,hk,by rw[if_neg hbt,if_pos hba]⟩
  ·exact .inl (by rw[if_neg hbt,if_neg hba])
theorem Zkx {l:PySem.W.OpenLaw}{n k:Nat}{q:Program}{loose:List Str}{XP:(Str->Option Value)->Heap->Prop}{YP:World->Heap->Prop}{d:DefRec}{K:Params->PySem.W.Frag}{CX:World->Heap->CXT}{sp:PySem.W.Frag->Sp}{x:Str}{tabs:List (Addr × Addr)}
  (hn:l.most=some n) (hn2:n<=sizeLine) (hdf:d.params.defaults=[]) (hr:Room k callerA)
  (hY:∀ (w:World) (h:Heap),YP w h->(K w.params).In h) (hT:∀ (w:World) (h:Heap),YP w h->PySem.W.TabsAt tabs h) (hK:∀ p:Params,PySem.W.noTabs (K p)=true)
  (F:∀ (w:World) (mg:Str->Option Value) (h:Heap),(K w.params).In h->h.Ns mainGlobals mg->∀ base:Heap,(K w.params).In base->base.Ns mainGlobals mg->BMod mg base->(∀ q∈tabs,PySem.W.CodeHd base q.1 q.2) ->
   Fu l.prog w (K w.params) mg base (CX w base) k d.name [x] (sp (K w.params)))
  (hsp:∀ (K:PySem.W.Frag) (H:Hp) (a:Addr) (ns:List Int),ns.length<=n->SqL K H a (ns.map V.int)->Zkt tabs H->sp K [.ref a] H (fun v _=>v=.bl true) fun _ _ _=>False)
  (hCX:∀ (w:World) (base:Heap) (H:Hp) (s:Shared) (e:Value) (s':Shared),CX w base [] H s (fun _ _ _=>False) e s'->False) :
  PySem.W.WalkO q loose XP YP l.row.toRowW d [] (fun f vs=>PySem.call f vs):=by
 refine Att.attach_call hn hdf fun w s₀ s₁ mg mb fa o pm cd doc a vs ns G Y ho hd hcd hmg hobj hints hlen hg=>?_
 have KX:=hY w _ Y
 exact Zjm (CX:=CX w) KX G.T.g G.T.b G.T.builtins G.T.nolimit hg hobj hints (Nat.le_trans hlen hn2) hr (hT w _ Y) (hK _) G.T.bmain (F w mg _ KX G.T.g) hmg (fun H hS hT'=>hsp _ H a ns hlen hS hT') fun base H e s'=>hCX w base H s₁ e s'
end L3
namespace L3
open PySem PySem.Spec PyProof.Rows L2
structure Def (K:PySem.W.Frag) (mg:Str->Option Value) (x:Str) (st:Stmt) (ps:List Str):Prop where
 ex:∃ f fd,Fun K x x st f fd/\mg x=some (.ref f)/\Binds K fd ps []
structure DefC (K:PySem.W.Frag) (mg:Str->Option Value) (x:Str) (st:Stmt) (ps:List Str) (c:Addr):Prop where
 ex:∃ (f:Addr) (oc:Value) (od an:Option Addr) (osl:Array (Option Value)) (kV doc pm ct:Value),K.lookup f=some ⟨oc,od,.func (PySem.W.fnOf x x (Z7 st) (Zw st) (Zg st) .none kV doc pm an (.ref c) ct),osl⟩ /\
  PySem.W.codeIn K (.ref c) x=true/\PySem.W.keepIn K (.ref f)=true/\mg x=some (.ref f)/\Binds K (PySem.W.fnOf x x (Z7 st) (Zw st) (Zg st) .none kV doc pm an (.ref c) ct) ps []
section
variable {P:Program}{w:World}{K:PySem.W.Frag}{mg:Str->Option Value}{base:Heap}{x:Str}{st:Stmt}{N ps:List Str}{k:Nat}{sp:Sp}
theorem Def.fu (D:Def K mg x st ps) (S:FnScope N ps (Zg st)) (len:∀ vs H Q E,sp vs H Q E->vs.length=ps.length)
  (hbody:∀ (f:Addr) (cdv:Value) (A:Around) (outer:List Env) (s:Shared) (H:Hp) (vs:List V) (Q:VK) (E:XK),Room k (A.deeper (envOfC x (Zg st) s.heap.objs.size f cdv))->sp vs H Q E ->
    ∃ t,PSs (cxOf CX0 P w K mg base N x (Zg st) f cdv A outer s H E).nox (Zw st) t/\t { nx:=fun _ H'=>Q .non H',rt:=Q } (Z3 N vs) H):Fu P w K mg base CX0 (k+1) x ps sp:=by
 obtain⟨f,fd,F,hm,hb⟩:=D.ex
 exact⟨f,fd,F.ok S len fun cdv A outer s H vs Q E hr h=>hbody f cdv A outer s H vs Q E hr h,hm,F.kp,hb⟩
theorem DefC.fu {c:Addr}(D:DefC K mg x st ps c) (S:FnScope N ps (Zg st)) (len:∀ vs H Q E,sp vs H Q E->vs.length=ps.length)
  (hbody:∀ (f:Addr) (A:Around) (outer:List Env) (s:Shared) (H:Hp) (vs:List V) (Q:VK) (E:XK),Room k (A.deeper (envOfC x (Zg st) s.heap.objs.size f (.ref c)))->sp vs H Q E ->
    ∃ t,PSs (cxOf CX0 P w K mg base N x (Zg st) f (.ref c) A outer s H E).nox (Zw st) t/\t { nx:=fun _ H'=>Q .non H',rt:=Q } (Z3 N vs) H):Fu P w K mg base CX0 (k+1) x ps sp:=by
 obtain⟨f,oc,od,an,osl,kV,doc,pm,ct,lk,hcd,hk,hm,hb⟩:=D.ex
 refine⟨f,_,Zdw lk hcd S len fun A outer s H vs Q E hr hsp=>?_,hm,hk,hb⟩
 obtain⟨t,h,q⟩:=hbody f A outer s H vs Q E hr hsp
 exact⟨t,h.nox,q⟩
end
theorem Def.of {K:PySem.W.Frag}{mg:Str->Option Value}{h:Heap}{x:Str}{st:Stmt}{ps:List Str}{f:Addr}{oc:Value}{od an:Option Addr}{osl:Array (Option Value)}{kV doc pm cdv ct:Value}(X:K.In h) (G:h.Ns mainGlobals mg)
  (b:∀ (kV doc pm:Value) (an:Option Addr) (cdv ct:Value) (us:List Value),us.length=ps.length->bindArgs (PySem.W.fnOf x x (Z7 st) (Zw st) (Zg st) .none kV doc pm an cdv ct) ⟨us,[]⟩=pure (ps.zip us))
  (a:PySem.W.nsIn K mainGlobals x=some (some (.ref f))) (l:K.lookup f=some ⟨oc,od,.func (PySem.W.fnOf x x (Z7 st) (Zw st) (Zg st) .none kV doc pm an cdv ct),osl⟩)
  (c:PySem.W.codeIn K cdv x=true) (k:PySem.W.keepIn K (.ref f)=true):Def K mg x st ps :=
 ⟨f,_,Zbd (st:=st) l c k,PySem.W.mg_of X G a,(Zbd (st:=st) l c k).binds b⟩
theorem DefC.of {K:PySem.W.Frag}{mg:Str->Option Value}{h:Heap}{x:Str}{st:Stmt}{ps:List Str}{f cd:Addr}{oc:Value}{od an:Option Addr}{osl:Array (Option Value)}{kV doc pm ct:Value}(X:K.In h) (G:h.Ns mainGlobals mg)
  (b:∀ (kV doc pm:Value) (an:Option Addr) (cdv ct:Value) (us:List Value),us.length=ps.length->bindArgs (PySem.W.fnOf x x (Z7 st) (Zw st) (Zg st) .none kV doc pm an cdv ct) ⟨us,[]⟩=pure (ps.zip us))
  (a:PySem.W.nsIn K mainGlobals x=some (some (.ref f))) (l:K.lookup f=some ⟨oc,od,.func (PySem.W.fnOf x x (Z7 st) (Zw st) (Zg st) .none kV doc pm an (.ref cd) ct),osl⟩)
  (c:PySem.W.codeIn K (.ref cd) x=true) (k:PySem.W.keepIn K (.ref f)=true):DefC K mg x st ps cd :=
 ⟨f,oc,od,an,osl,kV,doc,pm,ct,l,c,k,PySem.W.mg_of X G a,(Zbd (st:=st) l c k).binds b⟩
theorem Zci:bootBuiltins "int" = some (.type "int"):=by decide+kernel
theorem Zbp:bootBuiltins "bool" = some (.type "bool"):=by decide+kernel
theorem Zao:bootBuiltins "list" = some (.type "list"):=by decide+kernel
theorem Zaj:bootBuiltins "tuple" = some (.type "tuple"):=by decide+kernel
section
variable {X:Cx}{a e:Expr}{es:List Expr}{ta:TE}{t:TA}{p pos:Pos}
theorem Yc (hm:X.mg "len" = none) (ha:PE X a ta) (hg:Gl X "len" := by rfl) (hst:starEach [a] X.env=(false,eval a X.env)::starEach [] X.env:=by rfl):PE X (.Call (.Name "len" p) [a] [] pos) (tCB (fun xs H Q=>∃ p ys,xs=[.ref p]/\(SqL X.K H p ys\/SqT X.K H p ys)/\Q (.int ys.length) H) (Yr ta tNil)) :=
 Za8 Ze7 hg hm PySem.boot_len (Za ha Zc hst) (he:=hst)
theorem Jd (hm:X.mg "list" = none) (ha:PE X a ta) (hg:Gl X "list" := by rfl) (hst:starEach [a] X.env=(false,eval a X.env)::starEach [] X.env:=by rfl):PE X (.Call (.Name "list" p) [a] [] pos) (tCB (fun xs H Q=>∃ p ys,xs=[.ref p]/\(SqL X.K H p ys\/SqT X.K H p ys)/\∀ l,H l=none->Q (.ref l) (upd H l (.lst ys))) (Yr ta tNil)) :=
 Zja Ze6 hg hm Zao (Za ha Zc hst) (he:=hst)
theorem Yt {T:Str}{n:String}{q:Pos}(hm:X.mg "isinstance" = none) (hmT:X.mg T=none) (hv:bootBuiltins T=some (.type n)) (ha:PE X a ta) (hg:Gl X "isinstance" := by rfl) (hgT:Gl X T:=by rfl) (hn:T ≠ "__name__" := by decide) (hd:(T == ("__debug__" : Str))=false:=by decide)
  (hst:starEach [a,.Name T q] X.env=(false,eval a X.env)::starEach [.Name T q] X.env:=by rfl) (hst2:starEach [.Name T q] X.env=(false,eval (.Name T q) X.env)::starEach [] X.env:=by rfl) :
  PE X (.Call (.Name "isinstance" p) [a,.Name T q] [] pos) (tCB (rIsi X.K) (Yr ta (Yr (tC (.ty n)) tNil))) :=
 Za8 Zmh hg hm boot_isinstance (Za ha (Za (Zjb hgT hmT hv rfl hn hd) Zc hst2) hst) (he:=hst) (hpl:=by rw[hst2];rfl)
end
abbrev LI (K:PySem.W.Frag) (H:Hp) (a:Addr) (ns:List Int):Prop:=SqL K H a (ns.map V.int)
theorem LI.of {K:PySem.W.Frag}{H:Hp}{a:Addr}{ns:List Int}(h:H a=some (.lst (ns.map V.int))):LI K H a ns:=SqL.of h
theorem Y7 {ns:List Int}{i:Int}(h0:0<=i) (h1:i<ns.length):atI (ns.map V.int) i=some (.int (ns.getD i.toNat 0)):=by
 have hi:i.toNat<ns.length:=by omega
 have:=Zcj (xs:=ns.map V.int) (j:=i.toNat) (v:=.int (ns.getD i.toNat 0)) (by rw[List.getElem?_map,List.getElem?_eq_getElem hi];simp[List.getD,hi])
 rwa [Int.toNat_of_nonneg h0] at this
theorem Zko {ns:List Int}{i:Int}(h0:i<0) (h1:0<=i+ns.length):atI (ns.map V.int) i=some (.int (ns.getD (i+ns.length).toNat 0)):=by
 have hi:(i+ns.length).toNat<ns.length:=by omega
 unfold atI ixN
 rw[if_neg (by omega),List.length_map,if_pos (by omega)]
 show (ns.map V.int)[(i+ns.length).toNat]?=_
 rw[List.getElem?_map,List.getElem?_eq_getElem hi]
 simp[List.getD,hi]
theorem Same.new {H:Hp}{p:Addr}{o:HO}(h:H p=none):Same H (upd H p o):=fun b u e=>by rw[Zb (Zl e h)];exact e
theorem SqL.new {K:PySem.W.Frag}{H:Hp}{p:Addr}{xs:List V}:SqL K (upd H p (.lst xs)) p xs:=SqL.of Ze
end L3
namespace L3
open PySem PySem.Spec PyProof.Rows L2
theorem Zf3 {P:Program}{w:World}{H:Hp}{h:Heap}{b:Addr}{u:HO}(x:ObjOk P w H h b u):∃ o,h.get? b=some o:=by
 cases u with
 | lst xs=>obtain⟨_,_,_,_,e⟩:=x;exact⟨_,e⟩
 | tup xs=>obtain⟨_,_,_,o,e,_⟩:=x;exact⟨_,e⟩
 | dK kvs=>obtain⟨_,_,_,_,o,_,_,e,_⟩:=x;exact⟨_,e⟩
 | dT kvs=>obtain⟨_,_,_,_,o,_,_,e,_⟩:=x;exact⟨_,e⟩
 | set S n=>obtain⟨o,_,_,_,e,_⟩:=x;exact⟨_,e⟩
 | ins C dx fs=>obtain⟨_,_,_,e,_⟩:=x;exact⟨_,e⟩
 | own y=>exact x
 | xd fs=>obtain⟨_,⟨_,_,_,e,_⟩,_⟩:=x;exact⟨_,e⟩
 | rng lo hi=>obtain⟨_,_,_,e⟩:=x;exact⟨_,e⟩
 | frz o u=>exact⟨_,x.1⟩
 | tbl ps=>exact⟨_,x⟩
 | met f y=>exact⟨_,x⟩
 | ext φ=>exact x.2.1
theorem HOk.there {P:Program}{w:World}{H:Hp}{h:Heap}(ok:HOk P w H h) {b:Addr}(hb:H b≠none):∃ o,h.get? b=some o:=by
 cases e:H b with
 | none=>exact absurd e hb
 | some u=>exact Zf3 (ok b u e)
structure Fly (P:Program) (w:World) (outer:List Env) (H H':Hp) (s s':Shared) (a C:Addr) (B:Heap):Prop where
 os:s'.os=s.os
 bare:AllBare s'.gens
 un:Un (frs outer) [] H H' s.heap s'.heap
 hok:HOk P w H' s'.heap
 new:s.heap.get? a=none
 nt:H' a=none
 fly:∃ a0,Heap.FlyingW B outer a (.ref C) a0 s'.heap
 cov:∀ b o,s'.heap.get? b=some o->(H' b≠none\/∃ o',s.heap.get? b=some o')->b∉frs outer->B.get? b=some o
def CX1 (P:Program) (w:World):CXT:=fun outer H s E e s'=>∃ (a C:Addr) (B:Heap) (H':Hp),e=.ref a/\Fly P w outer H H' s s' a C B/\E (.ref C) none H'
section
variable {X:Cx}{pins:List (Addr × Obj)}{σ:L2.St}{H H':Hp}{s s':Shared}{a C:Addr}{B:Heap}{h':Heap}{a0:Value}
theorem Fly.out (I:Inv X pins σ H' s') (hex:X.ex=[]) (hst:X.stack=X.env::X.outer) (hfr:X.env.frame=some X.env.locals) (new:X.s₀.heap.get? a=none) (nt:H' a=none)
  (cov:∀ b o,s'.heap.get? b=some o->(H' b≠none\/∃ o',X.s₀.heap.get? b=some o')->b∉frs X.stack->B.get? b=some o)
  (fl:Heap.FlyingW B X.outer a (.ref C) a0 h') (up:s'.heap.UpToSlots h'):Fly X.prog X.w X.outer X.H₀ H' X.s₀ { s' with heap:=h' } a C B:=by
 have frs_eq:frs X.stack=X.env.locals::frs X.outer:=by rw[hst];unfold frs;rw[List.filterMap_cons,hfr]
 have nst:∀ b o,X.s₀.heap.get? b=some o->b∉frs X.outer->b∉frs X.stack:=fun b o e hb z=>by
  rw[frs_eq] at z
  rcases List.mem_cons.mp z with z|z
  ·rw[z] at e
   exact absurd (Nat.lt_of_lt_of_le (Heap.lt_size e) I.ok.above) (Nat.lt_irrefl _)
  ·exact hb z
 have nx:∀ b,b∉X.ex:=fun b z=>by rw[hex] at z;cases z
 have tr:∀ b,H' b≠none->b∉frs X.stack:=fun b hb z=>hb (I.stkFree b z)
 have slot:∀ b o,X.s₀.heap.get? b=some o->b∈frs X.outer->∃ sl,h'.get? b=some { o with slots:=sl }:=fun b o e hb=>by
  obtain⟨sl,e1⟩:=I.base.slot b o e (I.ok.frf b hb) hb (nx b)
  obtain⟨_,o',ho',hd⟩:=I.ok.funs.mem hb
  rw[e] at ho'
  cases ho'
  obtain⟨sl2,q⟩:=up b { o with slots:=sl } e1 hd
  exact⟨sl2,q⟩
 refine⟨I.os,I.bare,⟨fun b o e n h1 _=>?_,fun b o e n h1 _=>slot b o e h1,fun b o e n _=>I.base.free b o e n (nx b),fun b o e _=>?_,I.base.tups,I.base.frzs,I.base.tbls⟩,HOk.but I.hok fun b o hb e=>fl.1 b o (cov b o e (.inl hb) (tr b hb)),new,nt,⟨a0,fl⟩,fun b o e hb n=>?_⟩
 ·exact fl.1 b o (cov b o (I.base.keep b o e n h1 (nx b)) (.inr ⟨o,e⟩) (nst b o e h1))
 ·by_cases hb:b∈frs X.outer
  ·obtain⟨sl,q⟩:=slot b o e hb
   exact⟨_,q⟩
  ·obtain⟨o',e1⟩:=I.base.there b o e (nx b)
   exact⟨o',fl.1 b o' (cov b o' e1 (.inr ⟨o,e⟩) (nst b o e hb))⟩
 ·have hb':b∉frs X.stack/\∃ o1,s'.heap.get? b=some o1:=by
   rcases hb with hb|⟨o',e'⟩
   ·exact⟨tr b hb,HOk.there I.hok hb⟩
   ·exact⟨nst b o' e' n,I.base.there b o' e' (nx b)⟩
  obtain⟨n',o1,e1⟩:=hb'
  have q:=cov b o1 e1 hb n'
  have z:=fl.1 b o1 q
  have e':h'.get? b=some o:=e
  rw[z] at e'
  cases e'
  exact q
end
section
variable {P:Program}{w:World}{K:PySem.W.Frag}{mg:Str->Option Value}{base:Heap}{N:List Str}{qual:Str}{scope:Scope}{f:Addr}{cd:Value}{A:Around}{outer:List Env}{s₀:Shared}{H₀:Hp}{E:XK}
theorem Yf:Yq (CX1 P w) (cxOf (CX1 P w) P w K mg base N qual scope f cd A outer s₀ H₀ E) E:=by
 intro pins σ H s e s' I h
 obtain⟨a,C,B,H',rfl,F,q⟩:=h
 have I':Inv (cxOf (CX1 P w) P w K mg base N qual scope f cd A outer s₀ H₀ E) pins σ H' s':=I.call' F.os F.un F.hok F.bare fun b hb=>absurd hb (by simp)
 obtain⟨a0,fl⟩:=F.fly
 have there:∀ b o,s₀.heap.get? b=some o->∃ o',s.heap.get? b=some o':=fun b o e=>I.base.there b o e fun z=>absurd (show b∈([]:List Addr) from z) (by simp)
 refine wpAny_leaves_onW I.ok.frames rfl fl fun h' fl' up=>⟨a,C,B,H',rfl,Fly.out I' rfl rfl rfl ?_ F.nt (fun b o e hb n=>F.cov b o e (hb.imp id fun⟨o',e'⟩=>there b o' e') n) fl' up,q⟩
 cases z:s₀.heap.get? a with
 | none=>exact z
 | some o =>
  obtain⟨o',e⟩:=there a o z
  rw[F.new] at e
  cases e
end
structure ExcC (K:PySem.W.Frag) (mg:Str->Option Value) (x:Str) (C:Addr):Prop where
 bound:mg x=some (.ref C)
 keep:PySem.W.keepIn K (.ref C)=true
 cls:PySem.W.excIn K C [.type "ValueError",.type "Exception",.type "BaseException",.type "object"] "ValueError.__new__" = true
theorem ExcC.own {K:PySem.W.Frag}{mg:Str->Option Value}{x:Str}{C:Addr}{h:Heap}(D:ExcC K mg x C) (X:K.In h):OwnCls x C [.type "ValueError",.type "Exception",.type "BaseException",.type "object"] "ValueError.__new__" mg h:=by
 refine⟨D.bound,?_⟩
 have q:=D.cls
 unfold PySem.W.excIn at q
 split at q
 case h_2=>cases q
 case h_1 dd cd sl ho =>
  split at q
  case h_2=>cases q
  case h_1 C' bm k0 k1 k2 k3 n k5 hm hs =>
   obtain⟨l⟩:=sl
   obtain⟨nm,bs,mro,ns,qn,hd,sn,sub,ab,col,del⟩:=cd
   have hs':l=[k0,k1,k2,k3,some (.builtin n),k5]:=hs
   have hm':mro=.ref C'::bm:=hm
   subst hs' hm'
   rw[Bool.and_eq_true,Bool.and_eq_true,Bool.and_eq_true,Bool.and_eq_true,Bool.and_eq_true] at q
   obtain⟨⟨⟨⟨⟨q1,q2⟩,q3⟩,q4⟩,q5⟩,q6⟩:=q
   have e1:C'=C:=beq_iff_eq.mp q1
   have e2:n = "ValueError.__new__" := beq_iff_eq.mp q2
   have e3:del=false:=by simpa using q3
   subst e1 e2 e3
   exact⟨bm,ns,nm,qn,bs,hd,sn,sub,ab,col,dd,k0,k1,k2,k3,k5,_,X _ _ ho,.of_isNs (PySem.W.isNs_of_in X q5),PySem.W.nsMap_none_of_in X q5 (beq_iff_eq.mp q6),PySem.W.tail_of_in X q4⟩
section
variable {P:Program}{w:World}{K:PySem.W.Frag}{mg:Str->Option Value}{base:Heap}{N:List Str}{qual:Str}{scope:Scope}{f:Addr}{cd:Value}{A:Around}{outer:List Env}{s₀:Shared}{H₀:Hp}{E:XK}{x:Str}{C:Addr}{e:Expr}{es:List Expr}{t:TA}{p pos cpos:Pos}
def Zqc (E:XK) (C:Addr) (t:TA):TS:=fun _ σ H=>t σ H fun vs H1=>vs.length<=sizeLine/\E (.ref C) none H1
theorem Zdj (D:ExcC K mg x C) (hh:(A.deeper (envOfC qual scope s₀.heap.objs.size f cd)).handled=none) (ha:PA (cxOf (CX1 P w) P w K mg base N qual scope f cd A outer s₀ H₀ E) (e::es) t) (hg:Gl (cxOf (CX1 P w) P w K mg base N qual scope f cd A outer s₀ H₀ E) x:=by rfl) (hdb:(x == ("__debug__" : Str))=false:=by decide)
  (he:starEach (e::es) (cxOf (CX1 P w) P w K mg base N qual scope f cd A outer s₀ H₀ E).env=(false,eval e (cxOf (CX1 P w) P w K mg base N qual scope f cd A outer s₀ H₀ E).env)::starEach es (cxOf (CX1 P w) P w K mg base N qual scope f cd A outer s₀ H₀ E).env:=by rfl)
  (hpl:(backTo cpos (starEach es (cxOf (CX1 P w) P w K mg base N qual scope f cd A outer s₀ H₀ E).env)).any (·.1)=false:=by rfl) :
  PS (cxOf (CX1 P w) P w K mg base N qual scope f cd A outer s₀ H₀ E) (.Raise (some (.Call (.Name x p) (e::es) [] cpos)) none pos) (Zqc E C t):=by
 intro pins s σ H Dn I h
 obtain⟨bm,N',nm,q,bs,hdct,sn,sub,ab,col,dd,k0,k1,k2,k3,k5,mN,hC,hN,hni,T⟩:=(D.own I.ok.mod.kin).obj
 refine wpAny_Raise_call_subT (C:=C) (nm:=nm) (q:=q) (N:=N') (bs:=bs) (bm:=bm) (hdct:=hdct) (sn:=sn) (sub:=sub) (ab:=ab) (col:=col) (dd:=dd) (k0:=k0) (k1:=k1) (k2:=k2) (k3:=k3) (k5:=k5)
  PySem.F.excBase_ValueError (mN:=mN) (T.hasType PySem.F.excBase_ValueError.hasBase) hh (by rw[he];show (false||(backTo cpos (starEach es _)).any (·.1))=false;rw[hpl];rfl) hni (Je I hg D.bound ⟨rfl,?_⟩ hdb)
 have hs:=ha cpos pins s σ H _ I h
 rw[he] at hs ⊢
 refine Calls.evalArgs_plain (wpAny_mono hs (fun us s1 ⟨vs,H1,I1,r1,z,q1⟩=>⟨rfl,by show us.length<=_;rw[← r1.length];exact z,I1.bk _ _ hC,hN.keeps I1.bk,T.keeps I1.bk,fun h' e' hm=>?_⟩) fun _ _ y=>y)
 have hin:∀ env∈(envOfC qual scope s₀.heap.objs.size f cd::outer),∀ b,env.frame=some b->b∈frs (envOfC qual scope s₀.heap.objs.size f cd::outer):=fun env he b hb=>List.mem_filterMap.mpr ⟨env,he,hb⟩
 have nx:∀ b,b∉([]:List Addr):=fun b z=>by cases z
 have new:H1 e'=none:=by
  cases z:H1 e' with
  | none=>rfl
  | some u =>
   obtain⟨o,q⟩:=Zf3 (I1.hok _ _ z)
   rw[hm.new] at q
   cases q
 have I2:Inv (cxOf (CX1 P w) P w K mg base N qual scope f cd A outer s₀ H₀ E) pins σ H1 { s1 with heap:=h' }:=I1.kept (t':=s1.toks) hm.keeps
 show wpAny _ _ (leaving (envOfC qual scope s₀.heap.objs.size f cd) (.ref e')) _ _ { s1 with heap:=h' }
 refine wpAny_leaves_madeW (base:=PySem.W.hideAll s1.heap (frs (envOfC qual scope s₀.heap.objs.size f cd::outer))) (h:=s1.heap) I.ok.frames rfl (fun b o q=>PySem.W.of_hideAll _ q) (PySem.W.funFrames_hide I1.stack hin) hm fun h2 t x1 x2 x3 x4=>?_
 refine⟨e',C,_,H1,rfl,Fly.out (a0:=.ref t) I2 rfl rfl rfl ?_ new (fun b o e1 hb n=>?_) x1 x4,q1⟩
 ·cases z:s₀.heap.get? e' with
  | none=>exact z
  | some o =>
   obtain⟨o',q⟩:=I1.base.there e' o z (nx e')
   rw[hm.new] at q
   cases q
 ·have q:∃ o1,s1.heap.get? b=some o1:=by
   rcases hb with hb|⟨o',e2⟩
   ·exact HOk.there I1.hok hb
   ·exact I1.base.there b o' e2 (nx b)
  obtain⟨o1,q⟩:=q
  have q2:=hm.keeps b o1 q
  have e1':h'.get? b=some o:=e1
  rw[q2] at e1'
  cases e1'
  exact PySem.W.hideAll_get _ q n
end
end L3
namespace L3
open PySem PySem.Spec PyProof.Rows L2 PySem.W Builtin.Getset_descriptor
section
variable {prog:Program}{w:World}{A:Around}{E:Value->Shared->Prop}{s:Shared}{K:Frag}{x C:Addr}{ox:Obj}{odo:Option Obj}{name:Str}
def IsOf (h:Heap) (x C:Addr):Prop:=∃ ox,h.get? x=some ox/\ox.cls=.ref C
theorem IsOf.type {M:Model}{h:Heap}(I:IsOf h x C):Looks M h (typeOf (.ref x)) (.ref C):=by
 obtain⟨ox,e,c⟩:=I
 exact c▸(Looks.ld e).andThen .now
theorem Zjv {M:Model}{h:Heap}{a g:Value}(X:K.In h) (ha:findIn K (.ref C) name=some (some a)) (hg:specialIn K a "__get__" = some (some g)) (ht:takesIn K a=some true):Looks M h (Builtin.ObjectAttr.find (.ref x) (.ref C) name) (.bind g a):=by
 have F1:=looks_findIn (M:=M) X ha
 have F2:Looks M h (Builtin.ObjectAttr.getOf (some a)) (some g):=looks_specialIn X hg
 have F3:Looks M h (Builtin.ObjectAttr.dataDescriptor? (some a) (some g)) (some (g,a)):=(looks_takesIn (M:=M) X ht).andThen .now
 exact F1.andThen (F2.andThen (F3.andThen (Looks.tag .now)))
theorem Zph {tk:Tok}{g a:Value}{Q:Fin->Shared->Prop}(I:IsOf s.heap x C) (L1:Looks (model prog w) s.heap (Builtin.ObjectAttr.find (.ref x) (.ref C) name) (.bind g a))
  (h:wpAny (model prog w) A (call g [a,.ref x,.ref C]) (fun v s'=>Q (.done (.ret v)) s') E s):wpAny (model prog w) A (Builtin.«object.__getattribute__» ⟨[.ref x,.str name tk],[]⟩) Q E s:=by
 obtain⟨hh,gg,d,t,os⟩:=s
 have L0:=I.type (M:=model prog w)
 refine wpAny_bind (wpAny_pure ?_)
 refine wpAny_bind (wpAny_pure (wpAny_bind (L0.at (wpAny_bind (L1.at ?_)))))
 show wpAny _ _ (holding [a] (call g [a,.ref x,.ref C]) >>= ret) _ _ _
 exact wpAny_bind (wpAny_holding (wpAny_mono h (fun v s' q=>wpAny_pure q) fun _ _ q=>q))
theorem Zrz {tk:Tok}{v:Value}{Q:Fin->Shared->Prop}(I:IsOf s.heap x C) (L1:Looks (model prog w) s.heap (Builtin.ObjectAttr.find (.ref x) (.ref C) name) (.value v))
  (h:Q (.done (.ret v)) s):wpAny (model prog w) A (Builtin.«object.__getattribute__» ⟨[.ref x,.str name tk],[]⟩) Q E s:=by
 obtain⟨hh,gg,d,t,os⟩:=s
 have L0:=I.type (M:=model prog w)
 refine wpAny_bind (wpAny_pure ?_)
 refine wpAny_bind (wpAny_pure (wpAny_bind (L0.at (wpAny_bind (L1.at (wpAny_pure h))))))
theorem Zmg {R:Result->Shared->Prop}{tp:Value}(X:K.In s.heap) (I:IsOf s.heap x C) (hm:mroIn K C (.type "object")=some true) (hr:R (.ok (.ret (.ref C))) s) :
  codeAny (model prog w) A (.call (.builtin "getset_descriptor.__get__") ⟨[.builtin "object.__class__",.ref x,tp],[]⟩) R s:=by
 obtain⟨hh,gg,dd,tt,oo⟩:=s
 have l0:=I.type (M:=model prog w)
 have l1:=looks_mroIn (M:=model prog w) X hm
 refine codeAny_call_builtin KF.slot_gs.plain KF.entry_gs (KF.slot_gs.check _ _ _ _ _ _ _ _ KF.type_class (KF.args_gs _ _ _) ?_)
 unfold Builtin.«getset_descriptor.__get__» descrGet
 rw[dga_obj]
 refine wpAny_bind (wpAny_pure ?_)
 unfold descrGetter descrCheckInstance descrNameAndClass isInstance
 simp only [KF.owner_class]
 repeat lk
 refine⟨Code.quiet_builtin _ (by decide+kernel),codeAny_builtin KF.entry_class ?_⟩
 unfold Builtin.«object.__class__» shownTypeOf
 repeat lk
 exact hr
theorem Zj0 {tk:Tok}{fill expr:Bool}{Q:Value->Shared->Prop}(X:K.In s.heap) (I:IsOf s.heap x C) (hgh:findIn K (.ref C) "__getattr__" = some none) (hm:mroIn K C (.type "BaseException")=some true)
  (h:∀ A',wpAny (model prog w) A' (Builtin.«object.__getattribute__» ⟨[.ref x,.str name tk],[]⟩) (fun fin s'=>match fin with | .done (.ret v)=>handedIn v=true/\Q v s'|_=>False) (fun _ _=>False) s) :
  wpAny (model prog w) A (getAttrByItsOwn (.ref x) (.str name tk) (.ref C) (.builtin "BaseException.__getattribute__") fill expr) Q E s:=by
 obtain⟨hh,g,d,t,os⟩:=s
 have L0:=I.type (M:=model prog w)
 have L2:=looks_findIn (M:=model prog w) X hgh
 have L3:=looks_mroIn (M:=model prog w) X hm
 have f3:=PySem.F.attrBase_ValueError.ga.bind (.ref x)
 have hx0:(expr&&onTheHeap (Value.builtin "BaseException.__getattribute__"))=false:=by cases expr<;>rfl
 unfold getAttrByItsOwn
 refine wpAny_bind ?_
 show wpAny _ _ (typeLookup (.ref C) "__getattr__") _ _ _
 refine L2.at ?_
 refine wpAny_bind (wpAny_attempt (wpAny_holding ?_))
 unfold callGetattribute
 rw[if_neg (by rw[hx0];exact Bool.false_ne_true)]
 unfold boundAndCalled
 repeat (any_goals (first|assumption|wp_step))
 refine codeAny_call_builtin PySem.F.attrBase_ValueError.ga.plain F.entry_bexc_ga ?_
 have k1:builtinKind "BaseException.__getattribute__" = some .slot:=by decide+kernel
 have k2:splitId "BaseException.__getattribute__" = some ("BaseException", "__getattribute__"):=by decide+kernel
 have k3:=F.args_bexc_ga (.ref x) (.str name tk)
 show wpAny _ _ (checkBuiltinCall "BaseException.__getattribute__" ⟨[.ref x,.str name tk],[]⟩) _ _ _
 simp only [checkBuiltinCall,k1,k2]
 refine wpAny_bind ?_
 unfold isInstance
 refine wpAny_bind (L0.at (L3.at ?_))
 repeat (first|assumption|with_reducible refine wpAny_mono (h _) (fun fin s' q=>?_) (fun _ _ z=>z.elim)|wp_step)
 cases fin with
 | again c'=>exact q.elim
 | done f =>
  cases f with
  | ret v=>exact handed_on q.1 q.2
  | next=>exact q.elim
  | brk=>exact q.elim
  | cont=>exact q.elim
structure ExcG (K:Frag) (C:Addr):Prop where
 ga:findIn K (.ref C) "__getattribute__" = some (some (.builtin "BaseException.__getattribute__"))
 gh:findIn K (.ref C) "__getattr__" = some none
 be:mroIn K C (.type "BaseException")=some true
 ob:mroIn K C (.type "object")=some true
 cl:findIn K (.ref C) "__class__" = some (some (.builtin "object.__class__"))
 cg:specialIn K (.builtin "object.__class__") "__get__" = some (some (.builtin "getset_descriptor.__get__"))
 ct:takesIn K (.builtin "object.__class__")=some true
theorem Zdz {C:Addr}{v:Value}{b:Bool}(h:mroIn K C v=some b):∃ cd,clsIn K C=some cd:=by
 obtain⟨cd,a,_⟩:=Option.bind_eq_some_iff.mp h
 exact⟨cd,a⟩
theorem Zj2 {Q:Option Value->Shared->Prop}(X:K.In s.heap) (I:IsOf s.heap x C) (G:ExcG K C) (h:Q (some (.ref C)) { s with toks:=s.toks+1 }):wpAny (model prog w) A (getAttr? (.ref x) "__class__") Q E s:=by
 obtain⟨hh,g,d,t,os⟩:=s
 have L0:=I.type (M:=model prog w)
 have L1:=looks_findIn (M:=model prog w) X G.ga
 unfold getAttr? getAttrBy? getAttrBy
 refine wpAny_bind (wpAny_mkText (wpAny_bind (wpAny_attempt (wpAny_holding (wpAny_bind (L0.at (wpAny_bind (L1.at ?_))))))))
 show wpAny _ _ (getAttrByItsOwn (.ref x) (.str "__class__" t) (.ref C) (.builtin "BaseException.__getattribute__") false false) _ _ _
 refine Zj0 (s:=⟨hh,g,d,t+1,os⟩) X I G.gh G.be fun A'=>?_
 exact Zph (s:=⟨hh,g,d,t+1,os⟩) I (Zjv X G.cl G.cg G.ct) (wpAny_call (Zmg (s:=⟨hh,g,d,t+1,os⟩) X I G.ob ⟨rfl,wpAny_pure h⟩))
theorem Zlq (G:ExcG K C):KitX K (.ref x) (.ref C) (fun h=>IsOf h x C) where
 ty:=fun _ _ _ I=>I.type
 it:=fun _ _ X _=>by
  obtain⟨cd,hcd⟩:=Zdz G.ob
  unfold clsIn at hcd
  split at hcd
  ·rename_i ho
   intro A' Q' E' s' k q
   unfold isType loadHead
   exact wpAny_bind (wpAny_loadPart (k _ _ (X _ _ ho)) (wpAny_pure q))
  ·cases hcd
 ne:=fun h tp dd its n sl X htp=>by
  obtain⟨cd,hcd⟩:=Zdz G.ob
  refine Bool.eq_false_iff.mpr fun q=>?_
  have e:C=tp:=Value.ref.inj (beq_iff_eq.mp q)
  subst e
  unfold clsIn at hcd
  split at hcd
  ·rename_i ho
   have z:=(X _ _ ho).symm.trans htp
   cases z
  ·cases hcd
 ca:=fun X I k=>Zj2 X I G k
end
end L3
namespace L3
open PySem PySem.Spec PyProof.Rows L2
def Need (X:Cx) (pins:List (Addr × Obj)) (H:Hp) (b:Addr):Prop:=H b≠none\/(∃ o,X.s₀.heap.get? b=some o)\/(∃ x,X.env.cells.lookup x=some b)\/∃ p∈X.pn++pins,p.1=b
structure Body (X:Cx):Prop where
 ex:X.ex=[]
 st:X.stack=X.env::X.outer
 fr:X.env.frame=some X.env.locals
 fn:∀ x,X.fn x=true
section
variable {X:Cx}{pins:List (Addr × Obj)}{σ:L2.St}{H H':Hp}{s s':Shared}{a C:Addr}{B h':Heap}
theorem Inv.cnf (I:Inv X pins σ H s) (b:Body X) {x:Str}{c:Addr}(e:X.env.cells.lookup x=some c):c∉frs X.stack:=fun z=>by
 rcases List.mem_cons.mp (I.stkSub c z) with z|z
 ·exact I.cne x c e z
 ·obtain⟨_,o,ho,_⟩:=I.ok.funs.mem z
  exact absurd (Nat.lt_of_lt_of_le (Heap.lt_size ho) (I.ok.cab x c (b.fn x) e)) (Nat.lt_irrefl _)
theorem Inv.snf (I:Inv X pins σ H s) {b:Addr}{o:Obj}(e:X.s₀.heap.get? b=some o) (hb:b∉X.fs):b∉frs X.stack:=fun z=>by
 rcases List.mem_cons.mp (I.stkSub b z) with z|z
 ·rw[z] at e
  exact absurd (Nat.lt_of_lt_of_le (Heap.lt_size e) I.ok.above) (Nat.lt_irrefl _)
 ·exact hb z
theorem Inv.pnf (I:Inv X pins σ H s) {p:Addr × Obj}(hp:p∈X.pn++pins):p.1∉frs X.stack:=fun z=>by
 obtain⟨_,_,ne,nf,_⟩:=I.pin p hp
 rcases List.mem_cons.mp (I.stkSub p.1 z) with z|z
 ·exact ne z
 ·exact nf z
theorem Inv.needed (I:Inv X pins σ H s) (b:Body X) {c:Addr}(h:Need X pins H c):∃ o,s.heap.get? c=some o:=by
 rcases h with h|⟨o,h⟩|⟨x,h⟩|⟨p,hp,rfl⟩
 ·exact HOk.there I.hok h
 ·exact I.base.there c o h (by rw[b.ex];intro z;cases z)
 ·obtain⟨v,o,e,_⟩:=I.cell x c h
  exact⟨o,e⟩
 ·exact⟨_,(I.pin p hp).1⟩
theorem Inv.moved (I:Inv X pins σ H s) (b:Body X) (k:∀ c o,s.heap.get? c=some o->Need X pins H c->c∉frs X.stack->h'.get? c=some o) (up:s.heap.UpToSlots h'):Inv X pins σ H { s with heap:=h' }:=by
 have nx:∀ c,c∉X.ex:=fun c z=>by rw[b.ex] at z;cases z
 have slot:∀ c o,X.s₀.heap.get? c=some o->c∈X.fs->∃ sl,h'.get? c=some { o with slots:=sl }:=fun c o e hc=>by
  obtain⟨sl,e1⟩:=I.base.slot c o e (I.ok.frf c hc) hc (nx c)
  obtain⟨_,o',ho',hd⟩:=I.ok.funs.mem hc
  rw[e] at ho'
  cases ho'
  obtain⟨sl2,q⟩:=up c { o with slots:=sl } e1 hd
  exact⟨sl2,q⟩
 have cell:∀ {x:Str} {c:Addr} {v:Option Value},X.env.cells.lookup x=some c->s.heap.IsCell c v->h'.IsCell c v:=fun {x c v} hc z=>by
  obtain⟨o,e,r⟩:=z
  exact⟨o,k c o e (.inr (.inr (.inl ⟨x,hc⟩))) (Inv.cnf I b hc),r⟩
 refine⟨I.ok,I.os,I.bare,⟨fun c o e n h1 _=>k c o (I.base.keep c o e n h1 (nx c)) (.inr (.inl ⟨o,e⟩)) (Inv.snf I e h1),fun c o e n h1 _=>slot c o e h1,I.base.free,fun c o e _=>?_,I.base.tups,I.base.frzs,I.base.tbls⟩,?_,fun x c e=>?_,I.free,I.freeC,fun p hp=>?_,
  HOk.but I.hok fun c o hc e=>k c o e (.inl hc) fun z=>hc (I.stkFree c z),I.len⟩
 ·by_cases hc:c∈X.fs
  ·obtain⟨sl,q⟩:=slot c o e hc
   exact⟨_,q⟩
  ·obtain⟨o',e1⟩:=I.base.there c o e (nx c)
   exact⟨o',k c o' e1 (.inr (.inl ⟨o,e⟩)) (Inv.snf I e hc)⟩
 ·obtain⟨m,hn,hl⟩:=I.loc
  refine⟨m,up.ns hn,fun i x v h1 h2 h3=>?_⟩
  obtain⟨u,r,l⟩:=hl i x v h1 h2 h3
  refine⟨u,r,?_⟩
  rcases l with l|⟨k1,c,hc,q⟩
  ·exact .inl l
  ·exact .inr ⟨k1,c,hc,cell hc q⟩
 ·obtain⟨v,q⟩:=I.cell x c e
  exact⟨v,cell e q⟩
 ·obtain⟨e,r⟩:=I.pin p hp
  exact⟨k p.1 p.2 e (.inr (.inr (.inr ⟨p,hp,rfl⟩))) (Inv.pnf I hp),r⟩
structure Air (X:Cx) (pins:List (Addr × Obj)) (σ:L2.St) (H:Hp) (s:Shared) (a C:Addr):Prop where
 inv:Inv X pins σ H s
 new:X.s₀.heap.get? a=none
 nt:H a=none
 nneed:¬ Need X pins H a
 nfs:a∉frs X.stack
 nloc:a≠X.env.locals
 fly:∃ a0 B,Heap.FlyingW B X.stack a (.ref C) a0 s.heap/\∀ c o,s.heap.get? c=some o->Need X pins H c->c∉frs X.stack->B.get? c=some o
theorem Air.on (R:Air X pins σ H s a C) (b:Body X) {B:Heap}{a0:Value}(cov:∀ c o,s.heap.get? c=some o->Need X pins H c->c∉frs X.stack->B.get? c=some o) (fl:Heap.FlyingW B X.stack a (.ref C) a0 h') (up:s.heap.UpToSlots h'):Air X pins σ H { s with heap:=h' } a C:=by
 refine⟨Inv.moved R.inv b (fun c o e n f=>fl.1 c o (cov c o e n f)) up,R.new,R.nt,R.nneed,R.nfs,R.nloc,a0,B,fl,fun c o e n f=>?_⟩
 obtain⟨o1,e1⟩:=Inv.needed R.inv b n
 have q:=cov c o1 e1 n f
 have z:=fl.1 c o1 q
 have e':h'.get? c=some o:=e
 rw[z] at e'
 cases e'
 exact q
end
def Ze0 (X:Cx) (pins:List (Addr × Obj)) (Ex:Addr->L2.St->Hp->Prop):Cx :=
 { X with pn:=X.pn++pins,xe:=fun e s'=>∃ a C σ' H',e=.ref a/\Air X pins σ' H' s' a C/\Ex C σ' H' }
section
variable {X:Cx}{pins pins':List (Addr × Obj)}{σ:L2.St}{H H':Hp}{s s':Shared}{a C:Addr}{B h':Heap}{Ex:Addr->L2.St->Hp->Prop}
theorem Zmp (I:Inv X pins σ H s):Inv (Ze0 X pins Ex) [] σ H s :=
 ⟨⟨I.ok.mod,I.ok.kind,I.ok.glob,I.ok.blt,I.ok.above,I.ok.inj,I.ok.has,I.ok.cab,I.ok.hd,I.ok.frames,I.ok.stk,I.ok.exf,I.ok.bs,I.ok.bsz,I.ok.noex,I.ok.exfs,I.ok.funs,I.ok.frf⟩,I.os,I.bare,I.base,I.loc,I.cell,I.free,I.freeC,fun p hp=>I.pin p (by have hp':p∈(X.pn++pins)++[]:=hp;rwa [List.append_nil] at hp'),I.hok,I.len⟩
theorem Zbz (I:Inv (Ze0 X pins Ex) pins' σ H s):Inv X pins σ H s :=
 ⟨⟨I.ok.mod,I.ok.kind,I.ok.glob,I.ok.blt,I.ok.above,I.ok.inj,I.ok.has,I.ok.cab,I.ok.hd,I.ok.frames,I.ok.stk,I.ok.exf,I.ok.bs,I.ok.bsz,I.ok.noex,I.ok.exfs,I.ok.funs,I.ok.frf⟩,I.os,I.bare,I.base,I.loc,I.cell,I.free,I.freeC,fun p hp=>I.pin p (List.mem_append_left _ hp),I.hok,I.len⟩
theorem Zrb (b:Body X) {e:Value}{E:XK}(I:Inv (Ze0 X pins Ex) pins' σ H s) (hE:∀ C H',E (.ref C) none H'->Ex C σ H') (h:CX1 X.prog X.w (Ze0 X pins Ex).stack H s E e s'):(Ze0 X pins Ex).xe e s':=by
 obtain⟨a,C,B,H',rfl,F,q⟩:=h
 have I0:=Zbz I
 have I':Inv X pins σ H' s':=I0.call' F.os F.un F.hok F.bare fun b hb=>absurd hb (by simp)
 obtain⟨a0,fl⟩:=F.fly
 have nx:∀ c,c∉X.ex:=fun c z=>by rw[b.ex] at z;cases z
 have hneed:∀ c,Need X pins H' c->H' c≠none\/∃ o',s.heap.get? c=some o':=fun c n=>by
  rcases n with n|⟨o,n⟩|⟨x,n⟩|⟨p,hp,rfl⟩
  ·exact .inl n
  ·exact .inr (I0.base.there c o n (nx c))
  ·obtain⟨v,o,e,_⟩:=I0.cell x c n
   exact .inr ⟨o,e⟩
  ·exact .inr ⟨_,(I0.pin p hp).1⟩
 refine⟨a,C,σ,H',rfl,⟨I',?_,F.nt,fun n=>?_,fun z=>?_,fun z=>?_,a0,B,fl,fun c o e n f=>F.cov c o e (hneed c n) f⟩,hE C H' q⟩
 ·cases z:X.s₀.heap.get? a with
  | none=>rfl
  | some o =>
   obtain⟨o',e⟩:=I0.base.there a o z (nx a)
   rw[F.new] at e
   cases e
 ·rcases hneed a n with n|⟨o,n⟩
  ·exact n F.nt
  ·rw[F.new] at n
   cases n
 ·obtain⟨_,o,e,_⟩:=I0.stack.mem z
  rw[F.new] at e
  cases e
 ·obtain⟨m,⟨o,_,_,e,_⟩,_⟩:=I0.loc
  rw[z] at F
  have:=F.new
  rw[e] at this
  cases this
end
def Zqi (sp:Sp) (E:L2.St->XK) (t:TA):TE:=fun σ H Q=>t σ H fun vs H1=>sp vs H1 Q (E σ)
def Zmk (CX:CXT) (X:Cx) (E:L2.St->XK):Prop:=∀ (pins:List (Addr × Obj)) (σ:L2.St) (H:Hp) (s:Shared) (e:Value) (s':Shared),Inv X pins σ H s->CX X.stack H s (E σ) e s'->X.xe e s'
def exS (Ex:Addr->L2.St->Hp->Prop):L2.St->XK:=fun σ c _ H'=>∀ C,c=.ref C->Ex C σ H'
theorem Zrc {X:Cx}{pins:List (Addr × Obj)}{Ex:Addr->L2.St->Hp->Prop}(b:Body X):Zmk (CX1 X.prog X.w) (Ze0 X pins Ex) (exS Ex):=fun _ _ _ _ _ _ I h=>Zrb b I (fun C _ q=>q C rfl) h
section
variable {X:Cx}{CX:CXT}{j k:Nat}{f C:Addr}{fd:FuncData}{ps:List Str}{sp:Sp}{E:L2.St->XK}{x m:Str}{p pos apos:Pos}{e o:Expr}{es:List Expr}{ta:TE}{t:TA}{pins:List (Addr × Obj)}{σ:L2.St}{H:Hp}{s:Shared}{Q:VK}{us:List Value}{vs:List V}
theorem runS (F:FnOk X.prog X.w X.K X.mg X.base CX k f fd ps sp) (hr:Room k X.A) (hb:Binds X.K fd ps []) (hx:Zmk CX X E) (I:Inv X pins σ H s) (r:Vals vs us) (h:sp vs H Q (E σ)):wpAny (model X.prog X.w) X.A (call (.ref f) us) (EP X pins σ Q) X.xe s:=by
 have hl:(us++[]).length=ps.length:=by rw[List.append_nil,← r.length];exact F.len _ _ _ _ h
 have hb':=hb s us I.kIn hl
 rw[List.append_nil] at hb'
 refine wpAny_call (codeAny_mono (F.run X.A X.stack s H ⟨us,[]⟩ us vs Q (E σ) hr I.env0 hb' r h) fun res s' hq=>?_)
 cases res with
 | error e=>exact hx pins σ H s e s' I hq
 | ok fl =>
  cases fl with
  | ret u=>exact I.after hq
  | next=>exact hq.elim
  | brk=>exact hq.elim
  | cont=>exact hq.elim
theorem pcS (F:Fu X.prog X.w X.K X.mg X.base CX j x ps sp) (hr:Room k X.A) (hx:Zmk CX X E) (ha:PA X (e::es) t) (hj:j<=k:=by decide) (hg:Gl X x:=by rfl) (hdb:(x == ("__debug__" : Str))=false:=by decide)
  (he:starEach (e::es) X.env=(false,eval e X.env)::starEach es X.env:=by rfl) (hpl:(backTo pos (starEach es X.env)).any (·.1)=false:=by rfl):PE X (.Call (.Name x p) (e::es) [] pos) (Zqi sp E t):=by
 obtain⟨f,fd,G,hm,hk,hb⟩:=F.ex
 intro pins s σ H Q I h
 refine wpAny_Call_Name_kw (Je I hg hm ?_ hdb)
 exact PySem.W.callWith_K (h₀:=X.base) I.ok.mod.kin hk (thn (ha pos pins s σ H _ I h) fun us s1 ⟨vs,H1,I1,r,q⟩=>⟨I1.kIn,runS G (hr.mono hj) hb hx I1 r q⟩) he hpl
end
def Ym (X:Cx) (a:Addr):Cx:={ X with A:=X.A.mark (some (.ref a)),calm:=false,xe:=fun _ _=>False }
section
variable {X:Cx}{pins:List (Addr × Obj)}{σ:L2.St}{H:Hp}{s:Shared}{a C:Addr}
theorem Zcd (I:Inv X pins σ H s):Inv (Ym X a) pins σ H s :=
 ⟨⟨I.ok.mod,I.ok.kind,I.ok.glob,I.ok.blt,I.ok.above,I.ok.inj,I.ok.has,I.ok.cab,fun z=>absurd (show false=true from z) Bool.false_ne_true,I.ok.frames,I.ok.stk,I.ok.exf,I.ok.bs,I.ok.bsz,I.ok.noex,I.ok.exfs,I.ok.funs,I.ok.frf⟩,I.os,I.bare,I.base,I.loc,I.cell,I.free,I.freeC,I.pin,I.hok,I.len⟩
theorem Zbu (hd:X.calm=true->X.A.handled=none) (I:Inv (Ym X a) pins σ H s):Inv X pins σ H s :=
 ⟨⟨I.ok.mod,I.ok.kind,I.ok.glob,I.ok.blt,I.ok.above,I.ok.inj,I.ok.has,I.ok.cab,hd,I.ok.frames,I.ok.stk,I.ok.exf,I.ok.bs,I.ok.bsz,I.ok.noex,I.ok.exfs,I.ok.funs,I.ok.frf⟩,I.os,I.bare,I.base,I.loc,I.cell,I.free,I.freeC,I.pin,I.hok,I.len⟩
def Ztu (a C:Addr):HO:=.ext fun h=>IsOf h a C
theorem Air.held (R:Air X pins σ H s a C):Inv X pins σ (upd H a (Ztu a C)) s:=by
 have I:=R.inv
 have ne:∀ b u,H b=some u->b≠a:=fun b u e z=>by rw[z,R.nt] at e;cases e
 refine⟨I.ok,I.os,I.bare,⟨I.base.keep,I.base.slot,fun b o e n hx=>?_,I.base.there,fun b xs e=>?_,fun b o u e=>?_,fun b ps e=>?_⟩,I.loc,I.cell,?_,fun x c e=>?_,fun p hp=>?_,fun b u e=>?_,I.len⟩
 ·rw[Zb (fun z=>by rw[z,R.new] at e;cases e)]
  exact I.base.free b o e n hx
 ·have q:=I.base.tups b xs e
  rw[Zb (ne b _ q)]
  exact q
 ·have q:=I.base.frzs b o u e
  rw[Zb (ne b _ q)]
  exact q
 ·obtain⟨more,q⟩:=I.base.tbls b ps e
  exact⟨more,by rw[Zb (ne b _ q)];exact q⟩
 ·rw[Zb (Ne.symm R.nloc)]
  exact I.free
 ·rw[Zb (fun z=>R.nneed (.inr (.inr (.inl ⟨x,by rw[← z];exact e⟩))))]
  exact I.freeC x c e
 ·obtain⟨e,n,r⟩:=I.pin p hp
  exact⟨e,by rw[Zb (fun z=>R.nneed (.inr (.inr (.inr ⟨p,hp,z⟩))))];exact n,r⟩
 ·by_cases hb:b=a
  ·subst hb
   rw[Ze] at e
   cases e
   obtain⟨a0,B,fl,_⟩:=R.fly
   obtain⟨ox,hx,hc⟩:=fl.there
   exact⟨⟨ox,hx,hc⟩,⟨ox,hx⟩,fun h1 h2 ⟨ox1,i1,c1⟩ k=>⟨ox1,k _ i1,c1⟩⟩
  ·rw[Zb hb] at e
   refine(I.hok b u e).stay (fun _ _ _ q=>q) (fun c q=>?_) fun c xs q=>?_
   ·rw[Zb (ne c _ q)]
    exact q
   ·rw[Zb (ne c _ q)]
    exact q
end
end L3
namespace L3
open PySem PySem.Spec PyProof.Rows L2 PySem.W
section
variable {prog:Program}{w:World}{A:Around}{E:Value->Shared->Prop}{s:Shared}{K:Frag}{e C Cb:Addr}{b:Bool}
theorem Zcz {Q:Bool->Shared->Prop}(X:K.In s.heap) (I:IsOf s.heap e C) (hty:typeIn K (.ref Cb)=some (.type "type")) (hbe:mroIn K Cb (.type "BaseException")=some true) (hc:mroIn K C (.ref Cb)=some b) (hq:Q b s) :
  wpAny (model prog w) A (excMatches (.ref e) (.ref Cb)) Q E s:=by
 obtain⟨hh,gg,dd,tt,oo⟩:=s
 have L0:=I.type (M:=model prog w)
 have L1:=looks_typeIn (M:=model prog w) X hty
 have L2:=looks_mroIn (M:=model prog w) X hbe
 have L3:=looks_mroIn (M:=model prog w) X hc
 have L4:Looks (model prog w) hh (isType (.ref Cb)) true:=by
  obtain⟨cd,hcd⟩:=Zdz hbe
  unfold clsIn at hcd
  split at hcd
  ·rename_i ho
   intro A' Q' E' s' k q
   unfold isType loadHead
   exact wpAny_bind (wpAny_loadPart (k _ _ (X _ _ ho)) (wpAny_pure q))
  ·cases hcd
 have f:=tc_notTuple
 unfold excMatches isInstance isExcClass
 refine wpAny_bind (wpAny_bind (L1.at ?_))
 rw[f]
 refine wpAny_pure ?_
 rw[if_neg Bool.false_ne_true]
 refine wpAny_bind (wpAny_pure (wpAny_bind ?_))
 rw[List.forIn_cons]
 refine wpAny_bind (wpAny_bind (wpAny_bind (L4.at ?_)))
 rw[if_pos rfl]
 refine L2.at ?_
 refine wpAny_pure ?_
 refine wpAny_pure ?_
 refine wpAny_bind (L0.at ?_)
 refine wpAny_bind ?_
 rw[List.forIn_cons]
 refine wpAny_bind (wpAny_bind (L3.at ?_))
 cases b with
 | true=>exact wpAny_pure (wpAny_pure (wpAny_pure hq))
 | false=>exact wpAny_pure (wpAny_pure (wpAny_pure hq))
end
theorem Zdv {X:Cx}{M:Model}{A:Around}{E:Value->Shared->Prop}{pins:List (Addr × Obj)}{σ:L2.St}{H:Hp}{s:Shared}{i:Nat}{n:Str}{pos:Pos}{Q:Unit->Shared->Prop}(I:Inv X pins σ H s) (hN:X.N.Nodup) (hi:X.N[i]?=some n) (hk:X.env.scope.names.lookup n=some .local)
  (h:∀ s',Inv X pins (σ.set i none) H s'->Q () s'):wpAny M A (do bindName X.env n .none;unbindBehindTheSuite X.env n pos) Q E s:=by
 obtain⟨m,hn,hl⟩:=id I.loc
 have hcls:(X.env.scope.kind == .class||(X.env.scope.kind == .module&&X.env.locals != X.env.globals))=false:=by rw[I.ok.kind];rfl
 have hiσ:i<σ.length:=by rw[I.len];exact(List.getElem?_eq_some_iff.mp hi).1
 refine wpAny_nameGoes_keeps hk hn hcls fun h' v hn' hs=>h _ ?_
 have old:∀ {b:Addr} {o:Obj},X.s₀.heap.get? b=some o->b≠X.env.locals:=fun e=>Nat.ne_of_lt (Nat.lt_of_lt_of_le (Heap.lt_size e) I.ok.above)
 refine⟨I.ok,I.os,I.bare,⟨fun b o e n hb hx=>(hs.2 b (old e)).trans (I.base.keep b o e n hb hx),fun b o e n hb hx=>?_,I.base.free,fun b o e hx=>?_,I.base.tups,I.base.frzs,I.base.tbls⟩,⟨_,hn',fun j y v' e1 e2 e3=>?_⟩,fun y c e=>?_,I.free,I.freeC,fun p hp=>?_,?_,by simpa using I.len⟩
 ·obtain⟨sl,e1⟩:=I.base.slot b o e n hb hx
  exact⟨sl,(hs.2 b (old e)).trans e1⟩
 ·obtain⟨o',e1⟩:=I.base.there b o e hx
  exact⟨o',(hs.2 b (old e)).trans e1⟩
 ·by_cases hj:j=i
  ·subst hj
   rw[List.getElem?_set_self hiσ] at e2
   cases e2
  ·rw[List.getElem?_set_ne (Ne.symm hj)] at e2
   obtain⟨u',r',q⟩:=hl j y v' e1 e2 e3
   refine⟨u',r',?_⟩
   rcases q with ⟨k,e⟩|⟨k,c,e,z⟩
   ·have:y≠n:=fun e=>hj (Zdq hN e1 (e▸hi))
    exact .inl ⟨k,by simp[this,e]⟩
   ·exact .inr ⟨k,c,e,z.sameBut hs (I.cne y c e)⟩
 ·obtain⟨w',z⟩:=I.cell y c e
  exact⟨w',z.sameBut hs (I.cne y c e)⟩
 ·obtain⟨e,n',ne,r⟩:=I.pin p hp
  exact⟨(hs.2 p.1 ne).trans e,n',ne,r⟩
 ·exact HOk.but I.hok fun b o hb e=>(hs.2 b (fun z=>hb (by rw[z];exact I.free))).trans e
def PH (X:Cx) (hs:List ExceptHandler) (th:Addr->TS):Prop:=∀ (pins:List (Addr × Obj)) (σ:L2.St) (H:Hp) (s:Shared) (a C:Addr) (D:Ends),Air X pins σ H s a C->th C D σ H->wpAny (model X.prog X.w) X.A (handleBy (.ref a) X.env hs) (SP X pins D) X.xe s
def Zrw (D:Ends) (i:Nat):Ends:={ nx:=fun σ H=>D.nx (σ.set i none) H,rt:=D.rt,bk:=fun σ H=>D.bk (σ.set i none) H,ct:=fun σ H=>D.ct (σ.set i none) H }
def Zk3 (K:Frag) (Cb:Addr) (th:TS) (rest:Addr->TS):Addr->TS:=fun C D σ H=>∃ b,mroIn K C (.ref Cb)=some b/\if b=true then th D σ H else rest C D σ H
section
variable {X:Cx}{x n:Str}{Cb:Addr}{i:Nat}{np pos:Pos}{b₀:Stmt}{suite:List Stmt}{rest:List ExceptHandler}{th:TS}{thr:Addr->TS}
theorem SP.hand {a:Addr}{pins:List (Addr × Obj)}{D:Ends}{f:Flow}{s:Shared}(hd:X.calm=true->X.A.handled=none) (h:SP (Ym X a) pins D f s):SP X pins D f s:=by
 cases f with
 | next=>obtain⟨σ',H',I,q⟩:=h;exact⟨σ',H',Zbu hd I,q⟩
 | brk=>obtain⟨σ',H',I,q⟩:=h;exact⟨σ',H',Zbu hd I,q⟩
 | cont=>obtain⟨σ',H',I,q⟩:=h;exact⟨σ',H',Zbu hd I,q⟩
 | ret u=>obtain⟨v,σ',H',I,r,q⟩:=h;exact⟨v,σ',H',Zbu hd I,r,q⟩
theorem Zam (b:Body X) (hg:Gl X x) (hm:X.mg x=some (.ref Cb)) (hty:typeIn X.K (.ref Cb)=some (.type "type")) (hbe:mroIn X.K Cb (.type "BaseException")=some true)
  (hs:∀ a,PSs (Ym X a) (b₀::suite) th) (hr:PH X rest thr) (hdb:(x == ("__debug__" : Str))=false:=by decide):PH X (.ExceptHandler (some (.Name x np)) none (b₀::suite) pos::rest) (Zk3 X.K Cb th thr):=by
 intro pins σ H s a C D R h
 obtain⟨bb,hc,h⟩:=h
 obtain⟨a0,B,fl,cov⟩:=R.fly
 refine wpAny_handleBy_cons (codeAny_handlers_test (Je (X:=Ym X a) (Zcd R.inv) hg hm (Zcz R.inv.kIn fl.there hty hbe hc ?_) hdb)) (by intro q;cases q)
 cases bb with
 | false=>exact hr pins σ H s a C D R h
 | true =>
  have h1:=h
  rw[if_pos rfl] at h1
  refine codeAny_handlers_suite (lands_againW fl fun h' fl' up=>?_)
  have R':=Air.on R b cov fl' up
  exact wpAny_mono (hs a pins _ _ _ D (Zcd R'.inv) h1) (fun f s3 q=>SP.hand R.inv.ok.hd q) fun _ _ z=>False.elim z
theorem Zna:PH X [] (fun _ _ _ _=>False):=fun _ _ _ _ _ _ _ _ h=>h.elim
def tTry (tb:(Addr->L2.St->Hp->Prop)->TS) (th:Addr->TS):TS:=fun D σ H=>∃ Ex,tb Ex D σ H/\∀ C σ' H',Ex C σ' H'->th C D σ' H'
theorem Zm9 {body:List Stmt}{h₀:ExceptHandler}{hs:List ExceptHandler}{tb:(Addr->L2.St->Hp->Prop)->TS}{th:Addr->TS}(b:Body X) (hb:∀ pins Ex,PSs (Ze0 X pins Ex) body (tb Ex)) (hh:PH X (h₀::hs) th):PS X (.Try body (h₀::hs) [] [] pos) (tTry tb th):=by
 intro pins s σ H D I h
 obtain⟨Ex,h1,h2⟩:=h
 refine wpAny_Try_except (wpAny_mono (hb pins Ex [] s σ H D (Zmp I) h1) (fun f s1 q=>?_) fun e s1 q=>?_)
 ·cases f with
  | next=>obtain⟨σ',H',J,q⟩:=q;exact wpAny_execs_nil ⟨σ',H',Zbz J,q⟩
  | brk=>obtain⟨σ',H',J,q⟩:=q;exact⟨σ',H',Zbz J,q⟩
  | cont=>obtain⟨σ',H',J,q⟩:=q;exact⟨σ',H',Zbz J,q⟩
  | ret u=>obtain⟨v,σ',H',J,r,q⟩:=q;exact⟨v,σ',H',Zbz J,r,q⟩
 ·obtain⟨a,C,σ',H',rfl,R,q⟩:=q
  obtain⟨a0,B,fl,cov⟩:=R.fly
  have fl0:=fl
  rw[b.st] at fl0
  refine wpAny_looks_onW (by rw[R.inv.ok.frames,b.st]) b.fr fl0 fun h4 hh4 up4=>wpAny_landsW hh4 fun h5 fl5 up5=>?_
  rw[← b.st] at fl5
  have R5:=Air.on R b cov fl5 (up4.trans up5)
  exact hh pins σ' H' { s1 with heap:=h5 } a C D R5 (h2 C σ' H' q)
end
section
variable {X:Cx}
end
end L3
namespace L3
open PySem PySem.Spec PyProof.Rows L2
structure FuM (P:Program) (w:World) (K:PySem.W.Frag) (mg:Str->Option Value) (base:Heap) (CX:CXT) (k:Nat) (C:Addr) (m:Str) (ps:List Str) (sp:Sp):Prop where
 ex:∃ f fd,FnOk P w K mg base CX k f fd ps sp/\Meth K C m f/\Binds K fd ps []
structure MDef (K:PySem.W.Frag) (C:Addr) (m qual:Str) (st:Stmt) (ps:List Str):Prop where
 ex:∃ f fd,Fun K m qual st f fd/\Meth K C m f/\Binds K fd ps []
section
variable {X:Cx}{CX:CXT}{j k:Nat}{C:Addr}{m x:Str}{ps:List Str}{sp:Sp}{E:XK}{p pos apos:Pos}{o e:Expr}{es:List Expr}{ta:TE}{t:TA}
theorem pm {pl:Sem Bool}(F:FuM X.prog X.w X.K X.mg X.base CX j C m ps sp) (c:Cls X.K C) (hr:Room k X.A) (hx:Yq CX X E) (he:PE X o ta) (ha:PA X (e::es) t) (hj:j<=k:=by decide)
  (hst:starEach (e::es) X.env=(false,eval e X.env)::starEach es X.env:=by rfl) (hpl:(backTo pos (starEach es X.env)).any (·.1)=false:=by rfl)
  (ht:eval (.Call (.Attribute o m apos) (e::es) [] pos) X.env=(do
    let ov ← eval o X.env
    standAt apos.atName
    let (g,first) ← holding [ov] (getMethod ov m pl)
    callWith pos g first (backTo pos (starEach (e::es) X.env)) (backToKw pos (keywordEach [] X.env))):=by rfl):PE X (.Call (.Attribute o m apos) (e::es) [] pos) (Zk1 C m sp [] E ta t):=by
 obtain⟨f,fd,G,hm,hb⟩:=F.ex
 exact Zo1 (pl:=pl) he c hm G (hr.mono hj) hb .nil hx ha hst hpl ht
theorem pm0 {pl:Sem Bool}(F:FuM X.prog X.w X.K X.mg X.base CX j C m ps sp) (c:Cls X.K C) (hr:Room k X.A) (hx:Yq CX X E) (he:PE X o ta) (hj:j<=k:=by decide)
  (ht:eval (.Call (.Attribute o m apos) [] [] pos) X.env=(do
    let ov ← eval o X.env
    standAt apos.atName
    let (g,first) ← holding [ov] (getMethod ov m pl)
    callWith pos g first (backTo pos (starEach [] X.env)) (backToKw pos (keywordEach [] X.env))):=by rfl):PE X (.Call (.Attribute o m apos) [] [] pos) (Zk1 C m sp [] E ta tNil):=by
 obtain⟨f,fd,G,hm,hb⟩:=F.ex
 exact Zlh (pl:=pl) he c hm G (hr.mono hj) hb .nil hx ht
structure FuK (P:Program) (w:World) (K:PySem.W.Frag) (mg:Str->Option Value) (base:Heap) (CX:CXT) (k:Nat) (C:Addr) (ps:List Str) (sp:Sp):Prop where
 ex:∃ f fd,FnOk P w K mg base CX k f fd ps sp/\Mk K C f/\Binds K fd ps []
theorem pmk (F:FuK X.prog X.w X.K X.mg X.base CX j C ps sp) (hr:Room (k+1) X.A) (hm:X.mg x=some (.ref C)) (hx:Yq CX X E) (ha:PA X (e::es) t) (hj:j<=k:=by decide) (hg:Gl X x:=by rfl) (hdb:(x == ("__debug__" : Str))=false:=by decide)
  (he:starEach (e::es) X.env=(false,eval e X.env)::starEach es X.env:=by rfl) (hpl:(backTo pos (starEach es X.env)).any (·.1)=false:=by rfl):PE X (.Call (.Name x p) (e::es) [] pos) (Zod C sp [] E t):=by
 obtain⟨f,fd,G,hk,hb⟩:=F.ex
 exact Zi9 hk (G.mono hj) hr hg hm hb .nil hx ha hdb he hpl
end
section
variable {P:Program}{w:World}{K:PySem.W.Frag}{mg:Str->Option Value}{base:Heap}{C:Addr}{x m qual:Str}{st:Stmt}{N ps:List Str}{k:Nat}{sp:Sp}
theorem MDef.fu (D:MDef K C m qual st ps) (S:FnScope N ps (Zg st)) (len:∀ vs H Q E,sp vs H Q E->vs.length=ps.length)
  (hbody:∀ (f:Addr) (cdv:Value) (A:Around) (outer:List Env) (s:Shared) (H:Hp) (vs:List V) (Q:VK) (E:XK),Room k (A.deeper (envOfC qual (Zg st) s.heap.objs.size f cdv))->sp vs H Q E ->
    ∃ t,PSs (cxOf CX0 P w K mg base N qual (Zg st) f cdv A outer s H E).nox (Zw st) t/\t { nx:=fun _ H'=>Q .non H',rt:=Q } (Z3 N vs) H):FuM P w K mg base CX0 (k+1) C m ps sp:=by
 obtain⟨f,fd,F,hm,hb⟩:=D.ex
 exact⟨f,fd,F.ok S len fun cdv A outer s H vs Q E hr h=>hbody f cdv A outer s H vs Q E hr h,hm,hb⟩
theorem Fun.okx {f:Addr}{fd:FuncData}(F:Fun K x qual st f fd) (S:FnScope N ps (Zg st)) (len:∀ vs H Q E,sp vs H Q E->vs.length=ps.length)
  (hbody:∀ (cdv:Value) (A:Around) (outer:List Env) (s:Shared) (H:Hp) (vs:List V) (Q:VK) (E:XK),Room k (A.deeper (envOfC qual (Zg st) s.heap.objs.size f cdv))->sp vs H Q E ->
    ∃ t,PSs (cxOf (CX1 P w) P w K mg base N qual (Zg st) f cdv A outer s H E) (Zw st) t/\t { nx:=fun _ H'=>Q .non H',rt:=Q } (Z3 N vs) H):FnOk P w K mg base (CX1 P w) (k+1) f fd ps sp:=by
 obtain⟨oc,od,kV,doc,pm,an,cdv,ct,osl,rfl,lk,hcd⟩:=F.ex
 exact Zdw lk hcd S len fun A outer s H vs Q E hr hsp=>hbody cdv A outer s H vs Q E hr hsp
theorem MDef.fux (D:MDef K C m qual st ps) (S:FnScope N ps (Zg st)) (len:∀ vs H Q E,sp vs H Q E->vs.length=ps.length)
  (hbody:∀ (f:Addr) (cdv:Value) (A:Around) (outer:List Env) (s:Shared) (H:Hp) (vs:List V) (Q:VK) (E:XK),Room k (A.deeper (envOfC qual (Zg st) s.heap.objs.size f cdv))->sp vs H Q E ->
    ∃ t,PSs (cxOf (CX1 P w) P w K mg base N qual (Zg st) f cdv A outer s H E) (Zw st) t/\t { nx:=fun _ H'=>Q .non H',rt:=Q } (Z3 N vs) H):FuM P w K mg base (CX1 P w) (k+1) C m ps sp:=by
 obtain⟨f,fd,F,hm,hb⟩:=D.ex
 exact⟨f,fd,Fun.okx F S len fun cdv A outer s H vs Q E hr h=>hbody f cdv A outer s H vs Q E hr h,hm,hb⟩
theorem Def.fux (D:Def K mg x st ps) (S:FnScope N ps (Zg st)) (len:∀ vs H Q E,sp vs H Q E->vs.length=ps.length)
  (hbody:∀ (f:Addr) (cdv:Value) (A:Around) (outer:List Env) (s:Shared) (H:Hp) (vs:List V) (Q:VK) (E:XK),Room k (A.deeper (envOfC x (Zg st) s.heap.objs.size f cdv))->sp vs H Q E ->
    ∃ t,PSs (cxOf (CX1 P w) P w K mg base N x (Zg st) f cdv A outer s H E) (Zw st) t/\t { nx:=fun _ H'=>Q .non H',rt:=Q } (Z3 N vs) H):Fu P w K mg base (CX1 P w) (k+1) x ps sp:=by
 obtain⟨f,fd,F,hm,hb⟩:=D.ex
 exact⟨f,fd,Fun.okx F S len fun cdv A outer s H vs Q E hr h=>hbody f cdv A outer s H vs Q E hr h,hm,F.kp,hb⟩
structure KDef (K:PySem.W.Frag) (C:Addr) (qual:Str) (st:Stmt) (ps:List Str):Prop where
 ex:∃ f fd,Fun K "__init__" qual st f fd/\Mk K C f/\Binds K fd ps []
theorem KDef.fux (D:KDef K C qual st ps) (S:FnScope N ps (Zg st)) (len:∀ vs H Q E,sp vs H Q E->vs.length=ps.length)
  (hbody:∀ (f:Addr) (cdv:Value) (A:Around) (outer:List Env) (s:Shared) (H:Hp) (vs:List V) (Q:VK) (E:XK),Room k (A.deeper (envOfC qual (Zg st) s.heap.objs.size f cdv))->sp vs H Q E ->
    ∃ t,PSs (cxOf (CX1 P w) P w K mg base N qual (Zg st) f cdv A outer s H E) (Zw st) t/\t { nx:=fun _ H'=>Q .non H',rt:=Q } (Z3 N vs) H):FuK P w K mg base (CX1 P w) (k+1) C ps sp:=by
 obtain⟨f,fd,F,hm,hb⟩:=D.ex
 exact⟨f,fd,Fun.okx F S len fun cdv A outer s H vs Q E hr h=>hbody f cdv A outer s H vs Q E hr h,hm,hb⟩
end
theorem Zfq {X:Cx}{a:Expr}{ta:TE}(ha:PE X a ta) (he:∀ whole,isTrue a X.env whole=(do let v ← whole;standAt a.pos;holding [v] (truthy v)):=by intro _;rfl):PT X a (fun σ H Q=>ta σ H fun x H'=>∃ k,TruV X.K x H' k/\Q k H'):=Zlg ha he
end L3
namespace L3
open PySem PySem.Spec PyProof.Rows L2
theorem MDef.of {K:PySem.W.Frag}{C:Addr}{m qual:Str}{st:Stmt}{ps:List Str}{f:Addr}{oc:Value}{od an:Option Addr}{osl:Array (Option Value)}{kV doc pm cdv ct:Value}
  (b:∀ (kV doc pm:Value) (an:Option Addr) (cdv ct:Value) (us:List Value),us.length=ps.length->bindArgs (PySem.W.fnOf m qual (Z7 st) (Zw st) (Zg st) .none kV doc pm an cdv ct) ⟨us,[]⟩=pure (ps.zip us))
  (a:PySem.W.findIn K (.ref C) m=some (some (.ref f))) (i:PySem.W.isFn K (.ref f)=true) (l:K.lookup f=some ⟨oc,od,.func (PySem.W.fnOf m qual (Z7 st) (Zw st) (Zg st) .none kV doc pm an cdv ct),osl⟩)
  (c:PySem.W.codeIn K cdv qual=true) (k:PySem.W.keepIn K (.ref f)=true):MDef K C m qual st ps :=
 ⟨f,_,Zbd (st:=st) l c k,⟨a,i,k⟩,(Zbd (st:=st) l c k).binds b⟩
theorem KDef.of {K:PySem.W.Frag}{C:Addr}{qual:Str}{st:Stmt}{ps:List Str}{f:Addr}{oc:Value}{od an:Option Addr}{osl:Array (Option Value)}{kV doc pm cdv ct:Value}
  (b:∀ (kV doc pm:Value) (an:Option Addr) (cdv ct:Value) (us:List Value),us.length=ps.length->bindArgs (PySem.W.fnOf "__init__" qual (Z7 st) (Zw st) (Zg st) .none kV doc pm an cdv ct) ⟨us,[]⟩=pure (ps.zip us))
  (mk:PySem.W.makesIn K C=true) (kc:PySem.W.keepIn K (.ref C)=true)
  (a:PySem.W.findIn K (.ref C) "__init__" = some (some (.ref f))) (i:PySem.W.isFn K (.ref f)=true) (l:K.lookup f=some ⟨oc,od,.func (PySem.W.fnOf "__init__" qual (Z7 st) (Zw st) (Zg st) .none kV doc pm an cdv ct),osl⟩)
  (c:PySem.W.codeIn K cdv qual=true) (k:PySem.W.keepIn K (.ref f)=true):KDef K C qual st ps :=
 ⟨f,_,Zbd (st:=st) l c k,⟨mk,a,i,kc⟩,(Zbd (st:=st) l c k).binds b⟩
end L3
namespace L3
open PySem PySem.Spec PyProof.Rows L2
section
variable {X:Cx}{pins:List (Addr × Obj)}{σ:L2.St}{H:Hp}{s:Shared}{h':Heap}
theorem Zby {t':Nat}{ch:List Addr}(I:Inv X pins σ H s) (k:∀ b o,b∉ch->s.heap.get? b=some o->h'.get? b=some o) (hf:∀ b∈ch,FpOk X pins H b):Inv X pins σ H { s with heap:=h',toks:=t' }:=by
 have nit:∀ b u,H b=some u->b∉ch:=fun b u e z=>by rw[(hf b z).1] at e;cases e
 refine I.step (g':=s.gens) (d':=s.drawn) (ch:=ch) (fun b hb=>?_) (fun b o _ _ hc e _=>k b o hc e) (fun b o _ _ hc e _=>⟨o.slots,k b o hc e⟩) (fun _ _ _ _ n=>n)
  (fun b o hc e=>⟨o,k b o hc e⟩) (fun _ _ e=>e) (fun _ _ _ e=>e) (fun b ps e=>⟨#[],by rw[e];simp⟩) (fun m hm=>?_) (fun b u e=>?_) I.bare
 ·obtain⟨f0,f1,f2,f3,f4,f5⟩:=hf b hb
  exact⟨f3,f1,f4,f5⟩
 ·obtain⟨o,es,ep,ho,r⟩:=hm
  exact⟨o,es,ep,k _ o (fun z=>(hf _ z).2.1 rfl) ho,r⟩
 ·refine(I.hok b u e).stay (fun c v hc q=>k c v ?_ q) (fun _ q=>q) fun _ _ q=>q
  rcases hc with z|z
  ·rw[z];exact nit b u e
  ·exact nit c _ z
theorem Zh1 {t':Nat}{ch:List Addr}{xs:List V}{its:List Value}(I:Inv X pins σ H s) (rv:Vals xs its) (hz:xs.length<=sizeLine) (k:∀ b o,b∉ch->s.heap.get? b=some o->h'.get? b=some o)
  (hT:h'.get? s.heap.objs.size=some { cls:=.type "tuple",data:=.seq its.toArray }) (hf:∀ b∈ch,FpOk X pins H b) (hlt:∀ b∈ch,b<s.heap.objs.size):Inv X pins σ (upd H s.heap.objs.size (.tup xs)) { s with heap:=h',toks:=t' }:=by
 have I1:Inv X pins σ (upd H s.heap.objs.size (.tup xs)) { s with heap:=s.heap.push { cls:=.type "tuple",data:=.seq its.toArray },toks:=s.toks } :=
  I.laid (fun b o e=>Heap.get?_push_of_some _ e) (Nat.le_refl _) (show ObjOk X.prog X.w _ _ _ (.tup xs) from ⟨hz,its,rv,IsTup.new _ _⟩)
 refine Zby (s:={ s with heap:=s.heap.push { cls:=.type "tuple",data:=.seq its.toArray },toks:=s.toks }) (h':=h') (t':=t') I1 (ch:=ch) (fun b o hb e=>?_) fun b hb=>?_
 ·rcases Heap.get?_push_cases e with ⟨e1,e2⟩|e1
  ·rw[e1,e2];exact hT
  ·exact k b o hb e1
 ·obtain⟨f0,f1⟩:=hf b hb
  exact⟨by rw[Zb (Nat.ne_of_lt (hlt b hb))];exact f0,f1⟩
end
def Ite (K:PySem.W.Frag) (a:Addr):It :=
 ⟨fun i H=>∃ xs x,SqL K H a xs/\xs[i]?=some x,fun i H x H'=>∃ T v,H T=none/\x=.ref T/\H'=upd H T (.tup [.int i,v])/\∀ xs,SqL K H a xs->xs[i]?=some v,fun i H=>∃ xs,SqL K H a xs/\xs.length<=i⟩
theorem Zh3 {P:Program}{w:World}{K:PySem.W.Frag}{elts:List Expr}{x1:Nat}{tpos:Pos}(a e it:Addr) (hne:e≠it):Turn P w K (.Tuple elts x1 tpos) (Ite K a) [e,it] e (fun i h=>(∃ old,IsEnum h e it i old)/\h.IsListIter it a i) where
 mem:=by simp
 obj:=fun i h st b hb=>by
  obtain⟨⟨old,he⟩,hit⟩:=st
  simp only [List.mem_cons,List.not_mem_nil,or_false] at hb
  rcases hb with rfl|rfl
  ·exact⟨_,he,fun v z=>by cases z⟩
  ·obtain⟨o,e,c,d⟩:=hit
   exact⟨o,e,fun v z=>by rw[d] at z;cases z⟩
 keep:=fun i h h' st k=>by
  obtain⟨⟨old,he⟩,hit⟩:=st
  exact⟨⟨old,k e (by simp) _ he⟩,hit.at fun o x=>k it (by simp) o x⟩
 item:=by
  intro X hP hw hK hc i pins s σ H E I hf st hg
  subst hP hw hK
  obtain⟨⟨old,he⟩,hit⟩:=st
  obtain⟨xs,x,hq,hx⟩:=hg
  obtain⟨its,rv,p,hz⟩:=I.list hq
  obtain⟨u,hu,ru⟩:=rv.get hx
  have helt:e<s.heap.objs.size:=Heap.lt_size he
  have hilt:it<s.heap.objs.size:=by obtain⟨_,y,_⟩:=hit;exact Heap.lt_size y
  refine wpAny_pyNext_enum_item he hit p.isList (x:=u) (by simpa using hu) hne fun h' ho hit' hT hsz hk=>?_
  have lt:∀ b∈[e,it],b<s.heap.objs.size:=by
   intro b hb
   simp only [List.mem_cons,List.not_mem_nil,or_false] at hb
   rcases hb with rfl|rfl
   ·exact helt
   ·exact hilt
  have I1:Inv X pins σ (upd H s.heap.objs.size (.tup [.int i,x])) { s with heap:=h',toks:=s.toks+1 } :=
   Zh1 (ch:=[e,it]) (its:=[.int i s.toks,u]) I (.cons ⟨_,rfl⟩ (.cons ru .nil)) (by show 2<=sizeLine;decide) (fun b o hb q=>hk b o (fun z=>hb (by simp[z])) (fun z=>hb (by simp[z])) q) hT hf lt
  have hf1:∀ b∈[e,it],FpOk X pins (upd H s.heap.objs.size (.tup [.int i,x])) b:=fun b hb=>by
   obtain⟨f0,f1⟩:=hf b hb
   exact⟨by rw[Zb (Nat.ne_of_lt (lt b hb))];exact f0,f1⟩
  refine⟨_,rfl,wpAny_letOwnedTupleGo_enum (s:={ s with heap:=h',toks:=s.toks+1 }) ho fun h2 he2 sb=>?_⟩
  have I2:Inv X pins σ (upd H s.heap.objs.size (.tup [.int i,x])) { s with heap:=h2,toks:=s.toks+1 }:=Zby (s:={ s with heap:=h',toks:=s.toks+1 }) (t':=s.toks+1) (ch:=[e,it]) I1 (fun b o hb q=>(sb.2 b (fun z=>hb (by simp[z]))).trans q) hf1
  exact⟨.ref s.heap.objs.size,_,I2,rfl,⟨_,x,I.fresh,rfl,rfl,fun ys hy=>by rw[I.list_inj hy hq];exact hx⟩,⟨⟨_,by simpa using he2⟩,hit'.at fun o y=>(sb.2 it (Ne.symm hne)).trans y⟩,fun b hb=>(hf1 b hb).1⟩
 done:=by
  intro X hP hw hK hc i pins s σ H E I hf st hg
  subst hP hw hK
  obtain⟨⟨old,he⟩,hit⟩:=st
  obtain⟨xs,hq,hx⟩:=hg
  obtain⟨its,rv,p,hz⟩:=I.list hq
  have hl:=rv.length
  exact wpAny_pyNext_enum_end (I.ok.hd hc) he hit p.isList (by simp;omega) fun h' eb=>⟨rfl,Zby (t':=s.toks) (ch:=[e,it]) I (fun b o hb q=>eb b o (fun z=>hb (by simp[z])) q) hf⟩
 self:=fun _ _ _ _ _ st h=>by
  obtain⟨⟨old,he⟩,hit⟩:=st
  exact wpAny_pyIter_enum he h
section
variable {X:Cx}{elts:List Expr}{x1:Nat}{tpos:Pos}{l:Expr}{ta:TA}{p pos:Pos}
def Zth (K:PySem.W.Frag) (ta:TA):TI:=fun σ H R=>ta σ H fun vs H1=>∃ a,vs=[.ref a]/\(∃ xs,SqL K H1 a xs)/\R (Ite K a) H1
theorem Zhv:bootBuiltins "enumerate" = some (.type "enumerate"):=by decide+kernel
theorem Zki:bootBuiltins "zip" = some (.type "zip"):=by decide+kernel
theorem Zkj:bootBuiltins "reversed" = some (.type "reversed"):=by decide+kernel
theorem Zkk:bootBuiltins "all" = some (.builtin "all"):=by decide+kernel
theorem Zfn (hm:X.mg "enumerate" = none) (ha:PA X [l] ta) (hg:Gl X "enumerate" := by rfl) (hs:starEach [l] X.env=[(false,eval l X.env)]:=by rfl):PI X (.Tuple elts x1 tpos) (.Call (.Name "enumerate" p) [l] [] pos) (Zth X.K ta):=by
 intro pins s σ H R I h
 refine Call_ (Jr I hg hm Zhv (PyProof.Rows.callWith_type1 (thn (ha pos pins s σ H _ I h) fun us s1 ⟨vs,H1,I1,r1,q1⟩=>?_) hs rfl))
 obtain⟨a,e,⟨xs,hq⟩,q⟩:=q1
 subst e
 obtain⟨u,rfl,ru⟩:=Zff r1
 cases ru
 obtain⟨its,rv,pl,hz⟩:=I1.list hq
 refine call_enumerate_list pl.isList fun h' he hit hsz hk=>?_
 have I2:Inv X pins σ H1 { s1 with heap:=h' }:=I1.kept (t':=s1.toks) hk
 refine wpAny_pyIter_enum (s:={ s1 with heap:=h' }) he ⟨_,[s1.heap.objs.size+1,s1.heap.objs.size],_,_,H1,rfl,I2,Zh3 a (s1.heap.objs.size+1) s1.heap.objs.size (Nat.succ_ne_self _),⟨⟨_,he⟩,hit⟩,fun b hb=>?_,q⟩
 simp only [List.mem_cons,List.not_mem_nil,or_false] at hb
 rcases hb with rfl|rfl
 ·exact I1.fpOk (by omega) (I1.hok.fresh (by omega))
 ·exact I1.fpOk (Nat.le_refl _) (I1.hok.fresh (Nat.le_refl _))
end
def Itz (K:PySem.W.Frag) (a b:Addr):It :=
 ⟨fun i H=>∃ xs x ys y,SqL K H a xs/\xs[i]?=some x/\SqL K H b ys/\ys[i]?=some y,fun i H x H'=>∃ T v u,H T=none/\x=.ref T/\H'=upd H T (.tup [v,u])/\(∀ xs,SqL K H a xs->xs[i]?=some v)/\∀ ys,SqL K H b ys->ys[i]?=some u,
  fun i H=>∃ xs ys,SqL K H a xs/\SqL K H b ys/\(xs.length<=i\/ys.length<=i)⟩
def ZSt (z TI TO i1 i2 a b:Addr) (i:Nat) (h:Heap):Prop:=IsZip h z TI TO .none/\IsPair h TI (.ref i1) (.ref i2)/\(∃ u v,IsPair h TO u v)/\h.IsListIter i1 a i/\h.IsListIter i2 b i
theorem Zkz {P:Program}{w:World}{K:PySem.W.Frag}{elts:List Expr}{x1:Nat}{tpos:Pos}{z TI TO i1 i2 a b:Addr}(D:ZipApart z TI TO i1 i2 a b):Turn P w K (.Tuple elts x1 tpos) (Itz K a b) [z,TI,TO,i1,i2] z (ZSt z TI TO i1 i2 a b) where
 mem:=by simp
 obj:=fun i h st c hc=>by
  obtain⟨hz,h1,⟨u,v,h2⟩,h3,h4⟩:=st
  simp only [List.mem_cons,List.not_mem_nil,or_false] at hc
  rcases hc with rfl|rfl|rfl|rfl|rfl
  ·exact⟨_,hz,fun v z=>by cases z⟩
  ·exact⟨_,h1,fun v z=>by cases z⟩
  ·exact⟨_,h2,fun v z=>by cases z⟩
  ·obtain⟨o,e,c,d⟩:=h3
   exact⟨o,e,fun v z=>by rw[d] at z;cases z⟩
  ·obtain⟨o,e,c,d⟩:=h4
   exact⟨o,e,fun v z=>by rw[d] at z;cases z⟩
 keep:=fun i h h' st k=>by
  obtain⟨hz,h1,⟨u,v,h2⟩,h3,h4⟩:=st
  exact⟨k z (by simp) _ hz,k TI (by simp) _ h1,⟨u,v,k TO (by simp) _ h2⟩,h3.at fun o x=>k i1 (by simp) o x,h4.at fun o x=>k i2 (by simp) o x⟩
 item:=by
  intro X hP hw hK hc i pins s σ H E I hf st hg
  subst hP hw hK
  obtain⟨hz,h1,⟨u0,v0,h2⟩,h3,h4⟩:=st
  obtain⟨xs,x,ys,y,hq,hx,hq2,hy⟩:=hg
  obtain⟨its,rv,p,hzl⟩:=I.list hq
  obtain⟨its2,rv2,p2,hzl2⟩:=I.list hq2
  obtain⟨u,hu,ru⟩:=rv.get hx
  obtain⟨v,hv,rv'⟩:=rv2.get hy
  have lt:∀ b∈[z,TI,TO,i1,i2],b<s.heap.objs.size:=by
   intro b hb
   simp only [List.mem_cons,List.not_mem_nil,or_false] at hb
   rcases hb with rfl|rfl|rfl|rfl|rfl
   ·exact Heap.lt_size hz
   ·exact Heap.lt_size h1
   ·exact Heap.lt_size h2
   ·obtain⟨_,y,_⟩:=h3;exact Heap.lt_size y
   ·obtain⟨_,y,_⟩:=h4;exact Heap.lt_size y
  refine wpAny_pyNext_zip_item D hz h1 h2 h3 h4 p.isList p2.isList (x:=u) (y:=v) (by simpa using hu) (by simpa using hv) fun h' hz' hTO' h3' h4' hT hsz hk=>?_
  have I1:Inv X pins σ (upd H s.heap.objs.size (.tup [x,y])) { s with heap:=h',toks:=s.toks } :=
   Zh1 (ch:=[z,TI,TO,i1,i2]) (its:=[u,v]) I (.cons ru (.cons rv' .nil)) (by show 2<=sizeLine;decide) (fun b o hb q=>hk b o (fun z=>hb (by simp[z])) (fun z=>hb (by simp[z])) (fun z=>hb (by simp[z])) (fun z=>hb (by simp[z])) q) hT hf lt
  have hf1:∀ b∈[z,TI,TO,i1,i2],FpOk X pins (upd H s.heap.objs.size (.tup [x,y])) b:=fun b hb=>by
   obtain⟨f0,f1⟩:=hf b hb
   exact⟨by rw[Zb (Nat.ne_of_lt (lt b hb))];exact f0,f1⟩
  refine⟨_,rfl,wpAny_letOwnedTupleGo_zip (s:={ s with heap:=h',toks:=s.toks }) hz' fun h2' hz2 sb=>?_⟩
  have I2:Inv X pins σ (upd H s.heap.objs.size (.tup [x,y])) { s with heap:=h2',toks:=s.toks }:=Zby (s:={ s with heap:=h',toks:=s.toks }) (t':=s.toks) (ch:=[z,TI,TO,i1,i2]) I1 (fun b o hb q=>(sb.2 b (fun z=>hb (by simp[z]))).trans q) hf1
  refine⟨.ref s.heap.objs.size,_,I2,rfl,⟨_,x,y,I.fresh,rfl,rfl,fun ys hy=>by rw[I.list_inj hy hq];exact hx,fun ys' hy'=>by rw[I.list_inj hy' hq2];exact hy⟩,⟨hz2,(sb.2 TI D.TIz).trans (hk TI _ D.TIz D.TITO D.TIi1 D.TIi2 h1),⟨u,v,(sb.2 TO D.TOz).trans hTO'⟩,h3'.at fun o y=>(sb.2 i1 D.i1z).trans y,h4'.at fun o y=>(sb.2 i2 D.i2z).trans y⟩,fun b hb=>(hf1 b hb).1⟩
 done:=by
  intro X hP hw hK hc i pins s σ H E I hf st hg
  subst hP hw hK
  obtain⟨hz,h1,⟨u0,v0,h2⟩,h3,h4⟩:=st
  obtain⟨xs,ys,hq,hq2,hend⟩:=hg
  obtain⟨its,rv,p,_⟩:=I.list hq
  obtain⟨its2,rv2,p2,_⟩:=I.list hq2
  have hl:=rv.length
  have hl2:=rv2.length
  exact wpAny_pyNext_zip_end (I.ok.hd hc) D hz h1 h2 h3 h4 p.isList p2.isList (by rcases hend with q|q;exact .inl (by simp;omega);exact .inr (by simp;omega)) fun h' eb=>⟨rfl,Zby (t':=s.toks) (ch:=[z,TI,TO,i1,i2]) I (fun b o hb q=>eb b o (fun z=>hb (by simp[z])) (fun z=>hb (by simp[z])) (fun z=>hb (by simp[z])) (fun z=>hb (by simp[z])) q) hf⟩
 self:=fun _ _ _ _ _ st h=>wpAny_pyIter_zip st.1 h
section
variable {X:Cx}{elts:List Expr}{x1:Nat}{tpos:Pos}{l m:Expr}{ta:TA}{p pos:Pos}
def iZip (K:PySem.W.Frag) (ta:TA):TI:=fun σ H R=>ta σ H fun vs H1=>∃ a b,vs=[.ref a,.ref b]/\(∃ xs,SqL K H1 a xs)/\(∃ ys,SqL K H1 b ys)/\R (Itz K a b) H1
theorem Zq3 (hm:X.mg "zip" = none) (ha:PA X [l,m] ta) (hg:Gl X "zip" := by rfl) (hs:starEach [l,m] X.env=[(false,eval l X.env),(false,eval m X.env)]:=by rfl) (hs2:starEach [m] X.env=[(false,eval m X.env)]:=by rfl):PI X (.Tuple elts x1 tpos) (.Call (.Name "zip" p) [l,m] [] pos) (iZip X.K ta):=by
 intro pins s σ H R I h
 refine Call_ (Jr I hg hm Zki (PyProof.Rows.callWith_type1 (thn (ha pos pins s σ H _ I h) fun us s1 ⟨vs,H1,I1,r1,q1⟩=>?_) (by rw[hs,hs2]) (by rw[hs2];rfl)))
 obtain⟨a,b,e,⟨xs,hq⟩,⟨ys,hq2⟩,q⟩:=q1
 subst e
 obtain⟨u,v,rfl,ru,rv'⟩:=Zn2 r1
 cases ru
 cases rv'
 obtain⟨its,rv,pl,hz⟩:=I1.list hq
 obtain⟨its2,rv2,pl2,hz2⟩:=I1.list hq2
 have la:a<s1.heap.objs.size:=by obtain⟨o,e,_⟩:=pl.isList;exact Heap.lt_size e
 have lb:b<s1.heap.objs.size:=by obtain⟨o,e,_⟩:=pl2.isList;exact Heap.lt_size e
 refine call_zip_2 pl.isList pl2.isList fun h' hzz hTI hTO h1 h2 hsz hk=>?_
 have I2:Inv X pins σ H1 { s1 with heap:=h' }:=I1.kept (t':=s1.toks) hk
 refine wpAny_pyIter_zip (s:={ s1 with heap:=h' }) hzz ⟨_,[s1.heap.objs.size+4,s1.heap.objs.size+2,s1.heap.objs.size+3,s1.heap.objs.size,s1.heap.objs.size+1],_,_,H1,rfl,I2,Zkz (a:=a) (b:=b) (zipApart_new la lb),⟨hzz,hTI,⟨_,_,hTO⟩,h1,h2⟩,fun c hc=>?_,q⟩
 simp only [List.mem_cons,List.not_mem_nil,or_false] at hc
 rcases hc with rfl|rfl|rfl|rfl|rfl
 ·exact I1.fpOk (by omega) (I1.hok.fresh (by omega))
 ·exact I1.fpOk (by omega) (I1.hok.fresh (by omega))
 ·exact I1.fpOk (by omega) (I1.hok.fresh (by omega))
 ·exact I1.fpOk (Nat.le_refl _) (I1.hok.fresh (Nat.le_refl _))
 ·exact I1.fpOk (by omega) (I1.hok.fresh (by omega))
end
def Itv (K:PySem.W.Frag) (a:Addr) (n:Nat):It :=
 ⟨fun i H=>∃ xs x,SqL K H a xs/\xs.length=n/\i<n/\xs[n - 1 - i]?=some x,fun i H x H'=>H'=H/\∀ xs,SqL K H a xs->xs[n - 1 - i]?=some x,fun i H=>n<=i⟩
theorem Zk0 {P:Program}{w:World}{K:PySem.W.Frag}{tg:Expr}(a it:Addr) (n:Nat):Turn P w K tg (Itv K a n) [it] it (fun i h=>i<=n/\h.IsRevIter it a ((n:Int) - 1 - (i:Int))) where
 mem:=by simp
 obj:=fun i h st b hb=>by
  have e:b=it:=by simpa using hb
  subst e
  obtain⟨_,o,e,c,d⟩:=st
  exact⟨o,e,fun v z=>by rw[d] at z;cases z⟩
 keep:=fun i h h' st k=>⟨st.1,st.2.at fun o e=>k it (by simp) o e⟩
 item:=by
  intro X hP hw hK hc i pins s σ H E I hf st hg
  subst hP hw hK
  obtain⟨xs,x,hq,hn,hi,hx⟩:=hg
  obtain⟨its,rv,p,hz⟩:=I.list hq
  obtain⟨u,hu,ru⟩:=rv.get hx
  obtain⟨f0,f1,f2,f3,f4,f5⟩:=hf it (by simp)
  have st2:=st.2
  rw[show (n:Int) - 1 - (i:Int)=((n - 1 - i:Nat):Int) by omega] at st2
  refine wpAny_pyNext_rev_item st2 p.isList (x:=u) (by simpa using hu) fun h' st' sb=>?_
  have I1:Inv X pins σ H { s with heap:=h' }:=I.turned (t':=s.toks) (fun b o hb e=>(sb.2 b hb).trans e) f0 f1 f3 f4 f5
  rw[show ((n - 1 - i:Nat):Int) - 1=(n:Int) - 1 - ((i+1:Nat):Int) by omega] at st'
  obtain⟨o,e,c,d⟩:=id st'
  exact⟨u,rfl,Zpf (s:={ s with heap:=h' }) e c d (by decide) ⟨x,H,I1,ru,⟨rfl,fun ys hy=>by rw[I.list_inj hy hq];exact hx⟩,⟨by omega,st'⟩,fun b hb=>(hf b hb).1⟩⟩
 done:=by
  intro X hP hw hK hc i pins s σ H E I hf st hg
  subst hP hw hK
  obtain⟨f0,f1,f2,f3,f4,f5⟩:=hf it (by simp)
  have hg':n<=i:=hg
  have st2:=st.2
  have hi:=st.1
  rw[show (n:Int) - 1 - (i:Int) = -1 by omega] at st2
  exact wpAny_pyNext_rev_end (I.ok.hd hc) st2 fun h' eb=>⟨rfl,I.turned (t':=s.toks) (fun b o hb e=>eb b o hb e) f0 f1 f3 f4 f5⟩
 self:=fun _ _ _ _ _ st h=>wpAny_pyIter_revIter st.2 h
section
variable {X:Cx}{tg l:Expr}{ta:TA}{p pos:Pos}
def iRev (K:PySem.W.Frag) (ta:TA):TI:=fun σ H R=>ta σ H fun vs H1=>∃ a xs,vs=[.ref a]/\SqL K H1 a xs/\R (Itv K a xs.length) H1
theorem Zq4 (hm:X.mg "reversed" = none) (ha:PA X [l] ta) (hg:Gl X "reversed" := by rfl) (hs:starEach [l] X.env=[(false,eval l X.env)]:=by rfl):PI X tg (.Call (.Name "reversed" p) [l] [] pos) (iRev X.K ta):=by
 intro pins s σ H R I h
 refine Call_ (Jr I hg hm Zkj (PyProof.Rows.callWith_type1 (thn (ha pos pins s σ H _ I h) fun us s1 ⟨vs,H1,I1,r1,q1⟩=>?_) hs rfl))
 obtain⟨a,xs,e,hq,q⟩:=q1
 subst e
 obtain⟨u,rfl,ru⟩:=Zff r1
 cases ru
 obtain⟨its,rv,pl,hz⟩:=I1.list hq
 have hl:=rv.length
 refine call_reversed_list pl.isList ?_
 have hit:(s1.heap.push (revObj a ((its.toArray.size:Int) - 1))).IsRevIter s1.heap.objs.size a ((xs.length:Int) - 1 - ((0:Nat):Int)):=⟨_,Heap.get?_push_size _ rfl,rfl,by rw[hl];simp[revObj]⟩
 refine wpAny_pyIter_revIter (s:={ s1 with heap:=s1.heap.push (revObj a ((its.toArray.size:Int) - 1)) }) hit ⟨_,[s1.heap.objs.size],_,_,H1,rfl,I1.kept (t':=s1.toks) fun b o e=>Heap.get?_push_of_some _ e,Zk0 a _ xs.length,⟨Nat.zero_le _,hit⟩,fun b hb=>?_,q⟩
 have e:b=s1.heap.objs.size:=by simpa using hb
 subst e
 exact I1.fpOk (Nat.le_refl _) (I1.hok.fresh (Nat.le_refl _))
theorem Zp5 {bs:List Bool}:(List.range bs.length).all (fun i=>bs.getD i false)=bs.all id:=by
 rw[Bool.eq_iff_iff,List.all_eq_true,List.all_eq_true]
 constructor
 ·intro h x hx
  obtain⟨i,hi,e⟩:=List.getElem_of_mem hx
  have:=h i (by simpa using hi)
  simp[List.getD,hi,e] at this
  simpa using this
 ·intro h i hi
  have hi':i<bs.length:=by simpa using hi
  simp[List.getD,hi']
  exact h _ (List.getElem_mem hi')
theorem Zmi:CallR X (.builtin "all") (fun xs H Q=>∃ (p:Addr) (bs:List Bool),xs=[.ref p]/\SqL X.K H p (bs.map V.bl)/\X.calm=true/\Q (.bl (bs.all id)) H):=by
 intro pins s σ H xs us Q I r h
 obtain⟨p,bs,rfl,hq,hc,q⟩:=h
 obtain⟨u,rfl,ru⟩:=Zff r
 cases ru
 obtain⟨its,rv,pl,hz⟩:=I.list hq
 have hl:=rv.length
 rw[List.length_map] at hl
 have hlt:p<s.heap.objs.size:=by obtain⟨o,e,_⟩:=pl.isList;exact Heap.lt_size e
 refine call_all_walk (wpAny_pyIter_list pl.isList ?_)
 refine⟨s.heap.objs.size,_,_,its.toArray.size,_,_,fun i=>bs.getD i false,rfl,Walks.list (show X.A.in1.handled=none from I.ok.hd hc) s.heap.objs.size p (Nat.ne_of_lt hlt) its.toArray,?_,?_,?_⟩
 ·exact⟨⟨_,Heap.get?_push_size _ rfl,rfl,rfl⟩,by obtain⟨o,e,r⟩:=pl.isList;exact⟨o,Heap.get?_push_of_some _ e,r⟩⟩
 ·intro i v s' Q' E' hP hQ
  have hP':its[i]?=some v:=by simpa using hP
  have hi:i<bs.length:=by have:=(List.getElem?_eq_some_iff.mp hP').1;omega
  have hb:(bs.map V.bl)[i]?=some (.bl bs[i]):=by simp[hi]
  obtain⟨v',hv',rb⟩:=rv.get hb
  rw[hP'] at hv'
  cases hv'
  cases rb
  refine wpAny_truthy_bool ?_
  simpa [List.getD,hi] using hQ
 ·intro h' tk hk
  refine⟨.bl (bs.all id),H,I.kept (t':=tk) fun b o e=>hk b o ?_ (Heap.get?_push_of_some _ e),?_,q⟩
  ·intro hb
   have e2:b=s.heap.objs.size:=by simpa using hb
   exact absurd (Heap.lt_size e) (by rw[e2];exact Nat.lt_irrefl _)
  ·show Value.bool _=Value.bool _
   rw[show its.toArray.size=bs.length by simp;omega,Zp5]
theorem Zo7 {K:PySem.W.Frag}(hm:X.mg "all" = none) (hc:X.calm=true) (ha:PA X [l] ta) (hg:Gl X "all" := by rfl) (hst:starEach [l] X.env=(false,eval l X.env)::starEach [] X.env:=by rfl) (hK:X.K=K:=by rfl) :
  PE X (.Call (.Name "all" p) [l] [] pos) (tCB (fun xs H Q=>∃ (p:Addr) (bs:List Bool),xs=[.ref p]/\SqL K H p (bs.map V.bl)/\Q (.bl (bs.all id)) H) ta):=by
 subst hK
 refine Za8 (r:=fun xs H Q=>∃ (p:Addr) (bs:List Bool),xs=[.ref p]/\SqL X.K H p (bs.map V.bl)/\Q (.bl (bs.all id)) H) (fun pins s σ H xs us Q I r h=>?_) hg hm Zkk ha (he:=hst)
 obtain⟨p,bs,e,hq,q⟩:=h
 exact Zmi pins s σ H xs us Q I r ⟨p,bs,e,hq,hc,q⟩
end
end L3
namespace L3
open PySem PySem.Spec PyProof.Rows L2
theorem Zls {c:Prop} [Decidable c] {T:Prop}{N:L2.St->Hp->Prop}{σ:L2.St}{H:Hp}(M:L2.St->Hp->Prop) (h1:c->(∀ σ H,M σ H->N σ H)->T) (h2:¬ c->M σ H) (hN:∀ σ H,M σ H->N σ H):if c then T else N σ H:=by
 by_cases hc:c
 ·rw[if_pos hc];exact h1 hc hN
 ·rw[if_neg hc];exact hN _ _ (h2 hc)
theorem Zpe {c:Prop} [Decidable c] {T U:Prop}(M N:L2.Hp->Prop) (h1:c->(∀ H,M H->N H)->T) (h2:¬ c->(∀ H,M H->N H)->U) (hN:∀ H,M H->N H):if c then T else U:=by
 by_cases hc:c
 ·rw[if_pos hc];exact h1 hc hN
 ·rw[if_neg hc];exact h2 hc hN
theorem Zi7 {X:Cx}{a:Expr}{ta:TE}{pos:Pos}(ha:PE X a ta):PE X (.UnaryOp .Not a pos) (fun σ H Q=>ta σ H fun x H1=>∃ k,TruV X.K x H1 k/\Q (.bl (!k)) H1):=by
 intro pins s σ H Q I h
 refine UnaryOp_ (thn (ha pins s σ H _ I h) fun v s1 ⟨x,H1,I1,r1,q1⟩=>?_)
 exact not_of (thn (Zmq pins s1 σ H1 x v (fun k H2=>Q (.bl (!k)) H2) I1 r1 q1) fun k s2 ⟨H2,I2,q2⟩=>⟨.bl (!k),H2,I2,rfl,q2⟩)
theorem Zaq {K:PySem.W.Frag}{H:Hp}{p:Addr}{ns:List Int}(h:H p=some (.lst (ns.map V.int))):TruV K (.ref p) H (!ns.isEmpty):=.inl ⟨_,SqL.of h,by cases ns<;>rfl⟩
theorem Zmb (ns:List Int) (n:Nat):cutV (ns.map V.int) none (some (n:Int))=(ns.take n).map V.int:=by
 unfold cutV
 rw[HT.sIx_none,HT.sIx_nat,List.length_map,Nat.sub_zero,List.drop_zero,← List.map_take]
 congr 1
 by_cases h:n<=ns.length
 ·rw[Nat.min_eq_left h]
 ·rw[Nat.min_eq_right (by omega),List.take_of_length_le (Nat.le_refl _),List.take_of_length_le (by omega)]
theorem Zmc (ns:List Int) (n:Nat):cutV (ns.map V.int) (some (n:Int)) none=(ns.drop n).map V.int:=by
 unfold cutV
 rw[HT.sIx_none,HT.sIx_nat,List.length_map,← List.map_drop,← List.map_take]
 congr 1
 by_cases h:n<=ns.length
 ·rw[Nat.min_eq_left h,List.take_of_length_le (by rw[List.length_drop];omega)]
 ·rw[Nat.min_eq_right (by omega),List.drop_of_length_le (Nat.le_refl _),List.drop_of_length_le (by omega)]
  simp
theorem Zkb (ns:List Int) {n:Int}(h:0<=n):cutV (ns.map V.int) none (some n)=(ns.take n.toNat).map V.int:=by
 have:=Zmb ns n.toNat
 rwa [Int.toNat_of_nonneg h] at this
theorem Ze1 (ns:List Int) {n:Int}(h:0<=n):cutV (ns.map V.int) (some n) none=(ns.drop n.toNat).map V.int:=by
 have:=Zmc ns n.toNat
 rwa [Int.toNat_of_nonneg h] at this
def KeepBut (S:List Addr) (H H':Hp):Prop:=∀ x o,H x=some o->x∉S->H' x=some o
theorem KeepBut.refl (S:List Addr) (H:Hp):KeepBut S H H:=fun _ _ e _=>e
theorem KeepBut.trans {S:List Addr}{H H1 H2:Hp}(a:KeepBut S H H1) (b:KeepBut S H1 H2):KeepBut S H H2:=fun x o e n=>b x o (a x o e n) n
theorem KeepBut.upd {S:List Addr}{H H1:Hp}{x:Addr}{o:HO}(a:KeepBut S H H1) (h:x∈S\/H x=none):KeepBut S H (upd H1 x o):=fun y u e n=>by
 rw[Zb]
 ·exact a y u e n
 ·intro z
  subst z
  rcases h with h|h
  ·exact n h
  ·rw[h] at e;cases e
theorem KeepBut.more {S T:List Addr}{H H1:Hp}(a:KeepBut S H H1) (h:∀ x∈S,x∈T):KeepBut T H H1:=fun y u e n=>a y u e fun z=>n (h y z)
theorem KeepBut.kp {P:Addr}{S:List Addr}{H H1:Hp}(a:Kp P H H1) (h:P∈S):KeepBut S H H1:=fun y u e n=>a y u e fun z=>n (z▸h)
theorem Zrd {X:Cx}{P:Program}{w:World}:Yq (CX1 P w) X E0:=fun _ _ _ _ _ _ _ ⟨_,_,_,_,_,_,q⟩=>q.elim
section
variable {K:PySem.W.Frag}
theorem Sh.same {H H':Hp}(sm:Same H H') {x:V}{d:PyData}(h:Sh K H x d):Sh K H' x d:=by
 refine Sh.rec (motive_1:=fun x d _=>Sh K H' x d) (motive_2:=fun xs ds _=>ShL K H' xs ds) ?_ ?_ ?_ ?_ ?_ ?_ ?_ ?_ h
 ·exact .non
 ·exact fun b=>.bl b
 ·exact fun i=>.int i
 ·exact fun x=>.str x
 ·exact fun hq _ ih=>.lst (sm.seq hq) ih
 ·intro a xs ds hq _ ih
  refine .tup ?_ ih
  rcases hq with (hq|⟨o,hq⟩)|hq
  ·exact .inl (.inl (sm _ _ hq))
  ·exact .inl (.inr ⟨o,sm _ _ hq⟩)
  ·exact .inr hq
 ·exact .nil
 ·exact fun _ _ i1 i2=>.cons i1 i2
theorem ShL.same {H H':Hp}(sm:Same H H'):∀ {xs:List V}{ds:List PyData},ShL K H xs ds->ShL K H' xs ds
 | _,_,.nil=>.nil
 | _,_,.cons h r=>.cons (Sh.same sm h) (ShL.same sm r)
theorem ShL.snoc {H:Hp}:∀ {xs:List V}{ds:List PyData}{x:V}{d:PyData},ShL K H xs ds->Sh K H x d->ShL K H (xs++[x]) (ds++[d])
 | _,_,_,_,.nil,h=>.cons h .nil
 | _,_,_,_,.cons a r,h=>.cons a (ShL.snoc r h)
theorem Zhz (l:List (Str × NameKind)) (fvs:List Str) (h:(l.all fun y=>(y.2 != .free&&y.2 != .cell)||fvs.contains y.1)=true):∀ x,(l.lookup x=some .cell\/l.lookup x=some .free)->x∈fvs:=fun x e=>by
 rcases e with e|e
 ·have:=List.all_eq_true.mp h _ (PySem.mem_of_lookup e)
  simpa using this
 ·have:=List.all_eq_true.mp h _ (PySem.mem_of_lookup e)
  simpa using this
end
theorem Zm {b:Bool}{A B:Prop}(e:b=false) (h:B):if b=true then A else B:=by subst e;exact iteF h
theorem Z2 {b:Bool}{A B:Prop}(e:b=true) (h:A):if b=true then A else B:=by subst e;exact iteT h
theorem Zdl {X:Cx}{es:List Expr}{k:Nat}{t:TGs}{n:Nat}{K:PySem.W.Frag}{pos:Pos}(hc:X.calm=true) (h:PGs X es t) (hn:(assignEach es X.env).length=n:=by rfl) (hst:(assignEach es X.env).findIdx? (·.1)=none:=by rfl) (hK:X.K=K:=by rfl):PG X (.Tuple es k pos) (gTup K n t):=by
 subst hK
 exact Zi5 hc h hn hst
theorem Zra {X:Cx}{a b:Expr}{ta tb:TE}{K:PySem.W.Frag}{pos:Pos}(ha:PE X a ta) (hb:PE X b tb) (hs:Zku b) (hK:X.K=K:=by rfl):PE X (.Subscript a b pos) (tOp (rIxL K) ta tb):=by
 subst hK
 exact Zr Z9 ha hb hs
theorem Zs9 {X:Cx}{a b:Expr}{ta tb:TE}{K:PySem.W.Frag}{pos:Pos}(ha:PE X a ta) (hb:PE X b tb) (hm:behindInMarks .In b=false) (hK:X.K=K:=by rfl):PE X (.Compare a [.In] [b] pos) (tOp (rIn K false) ta tb):=by
 subst hK
 exact Y1 Zef ha hb hm
structure KDefD (K:PySem.W.Frag) (C:Addr) (qual:Str) (st:Stmt) (ps:List Str) (ds:List Value):Prop where
 ex:∃ (f:Addr) (oc:Value) (od:Option Addr) (dV kV doc pm:Value) (an:Option Addr) (cdv ct:Value) (osl:Array (Option Value)),K.lookup f=some ⟨oc,od,.func (PySem.W.fnOf "__init__" qual (Z7 st) (Zw st) (Zg st) dV kV doc pm an cdv ct),osl⟩/\PySem.W.codeIn K cdv qual=true/\Mk K C f /\
  Binds K (PySem.W.fnOf "__init__" qual (Z7 st) (Zw st) (Zg st) dV kV doc pm an cdv ct) ps ds
structure FuKD (P:Program) (w:World) (K:PySem.W.Frag) (mg:Str->Option Value) (base:Heap) (CX:CXT) (k:Nat) (C:Addr) (ps:List Str) (ds:List Value) (sp:Sp):Prop where
 ex:∃ f fd,FnOk P w K mg base CX k f fd ps sp/\Mk K C f/\Binds K fd ps ds
theorem KDefD.fu {P:Program}{w:World}{K:PySem.W.Frag}{mg:Str->Option Value}{base:Heap}{C:Addr}{qual:Str}{st:Stmt}{N ps:List Str}{ds:List Value}{k:Nat}{sp:Sp}(D:KDefD K C qual st ps ds) (S:FnScope N ps (Zg st)) (len:∀ vs H Q E,sp vs H Q E->vs.length=ps.length)
  (hbody:∀ (f:Addr) (cdv:Value) (A:Around) (outer:List Env) (s:Shared) (H:Hp) (vs:List V) (Q:VK) (E:XK),Room k (A.deeper (envOfC qual (Zg st) s.heap.objs.size f cdv))->sp vs H Q E ->
    ∃ t,PSs (cxOf CX0 P w K mg base N qual (Zg st) f cdv A outer s H E).nox (Zw st) t/\t { nx:=fun _ H'=>Q .non H',rt:=Q } (Z3 N vs) H):FuKD P w K mg base CX0 (k+1) C ps ds sp:=by
 obtain⟨f,oc,od,dV,kV,doc,pm,an,cdv,ct,osl,lk,hcd,hm,hb⟩:=D.ex
 refine⟨f,_,Zdw lk hcd S len fun A outer s H vs Q E hr hsp=>?_,hm,hb⟩
 obtain⟨t,h,q⟩:=hbody f cdv A outer s H vs Q E hr hsp
 exact⟨t,h.nox,q⟩
theorem KDefD.of {K:PySem.W.Frag}{C:Addr}{qual:Str}{st:Stmt}{ps:List Str}{ds:List Value}{f td:Addr}{oc tc:Value}{od an tod:Option Addr}{osl tsl:Array (Option Value)}{kV doc pm cdv ct:Value}{items:Array Value}{tn:Nat}
  (b:∀ (kV doc pm:Value) (an:Option Addr) (cdv ct:Value) (s:Shared) (us:List Value) (o:Obj),s.heap.get? td=some o->o.data=.seq items tn->us.length+ds.length=ps.length->BindsTo s (PySem.W.fnOf "__init__" qual (Z7 st) (Zw st) (Zg st) (.ref td) kV doc pm an cdv ct) ⟨us,[]⟩ (ps.zip (us++ds)))
  (mk:PySem.W.makesIn K C=true) (kc:PySem.W.keepIn K (.ref C)=true) (a:PySem.W.findIn K (.ref C) "__init__" = some (some (.ref f))) (i:PySem.W.isFn K (.ref f)=true)
  (l:K.lookup f=some ⟨oc,od,.func (PySem.W.fnOf "__init__" qual (Z7 st) (Zw st) (Zg st) (.ref td) kV doc pm an cdv ct),osl⟩) (c:PySem.W.codeIn K cdv qual=true) (l2:K.lookup td=some ⟨tc,tod,.seq items tn,tsl⟩):KDefD K C qual st ps ds :=
 ⟨f,oc,od,.ref td,kV,doc,pm,an,cdv,ct,osl,l,c,⟨mk,a,i,kc⟩,fun s us KX hl=>b kV doc pm an cdv ct s us _ (KX _ _ l2) rfl (by rw[← hl,List.length_append])⟩
theorem pmkD {X:Cx}{CX:CXT}{j k:Nat}{C:Addr}{x:Str}{ps:List Str}{ds:List Value}{dvs:List V}{sp:Sp}{E:XK}{p pos:Pos}{e:Expr}{es:List Expr}{t:TA}(F:FuKD X.prog X.w X.K X.mg X.base CX j C ps ds sp) (hr:Room (k+1) X.A) (hm:X.mg x=some (.ref C)) (hd:Vals dvs ds) (hx:Yq CX X E) (ha:PA X (e::es) t) (hj:j<=k:=by decide) (hg:Gl X x:=by rfl) (hdb:(x == ("__debug__" : Str))=false:=by decide)
  (he:starEach (e::es) X.env=(false,eval e X.env)::starEach es X.env:=by rfl) (hpl:(backTo pos (starEach es X.env)).any (·.1)=false:=by rfl):PE X (.Call (.Name x p) (e::es) [] pos) (Zod C sp dvs E t):=by
 obtain⟨f,fd,G,hk,hb⟩:=F.ex
 exact Zi9 hk (G.mono hj) hr hg hm hb hd hx ha hdb he hpl
theorem Zpd {n:Nat}{i:Int}(h0:0<=i) (h1:i<n):ixN n i=some i.toNat:=by
 unfold ixN
 rw[if_pos h0,if_pos h1]
section
variable {X:Cx}{ts:List Str}{scope:Scope}
theorem Zoi (h1:closureFor scope X.env=pure []) (h2:scope.kind=.function) (h3:∀ y∈scope.names,y.2 ≠ .cell) (h4:∀ y∈scope.names,y.2=.local->scope.names.lookup y.1=some .local)
  (hv:((relabel scope X.env).names.all fun y=>(y.2 != .free&&y.2 != .cell)||([]:List Str).contains y.1)=true):CompSite X ts [] [] scope [] :=
 ⟨⟨h1,h2,h3,h4,Zhz _ _ hv,fun x hx=>absurd hx (by simp),fun x c h1=>(by cases h1)⟩,fun x hx=>absurd hx (by simp),fun x y c h1 h2=>(by cases h1),fun x hx=>absurd hx (by simp),rfl⟩
theorem Zg4 {v:Str}{j:Nat}{c:Addr}(h1:closureFor scope X.env=pure [(v,c)]) (h2:scope.kind=.function) (h3:∀ y∈scope.names,y.2 ≠ .cell) (h4:∀ y∈scope.names,y.2=.local->scope.names.lookup y.1=some .local)
  (hv:((relabel scope X.env).names.all fun y=>(y.2 != .free&&y.2 != .cell)||[v].contains y.1)=true) (hf:(relabel scope X.env).names.lookup v=some .cell\/(relabel scope X.env).names.lookup v=some .free)
  (hc:X.env.cells.lookup v=some c) (hk:X.env.kindOf v=some .cell\/X.env.kindOf v=some .free) (hs:X.N[j]?=some v):CompSite X ts [v] [j] scope [(v,c)]:=by
 refine⟨⟨h1,h2,h3,h4,Zhz _ _ hv,fun x hx=>?_,fun x d e=>?_⟩,fun x hx=>?_,fun x y d e1 e2=>?_,fun x hx=>?_,by simp[hs]⟩
 ·have e:x=v:=by simpa using hx
  subst e;exact hf
 ·have e1:=PySem.mem_of_lookup e
  simp at e1
  exact⟨v,by rw[e1.2];exact hc⟩
 ·have e:x=v:=by simpa using hx
  subst e
  exact⟨c,by simp[List.lookup],hc⟩
 ·have e1:=PySem.mem_of_lookup e1
  have e2:=PySem.mem_of_lookup e2
  simp at e1 e2
  exact e1.1.trans e2.1.symm
 ·have e:x=v:=by simpa using hx
  subst e;exact hk
theorem Zs2 {v u:Str}{j i:Nat}{c d:Addr}(hcd:c≠d) (hvu:v≠u) (h1:closureFor scope X.env=pure [(v,c),(u,d)]) (h2:scope.kind=.function) (h3:∀ y∈scope.names,y.2 ≠ .cell) (h4:∀ y∈scope.names,y.2=.local->scope.names.lookup y.1=some .local)
  (hv:((relabel scope X.env).names.all fun y=>(y.2 != .free&&y.2 != .cell)||[v,u].contains y.1)=true) (hf:(relabel scope X.env).names.lookup v=some .cell\/(relabel scope X.env).names.lookup v=some .free) (hf2:(relabel scope X.env).names.lookup u=some .cell\/(relabel scope X.env).names.lookup u=some .free)
  (hc:X.env.cells.lookup v=some c) (hd:X.env.cells.lookup u=some d) (hk:X.env.kindOf v=some .cell\/X.env.kindOf v=some .free) (hk2:X.env.kindOf u=some .cell\/X.env.kindOf u=some .free) (hs:X.N[j]?=some v) (hs2:X.N[i]?=some u):CompSite X ts [v,u] [j,i] scope [(v,c),(u,d)]:=by
 have hl:∀ x e,([(v,c),(u,d)]:List (Str × Addr)).lookup x=some e->(x=v/\e=c)\/(x=u/\e=d):=fun x e q=>by
  have q1:=PySem.mem_of_lookup q
  simpa using q1
 refine⟨⟨h1,h2,h3,h4,Zhz _ _ hv,fun x hx=>?_,fun x e q=>?_⟩,fun x hx=>?_,fun x y e e1 e2=>?_,fun x hx=>?_,by simp[hs,hs2]⟩
 ·have e:x=v\/x=u:=by simpa using hx
  rcases e with rfl|rfl
  ·exact hf
  ·exact hf2
 ·rcases hl x e q with ⟨_,rfl⟩|⟨_,rfl⟩
  ·exact⟨v,hc⟩
  ·exact⟨u,hd⟩
 ·have e:x=v\/x=u:=by simpa using hx
  rcases e with rfl|rfl
  ·exact⟨c,by simp[List.lookup],hc⟩
  ·refine⟨d,?_,hd⟩
   simp only [List.lookup]
   rw[beq_eq_false_iff_ne.mpr (Ne.symm hvu)]
   simp
 ·rcases hl x e e1 with ⟨rfl,q1⟩|⟨rfl,q1⟩
  ·rcases hl y e e2 with ⟨rfl,q2⟩|⟨rfl,q2⟩
   ·rfl
   ·exact absurd (q1.symm.trans q2) hcd
  ·rcases hl y e e2 with ⟨rfl,q2⟩|⟨rfl,q2⟩
   ·exact absurd (q2.symm.trans q1) hcd
   ·rfl
 ·have e:x=v\/x=u:=by simpa using hx
  rcases e with rfl|rfl
  ·exact hk
  ·exact hk2
end
theorem Jg {D:Addr}{H0:Hp}{A:Nat->List V->Hp->Prop}{B:(Nat->Nat->List V->Hp->Prop)->Nat->Nat->List V->Hp->Prop}(n:Nat) (hn:n<sizeLine) (Pv:Nat->List V->Hp->Prop) (h0:Pv 0 [] (upd H0 D (.lst []))) (hD:∀ i ys H2,Pv i ys H2->H2 D=some (.lst ys)/\ys.length<=i)
  (hgo:∀ (i:Nat) (ys:List V) (H2:Hp) (N:Nat × (Nat->Nat->List V->Hp->Prop)),i<n->Pv i ys H2->(∀ ys' H',Pv (i+1) ys' H'->∃ m',m'<N.1/\N.2 (i+1) m' ys' H')->B N.2 i N.1 ys H2)
  (hend:∀ ys H2,Pv n ys H2->A n ys H2) :
  ∃ W:Nat->Nat->List V->Hp->Prop,(∃ m,W 0 m [] (upd H0 D (.lst [])))/\∀ i m ys H2,W i m ys H2->H2 D=some (.lst ys)/\ys.length<sizeLine/\(A i ys H2\/B W i m ys H2):=by
 refine⟨fun i m ys H=>m=n - i/\i<=n/\Pv i ys H,⟨n,by simp,Nat.zero_le _,h0⟩,?_⟩
 rintro i m ys H2 ⟨rfl,hi,p⟩
 obtain⟨hd,hl⟩:=hD i ys H2 p
 refine⟨hd,by omega,?_⟩
 by_cases hlt:i<n
 ·exact .inr (hgo i ys H2 (n - i,fun i m ys H=>m=n - i/\i<=n/\Pv i ys H) hlt p fun ys' H' q=>⟨_,by show n - (i+1)<n - i;omega,rfl,hlt,q⟩)
 ·have e:i=n:=by omega
  subst e
  exact .inl (hend ys H2 p)
end L3
namespace L3
open PySem PySem.Spec PyProof.Rows L2
structure ClsFn (K:PySem.W.Frag) (D:Addr) (m:Str) (f:Addr):Prop where
 ga:PySem.W.specialIn K (.ref D) "__getattribute__" = some (some (.builtin "type.__getattribute__"))
 rd:PySem.W.readsIn K D (.type "type")=true
 fi:PySem.W.findCls K (.ref D) (.type "type") m=some (.val (.ref f))
 hd:PySem.W.handedIn (.ref f)=true
 kp:PySem.W.keepIn K (.ref f)=true
structure FuB (P:Program) (w:World) (K:PySem.W.Frag) (mg:Str->Option Value) (base:Heap) (CX:CXT) (k:Nat) (D:Addr) (m:Str) (ps:List Str) (sp:Sp):Prop where
 ex:∃ f fd,FnOk P w K mg base CX k f fd ps sp/\ClsFn K D m f/\Binds K fd ps []
structure BDef (K:PySem.W.Frag) (D:Addr) (m qual:Str) (st:Stmt) (ps:List Str):Prop where
 ex:∃ (f:Addr) (oc:Value) (od:Option Addr) (dV kV doc pm:Value) (an:Option Addr) (cdv ct:Value) (osl:Array (Option Value)),K.lookup f=some ⟨oc,od,.func (PySem.W.fnOf m qual (Z7 st) (Zw st) (Zg st) dV kV doc pm an cdv ct),osl⟩/\PySem.W.codeIn K cdv qual=true/\ClsFn K D m f /\
  Binds K (PySem.W.fnOf m qual (Z7 st) (Zw st) (Zg st) dV kV doc pm an cdv ct) ps []
theorem BDef.fu {P:Program}{w:World}{K:PySem.W.Frag}{mg:Str->Option Value}{base:Heap}{D:Addr}{m qual:Str}{st:Stmt}{N ps:List Str}{k:Nat}{sp:Sp}(B:BDef K D m qual st ps) (S:FnScope N ps (Zg st)) (len:∀ vs H Q E,sp vs H Q E->vs.length=ps.length)
  (hbody:∀ (f:Addr) (cdv:Value) (A:Around) (outer:List Env) (s:Shared) (H:Hp) (vs:List V) (Q:VK) (E:XK),Room k (A.deeper (envOfC qual (Zg st) s.heap.objs.size f cdv))->sp vs H Q E ->
    ∃ t,PSs (cxOf CX0 P w K mg base N qual (Zg st) f cdv A outer s H E).nox (Zw st) t/\t { nx:=fun _ H'=>Q .non H',rt:=Q } (Z3 N vs) H):FuB P w K mg base CX0 (k+1) D m ps sp:=by
 obtain⟨f,oc,od,dV,kV,doc,pm,an,cdv,ct,osl,lk,hcd,hm,hb⟩:=B.ex
 refine⟨f,_,Zdw lk hcd S len fun A outer s H vs Q E hr hsp=>?_,hm,hb⟩
 obtain⟨t,h,q⟩:=hbody f cdv A outer s H vs Q E hr hsp
 exact⟨t,h.nox,q⟩
theorem BDef.of {K:PySem.W.Frag}{D:Addr}{m qual:Str}{st:Stmt}{ps:List Str}{f td:Addr}{oc tc:Value}{od an tod:Option Addr}{osl tsl:Array (Option Value)}{kV doc pm cdv ct:Value}{items:Array Value}{tn:Nat}
  (b:∀ (kV doc pm:Value) (an:Option Addr) (cdv ct:Value) (s:Shared) (us:List Value) (o:Obj),s.heap.get? td=some o->o.data=.seq items tn->us.length=ps.length->BindsTo s (PySem.W.fnOf m qual (Z7 st) (Zw st) (Zg st) (.ref td) kV doc pm an cdv ct) ⟨us,[]⟩ (ps.zip us))
  (ga:PySem.W.specialIn K (.ref D) "__getattribute__" = some (some (.builtin "type.__getattribute__"))) (rd:PySem.W.readsIn K D (.type "type")=true) (fi:PySem.W.findCls K (.ref D) (.type "type") m=some (.val (.ref f))) (kp:PySem.W.keepIn K (.ref f)=true)
  (l:K.lookup f=some ⟨oc,od,.func (PySem.W.fnOf m qual (Z7 st) (Zw st) (Zg st) (.ref td) kV doc pm an cdv ct),osl⟩) (c:PySem.W.codeIn K cdv qual=true) (l2:K.lookup td=some ⟨tc,tod,.seq items tn,tsl⟩):BDef K D m qual st ps :=
 ⟨f,oc,od,.ref td,kV,doc,pm,an,cdv,ct,osl,l,c,⟨ga,rd,fi,rfl,kp⟩,fun s us KX hl=>by
  rw[List.append_nil] at hl ⊢
  exact b kV doc pm an cdv ct s us _ (KX _ _ l2) rfl hl⟩
section
variable {X:Cx}{CX:CXT}{j k:Nat}{f D:Addr}{ps:List Str}{sp:Sp}{E:XK}{x m:Str}{p pos apos:Pos}{e:Expr}{es:List Expr}{t:TA}
theorem pb {pl:Sem Bool}(F:FuB X.prog X.w X.K X.mg X.base CX j D m ps sp) (hr:Room k X.A) (hm:X.mg x=some (.ref D)) (hx:Yq CX X E) (ha:PA X (e::es) t) (hj:j<=k:=by decide) (hg:Gl X x:=by rfl) (hdb:(x == ("__debug__" : Str))=false:=by decide)
  (hst:starEach (e::es) X.env=(false,eval e X.env)::starEach es X.env:=by rfl) (hpl:(backTo pos (starEach es X.env)).any (·.1)=false:=by rfl)
  (ht:eval (.Call (.Attribute (.Name x p) m apos) (e::es) [] pos) X.env=(do
    let ov ← eval (.Name x p) X.env
    standAt apos.atName
    let (f,first) ← holding [ov] (getMethod ov m pl)
    callWith pos f first (backTo pos (starEach (e::es) X.env)) (backToKw pos (keywordEach [] X.env))):=by rfl) :
  PE X (.Call (.Attribute (.Name x p) m apos) (e::es) [] pos) (Zg1 sp [] E t):=by
 obtain⟨f,fd,G,c,hb⟩:=F.ex
 intro pins s σ H Q I h
 refine PySem.W.methodCall_KW (pl:=pl) (thn (Zbl (v:=.ref D) hg hm rfl hdb pins s σ H (fun v H1=>v=.ref D/\H1=H) I ⟨rfl,rfl⟩) fun u s1 ⟨y,H1,I1,rx,e1,e2⟩=>?_) ht
 subst e1
 subst e2
 obtain rfl:u=Value.ref D:=rx
 refine PySem.W.method_cls I1.kIn c.ga (PySem.W.cls_value I1.kIn c.rd c.fi c.hd ?_)
 have I2:=I1.tok (s1.toks+1)
 refine PySem.W.callWith_K (first:=[]) (h₀:=X.base) I.ok.mod.kin c.kp (thn (ha pos pins _ σ H1 _ I2 h) fun us s2 ⟨vs,H2,I3,r,q2⟩=>⟨I3.kIn,?_⟩) hst hpl
 exact Zgc G (hr.mono hj) hb .nil hx I3 r q2
end
end L3
namespace L3
open PySem PySem.Spec PyProof.Rows L2
theorem Znn {K:PySem.W.Frag}{mg:Str->Option Value}{h:Heap}{x:Str}{i:Int}{t:Tok}(X:K.In h) (G:h.Ns mainGlobals mg) (a:PySem.W.nsIn K mainGlobals x=some (some (.int i t))):∃ u,mg x=some u/\RelV (.int i) u:=⟨_,PySem.W.mg_of X G a,t,rfl⟩
end L3
namespace L3
open PySem PySem.Spec PyProof.Rows L2 PySem.W
abbrev veTail:List Value:=[.type "ValueError",.type "Exception",.type "BaseException",.type "object"]
def Jf (K:Frag) (C:Addr):Bool:=match K.lookup C with
 | some ⟨.type "type",_,.cls k,slots⟩=>(match k.mro,slots.toList with
  | .ref D::rest,[_,_,_,_,some (.builtin n),_]=>D == C&&n == "ValueError.__new__" && !k.hasDel&&tailIn K veTail rest
  | _,_=>false)
 | _=>false
theorem Zbo {K:Frag}{C:Addr}{h:Heap}(X:K.In h) (q:Jf K C=true):∃ bm N nm qn bs hd sn sub ab col dd k0 k1 k2 k3 k5,h.get? C=some (excClassObj nm qn C N bs bm hd sn sub ab col dd k0 k1 k2 k3 k5 "ValueError.__new__")/\OwnTail h veTail bm:=by
 unfold Jf at q
 split at q
 case h_2=>cases q
 case h_1 dd k sl ho =>
  split at q
  case h_2=>cases q
  case h_1 D bm k0 k1 k2 k3 n k5 hm hs =>
   obtain⟨l⟩:=sl
   obtain⟨nm,bs,mro,ns,qn,hd,sn,sub,ab,col,del⟩:=k
   have hs':l=[k0,k1,k2,k3,some (.builtin n),k5]:=hs
   have hm':mro=.ref D::bm:=hm
   subst hs' hm'
   rw[Bool.and_eq_true,Bool.and_eq_true,Bool.and_eq_true] at q
   obtain⟨⟨⟨q1,q2⟩,q3⟩,q4⟩:=q
   have e1:D=C:=beq_iff_eq.mp q1
   have e2:n = "ValueError.__new__" := beq_iff_eq.mp q2
   have e3:del=false:=by simpa using q3
   subst e1 e2 e3
   exact⟨bm,ns,nm,qn,bs,hd,sn,sub,ab,col,dd,k0,k1,k2,k3,k5,X _ _ ho,tail_of_in X q4⟩
abbrev argTup (us:List Value):Obj:={ cls:=.type "tuple",data:=.seq us.toArray }
abbrev excObj (C t:Addr):Obj:={ cls:=.ref C,data:=.fields #[.ref t,.none,.none,.none,.bool false,.none] }
section
variable {prog:Program}{w:World}{A:Around}{K:Frag}{C f:Addr}{R:Result->Shared->Prop}{us:List Value}
theorem Zgt {s:Shared}(X:K.In s.heap) (hc:Jf K C=true) (hi:findIn K (.ref C) "__init__" = some (some (.ref f))) (hf:typeIn K (.ref f)=some (.type "function")) (hl:us.length<=sizeLine)
  (hq:codeAny (model prog w) (A.under (.builtin "type.__call__" ⟨.ref C::us,[]⟩)) (.call (.ref f) ⟨.ref (s.heap.objs.size+1)::us,[]⟩) (InitBack (s.heap.objs.size+1) R) { s with heap:=(s.heap.push (argTup us)).push (excObj C s.heap.objs.size) }) :
  codeAny (model prog w) A (.call (.ref C) ⟨us,[]⟩) R s:=by
 obtain⟨h,g,d,t,os⟩:=s
 obtain⟨bm,N,nm,qn,bs,hd,sn,sub,ab,col,dd,k0,k1,k2,k3,k5,hC,T⟩:=Zbo X hc
 have F:=PySem.F.excBase_ValueError
 have f1:=tc_lookup
 have f2:=tc_bind (.ref C)
 have hT:(⟨h,g,d,t,os⟩:Shared).TypeIs (.ref C) "type" := ⟨_,hC,rfl⟩
 refine codeAny_of_tree ?_
 show wpAny _ _ (callAny (.ref C) _) _ _ _
 repeat (any_goals (first|assumption|with_reducible refine wpAny_loadPart_at hC ?_|wp_step))
 refine⟨rfl,?_⟩
 refine codeAny_call_builtin_at (Code.quiet_builtin _ (by decide+kernel)) entry_typeCall (wpAny_check_type_call_sub hC ?_)
 repeat (first|with_reducible refine wpAny_loadPart_at hC ?_|with_reducible refine wpAny_madeBy_exc hC ?_|wp_step)
 refine codeAny_call_builtin_code (Code.quiet_builtin _ F.quiet) (wpAny_check_new_subT F T hC ?_)
 refine codeAny_exc_new_subT F T hC ?_ hl
 show wpAny _ _ _ _ _ _
 have kp:∀ b o,h.get? b=some o->((h.push (argTup us)).push (excObj C h.objs.size)).get? b=some o:=fun b o e=>Heap.get?_push_of_some _ (Heap.get?_push_of_some _ e)
 have hC1:=kp _ _ hC
 have X1:K.In ((h.push (argTup us)).push (excObj C h.objs.size)):=X.keeps kp
 have he:((h.push (argTup us)).push (excObj C h.objs.size)).get? (h.objs.size+1)=some (excObj C h.objs.size):=by heap_get
 have hcC:(Value.ref C::bm).contains (.ref C)=true:=by simp
 unfold isInstance
 repeat (first|with_reducible refine wpAny_loadPart_at he ?_|wp_step)
 refine wpAny_isSubtype_exc hC1 ?_
 rw[hcC]
 repeat (first|with_reducible refine wpAny_loadPart_at he ?_|wp_step)
 show wpAny _ _ (typeLookup (.ref C) _) _ _ _
 refine(looks_findIn X1 hi).at ?_
 refine wpAny_holding (wpAny_bind ((bind_fn X1 (.ref (h.objs.size+1)) hf).at ?_))
 refine wpAny_bind (wpAny_call (codeAny_mono hq fun r s' z=>?_))
 cases r with
 | error e=>exact z
 | ok fl =>
  cases fl with
  | ret v =>
   obtain⟨rfl,z⟩:=z
   exact wpAny_pure (wpAny_pure z)
  | next=>exact z.elim
  | brk=>exact z.elim
  | cont=>exact z.elim
end
end L3
namespace L3
open PySem PySem.Spec PyProof.Rows L2 PySem.W Builtin Builtin.ObjectAttr
theorem Zfl {h:Heap}{tl:List Value}(T:OwnTail h veTail tl) (self:Value):refuseLoop self "__setattr__" tl=pure ():=by
 induction T with
 | base=>exact PySem.F.store_ValueError.passes self
 | own _ _ _ _ ih=>rw[refuseLoop_ref];exact ih
section
variable {prog:Program}{w:World}{A:Around}{E:Value->Shared->Prop}{K:Frag}{C x:Addr}{name:Str}{v:Value}
theorem Zj1 {s:Shared}{od:Option Addr}{vs:Array Value}{oo:Option Obj}{R:Result->Shared->Prop}{tk:Tok}(X:K.In s.heap) (hc:Jf K C=true) (I:InstAt s.heap x ⟨.ref C,od,.fields vs,#[]⟩ C oo) (ho:mroIn K C (.type "object")=some true) (ht:findIn K (.ref C) name=some none)
  (h:wpAny (model prog w) A.in1 (storeInOwnDict (.ref x) (.ref C) (.str name tk) name v false)
    (fun fin s'=>match fin with | .done f=>R (.ok f) s' | .again c'=>c'.quiet=true/\codeAny (model prog w) A c' R s') (fun e s'=>R (.error e) s') s) :
  codeAny (model prog w) A (.call (.builtin "object.__setattr__") ⟨[.ref x,.str name tk,v],[]⟩) R s:=by
 have SF:=PySem.F.store_object
 obtain⟨bm,N,nm,qn,bs,hd,sn,sub,ab,col,dd,k0,k1,k2,k3,k5,hC,T⟩:=Zbo X hc
 have here:Looks (model prog w) s.heap (isInstance (.ref x) (.type "object")) true:=I.type.andThen (looks_mroIn X ho)
 refine codeAny_call_builtin SF.slot.plain SF.entry (@check_slot (model prog w) _ _ s "object.__setattr__" "object" "__setattr__" (.ref x) [.str name tk,v] [] _ SF.kind SF.split here (SF.args (.ref x) (.str name tk) v) ?_)
 have hm:Looks (model prog w) s.heap (mroOf (.ref C)) (.ref C::bm):=((Looks.ld (part:=none) hC).andThen .now).andThen .now
 rw[osa_eq,refuse_eq]
 refine wpAny_bind (wpAny_bind (I.type.here (wpAny_bind (hm.here ?_))))
 rw[refuseLoop_ref,Zfl T]
 refine wpAny_pure (wpAny_bind (I.type.here (wpAny_bind ((looks_findIn X ht).here (wpAny_bind ?_)))))
 exact wpAny_pure h
theorem Zl7 {s:Shared}{vs:Array Value}{Q:Unit->Shared->Prop}(X:K.In s.heap) (hc:Jf K C=true) (hx:s.heap.get? x=some ⟨.ref C,none,.fields vs,#[]⟩) (hs:findIn K (.ref C) "__setattr__" = some (some (.builtin "object.__setattr__"))) (ho:mroIn K C (.type "object")=some true)
  (ht:findIn K (.ref C) name=some none) (hh:hasDictIn K C=true)
  (h:∀ h' tk,h'.get? x=some ⟨.ref C,some s.heap.objs.size,.fields vs,#[]⟩->h'.Ns1 s.heap.objs.size (fun y=>if y=name then some v else none)->(∀ b o,b≠x->s.heap.get? b=some o->h'.get? b=some o)->Q () { s with heap:=h',toks:=tk }) :
  wpAny (model prog w) A (setAttr (.ref x) name v) Q E s:=by
 have I:InstAt s.heap x ⟨.ref C,none,.fields vs,#[]⟩ C none:=⟨hx,rfl,rfl,True.intro⟩
 refine set_plain X I hs (Zj1 (s:={ s with toks:=s.toks+1 }) X hc I ho ht ?_)
 obtain⟨cd,hcd,hd'⟩:=any_some hh
 obtain⟨hp,g,d,t,os⟩:=s
 refine wpAny_bind (wpAny_pure (wpAny_bind (wpAny_bind (wpAny_loadPart hx (wpAny_bind (Looks.here (s:=⟨hp,g,d,t+1,os⟩) (looks_clsIn X hcd) ?_))))))
 rw[hd']
 have hx1:(hp.push { cls:=.type "dict",data:=.dict #[] }).get? x=some ⟨.ref C,none,.fields vs,#[]⟩:=Heap.get?_push_of_some _ hx
 have hxs:x≠hp.objs.size:=Nat.ne_of_lt (Heap.lt_size hx)
 rw[if_neg (show ¬ ((!true)=true) by decide)]
 show wpAny _ _ (alloc { cls:=.type "dict",data:=.dict #[] } >>= _) _ _ _
 refine wpAny_bind (wpAny_alloc' (wpAny_bind (wpAny_update' hx1 (wpAny_pure ?_))))
 have gd:((hp.push { cls:=.type "dict",data:=.dict #[] }).update x fun o=>{ cls:=o.cls,dict:=some hp.objs.size,data:=o.data,slots:=o.slots }).get? hp.objs.size=some { cls:=.type "dict",data:=.dict #[] } :=
  (Heap.get?_update_ne _ _ _ _ hxs.symm).trans (Heap.get?_push_at rfl rfl)
 have nd:((hp.push { cls:=.type "dict",data:=.dict #[] }).update x fun o=>{ cls:=o.cls,dict:=some hp.objs.size,data:=o.data,slots:=o.slots }).Ns hp.objs.size (fun _=>none) :=
  ⟨_,#[],_,gd,rfl,fun e he=>absurd he (by simp),fun _=>rfl⟩
 show wpAny _ _ (storeInDict hp.objs.size (.str name _) name v) _ _ _
 unfold storeInDict newKeyGuard
 refine wpAny_bind (wpAny_pure (wpAny_bind (wpAny_nsSet1 (Heap.Ns1.of_empty nd) fun h' hn' hs'=>?_)))
 obtain⟨oD,esD,epD,hoD,hdD,hcD⟩:=hn'.count (Within.cons name v Within.nil)
 refine wpAny_bind (wpAny_lookBehind hoD (by rw[hdD];exact pastItsLine_dict (Nat.le_trans hcD (by rw[List.length_cons,List.length_nil,sizeLine_eq];omega))) ?_)
 refine wpAny_pure (h _ _ ?_ hn' fun b o hb e=>?_)
 ·refine(hs'.2 x hxs).trans ?_
  rw[Heap.get?_update_self _ hx1 rfl]
 ·exact(hs'.2 b (Nat.ne_of_lt (Heap.lt_size e))).trans ((Heap.get?_update_ne _ _ _ _ hb).trans (Heap.get?_push_of_some _ e))
theorem Zl6 {s:Shared}{vs:Array Value}{dx:Addr}{mA:Str->Option Value}{ns:List Str}{Q:Unit->Shared->Prop}(X:K.In s.heap) (hc:Jf K C=true) (hx:s.heap.get? x=some ⟨.ref C,some dx,.fields vs,#[]⟩) (hd:s.heap.Ns1 dx mA) (hw:PySem.Within mA ns) (hsz:ns.length<=1000)
  (hs:findIn K (.ref C) "__setattr__" = some (some (.builtin "object.__setattr__"))) (ho:mroIn K C (.type "object")=some true) (ht:findIn K (.ref C) name=some none) (hh:hasDictIn K C=true)
  (h:∀ h' tk,h'.Ns1 dx (fun y=>if y=name then some v else mA y)->Heap.SameBut dx s.heap h'->Q () { s with heap:=h',toks:=tk }) :
  wpAny (model prog w) A (setAttr (.ref x) name v) Q E s:=by
 obtain⟨oD,es,ep,e,r⟩:=id hd
 have I:InstAt s.heap x ⟨.ref C,some dx,.fields vs,#[]⟩ C (some oD):=⟨hx,rfl,rfl,e⟩
 refine set_plain X I hs (Zj1 (s:={ s with toks:=s.toks+1 }) X hc I ho ht ?_)
 obtain⟨cd,hcd,hd'⟩:=any_some hh
 refine wpAny_bind (wpAny_pure (wpAny_bind (wpAny_bind (wpAny_loadPart hx (wpAny_bind (Looks.here (s:={ s with toks:=s.toks+1 }) (looks_clsIn X hcd) ?_))))))
 rw[hd']
 refine wpAny_pure (a:=some dx) (wpAny_bind (wpAny_pure (wpAny_bind ?_)))
 refine wpAny_nsSet1 (s:={ s with toks:=s.toks+1 }) hd fun h' hn2 hs2=>?_
 obtain⟨oE,esE,epE,hoE,hdE,hcE⟩:=hn2.count (PySem.Within.cons name v hw)
 refine wpAny_bind (wpAny_lookBehind hoE (by rw[hdE];exact pastItsLine_dict (Nat.le_trans hcE (by rw[List.length_cons,sizeLine_eq];omega))) ?_)
 exact wpAny_pure (h _ _ hn2 hs2)
end
def del (H:Hp) (a:Addr):Hp:=fun b=>if b=a then none else H b
theorem Zbf {H:Hp}{a:Addr}:del H a a=none:=by unfold del;rw[if_pos rfl]
theorem Zbg {H:Hp}{a b:Addr}(h:b≠a):del H a b=H b:=by unfold del;rw[if_neg h]
section
variable {X:Cx}{pins:List (Addr × Obj)}{σ:L2.St}{H:Hp}{s:Shared}{n:Addr}{o:HO}
theorem Inv.track (I:Inv X pins σ H s) (hn:H n=none) (h0:X.s₀.heap.get? n=none) (hl:n≠X.env.locals) (hc:∀ x c,X.env.cells.lookup x=some c->c≠n) (hp:∀ p∈X.pn++pins,p.1≠n) (ok:ObjOk X.prog X.w (upd H n o) s.heap n o):Inv X pins σ (upd H n o) s:=by
 have ne:∀ b u,H b=some u->b≠n:=fun b u e z=>by rw[z,hn] at e;cases e
 refine⟨I.ok,I.os,I.bare,⟨I.base.keep,I.base.slot,fun b o e k hx=>?_,I.base.there,fun b xs e=>?_,fun b o u e=>?_,fun b ps e=>?_⟩,I.loc,I.cell,?_,fun x c e=>?_,fun p hp'=>?_,fun b u e=>?_,I.len⟩
 ·rw[Zb (fun z=>by rw[z,h0] at e;cases e)]
  exact I.base.free b o e k hx
 ·have q:=I.base.tups b xs e
  rw[Zb (ne b _ q)]
  exact q
 ·have q:=I.base.frzs b o u e
  rw[Zb (ne b _ q)]
  exact q
 ·obtain⟨more,q⟩:=I.base.tbls b ps e
  exact⟨more,by rw[Zb (ne b _ q)];exact q⟩
 ·rw[Zb (Ne.symm hl)]
  exact I.free
 ·rw[Zb (hc x c e)]
  exact I.freeC x c e
 ·obtain⟨e,k,r⟩:=I.pin p hp'
  exact⟨e,by rw[Zb (hp p hp')];exact k,r⟩
 ·by_cases hb:b=n
  ·subst hb
   rw[Ze] at e
   cases e
   exact ok
  ·rw[Zb hb] at e
   refine(I.hok b u e).stay (fun _ _ _ q=>q) (fun c q=>?_) fun c xs q=>?_
   ·rw[Zb (ne c _ q)]
    exact q
   ·rw[Zb (ne c _ q)]
    exact q
theorem Inv.fresh (I:Inv X pins σ H s):H s.heap.objs.size=none/\X.s₀.heap.get? s.heap.objs.size=none/\s.heap.objs.size≠X.env.locals/\(∀ x c,X.env.cells.lookup x=some c->c≠s.heap.objs.size)/\∀ p∈X.pn++pins,p.1≠s.heap.objs.size:=by
 refine⟨I.hok.fresh (Nat.le_refl _),Heap.get?_none_of_le I.sz,Nat.ne_of_gt I.lt,fun x c e=>?_,fun p hp=>?_⟩
 ·obtain⟨v,hv⟩:=I.cell x c e
  exact Nat.ne_of_lt hv.lt
 ·exact Nat.ne_of_lt (Heap.lt_size (I.pin p hp).1)
theorem Inv.drop {φ:Heap->Prop}(I:Inv X pins σ H s) (e:H n=some (.ext φ)):Inv X pins σ (del H n) s:=by
 have ne:∀ b u,H b=some u->(∀ ψ,u ≠ .ext ψ)->b≠n:=fun b u e' hu z=>by rw[z,e] at e';cases e';exact hu _ rfl
 refine⟨I.ok,I.os,I.bare,⟨I.base.keep,I.base.slot,fun b o e' k hx=>?_,I.base.there,fun b xs e'=>?_,fun b o u e'=>?_,fun b ps e'=>?_⟩,I.loc,I.cell,?_,fun x c e'=>?_,fun p hp'=>?_,fun b u e'=>?_,I.len⟩
 ·unfold del;split
  ·rfl
  ·exact I.base.free b o e' k hx
 ·have q:=I.base.tups b xs e'
  rw[Zbg (ne b _ q (fun _ z=>by cases z))]
  exact q
 ·have q:=I.base.frzs b o u e'
  rw[Zbg (ne b _ q (fun _ z=>by cases z))]
  exact q
 ·obtain⟨more,q⟩:=I.base.tbls b ps e'
  exact⟨more,by rw[Zbg (ne b _ q (fun _ z=>by cases z))];exact q⟩
 ·unfold del;split
  ·rfl
  ·exact I.free
 ·unfold del;split
  ·rfl
  ·exact I.freeC x c e'
 ·obtain⟨e1,k,r⟩:=I.pin p hp'
  refine⟨e1,?_,r⟩
  unfold del;split
  ·rfl
  ·exact k
 ·have hb:b≠n:=fun z=>by rw[z,Zbf] at e';cases e'
  rw[Zbg hb] at e'
  refine(I.hok b u e').stay (fun _ _ _ q=>q) (fun c q=>?_) fun c xs q=>?_
  ·rw[Zbg (ne c _ q (fun _ z=>by cases z))]
   exact q
  ·rw[Zbg (ne c _ q (fun _ z=>by cases z))]
   exact q
end
end L3
namespace L3
open PySem PySem.Spec PyProof.Rows L2 PySem.W
def Yb (a C:Addr) (od:Option Addr):HO:=.ext fun h=>∃ (vs:Array Value) (a0:Addr),h.get? a=some ⟨.ref C,od,.fields vs,#[]⟩/\vs.size=6/\vs[0]?=some (.ref a0)/\vs[1]?=some .none
def Y2 (a:Addr) (fs:List (Str × V)):HO:=.ext fun h=>∃ mA,h.Ns1 a mA/\(∀ f,RelO (fs.lookup f) (mA f))/\PySem.Within mA (fs.map (·.1))
structure XCls (K:Frag) (C:Addr):Prop where
 ex:Jf K C=true
 sa:findIn K (.ref C) "__setattr__" = some (some (.builtin "object.__setattr__"))
 ob:mroIn K C (.type "object")=some true
 be:mroIn K C (.type "BaseException")=some true
 hd:hasDictIn K C=true
section
variable {P:Program}{w:World}{H:Hp}{h:Heap}{a C:Addr}{od:Option Addr}{fs:List (Str × V)}
theorem Za9 {vs:Array Value}{a0:Addr}(e:h.get? a=some ⟨.ref C,od,.fields vs,#[]⟩) (hz:vs.size=6) (h0:vs[0]?=some (.ref a0)) (h1:vs[1]?=some .none):ObjOk P w H h a (Yb a C od) :=
 ⟨⟨vs,a0,e,hz,h0,h1⟩,⟨_,e⟩,fun _ _ ⟨vs',a0',e',r⟩ k=>⟨vs',a0',k _ e',r⟩⟩
theorem Zc3 {mA:Str->Option Value}(e:h.Ns1 a mA) (r:∀ f,RelO (fs.lookup f) (mA f)) (wi:PySem.Within mA (fs.map (·.1))):ObjOk P w H h a (Y2 a fs) :=
 ⟨⟨mA,e,r,wi⟩,(let ⟨o,_,_,e',_⟩:=e;⟨o,e'⟩),fun _ _ ⟨mA',e',r',wi'⟩ k=>⟨mA',e'.at k,r',wi'⟩⟩
end
def sX0 (K:Frag) (ta tv:TE) (f:Str):TS:=fun D σ H=>tv σ H fun y H1=>ta σ H1 fun x H2=>∃ a C,x=.ref a/\H2 a=some (Yb a C none)/\XCls K C/\findIn K (.ref C) f=some none/\∀ dx,H2 dx=none->D.nx σ (upd (upd H2 a (Yb a C (some dx))) dx (Y2 dx [(f,y)]))
def sX1 (K:Frag) (ta tv:TE) (f:Str):TS:=fun D σ H=>tv σ H fun y H1=>ta σ H1 fun x H2=>∃ a C dx fs,x=.ref a/\H2 a=some (Yb a C (some dx))/\H2 dx=some (Y2 dx fs)/\XCls K C/\findIn K (.ref C) f=some none/\fs.length<1000/\D.nx σ (upd H2 dx (Y2 dx (putF f y fs)))
section
variable {X:Cx}{o value:Expr}{f:Str}{pos pos':Pos}{ta tv:TE}
theorem Zq2 (ha:PE X o ta) (hv:PE X value tv) (hs:swapsWith value (some (.Attribute o f pos')) pos.line X.env=pure false):PS X (.Assign [.Attribute o f pos'] value pos) (sX0 X.K ta tv f):=by
 intro pins s σ H D I h
 refine plainObj_wpAny_Assign_Attribute (thn (hv pins s σ H _ I h) fun u s1 ⟨y,H1,I1,ry,q⟩=>thn (ha pins s1 σ H1 _ I1 q) fun ov s2 ⟨x,H2,I2,rx,a,C,ex,ea,c,n,q2⟩=>?_) hs
 subst ex
 obtain rfl:ov=Value.ref a:=rx
 obtain⟨⟨vs,a0,e0,hz,h0,h1⟩,_,_⟩:=(show ObjOk X.prog X.w H2 s2.heap a (Yb a C none) from I2.hok a _ ea)
 refine Zl7 I2.kIn c.ex e0 c.sa c.ob n c.hd fun h' tk hx hd hk=>⟨σ,_,?_,q2 s2.heap.objs.size (Inv.fresh I2).1⟩
 obtain⟨f1,f2,f3,f4,f5⟩:=Inv.fresh I2
 have hne:s2.heap.objs.size≠a:=Nat.ne_of_gt (Heap.lt_size e0)
 have I3:Inv X pins σ (upd H2 a (Yb a C (some s2.heap.objs.size))) { s2 with heap:=h',toks:=tk }:=I2.write (x:=a) (e:=a) (by rw[ea];exact True.intro) (.inl rfl) (fun b u hb e=>hk b u hb e) ⟨_,hx⟩ (Za9 hx hz h0 h1)
 refine Inv.track I3 (by rw[Zb hne];exact f1) f2 f3 f4 f5 (Zc3 hd (fun g=>?_) fun g hg=>?_)
 ·show RelO (List.lookup g [(f,y)]) (if g=f then some u else none)
  by_cases z:g=f
  ·subst z
   rw[if_pos rfl]
   simp only [List.lookup,beq_self_eq_true]
   exact ry
  ·rw[if_neg z]
   have:(g == f)=false:=beq_eq_false_iff_ne.mpr z
   simp only [List.lookup,this]
   exact True.intro
 ·show g∈[f]
  by_cases z:g=f
  ·subst z;simp
  ·exact absurd (if_neg z) hg
theorem Zs8 (ha:PE X o ta) (hv:PE X value tv) (hs:swapsWith value (some (.Attribute o f pos')) pos.line X.env=pure false):PS X (.Assign [.Attribute o f pos'] value pos) (sX1 X.K ta tv f):=by
 intro pins s σ H D I h
 refine plainObj_wpAny_Assign_Attribute (thn (hv pins s σ H _ I h) fun u s1 ⟨y,H1,I1,ry,q⟩=>thn (ha pins s1 σ H1 _ I1 q) fun ov s2 ⟨x,H2,I2,rx,a,C,dx,fs,ex,ea,ed,c,n,hl,q2⟩=>?_) hs
 subst ex
 obtain rfl:ov=Value.ref a:=rx
 obtain⟨⟨vs,a0,e0,_⟩,_,_⟩:=(show ObjOk X.prog X.w H2 s2.heap a (Yb a C (some dx)) from I2.hok a _ ea)
 obtain⟨⟨mA,hm,r,wi⟩,_,_⟩:=(show ObjOk X.prog X.w H2 s2.heap dx (Y2 dx fs) from I2.hok dx _ ed)
 refine Zl6 I2.kIn c.ex e0 hm wi (by rw[List.length_map];omega) c.sa c.ob n c.hd fun h' tk hd sb=>⟨σ,_,?_,q2⟩
 refine I2.write (x:=dx) (e:=dx) (by rw[ed];exact True.intro) (.inl rfl) (fun b u hb e=>(sb.2 b hb).trans e) (let ⟨o,_,_,e',_⟩:=hd;⟨o,e'⟩) (Zc3 hd (fun g=>?_) fun g hg=>?_)
 ·show RelO ((putF f y fs).lookup g) (if g=f then some u else mA g)
  rw[Zaw]
  by_cases z:g=f
  ·rw[if_pos z,if_pos z];exact ry
  ·rw[if_neg z,if_neg z];exact r g
 ·by_cases z:g=f
  ·rw[z];exact(Zal f y fs).1
  ·refine(Zal f y fs).2 g (wi g fun q=>hg ?_)
   show (if g=f then some u else mA g)=none
   rw[if_neg z];exact q
structure BInit (K:Frag) (D:Addr):Prop where
 ga:specialIn K (.ref D) "__getattribute__" = some (some (.builtin "type.__getattribute__"))
 rd:readsIn K D (.type "type")=true
 fi:findCls K (.ref D) (.type "type") "__init__" = some (.val (.builtin "ValueError.__init__"))
theorem Zjt:handedIn (.builtin "ValueError.__init__")=true:=by decide+kernel
def tXI (K:Frag) (t:TA):TE:=fun σ H Q=>t σ H fun vs H1=>∃ a C od rest,vs=.ref a::rest/\H1 a=some (Yb a C od)/\XCls K C/\rest.length<=sizeLine/\Q .non H1
theorem Zp8 {prog:Program}{w:World}{A:Around}{E:Value->Shared->Prop}{K:Frag}{s:Shared}{a C a0:Addr}{od:Option Addr}{vs:Array Value}{rest:List Value}{Q:Value->Shared->Prop}(K0:K.In s.heap) (hc:Jf K C=true) (e:s.heap.get? a=some ⟨.ref C,od,.fields vs,#[]⟩) (hz:vs.size=6) (h0:vs[0]?=some (.ref a0)) (hl:rest.length<=sizeLine)
  (h:∀ h',h'.get? a=some ⟨.ref C,od,.fields (vs.setIfInBounds 0 (.ref s.heap.objs.size)),#[]⟩->(∀ b o,b≠a->s.heap.get? b=some o->h'.get? b=some o)->Q .none { s with heap:=h' }) :
  wpAny (model prog w) A (call (.builtin "ValueError.__init__") (.ref a::rest)) Q E s:=by
 obtain⟨hp,g,d,t,os⟩:=s
 obtain⟨bm,N,nm,qn,bs,hd,sn,sub,ab,col,dd,k0,k1,k2,k3,k5,hC,T⟩:=Zbo K0 hc
 have F:=PySem.F.excBase_ValueError
 refine wpAny_call (codeAny_call_builtin F.init.plain F.initEntry (wpAny_check_init_subT F T hC e rfl ?_))
 wp_walk
 rw[h0]
 have e1:(hp.push { cls:=.type "tuple",data:=.seq rest.toArray }).get? a=some ⟨.ref C,od,.fields vs,#[]⟩:=Heap.get?_push_of_some _ e
 refine wpAny_pure ?_
 refine wpAny_bind (wpAny_setField e1 rfl (by omega) ?_)
 wp_walk
 refine h _ ?_ fun b o hb e'=>?_
 ·rw[Heap.get?_update_self _ e1 (Obj.isFreed_of_fields (Obj.data_mapFields rfl _))]
  rfl
 ·rw[Heap.get?_update_other _ _ (Ne.symm hb)]
  exact Heap.get?_push_of_some _ e'
theorem Zq6 {D:Addr}{x:Str}{e:Expr}{es:List Expr}{t:TA}{p apos cpos:Pos}{pl:Sem Bool}(c:BInit X.K D) (hm:X.mg x=some (.ref D)) (ha:PA X (e::es) t) (hg:Gl X x:=by rfl) (hdb:(x == ("__debug__" : Str))=false:=by decide)
  (hst:starEach (e::es) X.env=(false,eval e X.env)::starEach es X.env:=by rfl) (hpl:(backTo cpos (starEach es X.env)).any (·.1)=false:=by rfl)
  (ht:eval (.Call (.Attribute (.Name x p) "__init__" apos) (e::es) [] cpos) X.env=(do
    let ov ← eval (.Name x p) X.env
    standAt apos.atName
    let (f,first) ← holding [ov] (getMethod ov "__init__" pl)
    callWith cpos f first (backTo cpos (starEach (e::es) X.env)) (backToKw cpos (keywordEach [] X.env))):=by rfl) :
  PE X (.Call (.Attribute (.Name x p) "__init__" apos) (e::es) [] cpos) (tXI X.K t):=by
 intro pins s σ H Q I h
 refine PySem.W.methodCall_KW (pl:=pl) (thn (Zbl (v:=.ref D) hg hm rfl hdb pins s σ H (fun v H1=>v=.ref D/\H1=H) I ⟨rfl,rfl⟩) fun u s1 ⟨y,H1,I1,rx,e1,e2⟩=>?_) ht
 subst e1
 subst e2
 obtain rfl:u=Value.ref D:=rx
 refine PySem.W.method_cls I1.kIn c.ga (PySem.W.cls_value I1.kIn c.rd c.fi Zjt ?_)
 have I2:=I1.tok (s1.toks+1)
 refine PyProof.Rows.callWith_builtin1 (thn (ha cpos pins _ σ H1 _ I2 h) fun us s2 ⟨vs,H2,I3,r,a,C,od,rest,ev,ea,xc,hl,q⟩=>?_) hst hpl
 subst ev
 obtain⟨u1,us1,rfl,r1,r2⟩:∃ u1 us1,us=u1::us1/\RelV (.ref a) u1/\Vals rest us1:=by
  cases r with
  | cons r1 r2=>exact⟨_,_,rfl,r1,r2⟩
 obtain rfl:u1=Value.ref a:=r1
 obtain⟨⟨ws,a0,e0,hz,h0,h1⟩,_,_⟩:=(show ObjOk X.prog X.w H2 s2.heap a (Yb a C od) from I3.hok a _ ea)
 refine Zp8 I3.kIn xc.ex e0 hz h0 (by rw[← r2.length];exact hl) fun h' g1 g2=>⟨.non,H2,?_,rfl,q⟩
 have I4:Inv X pins σ (upd H2 a (Yb a C od)) { s2 with heap:=h',toks:=s2.toks }:=I3.write (x:=a) (e:=a) (by rw[ea];exact True.intro) (.inl rfl) (fun b u hb e=>g2 b u hb e) ⟨_,g1⟩ (Za9 (a0:=s2.heap.objs.size) g1 (by rw[Array.size_setIfInBounds];exact hz) (by simp[hz]) (by rw[Array.getElem?_setIfInBounds_ne (by decide)];exact h1))
 have eH:upd H2 a (Yb a C od)=H2:=by
  funext b
  by_cases hb:b=a
  ·subst hb;rw[Ze];exact ea.symm
  ·rw[Zb hb]
 rw[eH] at I4
 exact I4
end
end L3
namespace L3
open PySem PySem.Spec PyProof.Rows L2 PySem.W
section
variable {prog:Program}{w:World}{A:Around}{E:Value->Shared->Prop}{s:Shared}{env:Env}{K:Frag}
theorem Zeb {ex:Expr}{pos:Pos}{Q:Flow->Shared->Prop}(hh:A.handled=none)
  (h:wpAny (model prog w) A (eval ex env) (fun v s1=>∃ (e C:Addr) (od:Option Addr) (vs:Array Value),v=.ref e/\K.In s1.heap/\s1.heap.get? e=some ⟨.ref C,od,.fields vs,#[]⟩/\vs[1]?=some .none/\mroIn K C (.type "BaseException")=some true/\typeIn K (.ref C)=some (.type "type")/\E (.ref e) s1) E s) :
  wpAny (model prog w) A (exec (.Raise (some ex) none pos) env) Q E s:=by
 rw[arm_exec_Raise]
 refine wpAny_bind (wpAny_standAt ?_)
 show wpAny _ _ (raiseStmt env (some (do let v ← eval ex env;standAt pos;pure v)) none) _ _ _
 unfold raiseStmt
 refine wpAny_bind (wpAny_bind (wpAny_mono h (fun v s1 q=>?_) fun _ _ z=>z))
 obtain⟨e,C,od,vs,rfl,X,he,h1,hb,ht,hE⟩:=q
 obtain⟨hp,g,d,tk,os⟩:=s1
 have L0:Looks (model prog w) hp (typeOf (.ref e)) (.ref C):=(Looks.ld he).andThen .now
 have L1:=looks_mroIn (M:=model prog w) X hb
 have L2:=looks_typeIn (M:=model prog w) X ht
 refine wpAny_bind (wpAny_standAt (wpAny_pure ?_))
 dsimp only
 have hi:∀ {A':Around} {Q':Bool->Shared->Prop} {E':Value->Shared->Prop},Q' false ⟨hp,g,d,tk,os⟩->wpAny (model prog w) A' (isType (.ref e)) Q' E' ⟨hp,g,d,tk,os⟩:=fun q=>by
  unfold isType loadHead
  exact wpAny_bind (wpAny_loadPart he (wpAny_pure q))
 refine wpAny_bind (wpAny_pure ?_)
 refine wpAny_bind (wpAny_holding ?_)
 unfold excFromValue isExcClass
 refine wpAny_bind (wpAny_bind (hi ?_))
 rw[if_neg Bool.false_ne_true]
 refine wpAny_pure ?_
 rw[if_neg Bool.false_ne_true]
 unfold isInstance
 refine wpAny_bind (wpAny_bind (L0.at (L1.at ?_)))
 rw[if_pos rfl]
 refine wpAny_pure ?_
 dsimp only
 refine wpAny_bind (hi ?_)
 rw[if_neg Bool.false_ne_true]
 unfold raisedInstance
 refine wpAny_bind (wpAny_bind (L0.at (wpAny_bind (L2.at ?_))))
 rw[if_pos (by decide)]
 refine wpAny_pure ?_
 unfold setFlight
 refine wpAny_bind (wpAny_bind (wpAny_field he rfl h1 ?_))
 rw[if_neg (by decide)]
 refine wpAny_pure ?_
 exact wpAny_raiseNew_none hh hE
end
structure ExcI (K:Frag) (mg:Str->Option Value) (x:Str) (C f:Addr):Prop where
 bound:mg x=some (.ref C)
 keep:keepIn K (.ref C)=true
 cls:XCls K C
 typ:typeIn K (.ref C)=some (.type "type")
 init:findIn K (.ref C) "__init__" = some (some (.ref f))
 fn:typeIn K (.ref f)=some (.type "function")
def Zh7 (E:XK) (C:Addr) (sp:Sp) (t:TA):TS:=fun _ σ H=>t σ H fun vs H1=>vs.length<=sizeLine/\∀ e,H1 e=none->sp (.ref e::vs) (upd H1 e (Yb e C none)) (fun v H2=>v=.non/\∃ od,H2 e=some (Yb e C od)/\E (.ref C) none (del H2 e)) E0
section
variable {P:Program}{w:World}{K:PySem.W.Frag}{mg:Str->Option Value}{base:Heap}{N:List Str}{qual:Str}{scope:Scope}{g:Addr}{cd:Value}{A:Around}{outer:List Env}{s₀:Shared}{H₀:Hp}{E:XK}{x:Str}{C f:Addr}{fd:FuncData}{ps:List Str}{sp:Sp}{k:Nat}{e:Expr}{es:List Expr}{t:TA}{p pos cpos:Pos}
theorem Ziz (D:ExcI K mg x C f) (F:FnOk P w K mg base CX0 k f fd ps sp) (hb:Binds K fd ps []) (hr:Room (k+1) (A.deeper (envOfC qual scope s₀.heap.objs.size g cd))) (ha:PA (cxOf (CX1 P w) P w K mg base N qual scope g cd A outer s₀ H₀ E) (e::es) t) (hg:Gl (cxOf (CX1 P w) P w K mg base N qual scope g cd A outer s₀ H₀ E) x:=by rfl) (hdb:(x == ("__debug__" : Str))=false:=by decide)
  (he:starEach (e::es) (cxOf (CX1 P w) P w K mg base N qual scope g cd A outer s₀ H₀ E).env=(false,eval e (cxOf (CX1 P w) P w K mg base N qual scope g cd A outer s₀ H₀ E).env)::starEach es (cxOf (CX1 P w) P w K mg base N qual scope g cd A outer s₀ H₀ E).env:=by rfl)
  (hpl:(backTo cpos (starEach es (cxOf (CX1 P w) P w K mg base N qual scope g cd A outer s₀ H₀ E).env)).any (·.1)=false:=by rfl) :
  PS (cxOf (CX1 P w) P w K mg base N qual scope g cd A outer s₀ H₀ E) (.Raise (some (.Call (.Name x p) (e::es) [] cpos)) none pos) (Zh7 E C sp t):=by
 intro pins s σ H Dn I h
 refine Zeb (K:=K) hr.hd ?_
 refine wpAny_Call_Name_kw (Je I hg D.bound ?_ hdb)
 refine PySem.W.callWith_K (h₀:=base) I.ok.mod.kin D.keep (thn (ha cpos pins s σ H _ I h) fun us s1 ⟨vs,H1,I1,r,z,q⟩=>⟨I1.kIn,?_⟩) he hpl
 have hq:=q (s1.heap.objs.size+1) (I1.hok.fresh (Nat.le_succ _))
 have hx:((s1.heap.push (argTup us)).push (excObj C s1.heap.objs.size)).get? (s1.heap.objs.size+1)=some (excObj C s1.heap.objs.size):=by heap_get
 have I2:Inv (cxOf (CX1 P w) P w K mg base N qual scope g cd A outer s₀ H₀ E) pins σ (upd H1 (s1.heap.objs.size+1) (Yb (s1.heap.objs.size+1) C none)) { s1 with heap:=(s1.heap.push (argTup us)).push (excObj C s1.heap.objs.size) } :=
  I1.laid (t':=s1.toks) (fun b u q=>Heap.get?_push_of_some _ (Heap.get?_push_of_some _ q)) (Nat.le_succ _) (Za9 hx rfl rfl rfl)
 have r2:Vals (V.ref (s1.heap.objs.size+1)::vs) (Value.ref (s1.heap.objs.size+1)::us):=.cons rfl r
 have hl:(Value.ref (s1.heap.objs.size+1)::us++[]).length=ps.length:=by
  have z:=r2.length
  rw[F.len _ _ _ _ hq] at z
  rw[List.append_nil]
  exact z.symm
 have hb':=hb _ (Value.ref (s1.heap.objs.size+1)::us) I2.kIn hl
 rw[List.append_nil] at hb'
 refine wpAny_call (Zgt I1.kIn D.cls.ex D.init D.fn (by show us.length<=sizeLine;rw[← r.length];exact z) (codeAny_mono (F.run _ _ _ _ _ _ _ _ _ (hr.make C us []) (I2.env0.make C us []) hb' r2 hq) fun res s' hq'=>?_))
 cases res with
 | error e=>exact hq'.elim
 | ok fl =>
  cases fl with
  | next=>exact hq'.elim
  | brk=>exact hq'.elim
  | cont=>exact hq'.elim
  | ret u =>
   obtain⟨v,H2,I3,rv,ev,od,e2,hE⟩:=I2.after hq'
   subst ev
   refine⟨rv,?_⟩
   obtain⟨⟨ws,a0,e0,hz,h0,h1⟩,_,_⟩:=(show ObjOk P w H2 s'.heap (s1.heap.objs.size+1) (Yb (s1.heap.objs.size+1) C od) from I3.hok _ _ e2)
   refine⟨s1.heap.objs.size+1,C,od,ws,rfl,I3.kIn,e0,h1,D.cls.be,D.typ,?_⟩
   have I4:=Inv.drop I3 e2
   have new:s₀.heap.get? (s1.heap.objs.size+1)=none:=Heap.get?_none_of_le (Nat.le_succ_of_le I1.sz)
   have hin:∀ env∈(envOfC qual scope s₀.heap.objs.size g cd::outer),∀ b,env.frame=some b->b∈(s1.heap.objs.size+1)::frs (envOfC qual scope s₀.heap.objs.size g cd::outer):=fun env he b hb=>List.mem_cons_of_mem _ (List.mem_filterMap.mpr ⟨env,he,hb⟩)
   show wpAny _ _ (leaving (envOfC qual scope s₀.heap.objs.size g cd) (.ref (s1.heap.objs.size+1))) _ _ s'
   refine wpAny_leaving_firstW (base:=PySem.W.hideAll s'.heap ((s1.heap.objs.size+1)::frs (envOfC qual scope s₀.heap.objs.size g cd::outer))) (oe:=⟨.ref C,od,.fields ws,#[]⟩) I.ok.frames (PySem.W.funFrames_hide I3.stack hin) rfl e0 (fun b o q=>PySem.W.of_hideAll _ q) (PySem.W.hideAll_none _ (.head _)) rfl h1 h0 fun h2 hL=>?_
   obtain⟨x1,⟨_,_,x2⟩,x3,x4⟩:=hL
   refine⟨s1.heap.objs.size+1,C,_,del H2 (s1.heap.objs.size+1),rfl,Fly.out (a0:=.ref a0) I4 rfl rfl rfl new Zbf (fun b o e1 hb n=>?_) ⟨x1,PySem.W.hideAll_none _ (.head _),x2,x3⟩ x4,hE⟩
   refine PySem.W.hideAll_get _ e1 ?_
   simp only [List.mem_cons,not_or]
   refine⟨fun q=>?_,n⟩
   rcases hb with hb|⟨o',e2'⟩
   ·exact hb (by rw[q,Zbf])
   ·rw[q] at e2'
    have e3:s₀.heap.get? (s1.heap.objs.size+1)=some o':=e2'
    rw[new] at e3
    cases e3
end
structure FuX (P:Program) (w:World) (K:Frag) (mg:Str->Option Value) (base:Heap) (k:Nat) (x:Str) (C:Addr) (ps:List Str) (sp:Sp):Prop where
 ex:∃ f fd,ExcI K mg x C f/\FnOk P w K mg base CX0 k f fd ps sp/\Binds K fd ps []
structure DefX (K:Frag) (mg:Str->Option Value) (x:Str) (C:Addr) (qual:Str) (st:Stmt) (ps:List Str):Prop where
 ex:∃ f fd,ExcI K mg x C f/\Fun K "__init__" qual st f fd/\Binds K fd ps []
theorem DefX.fu {P:Program}{w:World}{K:Frag}{mg:Str->Option Value}{base:Heap}{x qual:Str}{C:Addr}{st:Stmt}{N ps:List Str}{k:Nat}{sp:Sp}(D:DefX K mg x C qual st ps) (S:FnScope N ps (Zg st)) (len:∀ vs H Q E,sp vs H Q E->vs.length=ps.length)
  (hbody:∀ (f:Addr) (cdv:Value) (A:Around) (outer:List Env) (s:Shared) (H:Hp) (vs:List V) (Q:VK) (E:XK),Room k (A.deeper (envOfC qual (Zg st) s.heap.objs.size f cdv))->sp vs H Q E ->
    ∃ t,PSs (cxOf CX0 P w K mg base N qual (Zg st) f cdv A outer s H E).nox (Zw st) t/\t { nx:=fun _ H'=>Q .non H',rt:=Q } (Z3 N vs) H):FuX P w K mg base (k+1) x C ps sp:=by
 obtain⟨f,fd,hx,F,hb⟩:=D.ex
 exact⟨f,fd,hx,F.ok S len fun cdv A outer s H vs Q E hr h=>hbody f cdv A outer s H vs Q E hr h,hb⟩
theorem DefX.of {K:Frag}{mg:Str->Option Value}{x qual:Str}{C f:Addr}{st:Stmt}{ps:List Str}{oc:Value}{od an:Option Addr}{osl:Array (Option Value)}{kV doc pm cdv ct:Value}(hx:ExcI K mg x C f)
  (b:∀ (kV doc pm:Value) (an:Option Addr) (cdv ct:Value) (us:List Value),us.length=ps.length->bindArgs (PySem.W.fnOf "__init__" qual (Z7 st) (Zw st) (Zg st) .none kV doc pm an cdv ct) ⟨us,[]⟩=pure (ps.zip us))
  (l:K.lookup f=some ⟨oc,od,.func (PySem.W.fnOf "__init__" qual (Z7 st) (Zw st) (Zg st) .none kV doc pm an cdv ct),osl⟩) (c:PySem.W.codeIn K cdv qual=true) (k:PySem.W.keepIn K (.ref f)=true):DefX K mg x C qual st ps :=
 ⟨f,_,hx,Zbd (st:=st) l c k,(Zbd (st:=st) l c k).binds b⟩
section
variable {P:Program}{w:World}{K:PySem.W.Frag}{mg:Str->Option Value}{base:Heap}{N:List Str}{qual:Str}{scope:Scope}{g:Addr}{cd:Value}{A:Around}{outer:List Env}{s₀:Shared}{H₀:Hp}{E:XK}{x:Str}{C:Addr}{ps:List Str}{sp:Sp}{j k:Nat}{e:Expr}{es:List Expr}{t:TA}{p pos cpos:Pos}
theorem Ziy (F:FuX P w K mg base j x C ps sp) (hr:Room (k+1) (A.deeper (envOfC qual scope s₀.heap.objs.size g cd))) (ha:PA (cxOf (CX1 P w) P w K mg base N qual scope g cd A outer s₀ H₀ E) (e::es) t) (hj:j<=k:=by decide) (hg:Gl (cxOf (CX1 P w) P w K mg base N qual scope g cd A outer s₀ H₀ E) x:=by rfl) (hdb:(x == ("__debug__" : Str))=false:=by decide)
  (he:starEach (e::es) (cxOf (CX1 P w) P w K mg base N qual scope g cd A outer s₀ H₀ E).env=(false,eval e (cxOf (CX1 P w) P w K mg base N qual scope g cd A outer s₀ H₀ E).env)::starEach es (cxOf (CX1 P w) P w K mg base N qual scope g cd A outer s₀ H₀ E).env:=by rfl)
  (hpl:(backTo cpos (starEach es (cxOf (CX1 P w) P w K mg base N qual scope g cd A outer s₀ H₀ E).env)).any (·.1)=false:=by rfl) :
  PS (cxOf (CX1 P w) P w K mg base N qual scope g cd A outer s₀ H₀ E) (.Raise (some (.Call (.Name x p) (e::es) [] cpos)) none pos) (Zh7 E C sp t):=by
 obtain⟨f,fd,hx,G,hb⟩:=F.ex
 exact Ziz hx (G.mono hj) hb hr ha hg hdb he hpl
end
end L3
namespace L3
open PySem PySem.Spec PyProof.Rows L2
def Zn0 (K:PySem.W.Frag) (fd:FuncData) (ps ks:List Str) (ds:List Value):Prop :=
 ∀ (s:Shared) (x:Value) (ws:List Value),K.In s.heap->(x::(ws++ds)).length=ps.length->BindsTo s fd ⟨[x],ks.zip ws⟩ (ps.zip (x::(ws++ds)))
structure FuKW (P:Program) (w:World) (K:PySem.W.Frag) (mg:Str->Option Value) (base:Heap) (CX:CXT) (k:Nat) (C:Addr) (ps ks:List Str) (ds:List Value) (sp:Sp):Prop where
 ex:∃ f fd,FnOk P w K mg base CX k f fd ps sp/\Mk K C f/\Zn0 K fd ps ks ds
structure KDefW (K:PySem.W.Frag) (C:Addr) (qual:Str) (st:Stmt) (ps ks:List Str) (ds:List Value):Prop where
 ex:∃ (f:Addr) (oc:Value) (od:Option Addr) (dV kV doc pm:Value) (an:Option Addr) (cdv ct:Value) (osl:Array (Option Value)),K.lookup f=some ⟨oc,od,.func (PySem.W.fnOf "__init__" qual (Z7 st) (Zw st) (Zg st) dV kV doc pm an cdv ct),osl⟩/\PySem.W.codeIn K cdv qual=true/\Mk K C f /\
  Zn0 K (PySem.W.fnOf "__init__" qual (Z7 st) (Zw st) (Zg st) dV kV doc pm an cdv ct) ps ks ds
theorem KDefW.fu {P:Program}{w:World}{K:PySem.W.Frag}{mg:Str->Option Value}{base:Heap}{C:Addr}{qual:Str}{st:Stmt}{N ps ks:List Str}{ds:List Value}{k:Nat}{sp:Sp}(D:KDefW K C qual st ps ks ds) (S:FnScope N ps (Zg st)) (len:∀ vs H Q E,sp vs H Q E->vs.length=ps.length)
  (hbody:∀ (f:Addr) (cdv:Value) (A:Around) (outer:List Env) (s:Shared) (H:Hp) (vs:List V) (Q:VK) (E:XK),Room k (A.deeper (envOfC qual (Zg st) s.heap.objs.size f cdv))->sp vs H Q E ->
    ∃ t,PSs (cxOf CX0 P w K mg base N qual (Zg st) f cdv A outer s H E).nox (Zw st) t/\t { nx:=fun _ H'=>Q .non H',rt:=Q } (Z3 N vs) H):FuKW P w K mg base CX0 (k+1) C ps ks ds sp:=by
 obtain⟨f,oc,od,dV,kV,doc,pm,an,cdv,ct,osl,lk,hcd,hm,hb⟩:=D.ex
 refine⟨f,_,Zdw lk hcd S len fun A outer s H vs Q E hr hsp=>?_,hm,hb⟩
 obtain⟨t,h,q⟩:=hbody f cdv A outer s H vs Q E hr hsp
 exact⟨t,h.nox,q⟩
theorem KDefW.of {K:PySem.W.Frag}{C:Addr}{qual:Str}{st:Stmt}{ps ks:List Str}{ds:List Value}{f td:Addr}{oc tc:Value}{od an tod:Option Addr}{osl tsl:Array (Option Value)}{kV doc pm cdv ct:Value}{items:Array Value}{tn:Nat}
  (b:∀ (kV doc pm:Value) (an:Option Addr) (cdv ct:Value) (s:Shared) (x:Value) (ws:List Value) (o:Obj),s.heap.get? td=some o->o.data=.seq items tn->ws.length+ds.length+1=ps.length->BindsTo s (PySem.W.fnOf "__init__" qual (Z7 st) (Zw st) (Zg st) (.ref td) kV doc pm an cdv ct) ⟨[x],ks.zip ws⟩ (ps.zip (x::(ws++ds))))
  (mk:PySem.W.makesIn K C=true) (kc:PySem.W.keepIn K (.ref C)=true) (a:PySem.W.findIn K (.ref C) "__init__" = some (some (.ref f))) (i:PySem.W.isFn K (.ref f)=true)
  (l:K.lookup f=some ⟨oc,od,.func (PySem.W.fnOf "__init__" qual (Z7 st) (Zw st) (Zg st) (.ref td) kV doc pm an cdv ct),osl⟩) (c:PySem.W.codeIn K cdv qual=true) (l2:K.lookup td=some ⟨tc,tod,.seq items tn,tsl⟩):KDefW K C qual st ps ks ds :=
 ⟨f,oc,od,.ref td,kV,doc,pm,an,cdv,ct,osl,l,c,⟨mk,a,i,kc⟩,fun s x ws KX hl=>b kV doc pm an cdv ct s x ws _ (KX _ _ l2) rfl (by rw[← hl,List.length_cons,List.length_append])⟩
section
variable {X:Cx}{CX:CXT}{j k:Nat}{f C:Addr}{fd:FuncData}{ps ks:List Str}{sp:Sp}{E:XK}{x:Str}{p pos:Pos}{kws:List Keyword}{tk:TA}{ds:List Value}{dvs:List V}
theorem Zq9 {e:Expr}{t1 t2:TE}(h1:PE X e t1) (h2:PE X e t2):PE X e (fun σ H Q=>t1 σ H Q\/t2 σ H Q):=fun pins s σ H Q I h=>h.elim (h1 pins s σ H Q I) (h2 pins s σ H Q I)
end
theorem FuM.mono {P:Program}{w:World}{K:PySem.W.Frag}{mg:Str->Option Value}{base:Heap}{CX:CXT}{j k:Nat}{C:Addr}{m:Str}{ps:List Str}{sp:Sp}(F:FuM P w K mg base CX j C m ps sp) (h:j<=k):FuM P w K mg base CX k C m ps sp:=by
 obtain⟨f,fd,G,a,b⟩:=F.ex
 exact⟨f,fd,G.mono h,a,b⟩
theorem Tab.kb {S:List Addr}{H H':Hp}{P:Addr}{pos:Pos}{q:Str}(t:Tab H P pos q) (kp:KeepBut S H H') (hs:∀ z∈S,(∃ xs,H z=some (.lst xs))\/(∃ C dx fs,H z=some (.ins C dx fs))\/(z≠P/\∃ ps,H z=some (.tbl ps))):Tab H' P pos q:=by
 have h1:P∉S:=fun hz=>by
  rcases hs P hz with ⟨xs,e⟩|⟨C,dx,fs,e⟩|⟨e,_⟩
  ·exact t.ne e (fun _ z=>by cases z) rfl
  ·exact t.ne e (fun _ z=>by cases z) rfl
  ·exact e rfl
 rcases t with t|⟨c,t,u⟩
 ·exact .inl (kp _ _ t h1)
 ·refine .inr ⟨c,kp _ _ t h1,kp _ _ u fun hz=>?_⟩
  rcases hs c hz with ⟨xs,e⟩|⟨C,dx,fs,e⟩|⟨_,ps,e⟩
  ·rw[u] at e;cases e
  ·rw[u] at e;cases e
  ·rw[u] at e;cases e
theorem Tab.tbl {H:Hp}{P:Addr}{pos:Pos}{q:Str}(t:Tab H P pos q):∃ ps,H P=some (.tbl ps):=by
 rcases t with t|⟨c,t,u⟩
 ·exact⟨_,t⟩
 ·exact⟨_,t⟩
end L3
namespace K10
open PySem L2 L3
def top (i:Nat):Stmt:=PySem.Challenge.pw_fewpegs_k10_rows_refused.main.body.getD i (.Pass ⟨0,0,0,0⟩)
def rkAt (rk:List Int) (l:Int):Int:=rk.getD l.toNat 0
def lt (rk:List Int) (x y:Int):Bool:=HT.lexLt [rkAt rk x,x] [rkAt rk y,y]
theorem Zei (rk:List Int) (x y:Int):lt rk x y=true ↔ rkAt rk x<rkAt rk y\/(rkAt rk x=rkAt rk y/\x<y):=by
 unfold lt
 rw[HT.lexLt_cons]
 by_cases h:rkAt rk x=rkAt rk y
 ·rw[if_pos h,HT.lexLt_cons]
  by_cases h2:x=y
  ·subst h2
   rw[if_pos rfl,HT.lexLt_nil_nil]
   constructor
   ·intro z;cases z
   ·intro z;omega
  ·rw[if_neg h2,decide_eq_true_iff]
   omega
 ·rw[if_neg h,decide_eq_true_iff]
  omega
theorem Zgk (rk:List Int) (x:Int):lt rk x x=false:=by
 cases h:lt rk x x with
 | false=>rfl
 | true=>rw[Zei] at h;omega
theorem Zjj {rk:List Int}{x y z:Int}(a:lt rk x y=true) (b:lt rk y z=true):lt rk x z=true:=by
 rw[Zei] at *
 omega
theorem Znk (rk:List Int) {x y:Int}(h:x≠y):lt rk x y=true\/lt rk y x=true:=by
 rw[Zei,Zei]
 omega
structure Sorted (rk ls ys:List Int):Prop where
 perm:ys.Perm ls
 pw:ys.Pairwise fun x y=>lt rk x y=true
def kyOf (rk ls:List Int) (i:Nat):Int × Int:=(rkAt rk (ls.getD i 0),ls.getD i 0)
theorem Znh {rk ls:List Int}(nd:ls.Nodup):Ord ls.length (klt (kyOf rk ls)) :=
 ⟨fun i=>Zgk rk _,fun i j k a b=>Zjj (rk:=rk) a b,fun i j hi hj hne=>Znk rk fun e=>hne (by
  have e':ls[i]=ls[j]:=by simpa [List.getD,hi,hj] using e
  exact(List.getElem_inj nd).mp e')⟩
theorem Zii {rk ls:List Int}{p:Array Nat}(a:Arr ls.length p) (u:Up (klt (kyOf rk ls)) p ls.length):Sorted rk ls (p.toList.map fun i=>ls.getD i 0):=by
 refine⟨?_,?_⟩
 ·have h:=(Array.perm_iff_toList_perm.mp a.perm).map (fun i=>ls.getD i 0)
  simp only [List.toList_toArray,Zcw] at h
  exact h
 ·rw[List.pairwise_map,List.pairwise_iff_getElem]
  intro i j hi hj hij
  have hs:p.toList.length=ls.length:=by rw[Array.length_toList];exact a.size
  have q:=u i j hij (by omega)
  have e1:pg p i=p.toList[i]:=by simp[pg,Array.getD,show i<p.size by simpa using hi]
  have e2:pg p j=p.toList[j]:=by simp[pg,Array.getD,show j<p.size by simpa using hj]
  rw[e1,e2] at q
  exact q
theorem Zlv (ls:List Int) (l:List Nat) (h:∀ i∈l,i<ls.length):(l.map fun i=>(ls.map V.int).getD i .non)=(l.map fun i=>ls.getD i 0).map V.int:=by
 rw[List.map_map]
 refine List.map_congr_left fun i hi=>?_
 have:=h i hi
 simp[List.getD,this]
structure Txt (K:PySem.W.Frag) (mg:Str->Option Value):Prop where
 isi:mg "isinstance" = none
 int:mg "int" = none
 bool:mg "bool" = none
 list:mg "list" = none
 len:mg "len" = none
 range:mg "range" = none
 sorted:mg "sorted" = none
 min:mg "min" = none
 all:mg "all" = none
 zip:mg "zip" = none
 rev:mg "reversed" = none
 enum:mg "enumerate" = none
 tuple:mg "tuple" = none
section
variable {P:Program}{w:World}{K:PySem.W.Frag}{mg:Str->Option Value}{base:Heap}
def WholeV (K:PySem.W.Frag) (H:Hp) (x:V) (b:Bool):Prop:=∃ t b1 b2,TyOf K H x t/\PySem.W.kitOne K t (.type "int")=some b1/\PySem.W.kitOne K t (.type "bool")=some b2/\b=(b1 && !b2)
theorem Zbw {H:Hp}(i:Int):WholeV K H (.int i) true:=⟨_,true,false,.int i,rfl,rfl,rfl⟩
theorem Zc6 {H:Hp}(c:Bool):WholeV K H (.bl c) false:=⟨_,true,true,.bl c,rfl,rfl,rfl⟩
theorem Zhy {H:Hp}:WholeV K H .non false:=⟨_,false,false,.non,rfl,rfl,rfl⟩
theorem Zd0 {H:Hp}(x:Str):WholeV K H (.str x) false:=⟨_,false,false,.str x,rfl,rfl,rfl⟩
theorem Zd2 {H:Hp}{a:Addr}{xs:List V}(e:H a=some (.lst xs)):WholeV K H (.ref a) false:=⟨_,false,false,.lst e,rfl,rfl,rfl⟩
theorem Zhx {H:Hp}{a:Addr}{xs:List V}(e:H a=some (.tup xs)):WholeV K H (.ref a) false:=⟨_,false,false,.tup e,rfl,rfl,rfl⟩
def Zb1 (K:PySem.W.Frag):Sp:=fun vs H Q _=>∃ x b,vs=[x]/\WholeV K H x b/\Q (.bl b) H
theorem sc1:FnScope ["thing"] ["thing"] (Zg (top 17)):=⟨rfl,rfl,rfl,by decide+kernel,rfl,by decide+kernel,by decide+kernel⟩
theorem Zhm (D:Def K mg "is_whole" (top 17) ["thing"]) (T:Txt K mg):Fu P w K mg base CX0 1 "is_whole" ["thing"] (Zb1 K):=by
 refine D.fu sc1 (fun vs H Q E h=>?_) (fun f cdv A outer s H vs Q E hr h=>?_)
 ·obtain⟨x,b,rfl,_⟩:=h
  rfl
 ·obtain⟨x,b,rfl,⟨t,b1,b2,ty,e1,e2,rfl⟩,k⟩:=h
  refine⟨_,Zf (Zj (Ys (Yt T.isi T.int Zci (pv 0)) (Yk (Zi8 (Yt T.isi T.bool Zbp (pv 0)))))),?_⟩
  refine⟨_,rfl,x, "int",t,b1,rfl,ty,e1,b1,rfl,?_⟩
  cases b1 with
  | false=>exact iteF k
  | true =>
   refine iteT ?_
   exact⟨_,rfl,x, "bool",t,b2,rfl,ty,e2,b2,rfl,k⟩
theorem sc8:FnScope ["_law_found"] ["_law_found"] (Zg (top 48)):=⟨rfl,rfl,rfl,by decide+kernel,rfl,by decide+kernel,by decide+kernel⟩
theorem Zfu (D:Def K mg "_law_whole" (top 48) ["_law_found"]) (T:Txt K mg):Fu P w K mg base CX0 1 "_law_whole" ["_law_found"] (Zb1 K):=by
 refine D.fu sc8 (fun vs H Q E h=>?_) (fun f cdv A outer s H vs Q E hr h=>?_)
 ·obtain⟨x,b,rfl,_⟩:=h
  rfl
 ·obtain⟨x,b,rfl,⟨t,b1,b2,ty,e1,e2,rfl⟩,k⟩:=h
  refine⟨_,Zf (Zj (Ys (Yt T.isi T.int Zci (pv 0)) (Yk (Zi8 (Yt T.isi T.bool Zbp (pv 0)))))),?_⟩
  refine⟨_,rfl,x, "int",t,b1,rfl,ty,e1,b1,rfl,?_⟩
  cases b1 with
  | false=>exact iteF k
  | true =>
   refine iteT ?_
   exact⟨_,rfl,x, "bool",t,b2,rfl,ty,e2,b2,rfl,k⟩
def Zae (K:PySem.W.Frag):Sp:=fun vs H Q _=>∃ a rk l,vs=[.ref a,.int l]/\LI K H a rk/\0<=l/\l<rk.length/\∀ p,H p=none->Q (.ref p) (upd H p (.tup [.int (rkAt rk l),.int l]))
theorem sc2:FnScope ["ranks", "line"] ["ranks", "line"] (Zg (top 18)):=⟨rfl,rfl,rfl,by decide+kernel,rfl,by decide+kernel,by decide+kernel⟩
theorem Zhk (D:Def K mg "standing" (top 18) ["ranks", "line"]):Fu P w K mg base CX0 1 "standing" ["ranks", "line"] (Zae K):=by
 refine D.fu sc2 (fun vs H Q E h=>?_) (fun f cdv A outer s H vs Q E hr h=>?_)
 ·obtain⟨a,rk,l,rfl,_⟩:=h
  rfl
 ·obtain⟨a,rk,l,rfl,hq,h0,h1,k⟩:=h
  refine⟨_,Zf (Zj (Z5 (Za (Zr Z9 (pv 0) (pv 1) (fun _ _=>rfl)) (Za (pv 1) Zc)))),?_⟩
  exact⟨_,rfl,_,rfl,a,_,_,_,rfl,rfl,hq,Y7 h0 h1,_,rfl,(by show 2<=sizeLine;decide),fun p hp=>k p hp⟩
def Zf9 (K:PySem.W.Frag):Sp:=fun vs H Q _=>∃ a rk x y,vs=[.ref a,.int x,.int y]/\LI K H a rk/\(0<=x/\x<rk.length)/\(0<=y/\y<rk.length)/\∀ H',Same H H'->Q (.bl (lt rk x y)) H'
theorem sc3:FnScope ["ranks", "one", "other"] ["ranks", "one", "other"] (Zg (top 19)):=⟨rfl,rfl,rfl,by decide+kernel,rfl,by decide+kernel,by decide+kernel⟩
theorem Zl5 (D:Def K mg "before" (top 19) ["ranks", "one", "other"]) (G:Fu P w K mg base CX0 1 "standing" ["ranks", "line"] (Zae K)):Fu P w K mg base CX0 2 "before" ["ranks", "one", "other"] (Zf9 K):=by
 refine D.fu sc3 (fun vs H Q E h=>?_) (fun f cdv A outer s H vs Q E hr h=>?_)
 ·obtain⟨a,rk,x,y,rfl,_⟩:=h
  rfl
 ·obtain⟨a,rk,x,y,rfl,hq,hx,hy,k⟩:=h
  refine⟨_,Zf (Zj (Y1 (Zrg hr.units0) (pc G hr Zk (Za (pv 0) (Za (pv 1) Zc))) (pc G hr Zk (Za (pv 0) (Za (pv 2) Zc))) (Zs _))),?_⟩
  refine⟨_,rfl,_,rfl,a,rk,x,rfl,hq,hx.1,hx.2,fun p hp=>?_⟩
  refine⟨_,rfl,_,rfl,a,rk,y,rfl,(Same.new hp).seq hq,hy.1,hy.2,fun q hq'=>?_⟩
  have hpq:p≠q:=Zl (Ze (H:=H) (o:=.tup [.int (rkAt rk x),.int x])) hq'
  refine⟨p,q,[rkAt rk x,x],[rkAt rk y,y],rfl,rfl,SqT.of (by rw[Zb hpq];exact Ze),SqT.of Ze,?_⟩
  exact k _ ((Same.new hp).trans (Same.new hq'))
def Zhg (st:Stmt):Pos:=match Zw st with
 | [.Return (some (.Call _ _ (⟨_,.Lambda _ _ _ p,_⟩::_) _)) _]=>p
 | _=>⟨0,0,0,0⟩
theorem Zju (l:List (Str × NameKind)) (fvs:List Str) (h:(l.all fun y=>y.2 != .free||fvs.contains y.1)=true):∀ x,l.lookup x=some .free->x∈fvs:=fun x e=>by
 have:=List.all_eq_true.mp h _ (PySem.mem_of_lookup e)
 simpa using this
theorem Znl {P4 a:Addr}{H:Hp}{rk ls:List Int}{pos:Pos}{q:Str}(hq:LI K H a rk) (hl:∀ l∈ls,0<=l/\l<rk.length) (hT:Tab H P4 pos q) :
  KeyRd P4 (Zg1 (Zae K) [] E0 (Yr (tVar 1) (Yr (tVar 0) tNil))) [.ref a] (ls.map V.int) (kyOf rk ls) H:=by
 intro i v H2 hx kp
 rw[List.getElem?_map] at hx
 cases e:ls[i]? with
 | none=>rw[e] at hx;cases hx
 | some l =>
  rw[e] at hx;cases hx
  have hb:=hl l (List.mem_of_getElem? e)
  have eg:ls.getD i 0=l:=by simp[List.getD,e]
  refine⟨_,rfl,_,rfl,a,rk,l,rfl,kp.seq hT hq,hb.1,hb.2,fun p hp=>⟨p,rfl,Same.new hp,?_⟩⟩
  rw[Ze]
  simp only [kyOf,eg]
def Y8 (rk ls:List Int):V->Prop
 | .non=>ls=[]
 | .int m=>m∈ls/\∀ l∈ls,l≠m->lt rk m l=true
 | _=>False
def q5:Str:=(("first_of" : Str) ++ ".<locals>.") ++ "<lambda>"
def Zd8 (K:PySem.W.Frag) (P5:Addr):Sp:=fun vs H Q _=>∃ a b rk ls,vs=[.ref a,.ref b]/\LI K H a rk/\LI K H b ls/\ls.Nodup/\(∀ l∈ls,0<=l/\l<rk.length)/\Tab H P5 (Zhg (top 21)) q5 /\
 ∀ x H',Kp P5 H H'->Tab H' P5 (Zhg (top 21)) q5->Y8 rk ls x->Q x H'
theorem sc5:FnScope ["ranks", "lines"] ["ranks", "lines"] (Zg (top 21)):=⟨rfl,rfl,rfl,by decide+kernel,rfl,by decide+kernel,by decide+kernel⟩
theorem Zhp {c5 P5:Addr}(D:DefC K mg "first_of" (top 21) ["ranks", "lines"] c5) (T:Txt K mg) (G:Fu P w K mg base CX0 1 "standing" ["ranks", "line"] (Zae K)) (hC:PySem.W.CodeHd base c5 P5) (hB:BMod mg base) :
  Fu P w K mg base CX0 4 "first_of" ["ranks", "lines"] (Zd8 K P5):=by
 refine D.fu sc5 (fun vs H Q E h=>?_) (fun f A outer s H vs Q E hr h=>?_)
 ·obtain⟨a,b,rk,ls,rfl,_⟩:=h
  rfl
 ·obtain⟨a,b,rk,ls,rfl,hqa,hqb,nd,hl,hT,k⟩:=h
  refine⟨_,Zf (Zj (Zo0 (k:=1) (P:=P5) (c:=c5) (p := "line") (fvs:=["ranks"]) (js:=[0]) (cl:=[("ranks",s.heap.objs.size+1)]) rfl hr T.min (pv 1) ?L fun f' c' A' s'' H'' hr'=>pc G hr' Zk (Za (pv 1) (Za (pv 0) Zc)))),?_⟩
  case L =>
   refine⟨⟨rfl,rfl,rfl,by decide+kernel,rfl,Zju _ _ (by decide+kernel),by decide+kernel⟩,rfl,hC,hB,rfl,rfl,fun _ _ _ _ _ _=>rfl,fun x hx=>?_,fun x y c h1 h2=>?_,fun x c h1=>?_,fun x hx=>?_,rfl⟩
   ·have e:x = "ranks" := by simpa using hx
    subst e
    exact⟨_,rfl,rfl⟩
   ·have e1:=PySem.mem_of_lookup h1
    have e2:=PySem.mem_of_lookup h2
    simp at e1 e2
    exact e1.1.trans e2.1.symm
   ·have e1:=PySem.mem_of_lookup h1
    simp at e1
    exact⟨"ranks",by rw[e1.2];rfl⟩
   ·have e:x = "ranks" := by simpa using hx
    subst e
    exact .inl rfl
  refine⟨_,rfl,b,ls.map V.int,[.ref a],kyOf rk ls,rfl,hqb,rfl,hT,by rw[List.length_map];exact Znh nd,Znl hqa hl hT,fun H2 i x kp hT2 hx hle=>?_,fun H2 kp hT2 e=>?_⟩
  ·rw[List.length_map] at hle
   rw[List.getElem?_map] at hx
   cases e:ls[i]? with
   | none=>rw[e] at hx;cases hx
   | some m =>
    rw[e] at hx;cases hx
    refine k _ H2 kp hT2 ⟨List.mem_of_getElem? e,fun l hml hne=>?_⟩
    obtain⟨j,hj,ej⟩:=List.getElem_of_mem hml
    have eg:ls.getD i 0=m:=by simp[List.getD,e]
    have egj:ls.getD j 0=l:=by simp[List.getD,hj,ej]
    have q:=hle.2 j hj fun z=>hne (by rw[← egj,← eg,z])
    have q':lt rk (ls.getD i 0) (ls.getD j 0)=true:=q
    rwa [eg,egj] at q'
  ·exact k .non H2 kp hT2 (show ls=[] by simpa using e)
def q4:Str:=(("in_order" : Str) ++ ".<locals>.") ++ "<lambda>"
def Za4 (K:PySem.W.Frag) (P4:Addr):Sp:=fun vs H Q _=>∃ a b rk ls,vs=[.ref a,.ref b]/\LI K H a rk/\LI K H b ls/\ls.Nodup/\(∀ l∈ls,0<=l/\l<rk.length)/\ls.length<64/\Tab H P4 (Zhg (top 20)) q4 /\
 ∀ D H' ys,Kp P4 H H'->Tab H' P4 (Zhg (top 20)) q4->H' D=none->Sorted rk ls ys->Q (.ref D) (upd H' D (.lst (ys.map V.int)))
theorem sc4:FnScope ["ranks", "lines"] ["ranks", "lines"] (Zg (top 20)):=⟨rfl,rfl,rfl,by decide+kernel,rfl,by decide+kernel,by decide+kernel⟩
theorem Zho {c4 P4:Addr}(D:DefC K mg "in_order" (top 20) ["ranks", "lines"] c4) (T:Txt K mg) (G:Fu P w K mg base CX0 1 "standing" ["ranks", "line"] (Zae K)) (hC:PySem.W.CodeHd base c4 P4) (hB:BMod mg base) :
  Fu P w K mg base CX0 5 "in_order" ["ranks", "lines"] (Za4 K P4):=by
 refine D.fu sc4 (fun vs H Q E h=>?_) (fun f A outer s H vs Q E hr h=>?_)
 ·obtain⟨a,b,rk,ls,rfl,_⟩:=h
  rfl
 ·obtain⟨a,b,rk,ls,rfl,hqa,hqb,nd,hl,h64,hT,k⟩:=h
  refine⟨_,Zf (Zj (Zg7 (k:=1) (P:=P4) (c:=c4) (p := "line") (fvs:=["ranks"]) (js:=[0]) (cl:=[("ranks",s.heap.objs.size+1)]) hr T.sorted (pv 1) ?L fun f' c' A' s'' H'' hr'=>pc G hr' Zk (Za (pv 1) (Za (pv 0) Zc)))),?_⟩
  case L =>
   refine⟨⟨rfl,rfl,rfl,by decide+kernel,rfl,Zju _ _ (by decide+kernel),by decide+kernel⟩,rfl,hC,hB,rfl,rfl,fun _ _ _ _ _ _=>rfl,fun x hx=>?_,fun x y c h1 h2=>?_,fun x c h1=>?_,fun x hx=>?_,rfl⟩
   ·have e:x = "ranks" := by simpa using hx
    subst e
    exact⟨_,rfl,rfl⟩
   ·have e1:=PySem.mem_of_lookup h1
    have e2:=PySem.mem_of_lookup h2
    simp at e1 e2
    exact e1.1.trans e2.1.symm
   ·have e1:=PySem.mem_of_lookup h1
    simp at e1
    exact⟨"ranks",by rw[e1.2];rfl⟩
   ·have e:x = "ranks" := by simpa using hx
    subst e
    exact .inl rfl
  refine⟨_,rfl,b,ls.map V.int,[.ref a],kyOf rk ls,rfl,hqb,by rw[List.length_map];exact h64,rfl,hT,by rw[List.length_map];exact Znh nd,Znl hqa hl hT,fun Dd H2 p kp hT2 nD ar u=>?_⟩
  rw[List.length_map] at ar u
  have e:(p.toList.map fun i=>(ls.map V.int).getD i .non)=(p.toList.map fun i=>ls.getD i 0).map V.int:=Zlv ls _ fun i hi=>by
   have:=(Array.perm_iff_toList_perm.mp ar.perm).mem_iff.mp hi
   simpa using this
  rw[e]
  exact k Dd H2 _ kp hT2 nD (Zii ar u)
end
end K10
namespace K10
open PySem L2 L3
def pf (r:Addr) (n:Int) (h b:Addr) (c l k:Int):List (Str × V):=[("ranks",.ref r),("many",.int n),("hung",.ref h),("book",.ref b),("came",.int c),("laid",.int l),("calls",.int k)]
section
variable {r h b h' b':Addr}{n c l k x:Int}
theorem Zbq:(pf r n h b c l k).length<1000:=by show 7<1000;decide
theorem Zld:putF "hung" (.ref h') (pf r n h b c l k)=pf r n h' b c l k:=by
 simp only [pf,putF]
 rw[if_neg (by decide),if_neg (by decide),if_pos trivial]
theorem Zlf:putF "book" (.ref b') (pf r n h b c l k)=pf r n h b' c l k:=by
 simp only [pf,putF]
 rw[if_neg (by decide),if_neg (by decide),if_neg (by decide),if_pos trivial]
theorem Zle:putF "came" (.int x) (pf r n h b c l k)=pf r n h b x l k:=by
 simp only [pf,putF]
 rw[if_neg (by decide),if_neg (by decide),if_neg (by decide),if_neg (by decide),if_pos trivial]
theorem Zlc:putF "laid" (.int x) (pf r n h b c l k)=pf r n h b c x k:=by
 simp only [pf,putF]
 rw[if_neg (by decide),if_neg (by decide),if_neg (by decide),if_neg (by decide),if_neg (by decide),if_pos trivial]
theorem Ziv:putF "calls" (.int x) (pf r n h b c l k)=pf r n h b c l x:=by
 simp only [pf,putF]
 rw[if_neg (by decide),if_neg (by decide),if_neg (by decide),if_neg (by decide),if_neg (by decide),if_neg (by decide),if_pos trivial]
end
structure PegsAt (C:Addr) (H:Hp) (p r h b:Addr) (rk:List Int) (n:Int) (hg bk:List Int) (c l k:Int):Prop where
 at_:∃ dx,H p=some (.ins C dx (pf r n h b c l k))
 rk:H r=some (.lst (rk.map V.int))
 hg:H h=some (.lst (hg.map V.int))
 bk:H b=some (.lst (bk.map V.int))
 rh:r≠h
 rb:r≠b
 hb:h≠b
theorem PegsAt.ne {C:Addr}{H:Hp}{p r h b:Addr}{rk:List Int}{n:Int}{hg bk:List Int}{c l k:Int}(A:PegsAt C H p r h b rk n hg bk c l k):r≠p/\h≠p/\b≠p:=by
 obtain⟨dx,e⟩:=A.at_
 exact⟨Yl A.rk e (by intro z;cases z),Yl A.hg e (by intro z;cases z),Yl A.bk e (by intro z;cases z)⟩
section
variable {C:Addr}{H H':Hp}{p r h b h1 b1 dx:Addr}{rk:List Int}{n:Int}{hg bk ys:List Int}{c l k x:Int}
theorem PegsAt.to (A:PegsAt C H p r h b rk n hg bk c l k) (kp:∀ a o,(a=p\/a=r\/a=h\/a=b)->H a=some o->H' a=some o):PegsAt C H' p r h b rk n hg bk c l k:=by
 obtain⟨dx,e⟩:=A.at_
 exact⟨⟨dx,kp _ _ (.inl rfl) e⟩,kp _ _ (.inr (.inl rfl)) A.rk,kp _ _ (.inr (.inr (.inl rfl))) A.hg,kp _ _ (.inr (.inr (.inr rfl))) A.bk,A.rh,A.rb,A.hb⟩
theorem PegsAt.newHung (A:PegsAt C H p r h b rk n hg bk c l k) (kr:H' r=some (.lst (rk.map V.int))) (kb:H' b=some (.lst (bk.map V.int))) (kh:H' h1=some (.lst (ys.map V.int))) (n1:h1≠p) (n2:r≠h1) (n3:h1≠b) :
  PegsAt C (upd H' p (.ins C dx (putF "hung" (.ref h1) (pf r n h b c l k)))) p r h1 b rk n ys bk c l k:=by
 obtain⟨z1,z2,z3⟩:=A.ne
 rw[Zld]
 exact⟨⟨dx,Ze⟩,by rw[Zb z1];exact kr,by rw[Zb n1];exact kh,by rw[Zb z3];exact kb,n2,A.rb,n3⟩
theorem PegsAt.newBook (A:PegsAt C H p r h b rk n hg bk c l k) (kr:H' r=some (.lst (rk.map V.int))) (kh:H' h=some (.lst (hg.map V.int))) (kb:H' b1=some (.lst (ys.map V.int))) (n1:b1≠p) (n2:r≠b1) (n3:h≠b1) :
  PegsAt C (upd H' p (.ins C dx (putF "book" (.ref b1) (pf r n h b c l k)))) p r h b1 rk n hg ys c l k:=by
 obtain⟨z1,z2,z3⟩:=A.ne
 rw[Zlf]
 exact⟨⟨dx,Ze⟩,by rw[Zb z1];exact kr,by rw[Zb z2];exact kh,by rw[Zb n1];exact kb,A.rh,n2,n3⟩
theorem PegsAt.newLaid (A:PegsAt C H p r h b rk n hg bk c l k):PegsAt C (upd H p (.ins C dx (putF "laid" (.int x) (pf r n h b c l k)))) p r h b rk n hg bk c x k:=by
 obtain⟨z1,z2,z3⟩:=A.ne
 rw[Zlc]
 exact⟨⟨dx,Ze⟩,by rw[Zb z1];exact A.rk,by rw[Zb z2];exact A.hg,by rw[Zb z3];exact A.bk,A.rh,A.rb,A.hb⟩
theorem PegsAt.newCame (A:PegsAt C H p r h b rk n hg bk c l k):PegsAt C (upd H p (.ins C dx (putF "came" (.int x) (pf r n h b c l k)))) p r h b rk n hg bk x l k:=by
 obtain⟨z1,z2,z3⟩:=A.ne
 rw[Zle]
 exact⟨⟨dx,Ze⟩,by rw[Zb z1];exact A.rk,by rw[Zb z2];exact A.hg,by rw[Zb z3];exact A.bk,A.rh,A.rb,A.hb⟩
theorem PegsAt.newCalls (A:PegsAt C H p r h b rk n hg bk c l k):PegsAt C (upd H p (.ins C dx (putF "calls" (.int x) (pf r n h b c l k)))) p r h b rk n hg bk c l x:=by
 obtain⟨z1,z2,z3⟩:=A.ne
 rw[Ziv]
 exact⟨⟨dx,Ze⟩,by rw[Zb z1];exact A.rk,by rw[Zb z2];exact A.hg,by rw[Zb z3];exact A.bk,A.rh,A.rb,A.hb⟩
theorem PegsAt.setHung (A:PegsAt C H p r h b rk n hg bk c l k):PegsAt C (upd H h (.lst (ys.map V.int))) p r h b rk n ys bk c l k:=by
 obtain⟨z1,z2,z3⟩:=A.ne
 obtain⟨dx,e⟩:=A.at_
 exact⟨⟨dx,by rw[Zb (Ne.symm z2)];exact e⟩,by rw[Zb A.rh];exact A.rk,Ze,by rw[Zb (Ne.symm A.hb)];exact A.bk,A.rh,A.rb,A.hb⟩
theorem PegsAt.setBook (A:PegsAt C H p r h b rk n hg bk c l k):PegsAt C (upd H b (.lst (ys.map V.int))) p r h b rk n hg ys c l k:=by
 obtain⟨z1,z2,z3⟩:=A.ne
 obtain⟨dx,e⟩:=A.at_
 exact⟨⟨dx,by rw[Zb (Ne.symm z3)];exact e⟩,by rw[Zb A.rb];exact A.rk,by rw[Zb A.hb];exact A.hg,Ze,A.rh,A.rb,A.hb⟩
theorem PegsAt.fresh (A:PegsAt C H p r h b rk n hg bk c l k) {x:Addr}(hx:H x=none):x≠p/\r≠x/\h≠x/\b≠x:=by
 obtain⟨dx,e⟩:=A.at_
 exact⟨Ne.symm (Zl e hx),Zl A.rk hx,Zl A.hg hx,Zl A.bk hx⟩
theorem PegsAt.new (A:PegsAt C H p r h b rk n hg bk c l k) {x:Addr}{o:HO}(hx:H x=none):PegsAt C (upd H x o) p r h b rk n hg bk c l k:=A.to fun a u _ e=>by
 rw[Zb (Zl e hx)];exact e
end
structure PTxt (K:PySem.W.Frag) (C:Addr):Prop where
 cl:Cls K C
 nR:NoAttr K C "ranks"
 nM:NoAttr K C "many"
 nH:NoAttr K C "hung"
 nB:NoAttr K C "book"
 nC:NoAttr K C "came"
 nL:NoAttr K C "laid"
 nK:NoAttr K C "calls"
section
variable {P:Program}{w:World}{K:PySem.W.Frag}{mg:Str->Option Value}{base:Heap}{C:Addr}
def mt (j:Nat):Stmt:=Zbm (top 41) j
def Zog (C:Addr):Sp:=fun vs H Q _=>∃ (p r h b:Addr) (rk:List Int) (n:Int) (hg bk:List Int) (c l k:Int),vs=[.ref p]/\PegsAt C H p r h b rk n hg bk c l k/\1<=n /\
 ∀ H' h' b',KeepBut [p] H H'->H h'=none->H b'=none->PegsAt C H' p r h' b' rk n (bk.take n.toNat) (bk.drop n.toNat) c (l+(bk.take n.toNat).length) k->Q .non H'
theorem Zs4:FnScope ["self"] ["self"] (Zg (mt 9)):=⟨rfl,rfl,rfl,by decide+kernel,rfl,by decide+kernel,by decide+kernel⟩
theorem Ztm (D:MDef K C "lay_from_book" "Pegs.lay_from_book" (mt 9) ["self"]) (T:Txt K mg) (TP:PTxt K C):FuM P w K mg base CX0 1 C "lay_from_book" ["self"] (Zog C):=by
 refine D.fu Zs4 (fun vs H Q E h=>?_) (fun f cdv A outer s H vs Q E hr h=>?_)
 ·obtain⟨p,r,h,b,rk,n,hg,bk,c,l,k,rfl,_⟩:=h
  rfl
 ·obtain⟨p,r,h,b,rk,n,hg,bk,c,l,k,rfl,A0,hn,kk⟩:=h
  refine⟨_,Zh (Yj (pv 0) (Jo Jm (Zt (pv 0) rfl) Zak (Jb (Zt (pv 0) rfl))) rfl)
   (Zh (Yj (pv 0) (Jo Jm (Zt (pv 0) rfl) (Jb (Zt (pv 0) rfl)) Zak) rfl)
   (Zf (Za6 (pv 0) (Yc T.len (Zt (pv 0) rfl)) Zgq))),?_⟩
  obtain⟨dx,e0⟩:=A0.at_
  refine⟨_,rfl,p,C,dx,_,_,rfl,e0,TP.cl,TP.nB,rfl,_,rfl,p,C,dx,_,_,rfl,e0,TP.cl,TP.nM,rfl,_,rfl,b,_,rfl,SqL.of A0.bk,fun h1 nh1=>?_⟩
  rw[Zkb bk (show (0:Int)<=n by omega)]
  obtain⟨f1,f2,f3,f4⟩:=A0.fresh nh1
  have A1:=A0.new (o:=.lst ((bk.take n.toNat).map V.int)) nh1
  have e1:upd H h1 (.lst ((bk.take n.toNat).map V.int)) p=some (.ins C dx (pf r n h b c l k)):=by rw[Zb (Ne.symm f1)];exact e0
  refine⟨_,rfl,p,C,dx,_,rfl,e1,TP.cl,TP.nH,Zbq,?_⟩
  have A2:=A1.newHung (dx:=dx) (h1:=h1) (ys:=bk.take n.toNat) A1.rk A1.bk Ze f1 f2 (Ne.symm f4)
  have K2:KeepBut [p] H (upd (upd H h1 (.lst ((bk.take n.toNat).map V.int))) p (.ins C dx (putF "hung" (.ref h1) (pf r n h b c l k)))):=((KeepBut.refl _ _).upd (.inr nh1)).upd (.inl (by simp))
  generalize upd (upd H h1 (.lst ((bk.take n.toNat).map V.int))) p (.ins C dx (putF "hung" (.ref h1) (pf r n h b c l k)))=H2 at A2 K2 ⊢
  obtain⟨dx2,e2⟩:=A2.at_
  refine⟨_,rfl,p,C,dx2,_,_,rfl,e2,TP.cl,TP.nB,rfl,_,rfl,p,C,dx2,_,_,rfl,e2,TP.cl,TP.nM,rfl,_,rfl,b,_,rfl,SqL.of A2.bk,fun b1 nb1=>?_⟩
  have nb0:H b1=none:=by
   cases z:H b1 with
   | none=>rfl
   | some o =>
    by_cases hp:b1=p
    ·rw[hp,e2] at nb1;cases nb1
    ·rw[K2 b1 o z (by simpa using hp)] at nb1;cases nb1
  rw[Ze1 bk (show (0:Int)<=n by omega)]
  obtain⟨g1,g2,g3,g4⟩:=A2.fresh nb1
  have A3:=A2.new (o:=.lst ((bk.drop n.toNat).map V.int)) nb1
  have e3:upd H2 b1 (.lst ((bk.drop n.toNat).map V.int)) p=some (.ins C dx2 (pf r n h1 b c l k)):=by rw[Zb (Ne.symm g1)];exact e2
  refine⟨_,rfl,p,C,dx2,_,rfl,e3,TP.cl,TP.nB,Zbq,?_⟩
  have A4:=A3.newBook (dx:=dx2) (b1:=b1) (ys:=bk.drop n.toNat) A3.rk A3.hg Ze g1 g2 g3
  have K4:KeepBut [p] H (upd (upd H2 b1 (.lst ((bk.drop n.toNat).map V.int))) p (.ins C dx2 (putF "book" (.ref b1) (pf r n h1 b c l k)))):=(K2.upd (.inr nb0)).upd (.inl (by simp))
  generalize upd (upd H2 b1 (.lst ((bk.drop n.toNat).map V.int))) p (.ins C dx2 (putF "book" (.ref b1) (pf r n h1 b c l k)))=H4 at A4 K4 ⊢
  obtain⟨dx4,e4⟩:=A4.at_
  refine⟨_,rfl,p,C,dx4,_,_,rfl,e4,TP.cl,TP.nL,rfl,_,rfl,p,C,dx4,_,_,rfl,e4,TP.cl,TP.nH,rfl,h1,_,rfl,.inl (SqL.of A4.hg),_,_,rfl,rfl,dx4,_,e4,Zbq,?_⟩
  rw[List.length_map]
  exact kk _ h1 b1 (K4.upd (.inl (by simp))) nh1 nb0 A4.newLaid
end
end K10
namespace K10
open PySem L2 L3
section
variable {P:Program}{w:World}{K:PySem.W.Frag}{mg:Str->Option Value}{base:Heap}{C:Addr}
def Zed (rk hg:List Int) (line:Int):Bool:=match hg.getLast? with|some x=>lt rk line x|none=>false
def Jq (rk:List Int) (n:Int) (hg bk:List Int) (line:Int):Bool:=Zed rk hg line||(bk.isEmpty&&decide ((hg.length:Int)<n))
def Zqo (C:Addr):Sp:=fun vs H Q _=>∃ (p r h b:Addr) (rk:List Int) (n:Int) (hg bk:List Int) (c l k line:Int),vs=[.ref p,.int line]/\PegsAt C H p r h b rk n hg bk c l k/\(0<=line/\line<rk.length)/\(∀ x∈hg,0<=x/\x<rk.length) /\
 ∀ H',Same H H'->Q (.bl (Jq rk n hg bk line)) H'
theorem sc7':FnScope ["self", "line"] ["self", "line"] (Zg (mt 7)):=⟨rfl,rfl,rfl,by decide+kernel,rfl,by decide+kernel,by decide+kernel⟩
theorem Zpa {hg:List Int}{x:Int}(h:hg.getLast?=some x):atI (hg.map V.int) (-1)=some (.int x):=by
 have hl:0<hg.length:=by
  cases hg with
  | nil=>cases h
  | cons y r=>simp
 have:=Zko (ns:=hg) (i:=-1) (by omega) (by omega)
 rw[this]
 have e:(-1+(hg.length:Int)).toNat=hg.length - 1:=by omega
 rw[e]
 rw[List.getLast?_eq_getElem?] at h
 simp[List.getD,h]
theorem Ztr (D:MDef K C "belongs_on_peg" "Pegs.belongs_on_peg" (mt 7) ["self", "line"]) (T:Txt K mg) (TP:PTxt K C) (GB:Fu P w K mg base CX0 2 "before" ["ranks", "one", "other"] (Zf9 K)):FuM P w K mg base CX0 3 C "belongs_on_peg" ["self", "line"] (Zqo C):=by
 refine D.fu sc7' (fun vs H Q E h=>?_) (fun f cdv A outer s H vs Q E hr h=>?_)
 ·obtain⟨p,r,h,b,rk,n,hg,bk,c,l,k,line,rfl,_⟩:=h
  rfl
 ·obtain⟨p,r,h,b,rk,n,hg,bk,c,l,k,line,rfl,A0,hl,hh,kk⟩:=h
  refine⟨_,Zh (Zn (Zb6 (Zfq (Zt (pv 0) rfl)) (Zar (Zz (pc GB hr Zk (Za (Zt (pv 0) rfl) (Za (pv 1) (Za (Zr Z9 (Zt (pv 0) rfl) (Zg6 Zcq Zd) (fun _ _=>rfl)) Zc))))))).pt (Zf (Zj Ye)) Zo)
   (Zf (Zj (Ys (Zi7 (Zt (pv 0) rfl)) (Yk (Y1 Zg8 (Yc T.len (Zt (pv 0) rfl)) (Zt (pv 0) rfl) (Zs _)))))),?_⟩
  obtain⟨dx,e0⟩:=A0.at_
  have tail:∀ H',Same H H'->Zed rk hg line=false->∀ σ:L2.St,σ=[some (.ref p),some (.int line)]->Zqj (fun σ H Q=>tFld K (tVar 0) "book" σ H fun x H1=>∃ k,TruV K x H1 k/\Q (.bl (!k)) H1) (fun σ H Q=>tCB (fun xs H Q=>∃ p ys,xs=[V.ref p]/\(SqL K H p ys\/SqT K H p ys)/\Q (.int ys.length) H) (Yr (tFld K (tVar 0) "hung") tNil) σ H fun x H1=>tFld K (tVar 0) "many" σ H1 fun y H2=>∃ i j,x=V.int i/\y=V.int j/\Q (.bl (decide (i<j))) H2) σ H' Q:=by
   intro H' sm hp σ hσ
   subst hσ
   have e1:=sm _ _ e0
   refine⟨_,rfl,p,C,dx,_,_,rfl,e1,TP.cl,TP.nB,rfl,_,Zaq (sm _ _ A0.bk),_,rfl,?_⟩
   have q:=kk H' sm
   unfold Jq at q
   rw[hp,Bool.false_or] at q
   cases bk with
   | nil =>
    refine iteT ?_
    refine⟨_,rfl,p,C,dx,_,_,rfl,e1,TP.cl,TP.nH,rfl,h,_,rfl,.inl (SqL.of (sm _ _ A0.hg)),_,rfl,p,C,dx,_,_,rfl,e1,TP.cl,TP.nM,rfl,_,_,rfl,rfl,?_⟩
    rw[List.length_map]
    exact q
   | cons x t=>exact iteF q
  refine⟨_,rfl,p,C,dx,_,_,rfl,e0,TP.cl,TP.nH,rfl,_,Zaq A0.hg,?_⟩
  cases hgl:hg.getLast? with
  | none =>
   have e:hg=[]:=List.getLast?_eq_none_iff.mp hgl
   subst e
   refine iteF (iteF ?_)
   exact tail H (Same.refl _) rfl _ rfl
  | some x =>
   have hx:x∈hg:=List.mem_of_getLast? hgl
   have e:hg.isEmpty=false:=by cases hg with|nil=>cases hgl|cons y t=>rfl
   rw[e]
   refine iteT ?_
   refine⟨_,rfl,p,C,dx,_,_,rfl,e0,TP.cl,TP.nR,rfl,_,rfl,_,rfl,p,C,dx,_,_,rfl,e0,TP.cl,TP.nH,rfl,_,rfl,h,_,_,_,rfl,rfl,SqL.of A0.hg,Zpa hgl,r,rk,_,_,rfl,SqL.of A0.rk,hl,hh x hx,fun H' sm=>?_⟩
   have hp:Zed rk hg line=lt rk line x:=by unfold Zed;rw[hgl]
   refine⟨_,rfl,?_⟩
   cases hlt:lt rk line x with
   | true =>
    refine iteT ?_
    have q:=kk H' sm
    unfold Jq at q
    rw[hp,hlt,Bool.true_or] at q
    exact q
   | false=>exact iteF (tail H' sm (by rw[hp,hlt]) _ rfl)
end
end K10
namespace K10
open PySem L2 L3
section
variable {P:Program}{w:World}{K:PySem.W.Frag}{mg:Str->Option Value}{base:Heap}{C P4:Addr}
abbrev TabO (H:Hp) (P4:Addr):Prop:=Tab H P4 (Zhg (top 20)) q4
theorem TabO.off {H:Hp}(t:TabO H P4) {x:Addr}{o:HO}(hx:∃ u,H x=some u/\∀ ps,u ≠ .tbl ps) (hc:∀ c q,H x≠some (Jj c q)):TabO (upd H x o) P4:=by
 obtain⟨u,e,hu⟩:=hx
 have h1:P4≠x:=Ne.symm (t.ne e hu)
 rcases t with t|⟨c,t,r⟩
 ·exact .inl (by rw[Zb h1];exact t)
 ·refine .inr ⟨c,by rw[Zb h1];exact t,?_⟩
  rw[Zb (fun z=>by rw[z] at r;exact hc _ _ r)]
  exact r
theorem TabO.lst {H:Hp}(t:TabO H P4) {x:Addr}{o:HO}{xs:List V}(e:H x=some (.lst xs)):TabO (upd H x o) P4:=t.off ⟨_,e,by intro ps z;cases z⟩ fun c q z=>by rw[e] at z;cases z
theorem TabO.ins {H:Hp}(t:TabO H P4) {x:Addr}{o:HO}{C dx:Addr}{fs:List (Str × V)}(e:H x=some (.ins C dx fs)):TabO (upd H x o) P4:=t.off ⟨_,e,by intro ps z;cases z⟩ fun c q z=>by rw[e] at z;cases z
theorem TabO.new {H:Hp}(t:TabO H P4) {x:Addr}{o:HO}(e:H x=none):TabO (upd H x o) P4:=t.same (Same.new e)
theorem PegsAt.kp {H H':Hp}{p r h b:Addr}{rk:List Int}{n:Int}{hg bk:List Int}{c l k:Int}(A:PegsAt C H p r h b rk n hg bk c l k) (t:TabO H P4) (kp:Kp P4 H H'):PegsAt C H' p r h b rk n hg bk c l k:=by
 obtain⟨dx,e⟩:=A.at_
 exact⟨⟨dx,kp _ _ e (t.ne e fun _ z=>by cases z)⟩,kp _ _ A.rk (t.ne A.rk fun _ z=>by cases z),kp _ _ A.hg (t.ne A.hg fun _ z=>by cases z),kp _ _ A.bk (t.ne A.bk fun _ z=>by cases z),A.rh,A.rb,A.hb⟩
theorem _root_.L3.KeepBut.none {S:List Addr}{H H':Hp}(k:KeepBut S H H') {x:Addr}(h:H' x=none) (hs:∀ y∈S,H' y≠none):H x=none:=by
 cases z:H x with
 | none=>rfl
 | some o =>
  by_cases hx:x∈S
  ·exact absurd h (hs x hx)
  ·rw[k x o z hx] at h;cases h
theorem PegsAt.some4 {H:Hp}{p r h b:Addr}{rk:List Int}{n:Int}{hg bk:List Int}{c l k:Int}(A:PegsAt C H p r h b rk n hg bk c l k) (t:TabO H P4):∀ y∈[p,h,b,P4],H y≠none:=by
 intro y hy
 obtain⟨dx,e⟩:=A.at_
 simp only [List.mem_cons,List.not_mem_nil,or_false] at hy
 rcases hy with rfl|rfl|rfl|rfl
 ·rw[e];simp
 ·rw[A.hg];simp
 ·rw[A.bk];simp
 ·rcases t with t|⟨_,t,_⟩<;>rw[t]<;>simp
def hg0 (n:Int) (hg:List Int):List Int:=if (hg.length:Int)=n then hg.dropLast else hg
def bk0 (n:Int) (hg bk:List Int):List Int:=if (hg.length:Int)=n then hg.getLast?.toList++bk else bk
def Zql (K:PySem.W.Frag) (C P4:Addr):Sp:=fun vs H Q _=>∃ (p r h b:Addr) (rk:List Int) (n:Int) (hg bk:List Int) (c l k line:Int),vs=[.ref p,.int line]/\PegsAt C H p r h b rk n hg bk c l k/\TabO H P4/\1<=n/\bk.length<1000 /\
 (hg0 n hg++[line]).Nodup/\(∀ x∈hg0 n hg++[line],0<=x/\x<rk.length)/\(hg0 n hg++[line]).length<64 /\
 ∀ H' h' ys,KeepBut [p,h,b,P4] H H'->H h'=none->TabO H' P4->Sorted rk (hg0 n hg++[line]) ys->PegsAt C H' p r h' b rk n ys (bk0 n hg bk) c (l+1) k->Q .non H'
theorem Zs3:FnScope ["self", "line"] ["self", "line"] (Zg (mt 8)):=⟨rfl,rfl,rfl,by decide+kernel,rfl,by decide+kernel,by decide+kernel⟩
theorem Ztn (D:MDef K C "lay" "Pegs.lay" (mt 8) ["self", "line"]) (T:Txt K mg) (TP:PTxt K C) (GO:Fu P w K mg base CX0 5 "in_order" ["ranks", "lines"] (Za4 K P4)):FuM P w K mg base CX0 6 C "lay" ["self", "line"] (Zql K C P4):=by
 refine D.fu Zs3 (fun vs H Q E h=>?_) (fun f cdv A outer s H vs Q E hr h=>?_)
 ·obtain⟨p,r,h,b,rk,n,hg,bk,c,l,k,line,rfl,_⟩:=h
  rfl
 ·obtain⟨p,r,h,b,rk,n,hg,bk,c,l,k,line,rfl,A0,t0,hn,hbl,nd,hrng,h64,kk⟩:=h
  refine⟨_,Zh (Zn (Zu Zy (Yc T.len (Zt (pv 0) rfl)) (Zt (pv 0) rfl) (Zs _))
    (Zf (Z8 (Jc PySem.F.plainAttrs_list PySem.F.slot_list_insert PySem.F.type_list_insert Zji (Zt (pv 0) rfl) (Za Zd (Za (Znf PySem.F.plainAttrs_list PySem.F.slot_list_pop PySem.F.type_list_pop Znj (Zt (pv 0) rfl)) Zc))))) Zo)
   (Zh (Yj (pv 0) (pc GO hr Zk (Za (Zt (pv 0) rfl) (Za (Zi Zbr (Zt (pv 0) rfl) (Z0 (Za (pv 1) Zc))) Zc))) rfl)
   (Zf (Za6 (pv 0) Zd Zgq))),?_⟩
  obtain⟨dx,e0⟩:=A0.at_
  refine⟨_,rfl,p,C,dx,_,_,rfl,e0,TP.cl,TP.nH,rfl,h,_,rfl,.inl (SqL.of A0.hg),_,rfl,p,C,dx,_,_,rfl,e0,TP.cl,TP.nM,rfl,rfl,_,rfl,?_⟩
  refine Zls (fun σ H1=>σ=[some (.ref p),some (.int line)]/\PegsAt C H1 p r h b rk n (hg0 n hg) (bk0 n hg bk) c l k/\KeepBut [p,h,b,P4] H H1/\TabO H1 P4) (fun hc rest=>?_) (fun hc=>?_) (fun σ H1 hM=>?_)
  ·have hc:=of_decide_eq_true hc
   have hlen:(hg.length:Int)=n:=by simpa using hc
   cases hgl:hg.getLast? with
   | none =>
    have e:hg=[]:=List.getLast?_eq_none_iff.mp hgl
    subst e
    simp at hlen
    omega
   | some x =>
    refine⟨_,rfl,p,C,dx,_,_,rfl,e0,TP.cl,TP.nB,rfl,.inl ⟨rfl,_,SqL.of A0.bk⟩,_,rfl,p,C,dx,_,_,rfl,e0,TP.cl,TP.nH,rfl,.inl ⟨rfl,_,SqL.of A0.hg⟩,h,_,.int x,rfl,rfl,A0.hg,?_,?_⟩
    ·rw[List.length_map,List.getElem?_map,← List.getLast?_eq_getElem?,hgl]
     rfl
    have A1:=A0.setHung (ys:=hg.dropLast)
    rw[← List.map_dropLast]
    refine⟨b,_,_,_,rfl,rfl,A1.bk,by rw[List.length_map,sizeLine_eq];omega,by omega,by omega,?_⟩
    have A2:=A1.setBook (ys:=x::bk)
    have ei:Zjr (bk.map V.int) (0:Int).toNat (.int x)=(x::bk).map V.int:=by simp[Zjr]
    rw[ei]
    refine rest _ _ ⟨rfl,?_,((KeepBut.refl _ _).upd (.inl (by simp))).upd (.inl (by simp)),(t0.lst A0.hg).lst A1.bk⟩
    have z1:hg0 n hg=hg.dropLast:=if_pos hlen
    have z2:bk0 n hg bk=x::bk:=by unfold bk0;rw[if_pos hlen,hgl];rfl
    rw[z1,z2]
    exact A2
  ·have hlen:(hg.length:Int)≠n:=fun z=>hc (decide_eq_true (by rw[List.length_map,z]))
   have z1:hg0 n hg=hg:=if_neg hlen
   have z2:bk0 n hg bk=bk:=if_neg hlen
   rw[z1,z2]
   exact⟨rfl,A0,KeepBut.refl _ _,t0⟩
  ·obtain⟨rfl,A1,K1,t1⟩:=hM
   obtain⟨dx1,e1⟩:=A1.at_
   refine⟨_,rfl,p,C,dx1,_,_,rfl,e1,TP.cl,TP.nR,rfl,_,rfl,p,C,dx1,_,_,rfl,e1,TP.cl,TP.nH,rfl,_,rfl,(by show 1<=sizeLine;decide),fun q1 nq1=>?_⟩
   have A2:=A1.new (o:=.lst [.int line]) nq1
   have t2:=t1.new (o:=.lst [.int line]) nq1
   have lz:(hg0 n hg).length<64:=by rw[List.length_append] at h64;omega
   refine⟨h,q1,_,_,rfl,rfl,A2.hg,Ze,by rw[List.length_map,sizeLine_eq];show _+1<=_;omega,fun q2 nq2=>?_⟩
   have A3:=A2.new (o:=.lst ((hg0 n hg).map V.int++[.int line])) nq2
   have t3:=t2.new (o:=.lst ((hg0 n hg).map V.int++[.int line])) nq2
   refine⟨r,q2,rk,hg0 n hg++[line],rfl,SqL.of A3.rk,SqL.of (Ze.trans (by simp)),nd,hrng,h64,t3,fun Dn H5 ys kp t5 nD so=>?_⟩
   have A4:=A3.kp t3 kp
   have K5:KeepBut [p,h,b,P4] H H5:=K1.trans ((((KeepBut.refl _ _).upd (.inr nq1)).trans ((KeepBut.refl _ _).upd (.inr nq2))).trans (KeepBut.kp kp (by simp)))
   have nD0:H Dn=none:=K5.none nD (A4.some4 t5)
   obtain⟨f1,f2,f3,f4⟩:=A4.fresh nD
   have A5:=A4.new (o:=.lst (ys.map V.int)) nD
   obtain⟨dx5,e5⟩:=A5.at_
   refine⟨_,rfl,p,C,dx5,_,rfl,e5,TP.cl,TP.nH,Zbq,?_⟩
   have A6:=A5.newHung (dx:=dx5) (h1:=Dn) (ys:=ys) A5.rk A5.bk Ze f1 f2 (Ne.symm f4)
   have t6:=(TabO.new t5 (o:=.lst (ys.map V.int)) nD).ins (o:=.ins C dx5 (putF "hung" (.ref Dn) (pf r n h b c l k))) e5
   have K6:KeepBut [p,h,b,P4] H (upd (upd H5 Dn (.lst (ys.map V.int))) p (.ins C dx5 (putF "hung" (.ref Dn) (pf r n h b c l k)))):=(K5.upd (.inr nD0)).upd (.inl (by simp))
   obtain⟨dx6,e6⟩:=A6.at_
   refine⟨_,rfl,p,C,dx6,_,_,rfl,e6,TP.cl,TP.nL,rfl,_,_,rfl,rfl,dx6,_,e6,Zbq,?_⟩
   exact kk _ Dn ys (K6.upd (.inl (by simp))) nD0 (t6.ins e6) so A6.newLaid
end
end K10
namespace K10
open PySem L2 L3
section
variable {P:Program}{w:World}{K:PySem.W.Frag}{mg:Str->Option Value}{base:Heap}{C P4:Addr}
def Zml (rk:List Int) (n:Int) (hg bk:List Int) (line l:Int) (hg' bk':List Int) (l':Int):Prop :=
 (Jq rk n hg bk line=true/\Sorted rk (hg0 n hg++[line]) hg'/\bk'=bk0 n hg bk/\l'=l+1)\/(Jq rk n hg bk line=false/\hg'=hg/\Sorted rk (bk++[line]) bk'/\l'=l)
def Zm1 (K:PySem.W.Frag) (C P4:Addr):Sp:=fun vs H Q _=>∃ (p r h b:Addr) (rk:List Int) (n:Int) (hg bk:List Int) (c l k line:Int),vs=[.ref p,.int line]/\PegsAt C H p r h b rk n hg bk c l k/\TabO H P4/\1<=n /\
 (line::(hg++bk)).Nodup/\(∀ x∈line::(hg++bk),0<=x/\x<rk.length)/\(hg++bk).length<63 /\
 ∀ H' h' b' hg' bk' l',KeepBut [p,h,b,P4] H H'->(h'=h\/H h'=none)->(b'=b\/H b'=none)->TabO H' P4->Zml rk n hg bk line l hg' bk' l'->PegsAt C H' p r h' b' rk n hg' bk' (c+1) l' k->Q .non H'
theorem Zqu:FnScope ["self", "line"] ["self", "line"] (Zg (mt 1)):=⟨rfl,rfl,rfl,by decide+kernel,rfl,by decide+kernel,by decide+kernel⟩
theorem Zjs (n:Int) (hg:List Int):(hg0 n hg).Sublist hg:=by
 unfold hg0
 split
 ·exact List.dropLast_sublist _
 ·exact List.Sublist.refl _
theorem Zr9 (D:MDef K C "come" "Pegs.come" (mt 1) ["self", "line"]) (T:Txt K mg) (TP:PTxt K C) (GO:Fu P w K mg base CX0 5 "in_order" ["ranks", "lines"] (Za4 K P4)) (GB:FuM P w K mg base CX0 3 C "belongs_on_peg" ["self", "line"] (Zqo C))
  (GL:FuM P w K mg base CX0 6 C "lay" ["self", "line"] (Zql K C P4)):FuM P w K mg base CX0 7 C "come" ["self", "line"] (Zm1 K C P4):=by
 refine D.fu Zqu (fun vs H Q E h=>?_) (fun f cdv A outer s H vs Q E hr h=>?_)
 ·obtain⟨p,r,h,b,rk,n,hg,bk,c,l,k,line,rfl,_⟩:=h
  rfl
 ·obtain⟨p,r,h,b,rk,n,hg,bk,c,l,k,line,rfl,A0,t0,hn,nd,hrng,h63,kk⟩:=h
  refine⟨_,Zh (Za6 (pv 0) Zd Zgq)
   (Zf (Zn (Zz (pm GB TP.cl hr Zk (pv 0) (Za (pv 1) Zc))) (Zf (Z8 (pm GL TP.cl hr Zk (pv 0) (Za (pv 1) Zc))))
     (Zf (Yj (pv 0) (pc GO hr Zk (Za (Zt (pv 0) rfl) (Za (Zi Zbr (Zt (pv 0) rfl) (Z0 (Za (pv 1) Zc))) Zc))) rfl)))),?_⟩
  obtain⟨dx,e0⟩:=A0.at_
  have hline:0<=line/\line<rk.length:=hrng line (by simp)
  have hrh:∀ x∈hg,0<=x/\x<rk.length:=fun x hx=>hrng x (by simp[hx])
  refine⟨_,rfl,p,C,dx,_,_,rfl,e0,TP.cl,TP.nC,rfl,_,_,rfl,rfl,dx,_,e0,Zbq,?_⟩
  have A1:=A0.newCame (dx:=dx) (x:=c+1)
  have t1:=t0.ins (o:=.ins C dx (putF "came" (.int (c+1)) (pf r n h b c l k))) e0
  have K1:KeepBut [p,h,b,P4] H (upd H p (.ins C dx (putF "came" (.int (c+1)) (pf r n h b c l k)))):=(KeepBut.refl _ _).upd (.inl (by simp))
  generalize upd H p (.ins C dx (putF "came" (.int (c+1)) (pf r n h b c l k)))=H1 at A1 t1 K1 ⊢
  obtain⟨dx1,e1⟩:=A1.at_
  refine⟨_,rfl,p,dx1,_,rfl,e1,rfl,_,rfl,p,r,h,b,rk,n,hg,bk,c+1,l,k,line,rfl,A1,hline,hrh,fun H2 sm=>⟨_,rfl,?_⟩⟩
  have A2:=A1.to (H':=H2) fun a o _ e=>sm a o e
  have t2:=t1.same sm
  have K2:KeepBut [p,h,b,P4] H H2:=K1.trans fun x o e _=>sm x o e
  obtain⟨dx2,e2⟩:=A2.at_
  cases ho:Jq rk n hg bk line with
  | true =>
   refine iteT ?_
   have hsub:=Zjs n hg
   have nd':=List.nodup_cons.mp nd
   have ndh:hg.Nodup:=(List.nodup_append.mp nd'.2).1
   refine⟨_,rfl,p,dx2,_,rfl,e2,rfl,_,rfl,p,r,h,b,rk,n,hg,bk,c+1,l,k,line,rfl,A2,t2,hn,by rw[List.length_append] at h63;omega,?_,fun x hx=>?_,?_,fun H3 h3 ys K3 nh3 t3 so A3=>?_⟩
   ·refine List.nodup_append.mpr ⟨ndh.sublist hsub,by simp,fun x hx y hy=>?_⟩
    have:y=line:=by simpa using hy
    subst this
    intro z
    subst z
    exact nd'.1 (by simp[hsub.subset hx])
   ·rcases List.mem_append.mp hx with hx|hx
    ·exact hrh x (hsub.subset hx)
    ·have:x=line:=by simpa using hx
     rw[this];exact hline
   ·rw[List.length_append] at h63 ⊢
    have:=hsub.length_le
    show _+1<_
    omega
   ·refine kk H3 h3 b ys _ _ (K2.trans K3) (.inr (K2.none nh3 (A2.some4 t2))) (.inl rfl) t3 (.inl ⟨ho,so,rfl,rfl⟩) A3
  | false =>
   refine iteF ?_
   refine⟨_,rfl,p,C,dx2,_,_,rfl,e2,TP.cl,TP.nR,rfl,_,rfl,p,C,dx2,_,_,rfl,e2,TP.cl,TP.nB,rfl,_,rfl,(by show 1<=sizeLine;decide),fun q1 nq1=>?_⟩
   have A3:=A2.new (o:=.lst [.int line]) nq1
   have t3:=TabO.new t2 (o:=.lst [.int line]) nq1
   have lz:bk.length<63:=by rw[List.length_append] at h63;omega
   refine⟨b,q1,_,_,rfl,rfl,A3.bk,Ze,by rw[List.length_map,sizeLine_eq];show _+1<=_;omega,fun q2 nq2=>?_⟩
   have A4:=A3.new (o:=.lst (bk.map V.int++[.int line])) nq2
   have t4:=TabO.new t3 (o:=.lst (bk.map V.int++[.int line])) nq2
   have nd':=List.nodup_cons.mp nd
   have ndb:bk.Nodup:=(List.nodup_append.mp nd'.2).2.1
   refine⟨r,q2,rk,bk++[line],rfl,SqL.of A4.rk,SqL.of (Ze.trans (by simp)),?_,fun x hx=>?_,by rw[List.length_append];show _+1<_;omega,t4,fun Dn H5 ys kp t5 nD so=>?_⟩
   ·refine List.nodup_append.mpr ⟨ndb,by simp,fun x hx y hy=>?_⟩
    have:y=line:=by simpa using hy
    subst this
    intro z
    subst z
    exact nd'.1 (by simp[hx])
   ·rcases List.mem_append.mp hx with hx|hx
    ·exact hrng x (by simp[hx])
    ·have:x=line:=by simpa using hx
     rw[this];exact hline
   have A5:=A4.kp t4 kp
   have K5:KeepBut [p,h,b,P4] H H5:=K2.trans ((((KeepBut.refl _ _).upd (.inr nq1)).trans ((KeepBut.refl _ _).upd (.inr nq2))).trans (KeepBut.kp kp (by simp)))
   have nD0:H Dn=none:=K5.none nD (A5.some4 t5)
   obtain⟨f1,f2,f3,f4⟩:=A5.fresh nD
   have A6:=A5.new (o:=.lst (ys.map V.int)) nD
   obtain⟨dx6,e6⟩:=A6.at_
   refine⟨_,rfl,p,C,dx6,_,rfl,e6,TP.cl,TP.nB,Zbq,?_⟩
   have A7:=A6.newBook (dx:=dx6) (b1:=Dn) (ys:=ys) A6.rk A6.hg Ze f1 f2 f3
   exact kk _ h Dn hg ys l ((K5.upd (.inr nD0)).upd (.inl (by simp))) (.inl rfl) (.inr nD0) (TabO.ins (TabO.new t5 nD) e6) (.inr ⟨ho,rfl,so,rfl⟩) A7
def hg1 (hg:List Int) (line:Int):List Int:=if line∈hg then Yv line hg else hg
def bk1 (hg bk:List Int) (line:Int):List Int:=if line∈hg then bk else Yv line bk
def GoR (n:Int) (hg bk:List Int) (line l k:Int) (hg' bk':List Int) (l' k':Int):Prop :=
 (bk1 hg bk line≠[]/\hg1 hg line=[]/\hg'=(bk1 hg bk line).take n.toNat/\bk'=(bk1 hg bk line).drop n.toNat/\l'=l+hg'.length/\k'=k+1) \/
 (¬ (bk1 hg bk line≠[]/\hg1 hg line=[])/\hg'=hg1 hg line/\bk'=bk1 hg bk line/\l'=l/\k'=k)
def spGo (C:Addr):Sp:=fun vs H Q _=>∃ (p r h b:Addr) (rk:List Int) (n:Int) (hg bk:List Int) (c l k line:Int),vs=[.ref p,.int line]/\PegsAt C H p r h b rk n hg bk c l k/\1<=n/\(line∈hg\/line∈bk) /\
 ∀ H' h' b' hg' bk' l' k',KeepBut [p,h,b] H H'->(h'=h\/H h'=none)->(b'=b\/H b'=none)->GoR n hg bk line l k hg' bk' l' k'->PegsAt C H' p r h' b' rk n hg' bk' c l' k'->Q .non H'
theorem scGo:FnScope ["self", "line"] ["self", "line"] (Zg (mt 2)):=⟨rfl,rfl,rfl,by decide+kernel,rfl,by decide+kernel,by decide+kernel⟩
theorem Zgr (n:Int) (ns:List Int):inV (.int n) (ns.map V.int)=decide (n∈ns):=by
 unfold inV
 rw[List.any_map,Bool.eq_iff_iff,List.any_eq_true,decide_eq_true_iff]
 constructor
 ·rintro⟨m,hm,e⟩
  have e':(m == n)=true:=e
  rw[← beq_iff_eq.mp e']
  exact hm
 ·intro h
  exact⟨n,h,by show (n == n)=true;simp⟩
theorem Zeu (ns:List Int):(ns.map V.int).all Zdx=true:=by
 rw[List.all_map,List.all_eq_true]
 intro _ _
 rfl
theorem f_go (D:MDef K C "go" "Pegs.go" (mt 2) ["self", "line"]) (TP:PTxt K C) (GF:FuM P w K mg base CX0 1 C "lay_from_book" ["self"] (Zog C)):FuM P w K mg base CX0 2 C "go" ["self", "line"] (spGo C):=by
 refine D.fu scGo (fun vs H Q E h=>?_) (fun f cdv A outer s H vs Q E hr h=>?_)
 ·obtain⟨p,r,h,b,rk,n,hg,bk,c,l,k,line,rfl,_⟩:=h
  rfl
 ·obtain⟨p,r,h,b,rk,n,hg,bk,c,l,k,line,rfl,A0,hn,hin,kk⟩:=h
  refine⟨_,Zh (Zn (Zu Zef (pv 1) (Zt (pv 0) rfl) (by with_unfolding_all rfl))
    (Zf (Z8 (Jc PySem.F.plainAttrs_list PySem.F.slot_list_remove PySem.F.type_list_remove Zeg (Zt (pv 0) rfl) (Za (pv 1) Zc))))
    (Zf (Z8 (Jc PySem.F.plainAttrs_list PySem.F.slot_list_remove PySem.F.type_list_remove Zeg (Zt (pv 0) rfl) (Za (pv 1) Zc)))))
   (Zf (Zn (Zb6 (Zfq (Zt (pv 0) rfl)) (Zar (Yh (Zfq (Zt (pv 0) rfl))))).pt (Zh (Za6 (pv 0) Zd Zgq) (Zf (Z8 (pm0 GF TP.cl hr Zk (pv 0))))) Zo)),?_⟩
  obtain⟨dx,e0⟩:=A0.at_
  refine⟨_,rfl,_,rfl,p,C,dx,_,_,rfl,e0,TP.cl,TP.nH,rfl,h,_,rfl,.inl (SqL.of A0.hg),rfl,Zeu _,_,rfl,?_⟩
  rw[Zgr]
  refine' Zpe (fun H1=>PegsAt C H1 p r h b rk n (hg1 hg line) (bk1 hg bk line) c l k/\KeepBut [p,h,b] H H1) _ ?h1 ?h2 ?h3
  case h1 =>
   intro hc rest
   have hm:line∈hg:=of_decide_eq_true hc
   refine⟨_,rfl,p,C,dx,_,_,rfl,e0,TP.cl,TP.nH,rfl,.inl ⟨rfl,_,SqL.of A0.hg⟩,_,rfl,h,hg,line,rfl,rfl,A0.hg,hm,?_⟩
   refine rest _ ?_
   refine⟨?_,(KeepBut.refl _ _).upd (.inl (by simp))⟩
   have z1:hg1 hg line=Yv line hg:=if_pos hm
   have z2:bk1 hg bk line=bk:=if_pos hm
   rw[z1,z2]
   exact A0.setHung
  case h2 =>
   intro hc rest
   have hm:line∉hg:=fun z=>hc (decide_eq_true z)
   refine⟨_,rfl,p,C,dx,_,_,rfl,e0,TP.cl,TP.nB,rfl,.inl ⟨rfl,_,SqL.of A0.bk⟩,_,rfl,b,bk,line,rfl,rfl,A0.bk,hin.resolve_left hm,?_⟩
   refine rest _ ?_
   refine⟨?_,(KeepBut.refl _ _).upd (.inl (by simp))⟩
   have z1:hg1 hg line=hg:=if_neg hm
   have z2:bk1 hg bk line=Yv line bk:=if_neg hm
   rw[z1,z2]
   exact A0.setBook
  case h3 =>
   rintro H1 ⟨A1,K1⟩
   obtain⟨dx1,e1⟩:=A1.at_
   refine⟨_,rfl,p,C,dx1,_,_,rfl,e1,TP.cl,TP.nB,rfl,_,Zaq A1.bk,?_⟩
   cases hb:bk1 hg bk line with
   | nil =>
    refine iteF (iteF ?_)
    rw[hb] at A1
    exact kk H1 h b _ _ _ _ K1 (.inl rfl) (.inl rfl) (.inr ⟨fun z=>z.1 hb,rfl,hb.symm,rfl,rfl⟩) A1
   | cons x t =>
    refine iteT ?_
    refine⟨_,rfl,p,C,dx1,_,_,rfl,e1,TP.cl,TP.nH,rfl,_,Zaq A1.hg,?_⟩
    have hb':bk1 hg bk line≠[]:=by rw[hb];simp
    cases hh:hg1 hg line with
    | cons y u =>
     refine iteF ?_
     rw[hh] at A1
     exact kk H1 h b _ _ _ _ K1 (.inl rfl) (.inl rfl) (.inr ⟨fun z=>(by rw[hh] at z;cases z.2),hh.symm,rfl,rfl,rfl⟩) A1
    | nil =>
     refine iteT ?_
     refine⟨_,rfl,p,C,dx1,_,_,rfl,e1,TP.cl,TP.nK,rfl,_,_,rfl,rfl,dx1,_,e1,Zbq,?_⟩
     have A2:=A1.newCalls (dx:=dx1) (x:=k+1)
     obtain⟨dx2,e2⟩:=A2.at_
     have K2:KeepBut [p,h,b] H (upd H1 p (.ins C dx1 (putF "calls" (.int (k+1)) (pf r n h b c l k)))):=K1.upd (.inl (by simp))
     refine⟨_,rfl,p,dx2,_,rfl,e2,rfl,p,r,h,b,rk,n,_,_,c,l,k+1,rfl,A2,hn,fun H3 h3 b3 K3 nh nb A3=>?_⟩
     have s3:∀ y∈[p,h,b],upd H1 p (.ins C dx1 (putF "calls" (.int (k+1)) (pf r n h b c l k))) y≠none:=by
      intro y hy
      simp only [List.mem_cons,List.not_mem_nil,or_false] at hy
      rcases hy with rfl|rfl|rfl
      ·rw[e2];simp
      ·rw[A2.hg];simp
      ·rw[A2.bk];simp
     exact kk H3 h3 b3 _ _ _ _ (K2.trans (K3.more (by simp))) (.inr (K2.none nh s3)) (.inr (K2.none nb s3)) (.inl ⟨hb',hh,rfl,rfl,rfl,rfl⟩) A3
end
end K10
namespace K10
open PySem L2 L3
section
variable {P:Program}{w:World}{K:PySem.W.Frag}{mg:Str->Option Value}{base:Heap}{C P4 CN:Addr}
def Zif (K:PySem.W.Frag):Sp:=fun vs H Q _=>∃ x b,vs=[x]/\WholeV K H x b/\((b=true/\∃ i,x=.int i/\Q (.bl (decide (1<=i)&&decide (i<=16))) H)\/(b=false/\Q (.bl false) H))
theorem Zs6:FnScope ["thing"] ["thing"] (Zg (top 40)):=⟨rfl,rfl,rfl,by decide+kernel,rfl,by decide+kernel,by decide+kernel⟩
theorem Zpu (D:Def K mg "is_count_of_pegs" (top 40) ["thing"]) (GW:Fu P w K mg base CX0 1 "is_whole" ["thing"] (Zb1 K)) {u:Value}(hm:mg "MOST_PEGS" = some u) (hu:RelV (.int 16) u):Fu P w K mg base CX0 2 "is_count_of_pegs" ["thing"] (Zif K):=by
 refine D.fu Zs6 (fun vs H Q E h=>?_) (fun f cdv A outer s H vs Q E hr h=>?_)
 ·obtain⟨x,b,rfl,_⟩:=h
  rfl
 ·obtain⟨x,b,rfl,wv,hq⟩:=h
  refine⟨_,Zf (Zj (Ys (pc GW hr Zk (Za (pv 0) Zc)) (Yk (Zdo Zg9 Zg9 Zd (pv 0) (Zbl rfl hm hu))))),?_⟩
  refine⟨_,rfl,x,b,rfl,wv,b,rfl,?_⟩
  rcases hq with ⟨rfl,i,rfl,q⟩|⟨rfl,q⟩
  ·refine iteT ⟨_,rfl,_,_,rfl,rfl,_,rfl,?_⟩
   cases h1:decide ((1:Int)<=i) with
   | true =>
    rw[h1,Bool.true_and] at q
    exact iteT ⟨_,_,rfl,rfl,q⟩
   | false =>
    rw[h1,Bool.false_and] at q
    exact iteF q
  ·exact iteF q
theorem Ztc {r h b:Addr}{n c l k:Int}:putF "calls" (.int k) (putF "laid" (.int l) (putF "came" (.int c) (putF "book" (.ref b) (putF "hung" (.ref h) (putF "many" (.int n) (putF "ranks" (.ref r) []))))))=pf r n h b c l k:=by
 simp only [putF]
 repeat rw[if_neg (by decide)]
 rfl
def Zic (K:PySem.W.Frag) (C P4 CN:Addr):Sp:=fun vs H Q E=>∃ (p:Addr) (ra mv la:V),vs=[.ref p,ra,mv,la]/\(∃ dx,H p=some (.ins C dx [])) /\
 ((∃ (n:Int) (a1 a2:Addr) (rk ls:List Int),mv=.int n/\1<=n/\n<=16/\ra=.ref a1/\la=.ref a2/\LI K H a1 rk/\LI K H a2 ls/\ls.Nodup/\(∀ x∈ls,0<=x/\x<rk.length)/\ls.length<64/\TabO H P4 /\
   ∀ H' r h b ys,KeepBut [p,P4] H H'->H r=none->H h=none->H b=none->TabO H' P4->Sorted rk ls ys->PegsAt C H' p r h b rk n (ys.take n.toNat) (ys.drop n.toNat) ys.length ((ys.take n.toNat).length) 0->Q .non H') \/
  (∃ b,WholeV K H mv b/\(b=true->∃ i,mv=.int i/\¬ (1<=i/\i<=16))/\E (.ref CN) none H))
theorem Zom:FnScope ["self", "ranks", "many", "lines"] ["self", "ranks", "many", "lines"] (Zg (mt 0)):=⟨rfl,rfl,rfl,by decide+kernel,rfl,by decide+kernel,by decide+kernel⟩
theorem Zpr (D:KDef K C "Pegs.__init__" (mt 0) ["self", "ranks", "many", "lines"]) (T:Txt K mg) (TP:PTxt K C) (XN:ExcC K mg "NoPegs" CN) (GC:Fu P w K mg base CX0 2 "is_count_of_pegs" ["thing"] (Zif K)) (GO:Fu P w K mg base CX0 5 "in_order" ["ranks", "lines"] (Za4 K P4))
  (GF:FuM P w K mg base CX0 1 C "lay_from_book" ["self"] (Zog C)):FuK P w K mg base (CX1 P w) 6 C ["self", "ranks", "many", "lines"] (Zic K C P4 CN):=by
 refine D.fux Zom (fun vs H Q E h=>?_) (fun f cdv A outer s H vs Q E hr h=>?_)
 ·obtain⟨p,ra,mv,la,rfl,_⟩:=h
  rfl
 ·obtain⟨p,ra,mv,la,rfl,⟨dx,e0⟩,hq⟩:=h
  refine⟨_,Zh (Zn (Yh (Zz (pc GC hr Zk (Za (pv 2) Zc)))) (Zf (Zdj XN hr.hd (Za Zq Zc))) Zo)
   (Zh (Yj (pv 0) (Jd T.list (pv 1)) rfl)
   (Zh (Yj (pv 0) (pv 2) rfl)
   (Zh (Yj (pv 0) (Z0 Zc) rfl)
   (Zh (Yj (pv 0) (pc GO hr Zk (Za (Zt (pv 0) rfl) (Za (pv 3) Zc))) rfl)
   (Zh (Yj (pv 0) (Yc T.len (Zt (pv 0) rfl)) rfl)
   (Zh (Yj (pv 0) Zd rfl)
   (Zh (Yj (pv 0) Zd rfl)
   (Zf (Z8 (pm0 GF TP.cl hr Zk (pv 0))))))))))),?_⟩
  rcases hq with ⟨n,a1,a2,rk,ls,rfl,hn1,hn2,rfl,rfl,hq1,hq2,nd,hrng,h64,t0,kk⟩|⟨b,wv,hb,hE⟩
  ·refine⟨_,rfl,_,_,rfl,Zbw n,.inl ⟨rfl,n,rfl,_,rfl,?_⟩⟩
   have z:(decide (1<=n)&&decide (n<=16))=true:=by rw[decide_eq_true hn1,decide_eq_true hn2];rfl
   rw[z]
   refine iteF ?_
   refine⟨_,rfl,a1,_,rfl,.inl hq1,fun r nr=>?_⟩
   have ne1:p≠r:=Zl e0 nr
   refine⟨_,rfl,p,C,dx,_,rfl,by rw[Zb ne1];exact e0,TP.cl,TP.nR,by show 0<1000;decide,?_⟩
   have K1:KeepBut [p,P4] H (upd (upd H r (.lst (rk.map V.int))) p (.ins C dx (putF "ranks" (.ref r) []))):=((KeepBut.refl _ _).upd (.inr nr)).upd (.inl (by simp))
   have r1:upd (upd H r (.lst (rk.map V.int))) p (.ins C dx (putF "ranks" (.ref r) [])) r=some (.lst (rk.map V.int)):=by rw[Zb (Ne.symm ne1)];exact Ze
   have t1:TabO (upd (upd H r (.lst (rk.map V.int))) p (.ins C dx (putF "ranks" (.ref r) []))) P4:=TabO.ins (TabO.new t0 nr) (by rw[Zb ne1];exact e0)
   have e1:upd (upd H r (.lst (rk.map V.int))) p (.ins C dx (putF "ranks" (.ref r) [])) p=some (.ins C dx (putF "ranks" (.ref r) [])):=Ze
   generalize upd (upd H r (.lst (rk.map V.int))) p (.ins C dx (putF "ranks" (.ref r) []))=H1 at K1 r1 t1 e1 ⊢
   refine⟨_,rfl,_,rfl,p,C,dx,_,rfl,e1,TP.cl,TP.nM,by show 1<1000;decide,?_⟩
   have K2:=K1.upd (x:=p) (o:=.ins C dx (putF "many" (.int n) (putF "ranks" (.ref r) []))) (.inl (by simp))
   have r2:upd H1 p (.ins C dx (putF "many" (.int n) (putF "ranks" (.ref r) []))) r=some (.lst (rk.map V.int)):=by rw[Zb (Ne.symm ne1)];exact r1
   have t2:=t1.ins (o:=.ins C dx (putF "many" (.int n) (putF "ranks" (.ref r) []))) e1
   have e2:upd H1 p (.ins C dx (putF "many" (.int n) (putF "ranks" (.ref r) []))) p=some (.ins C dx (putF "many" (.int n) (putF "ranks" (.ref r) []))):=Ze
   generalize upd H1 p (.ins C dx (putF "many" (.int n) (putF "ranks" (.ref r) [])))=H2 at K2 r2 t2 e2 ⊢
   refine⟨(by show 0<=sizeLine;decide),fun h0 nh0=>?_⟩
   have ne2:p≠h0:=Zl e2 nh0
   have ne3:r≠h0:=Zl r2 nh0
   refine⟨_,rfl,p,C,dx,_,rfl,by rw[Zb ne2];exact e2,TP.cl,TP.nH,by show 2<1000;decide,?_⟩
   have st:∀ {Hx:Hp} {fs:List (Str × V)},TabO Hx P4->Hx p=some (.ins C dx fs)->∀ y∈[p,P4],Hx y≠none:=fun {Hx fs} t e y hy=>by
    simp only [List.mem_cons,List.not_mem_nil,or_false] at hy
    rcases hy with rfl|rfl
    ·rw[e];simp
    ·rcases t with t|⟨_,t,_⟩<;>rw[t]<;>simp
   have nh:H h0=none:=K2.none nh0 (st t2 e2)
   have K3:KeepBut [p,P4] H (upd (upd H2 h0 (.lst [])) p (.ins C dx (putF "hung" (.ref h0) (putF "many" (.int n) (putF "ranks" (.ref r) []))))):=(K2.upd (.inr nh)).upd (.inl (by simp))
   have r3:upd (upd H2 h0 (.lst [])) p (.ins C dx (putF "hung" (.ref h0) (putF "many" (.int n) (putF "ranks" (.ref r) [])))) r=some (.lst (rk.map V.int)):=by rw[Zb (Ne.symm ne1),Zb ne3];exact r2
   have h3:upd (upd H2 h0 (.lst [])) p (.ins C dx (putF "hung" (.ref h0) (putF "many" (.int n) (putF "ranks" (.ref r) [])))) h0=some (.lst (([]:List Int).map V.int)):=by rw[Zb (Ne.symm ne2)];exact Ze
   have t3:TabO (upd (upd H2 h0 (.lst [])) p (.ins C dx (putF "hung" (.ref h0) (putF "many" (.int n) (putF "ranks" (.ref r) []))))) P4:=TabO.ins (TabO.new t2 nh0) (by rw[Zb ne2];exact e2)
   have e3:upd (upd H2 h0 (.lst [])) p (.ins C dx (putF "hung" (.ref h0) (putF "many" (.int n) (putF "ranks" (.ref r) [])))) p=some (.ins C dx (putF "hung" (.ref h0) (putF "many" (.int n) (putF "ranks" (.ref r) [])))):=Ze
   have q3:LI K (upd (upd H2 h0 (.lst [])) p (.ins C dx (putF "hung" (.ref h0) (putF "many" (.int n) (putF "ranks" (.ref r) []))))) a2 ls:=by
    rcases hq2 with (hq2|⟨o,hq2⟩)|hq2
    ·refine .inl (.inl (K3 _ _ hq2 ?_))
     simp only [List.mem_cons,List.not_mem_nil,or_false,not_or]
     exact⟨Yl hq2 e0 (by intro z;cases z),t0.ne hq2 fun _ z=>by cases z⟩
    ·refine .inl (.inr ⟨o,K3 _ _ hq2 ?_⟩)
     simp only [List.mem_cons,List.not_mem_nil,or_false,not_or]
     exact⟨Yl hq2 e0 (by intro z;cases z),t0.ne hq2 fun _ z=>by cases z⟩
    ·exact .inr hq2
   generalize upd (upd H2 h0 (.lst [])) p (.ins C dx (putF "hung" (.ref h0) (putF "many" (.int n) (putF "ranks" (.ref r) []))))=H3 at K3 r3 h3 t3 e3 q3 ⊢
   refine⟨_,rfl,p,C,dx,_,_,rfl,e3,TP.cl,TP.nR,rfl,_,rfl,r,a2,rk,ls,rfl,SqL.of r3,q3,nd,hrng,h64,t3,fun Dn H5 ys kp t5 nD so=>?_⟩
   have e5:=kp _ _ e3 (t3.ne e3 fun _ z=>by cases z)
   have r5:=kp _ _ r3 (t3.ne r3 fun _ z=>by cases z)
   have h5:=kp _ _ h3 (t3.ne h3 fun _ z=>by cases z)
   have K5:KeepBut [p,P4] H H5:=K3.trans (KeepBut.kp kp (by simp))
   have ne4:p≠Dn:=Zl e5 nD
   have ne5:r≠Dn:=Zl r5 nD
   have ne6:h0≠Dn:=Zl h5 nD
   have nDn:H Dn=none:=K5.none nD (st t5 e5)
   refine⟨_,rfl,p,C,dx,_,rfl,by rw[Zb ne4];exact e5,TP.cl,TP.nB,by show 3<1000;decide,?_⟩
   refine⟨_,rfl,p,C,dx,_,_,rfl,Ze,TP.cl,TP.nB,rfl,Dn,_,rfl,.inl (SqL.of (by rw[Zb (Ne.symm ne4)];exact Ze)),_,rfl,p,C,dx,_,rfl,Ze,TP.cl,TP.nC,by show 4<1000;decide,?_⟩
   refine⟨_,rfl,p,C,dx,_,rfl,Ze,TP.cl,TP.nL,by show 5<1000;decide,?_⟩
   refine⟨_,rfl,p,C,dx,_,rfl,Ze,TP.cl,TP.nK,by show 6<1000;decide,?_⟩
   rw[List.length_map,Ztc]
   have tE:TabO (upd (upd (upd (upd (upd H5 Dn (.lst (ys.map V.int))) p (.ins C dx (putF "book" (.ref Dn) (putF "hung" (.ref h0) (putF "many" (.int n) (putF "ranks" (.ref r) [])))))) p (.ins C dx (putF "came" (.int ys.length) (putF "book" (.ref Dn) (putF "hung" (.ref h0) (putF "many" (.int n) (putF "ranks" (.ref r) []))))))) p (.ins C dx (putF "laid" (.int 0) (putF "came" (.int ys.length) (putF "book" (.ref Dn) (putF "hung" (.ref h0) (putF "many" (.int n) (putF "ranks" (.ref r) [])))))))) p (.ins C dx (pf r n h0 Dn ys.length 0 0))) P4 :=
    TabO.ins (TabO.ins (TabO.ins (TabO.ins (TabO.new t5 nD) (by rw[Zb ne4];exact e5)) Ze) Ze) Ze
   have KE:KeepBut [p,P4] H (upd (upd (upd (upd (upd H5 Dn (.lst (ys.map V.int))) p (.ins C dx (putF "book" (.ref Dn) (putF "hung" (.ref h0) (putF "many" (.int n) (putF "ranks" (.ref r) [])))))) p (.ins C dx (putF "came" (.int ys.length) (putF "book" (.ref Dn) (putF "hung" (.ref h0) (putF "many" (.int n) (putF "ranks" (.ref r) []))))))) p (.ins C dx (putF "laid" (.int 0) (putF "came" (.int ys.length) (putF "book" (.ref Dn) (putF "hung" (.ref h0) (putF "many" (.int n) (putF "ranks" (.ref r) [])))))))) p (.ins C dx (pf r n h0 Dn ys.length 0 0))) :=
    ((((K5.upd (.inr nDn)).upd (.inl (by simp))).upd (.inl (by simp))).upd (.inl (by simp))).upd (.inl (by simp))
   have AE:PegsAt C (upd (upd (upd (upd (upd H5 Dn (.lst (ys.map V.int))) p (.ins C dx (putF "book" (.ref Dn) (putF "hung" (.ref h0) (putF "many" (.int n) (putF "ranks" (.ref r) [])))))) p (.ins C dx (putF "came" (.int ys.length) (putF "book" (.ref Dn) (putF "hung" (.ref h0) (putF "many" (.int n) (putF "ranks" (.ref r) []))))))) p (.ins C dx (putF "laid" (.int 0) (putF "came" (.int ys.length) (putF "book" (.ref Dn) (putF "hung" (.ref h0) (putF "many" (.int n) (putF "ranks" (.ref r) [])))))))) p (.ins C dx (pf r n h0 Dn ys.length 0 0))) p r h0 Dn rk n [] ys ys.length 0 0:=by
    refine⟨⟨dx,Ze⟩,?_,?_,?_,ne3,ne5,ne6⟩
    ·rw[Zb (Ne.symm ne1),Zb (Ne.symm ne1),Zb (Ne.symm ne1),Zb (Ne.symm ne1),Zb ne5];exact r5
    ·rw[Zb (Ne.symm ne2),Zb (Ne.symm ne2),Zb (Ne.symm ne2),Zb (Ne.symm ne2),Zb ne6];exact h5
    ·rw[Zb (Ne.symm ne4),Zb (Ne.symm ne4),Zb (Ne.symm ne4),Zb (Ne.symm ne4)];exact Ze
   generalize upd (upd (upd (upd (upd H5 Dn (.lst (ys.map V.int))) p (.ins C dx (putF "book" (.ref Dn) (putF "hung" (.ref h0) (putF "many" (.int n) (putF "ranks" (.ref r) [])))))) p (.ins C dx (putF "came" (.int ys.length) (putF "book" (.ref Dn) (putF "hung" (.ref h0) (putF "many" (.int n) (putF "ranks" (.ref r) []))))))) p (.ins C dx (putF "laid" (.int 0) (putF "came" (.int ys.length) (putF "book" (.ref Dn) (putF "hung" (.ref h0) (putF "many" (.int n) (putF "ranks" (.ref r) [])))))))) p (.ins C dx (pf r n h0 Dn ys.length 0 0))=HE at tE KE AE ⊢
   obtain⟨dxE,eE⟩:=AE.at_
   refine⟨_,rfl,p,dxE,_,rfl,eE,rfl,p,r,h0,Dn,rk,n,[],ys,_,_,_,rfl,AE,hn1,fun H9 h9 b9 K9 nh9 nb9 A9=>?_⟩
   have sE:∀ y∈[p,P4],HE y≠none:=fun y hy=>by
    simp only [List.mem_cons,List.not_mem_nil,or_false] at hy
    rcases hy with rfl|rfl
    ·rw[eE];simp
    ·rcases tE with t|⟨_,t,_⟩<;>rw[t]<;>simp
   have t9:TabO H9 P4:=by
    have nP:P4≠p:=Ne.symm (tE.ne eE fun _ z=>by cases z)
    rcases tE with t|⟨c,t,u⟩
    ·exact .inl (K9 _ _ t (by simpa using nP))
    ·exact .inr ⟨c,K9 _ _ t (by simpa using nP),K9 _ _ u (by simp only [List.mem_cons,List.not_mem_nil,or_false];exact Yl u eE (by intro z;cases z))⟩
   rw[Int.zero_add] at A9
   exact kk H9 r h9 b9 ys (KE.trans (K9.more (by simp))) nr (KE.none nh9 sE) (KE.none nb9 sE) t9 so A9
  ·have bad:(!(match mv with | .int i=>b&&(decide (1<=i)&&decide (i<=16))|_=>false))=true:=by
    cases b with
    | false=>cases mv<;>rfl
    | true =>
     obtain⟨i,rfl,hi⟩:=hb rfl
     simp
     omega
   refine⟨_,rfl,mv,b,rfl,wv,?_⟩
   cases b with
   | false=>exact .inr ⟨rfl,_,rfl,iteT ⟨by show 1<=sizeLine;decide,hE⟩⟩
   | true =>
    obtain⟨i,rfl,hi⟩:=hb rfl
    refine .inl ⟨rfl,i,rfl,_,rfl,?_⟩
    have z:(decide (1<=i)&&decide (i<=16))=false:=by
     cases q:(decide (1<=i)&&decide (i<=16)) with
     | false=>rfl
     | true =>
      rw[Bool.and_eq_true,decide_eq_true_iff,decide_eq_true_iff] at q
      exact absurd q hi
    rw[z]
    exact iteT ⟨by show 1<=sizeLine;decide,hE⟩
end
end K10
namespace K10
open PySem L2 L3
section
variable {P:Program}{w:World}{K:PySem.W.Frag}{mg:Str->Option Value}{base:Heap}{C P4 CN:Addr}
def Ztj:List Int->V
 | []=>.non
 | x::_=>.int x
def Zf6 (C:Addr):Sp:=fun vs H Q _=>∃ (p r h b:Addr) (rk:List Int) (n:Int) (hg bk:List Int) (c l k:Int),vs=[.ref p]/\PegsAt C H p r h b rk n hg bk c l k/\Q (Ztj hg) H
theorem sc5':FnScope ["self"] ["self"] (Zg (mt 5)):=⟨rfl,rfl,rfl,by decide+kernel,rfl,by decide+kernel,by decide+kernel⟩
theorem Zps (D:MDef K C "first" "Pegs.first" (mt 5) ["self"]) (TP:PTxt K C):FuM P w K mg base CX0 1 C "first" ["self"] (Zf6 C):=by
 refine D.fu sc5' (fun vs H Q E h=>?_) (fun f cdv A outer s H vs Q E hr h=>?_)
 ·obtain⟨p,r,h,b,rk,n,hg,bk,c,l,k,rfl,_⟩:=h
  rfl
 ·obtain⟨p,r,h,b,rk,n,hg,bk,c,l,k,rfl,A0,kk⟩:=h
  refine⟨_,Zf (Zj (Zdn (Zfq (Zt (pv 0) rfl)) (Zr Z9 (Zt (pv 0) rfl) Zd (fun _ _=>rfl)) Y4)),?_⟩
  obtain⟨dx,e0⟩:=A0.at_
  refine⟨_,rfl,p,C,dx,_,_,rfl,e0,TP.cl,TP.nH,rfl,_,Zaq A0.hg,?_⟩
  cases hg with
  | nil=>exact iteF kk
  | cons x r=>exact iteT ⟨_,rfl,p,C,dx,_,_,rfl,e0,TP.cl,TP.nH,rfl,h,_,_,_,rfl,rfl,SqL.of A0.hg,Y7 (ns:=x::r) (i:=0) (by omega) (by simp),kk⟩
end
end K10
namespace K10
open PySem L2 L3
def M60:Int:=10 ^ (60:Int).toNat
theorem cpow (i j:Int) (h:(decide (0<=j)&&decide (j<=1000000)&&decide (i.natAbs<2 ^ 64))=true):CPow i j:=by
 simp only [Bool.and_eq_true,decide_eq_true_iff] at h
 exact⟨h.1.1,h.1.2,h.2⟩
theorem Zck:1000000<M60:=by decide+kernel
theorem Zkq {bs:List Bool}{i:Int}(h0:0<=i) (h1:i<bs.length):atI (bs.map V.bl) i=some (.bl (bs.getD i.toNat false)):=by
 have hi:i.toNat<bs.length:=by omega
 have:=Zcj (xs:=bs.map V.bl) (j:=i.toNat) (v:=.bl (bs.getD i.toNat false)) (by rw[List.getElem?_map,List.getElem?_eq_getElem hi];simp[List.getD,hi])
 rwa [Int.toNat_of_nonneg h0] at this
def Yx (pl:List Int):V:=match pl.getLast? with
 | some x=>.int x
 | none=>.non
theorem Zgl {hg:List Int}{x:Int}(h:hg.getLast?=some x):atI (hg.map V.int) (-1)=some (.int x):=by
 have hne:hg≠[]:=by intro e;rw[e] at h;cases h
 have hl:=List.length_pos_iff.mpr hne
 have:=Zko (ns:=hg) (i:=-1) (by omega) (by omega)
 rw[this]
 congr 2
 rw[List.getLast?_eq_getElem?] at h
 have e:(-1+(hg.length:Int)).toNat=hg.length - 1:=by omega
 rw[e]
 simp[List.getD,h]
section
variable {P:Program}{w:World}{K:PySem.W.Frag}{mg:Str->Option Value}{base:Heap}
def Zd5 (K:PySem.W.Frag):Sp:=fun vs H Q _=>∃ (m:Int) (x:V),vs=[.int m,x]/\((∃ i,x=.int i/\Q (.bl (decide (0<=i)&&decide (i<=m))) H)\/(WholeV K H x false/\Q (.bl false) H))
theorem sc13:FnScope ["most", "thing"] ["most", "thing"] (Zg (top 24)):=⟨rfl,rfl,rfl,by decide+kernel,rfl,by decide+kernel,by decide+kernel⟩
theorem Zpm (D:Def K mg "is_up_to" (top 24) ["most", "thing"]) (GW:Fu P w K mg base CX0 1 "is_whole" ["thing"] (Zb1 K)):Fu P w K mg base CX0 2 "is_up_to" ["most", "thing"] (Zd5 K):=by
 refine D.fu sc13 (fun vs H Q E h=>?_) (fun f cdv A outer s H vs Q E hr h=>?_)
 ·obtain⟨m,x,rfl,_⟩:=h
  rfl
 ·obtain⟨m,x,rfl,hq⟩:=h
  refine⟨_,Zf (Zj (Ys (pc GW hr Zk (Za (pv 1) Zc)) (Yk (Zdo Zg9 Zg9 Zd (pv 1) (pv 0))))),?_⟩
  rcases hq with ⟨i,rfl,q⟩|⟨wv,q⟩
  ·refine⟨_,rfl,_,true,rfl,Zbw i,true,rfl,iteT ⟨_,rfl,_,_,rfl,rfl,_,rfl,?_⟩⟩
   cases h1:decide ((0:Int)<=i) with
   | true =>
    rw[h1,Bool.true_and] at q
    exact iteT ⟨_,rfl,_,_,rfl,rfl,q⟩
   | false =>
    rw[h1,Bool.false_and] at q
    exact iteF q
  ·exact⟨_,rfl,_,false,rfl,wv,false,rfl,iteF q⟩
def Zmv:Sp:=fun vs H Q _=>∃ i:Int,vs=[.int i]/\0<=i/\i<M60/\Q (.bl true) H
theorem sc14:FnScope ["thing"] ["thing"] (Zg (top 25)):=⟨rfl,rfl,rfl,by decide+kernel,rfl,by decide+kernel,by decide+kernel⟩
theorem Zr2 (D:Def K mg "is_rank" (top 25) ["thing"]) (GU:Fu P w K mg base CX0 2 "is_up_to" ["most", "thing"] (Zd5 K)):Fu P w K mg base CX0 3 "is_rank" ["thing"] Zmv:=by
 refine D.fu sc14 (fun vs H Q E h=>?_) (fun f cdv A outer s H vs Q E hr h=>?_)
 ·obtain⟨i,rfl,_⟩:=h
  rfl
 ·obtain⟨i,rfl,h0,h1,q⟩:=h
  refine⟨_,Zf (Zj (pc GU hr Zk (Za (Zi Zcy (Zi Yz Zd Zd) Zd) (Za (pv 0) Zc)))),?_⟩
  refine⟨_,_,rfl,rfl,cpow _ _ (by decide+kernel),_,_,rfl,rfl,_,rfl,_,_,rfl,.inl ⟨i,rfl,?_⟩⟩
  have e1:decide ((0:Int)<=i)=true:=decide_eq_true h0
  have e2:decide (i<=10 ^ (60:Int).toNat - 1)=true:=decide_eq_true (by have:i<10 ^ (60:Int).toNat:=h1;omega)
  rw[e1,e2]
  exact q
def BarV (v:V):Prop:=v=.non\/∃ z:Int,v=.int z/\0<=z/\z<=M60
def Zqp:Sp:=fun vs H Q _=>∃ v:V,vs=[v]/\BarV v/\Q (.bl true) H
theorem sc15:FnScope ["thing"] ["thing"] (Zg (top 26)):=⟨rfl,rfl,rfl,by decide+kernel,rfl,by decide+kernel,by decide+kernel⟩
theorem Zts (D:Def K mg "is_bar" (top 26) ["thing"]) (GU:Fu P w K mg base CX0 2 "is_up_to" ["most", "thing"] (Zd5 K)):Fu P w K mg base CX0 3 "is_bar" ["thing"] Zqp:=by
 refine D.fu sc15 (fun vs H Q E h=>?_) (fun f cdv A outer s H vs Q E hr h=>?_)
 ·obtain⟨v,rfl,_⟩:=h
  rfl
 ·obtain⟨v,rfl,hv,q⟩:=h
  refine⟨_,Zf (Zj (Zoz (Zne (Zgg (pv 0))) (Yk (pc GU hr Zk (Za (Zi Yz Zd Zd) (Za (pv 0) Zc)))))),?_⟩
  rcases hv with rfl|⟨z,rfl,h0,h1⟩
  ·exact⟨_,rfl,true,rfl,iteT q⟩
  ·refine⟨_,rfl,false,rfl,iteF ⟨_,_,rfl,rfl,cpow _ _ (by decide+kernel),_,rfl,_,_,rfl,.inl ⟨z,rfl,?_⟩⟩⟩
   have e1:decide ((0:Int)<=z)=true:=decide_eq_true h0
   have e2:decide (z<=10 ^ (60:Int).toNat)=true:=decide_eq_true h1
   rw[e1,e2]
   exact q
def Zdf (K:PySem.W.Frag):Sp:=fun vs H Q _=>∃ (a:Addr) (rk:List Int) (x:V),vs=[.ref a,x]/\LI K H a rk/\((∃ i,x=.int i/\Q (.bl (decide (0<=i)&&decide (i<=(rk.length:Int) - 1))) H)\/(WholeV K H x false/\Q (.bl false) H))
theorem sc16:FnScope ["ranks", "thing"] ["ranks", "thing"] (Zg (top 27)):=⟨rfl,rfl,rfl,by decide+kernel,rfl,by decide+kernel,by decide+kernel⟩
theorem Zjx (D:Def K mg "is_line" (top 27) ["ranks", "thing"]) (T:Txt K mg) (GU:Fu P w K mg base CX0 2 "is_up_to" ["most", "thing"] (Zd5 K)):Fu P w K mg base CX0 3 "is_line" ["ranks", "thing"] (Zdf K):=by
 refine D.fu sc16 (fun vs H Q E h=>?_) (fun f cdv A outer s H vs Q E hr h=>?_)
 ·obtain⟨a,rk,x,rfl,_⟩:=h
  rfl
 ·obtain⟨a,rk,x,rfl,hq,q⟩:=h
  refine⟨_,Zf (Zj (pc GU hr Zk (Za (Zi Zcy (Yc T.len (pv 0)) Zd) (Za (pv 1) Zc)))),?_⟩
  refine⟨_,rfl,a,_,rfl,.inl hq,_,_,rfl,rfl,_,rfl,_,_,rfl,?_⟩
  rw[List.length_map]
  exact q
theorem Zej {n:Nat}{i:Int}(h0:0<=i) (h1:i<n):(decide (0<=i)&&decide (i<=(n:Int) - 1))=true:=by
 rw[decide_eq_true h0,decide_eq_true (by omega:i<=(n:Int) - 1)];rfl
def Zbh:Sp:=fun vs H Q _=>∃ (a:Addr) (rk:List Int),vs=[.ref a]/\H a=some (.lst (rk.map V.int))/\1<=rk.length/\rk.length<=60/\(∀ x∈rk,0<=x/\x<M60)/\∀ H',Same H H'->Q (.bl true) H'
theorem sc17:FnScope ["thing"] ["thing"] (Zg (top 28)):=⟨rfl,rfl,rfl,by decide+kernel,rfl,by decide+kernel,by decide+kernel⟩
theorem Zn7 {n:Nat}:(List.replicate n true).all id=true:=by simp
theorem Zdt:PySem.W.kitOne K (.type "list") (.type "list")=some true:=by unfold PySem.W.kitOne;rw[if_pos (by simp)]
theorem Zad:PySem.W.kitOne K (.type "tuple") (.type "tuple")=some true:=by unfold PySem.W.kitOne;rw[if_pos (by simp)]
theorem Zfv (D:Def K mg "are_ranks" (top 28) ["thing"]) (T:Txt K mg) (GR:Fu P w K mg base CX0 3 "is_rank" ["thing"] Zmv) {u:Value}(hm:mg "MOST_LINES" = some u) (hu:RelV (.int 60) u):Fu P w K mg base CX0 4 "are_ranks" ["thing"] Zbh:=by
 refine D.fu sc17 (fun vs H Q E h=>?_) (fun f cdv A outer s H vs Q E hr h=>?_)
 ·obtain⟨a,rk,rfl,_⟩:=h
  rfl
 ·obtain⟨a,rk,rfl,hq,l1,l2,hrk,kk⟩:=h
  refine' ⟨_,Zh (Zn (Yh (Zz (Yt T.isi T.list Zao (pv 0)))) (Zf (Zj Ye)) Zo)
   (Zf (Zj (Ys (Zdo Zg9 Zg9 Zd (Yc T.len (pv 0)) (Zbl rfl hm hu)) (Yk (Zo7 (K:=K) T.all rfl (Za (Jp (ts:=["part"]) (fvs:=[]) (js:=[]) (cl:=[]) rfl ?S (Zb7 (pv 0)) (fun _ _ _ _=>Ya (i:=0) (show List.Nodup (["part"]:List Str) from by decide+kernel) rfl (.inl rfl) (Or.inr rfl)) (fun _ _ _ _=>Zas)
     (fun _ _ _ _=>pc GR hr Zk (Za (pv 0) Zc))) Zc)))))),?main⟩
  case S=>exact Zoi rfl rfl (by decide+kernel) (by decide+kernel) rfl
  case main =>
   refine⟨_,rfl,_, "list",_,true,rfl,.lst hq,Zdt,_,rfl,iteF ?_⟩
   refine⟨_,rfl,a,_,rfl,.inl (SqL.of hq),_,_,rfl,rfl,_,rfl,?_⟩
   rw[List.length_map]
   have e1:decide ((1:Int)<=(rk.length:Int))=true:=decide_eq_true (by omega)
   have e2:decide ((rk.length:Int)<=60)=true:=decide_eq_true (by omega)
   rw[e1]
   refine iteT ⟨_,_,rfl,rfl,_,rfl,?_⟩
   rw[e2]
   refine iteT ⟨_,rfl,a,rfl,⟨_,SqL.of hq⟩,[],rfl,fun d nd=>?_⟩
   refine Jg rk.length (by rw[sizeLine_eq];omega) (fun i ys H2=>ys=List.replicate i (.bl true)/\Same H H2/\H2 d=some (.lst ys)) ⟨rfl,Same.new nd,Ze⟩ (fun i ys H2 ⟨e,_,e2⟩=>⟨e2,by rw[e];simp⟩) ?_ ?_
   ·rintro i ys H2 N hi ⟨rfl,sm,hD⟩ rest
    refine⟨⟨_,.int rk[i],sm.seq (SqL.of hq),by rw[List.getElem?_map,List.getElem?_eq_getElem hi];rfl⟩,?_⟩
    rintro x H3 ⟨rfl,hx⟩
    have hx':=hx _ (sm.seq (SqL.of hq))
    rw[List.getElem?_map,List.getElem?_eq_getElem hi] at hx'
    cases hx'
    have hb:=hrk _ (List.getElem_mem hi)
    refine⟨rfl,rfl,iteT ⟨_,rfl,_,rfl,hb.1,hb.2,hD,rest _ _ ⟨by rw[List.replicate_succ'],fun b o e=>?_,Ze⟩⟩⟩
    rw[Zb (Zl e nd)]
    exact sm b o e
   ·rintro ys H2 ⟨rfl,sm,hD⟩
    refine⟨⟨_,sm.seq (SqL.of hq),by rw[List.length_map];exact Nat.le_refl _⟩,d,List.replicate rk.length true,rfl,SqL.of (by rw[hD,List.map_replicate]),?_⟩
    rw[Zn7]
    exact kk _ sm
def Zbi:Sp:=fun vs H Q _=>∃ (a b:Addr) (rk ls:List Int),vs=[.ref a,.ref b]/\H a=some (.lst (rk.map V.int))/\H b=some (.lst (ls.map V.int))/\ls.length<=100/\(∀ x∈ls,0<=x/\x<rk.length)/\∀ H',Same H H'->Q (.bl true) H'
theorem sc18:FnScope ["ranks", "thing"] ["ranks", "thing"] (Zg (top 29)):=⟨rfl,rfl,rfl,by decide+kernel,rfl,by decide+kernel,by decide+kernel⟩
theorem Zfw (D:Def K mg "are_lines" (top 29) ["ranks", "thing"]) (T:Txt K mg) (GL:Fu P w K mg base CX0 3 "is_line" ["ranks", "thing"] (Zdf K)):Fu P w K mg base CX0 4 "are_lines" ["ranks", "thing"] Zbi:=by
 refine D.fu sc18 (fun vs H Q E h=>?_) (fun f cdv A outer s H vs Q E hr h=>?_)
 ·obtain⟨a,b,rk,ls,rfl,_⟩:=h
  rfl
 ·obtain⟨a,b,rk,ls,rfl,hq,hl,l1,hin,kk⟩:=h
  refine' ⟨_,Zf (Zj (Ys (Yt T.isi T.list Zao (pv 1)) (Yk (Zo7 (K:=K) T.all rfl (Za (Jp (ts:=["part"]) (fvs:=["ranks"]) (js:=[0]) (cl:=[("ranks",s.heap.objs.size+1)]) rfl ?S (Zb7 (pv 1)) (fun _ _ _ _=>Ya (i:=0) (show List.Nodup (["part", "ranks"]:List Str) from by decide+kernel) rfl (.inl rfl) (Or.inr rfl)) (fun _ _ _ _=>Zas)
    (fun _ _ _ _=>pc GL hr Zk (Za (pv 1) (Za (pv 0) Zc)))) Zc))))),?main⟩
  case S=>exact Zg4 rfl rfl (by decide+kernel) (by decide+kernel) rfl (.inl rfl) rfl (.inl rfl) rfl
  case main =>
   refine⟨_,rfl,_, "list",_,true,rfl,.lst hl,Zdt,_,rfl,iteT ?_⟩
   refine⟨_,rfl,b,rfl,⟨_,SqL.of hl⟩,[.ref a],rfl,fun d nd=>?_⟩
   refine Jg ls.length (by rw[sizeLine_eq];omega) (fun i ys H2=>ys=List.replicate i (.bl true)/\Same H H2/\H2 d=some (.lst ys)) ⟨rfl,Same.new nd,Ze⟩ (fun i ys H2 ⟨e,_,e2⟩=>⟨e2,by rw[e];simp⟩) ?_ ?_
   ·rintro i ys H2 N hi ⟨rfl,sm,hD⟩ rest
    refine⟨⟨_,.int ls[i],sm.seq (SqL.of hl),by rw[List.getElem?_map,List.getElem?_eq_getElem hi];rfl⟩,?_⟩
    rintro x H3 ⟨rfl,hx⟩
    have hx':=hx _ (sm.seq (SqL.of hl))
    rw[List.getElem?_map,List.getElem?_eq_getElem hi] at hx'
    cases hx'
    have hb:=hin _ (List.getElem_mem hi)
    refine⟨rfl,rfl,iteT ⟨_,rfl,_,rfl,a,rk,_,rfl,sm.seq (SqL.of hq),.inl ⟨_,rfl,?_⟩⟩⟩
    rw[Zej hb.1 hb.2]
    refine⟨hD,rest _ _ ⟨by rw[List.replicate_succ'],fun b o e=>?_,Ze⟩⟩
    rw[Zb (Zl e nd)]
    exact sm b o e
   ·rintro ys H2 ⟨rfl,sm,hD⟩
    refine⟨⟨_,sm.seq (SqL.of hl),by rw[List.length_map];exact Nat.le_refl _⟩,d,List.replicate ls.length true,rfl,SqL.of (by rw[hD,List.map_replicate]),?_⟩
    rw[Zn7]
    exact kk _ sm
def Up (ns:List Int):Prop:=∀ i,i+1<ns.length->ns.getD i 0<ns.getD (i+1) 0
def Zfh (K:PySem.W.Frag):Sp:=fun vs H Q _=>∃ (a:Addr) (ns:List Int),vs=[.ref a]/\H a=some (.lst (ns.map V.int))/\ns.length<=100/\Up ns/\∀ H',Same H H'->Q (.bl true) H'
theorem sc19:FnScope ["numbers"] ["numbers"] (Zg (top 30)):=⟨rfl,rfl,rfl,by decide+kernel,rfl,by decide+kernel,by decide+kernel⟩
theorem Zpo (D:Def K mg "rises" (top 30) ["numbers"]) (T:Txt K mg):Fu P w K mg base CX0 1 "rises" ["numbers"] (Zfh K):=by
 refine D.fu sc19 (fun vs H Q E h=>?_) (fun f cdv A outer s H vs Q E hr h=>?_)
 ·obtain⟨a,ns,rfl,_⟩:=h
  rfl
 ·obtain⟨a,ns,rfl,hq,l1,up,kk⟩:=h
  refine' ⟨_,Zf (Zj (Zo7 (K:=K) T.all rfl (Za (Jp (ts:=["one", "other"]) (fvs:=[]) (js:=[]) (cl:=[]) rfl ?S (Zq3 T.zip (Za (pv 0) (Za (Jo Jm (pv 0) (Jb Zd) Zak) Zc)))
    (fun _ _ _ _=>Zdl (K:=K) (n:=2) rfl (Y0 (Ya (i:=0) (show List.Nodup (["one", "other"]:List Str) from by decide+kernel) rfl (.inl rfl) (Or.inr rfl)) (Y0 (Ya (i:=1) (show List.Nodup (["one", "other"]:List Str) from by decide+kernel) rfl (.inl rfl) (Or.inr rfl)) Zbk))) (fun _ _ _ _=>Zas)
    (fun _ _ _ _=>Y1 Zg8 (pv 0) (pv 1) (Zs _))) Zc))),?main⟩
  case S=>exact Zoi rfl rfl (by decide+kernel) (by decide+kernel) rfl
  case main =>
   refine⟨_,rfl,_,rfl,_,rfl,a,_,rfl,SqL.of hq,fun b nb=>?_⟩
   rw[Ze1 ns (by decide:(0:Int)<=1)]
   have s1:=Same.new (o:=.lst ((ns.drop (1:Int).toNat).map V.int)) nb
   refine⟨a,b,rfl,⟨_,s1.seq (SqL.of hq)⟩,⟨_,SqL.new⟩,[],rfl,fun d nd=>?_⟩
   have hb:upd H b (.lst ((ns.drop 1).map V.int)) b=some (.lst ((ns.drop 1).map V.int)):=Ze
   have ha:upd H b (.lst ((ns.drop 1).map V.int)) a=some (.lst (ns.map V.int)):=s1 _ _ hq
   refine Jg (ns.length - 1) (by rw[sizeLine_eq];omega) (fun i ys H2=>ys=List.replicate i (.bl true)/\Same (upd H b (.lst ((ns.drop 1).map V.int))) H2/\H2 d=some (.lst ys)) ⟨rfl,Same.new nd,Ze⟩ (fun i ys H2 ⟨e,_,e2⟩=>⟨e2,by rw[e];simp⟩) ?_ ?_
   ·rintro i ys H2 N hi ⟨rfl,sm,hD⟩ rest
    have i1:i<ns.length:=by omega
    have i2:i+1<ns.length:=by omega
    have g1:(ns.map V.int)[i]?=some (.int (ns.getD i 0)):=by simp[i1]
    have g2:((ns.drop 1).map V.int)[i]?=some (.int (ns.getD (i+1) 0)):=by
     rw[List.getElem?_map,List.getElem?_drop,Nat.add_comm 1 i,List.getElem?_eq_getElem i2]
     simp[i2]
    refine⟨⟨_,_,_,_,sm.seq (SqL.of ha),g1,sm.seq (SqL.of hb),g2⟩,?_⟩
    rintro x H3 ⟨t,v,v',nt,rfl,rfl,hv,hv'⟩
    have e1:=hv _ (sm.seq (SqL.of ha))
    have e2:=hv' _ (sm.seq (SqL.of hb))
    rw[g1] at e1
    rw[g2] at e2
    cases e1
    cases e2
    refine⟨t,_,rfl,SqT.of Ze,rfl,_,_,rfl,_,_,rfl,rfl,rfl,rfl,iteT ⟨_,rfl,_,rfl,_,_,rfl,rfl,?_⟩⟩
    dsimp only
    rw[decide_eq_true (up i i2)]
    have nt':d≠t:=Zl hD nt
    refine⟨by rw[Zb nt'];exact hD,rest _ _ ⟨by rw[List.replicate_succ'],fun c o e=>?_,Ze⟩⟩
    rw[Zb (Zl e nd),Zb (Zl (sm _ _ e) nt)]
    exact sm c o e
   ·rintro ys H2 ⟨rfl,sm,hD⟩
    refine⟨⟨_,_,sm.seq (SqL.of ha),sm.seq (SqL.of hb),.inr (by rw[List.length_map,List.length_drop];exact Nat.le_refl _)⟩,d,List.replicate (ns.length - 1) true,rfl,SqL.of (by rw[hD,List.map_replicate]),?_⟩
    rw[Zn7]
    exact kk _ (s1.trans sm)
end
end K10
namespace K10
open PySem L2 L3
section
variable {P:Program}{w:World}{K:PySem.W.Frag}{mg:Str->Option Value}{base:Heap}
def Za3:Sp:=fun vs H Q _=>∃ (a b:Addr) (rk ls:List Int),vs=[.ref a,.ref b]/\H a=some (.lst (rk.map V.int))/\H b=some (.lst (ls.map V.int))/\ls.length<=100/\(∀ x∈ls,0<=x/\x<rk.length)/\Up ls/\∀ H',Same H H'->Q (.bl true) H'
theorem sc20:FnScope ["ranks", "thing"] ["ranks", "thing"] (Zg (top 31)):=⟨rfl,rfl,rfl,by decide+kernel,rfl,by decide+kernel,by decide+kernel⟩
theorem Zco (D:Def K mg "are_rising_lines" (top 31) ["ranks", "thing"]) (GL:Fu P w K mg base CX0 4 "are_lines" ["ranks", "thing"] Zbi) (GR:Fu P w K mg base CX0 1 "rises" ["numbers"] (Zfh K)):Fu P w K mg base CX0 5 "are_rising_lines" ["ranks", "thing"] Za3:=by
 refine D.fu sc20 (fun vs H Q E h=>?_) (fun f cdv A outer s H vs Q E hr h=>?_)
 ·obtain⟨a,b,rk,ls,rfl,_⟩:=h
  rfl
 ·obtain⟨a,b,rk,ls,rfl,hq,hl,l1,hin,up,kk⟩:=h
  refine⟨_,Zf (Zj (Ys (pc GL hr Zk (Za (pv 0) (Za (pv 1) Zc))) (Yk (pc GR hr Zk (Za (pv 1) Zc))))),?_⟩
  exact⟨_,rfl,_,rfl,a,b,rk,ls,rfl,hq,hl,l1,hin,fun H1 s1=>⟨true,rfl,iteT ⟨_,rfl,b,ls,rfl,s1 _ _ hl,l1,up,fun H2 s2=>kk _ (s1.trans s2)⟩⟩⟩
def Zf5:Sp:=fun vs H Q _=>∃ (a b:Addr) (rk pl:List Int),vs=[.ref a,.ref b]/\H a=some (.lst (rk.map V.int))/\H b=some (.lst (pl.map V.int))/\pl.length<=100/\(∀ x∈pl,0<=x/\x<rk.length)/\Up (pl.reverse.map (rkAt rk))/\∀ H',Same H H'->Q (.bl true) H'
theorem sc21:FnScope ["ranks", "thing"] ["ranks", "thing"] (Zg (top 32)):=⟨rfl,rfl,rfl,by decide+kernel,rfl,by decide+kernel,by decide+kernel⟩
theorem Zjw (D:Def K mg "is_pile" (top 32) ["ranks", "thing"]) (T:Txt K mg) (GL:Fu P w K mg base CX0 4 "are_lines" ["ranks", "thing"] Zbi) (GR:Fu P w K mg base CX0 1 "rises" ["numbers"] (Zfh K)):Fu P w K mg base CX0 5 "is_pile" ["ranks", "thing"] Zf5:=by
 refine D.fu sc21 (fun vs H Q E h=>?_) (fun f cdv A outer s H vs Q E hr h=>?_)
 ·obtain⟨a,b,rk,ls,rfl,_⟩:=h
  rfl
 ·obtain⟨a,b,rk,pl,rfl,hq,hl,l1,hin,up,kk⟩:=h
  refine' ⟨_,Zf (Zj (Ys (pc GL hr Zk (Za (pv 0) (Za (pv 1) Zc))) (Yk (pc GR hr Zk (Za (Jp (ts:=["line"]) (fvs:=["ranks"]) (js:=[0]) (cl:=[("ranks",s.heap.objs.size+1)]) rfl ?S (Zq4 T.rev (Za (pv 1) Zc)) (fun _ _ _ _=>Ya (i:=0) (show List.Nodup (["line", "ranks"]:List Str) from by decide+kernel) rfl (.inl rfl) (Or.inr rfl)) (fun _ _ _ _=>Zas)
    (fun _ _ _ _=>Zra (K:=K) (pv 1) (pv 0) (fun _ _=>rfl))) Zc))))),?main⟩
  case S=>exact Zg4 rfl rfl (by decide+kernel) (by decide+kernel) rfl (.inl rfl) rfl (.inl rfl) rfl
  case main =>
   refine⟨_,rfl,_,rfl,a,b,rk,pl,rfl,hq,hl,l1,hin,fun H1 s1=>⟨true,rfl,iteT ?_⟩⟩
   have hq1:=s1 _ _ hq
   have hl1:=s1 _ _ hl
   refine⟨_,rfl,b,_,rfl,SqL.of hl1,[.ref a],rfl,fun d nd=>?_⟩
   rw[List.length_map]
   refine Jg pl.length (by rw[sizeLine_eq];omega) (fun i ys H2=>ys=(pl.reverse.take i).map (fun l=>V.int (rkAt rk l))/\i<=pl.length/\Same H1 H2/\H2 d=some (.lst ys)) ⟨rfl,Nat.zero_le _,Same.new nd,Ze⟩ (fun i ys H2 ⟨e,hi,_,e2⟩=>⟨e2,by rw[e];simp;omega⟩) ?_ ?_
   ·rintro i ys H2 N hi ⟨rfl,_,sm,hD⟩ rest
    have hj:pl.length - 1 - i<pl.length:=by omega
    have g1:(pl.map V.int)[pl.length - 1 - i]?=some (.int pl[pl.length - 1 - i]):=by simp[hj]
    refine⟨⟨_,_,sm.seq (SqL.of hl1),by rw[List.length_map],hi,g1⟩,?_⟩
    rintro x H3 ⟨rfl,hx⟩
    have hx':=hx _ (sm.seq (SqL.of hl1))
    rw[g1] at hx'
    cases hx'
    have hb:=hin _ (List.getElem_mem hj)
    refine⟨rfl,rfl,iteT ⟨_,rfl,_,rfl,a,_,_,_,rfl,rfl,sm.seq (SqL.of hq1),Y7 hb.1 hb.2,?_⟩⟩
    refine⟨hD,rest _ _ ⟨?_,hi,fun b o e=>?_,Ze⟩⟩
    ·have hr':i<pl.reverse.length:=by simpa using hi
     rw[List.take_succ_eq_append_getElem hr',List.map_append]
     simp[rkAt]
    ·rw[Zb (Zl e nd)]
     exact sm b o e
   ·rintro ys H2 ⟨rfl,_,sm,hD⟩
    refine⟨Nat.le_refl _,d,pl.reverse.map (rkAt rk),rfl,?_,by simp;omega,up,fun H3 s3=>kk _ ((s1.trans sm).trans s3)⟩
    rw[hD,List.take_of_length_le (by simp)]
    simp
structure PicOk (rk l0 l1 pl:List Int) (v:V):Prop where
 n0:l0.length<=100
 n1:l1.length<=100
 n2:pl.length<=100
 i0:∀ x∈l0,0<=x/\x<rk.length
 i1:∀ x∈l1,0<=x/\x<rk.length
 i2:∀ x∈pl,0<=x/\x<rk.length
 u0:Up l0
 u1:Up l1
 u2:Up (pl.reverse.map (rkAt rk))
 b:BarV v
def Zb3:Sp:=fun vs H Q _=>∃ (a t p0 p1 p2:Addr) (v:V) (rk l0 l1 pl:List Int),vs=[.ref a,.ref t]/\H a=some (.lst (rk.map V.int))/\H t=some (.tup [.ref p0,.ref p1,.ref p2,v])/\H p0=some (.lst (l0.map V.int))/\H p1=some (.lst (l1.map V.int))/\H p2=some (.lst (pl.map V.int)) /\
 PicOk rk l0 l1 pl v/\∀ H',Same H H'->Q (.bl true) H'
theorem sc22:FnScope ["ranks", "thing"] ["ranks", "thing"] (Zg (top 33)):=⟨rfl,rfl,rfl,by decide+kernel,rfl,by decide+kernel,by decide+kernel⟩
theorem Zey (D:Def K mg "is_picture" (top 33) ["ranks", "thing"]) (T:Txt K mg) (GL:Fu P w K mg base CX0 5 "are_rising_lines" ["ranks", "thing"] Za3) (GP:Fu P w K mg base CX0 5 "is_pile" ["ranks", "thing"] Zf5) (GB:Fu P w K mg base CX0 3 "is_bar" ["thing"] Zqp):Fu P w K mg base CX0 6 "is_picture" ["ranks", "thing"] Zb3:=by
 refine D.fu sc22 (fun vs H Q E h=>?_) (fun f cdv A outer s H vs Q E hr h=>?_)
 ·obtain⟨a,t,p0,p1,p2,v,rk,l0,l1,pl,rfl,_⟩:=h
  rfl
 ·obtain⟨a,t,p0,p1,p2,v,rk,l0,l1,pl,rfl,hq,ht,h0,h1,h2,ok,kk⟩:=h
  refine⟨_,Zh (Zn (Yy (Yh (Zz (Yt T.isi T.tuple Zaj (pv 1)))) (Ja (Zu Zje (Yc T.len (pv 1)) Zd (Zs _)))).pt (Zf (Zj Ye)) Zo)
   (Zh (Zn (Yy (Yh (Zz (pc GL hr Zk (Za (pv 0) (Za (Zr Zx (pv 1) Zd (fun _ _=>rfl)) Zc))))) (Ja (Yh (Zz (pc GL hr Zk (Za (pv 0) (Za (Zr Zx (pv 1) Zd (fun _ _=>rfl)) Zc))))))).pt (Zf (Zj Ye)) Zo)
   (Zf (Zj (Ys (pc GP hr Zk (Za (pv 0) (Za (Zr Zx (pv 1) Zd (fun _ _=>rfl)) Zc))) (Yk (pc GB hr Zk (Za (Zr Zx (pv 1) Zd (fun _ _=>rfl)) Zc))))))),?_⟩
  refine⟨_,rfl,_, "tuple",_,true,rfl,.tup ht,Zad,_,rfl,iteF ⟨_,rfl,t,_,rfl,.inr (SqT.of ht),rfl,_,rfl,Zm (by first|rfl|simp) ?_⟩⟩
  refine⟨_,rfl,_,rfl,t,_,_,_,rfl,rfl,SqT.of ht,rfl,a,p0,rk,l0,rfl,hq,h0,ok.n0,ok.i0,ok.u0,fun H1 s1=>⟨_,rfl,iteF ?_⟩⟩
  refine⟨_,rfl,_,rfl,t,_,_,_,rfl,rfl,SqT.of (s1 _ _ ht),rfl,a,p1,rk,l1,rfl,s1 _ _ hq,s1 _ _ h1,ok.n1,ok.i1,ok.u1,fun H2 s2=>⟨_,rfl,iteF ?_⟩⟩
  have s12:=s1.trans s2
  refine⟨_,rfl,_,rfl,t,_,_,_,rfl,rfl,SqT.of (s12 _ _ ht),rfl,a,p2,rk,pl,rfl,s12 _ _ hq,s12 _ _ h2,ok.n2,ok.i2,ok.u2,fun H3 s3=>⟨true,rfl,iteT ?_⟩⟩
  have s13:=s12.trans s3
  exact⟨_,rfl,t,_,_,_,rfl,rfl,SqT.of (s13 _ _ ht),rfl,v,rfl,ok.b,kk _ s13⟩
def Z6 (n:Nat) (ls:List Int):List Bool:=(List.range n).map fun i:Nat=>decide ((i:Int)∈ls)
def idxL (bs:List Bool) (n:Nat):List Int:=((List.range n).filter fun i=>bs.getD i false).map fun i:Nat=>(i:Int)
def Zb4:Sp:=fun vs H Q _=>∃ (a b:Addr) (rk ls:List Int),vs=[.ref a,.ref b]/\H a=some (.lst (rk.map V.int))/\H b=some (.lst (ls.map V.int))/\rk.length<=60/\∀ d H',Same H H'->H d=none->H' d=some (.lst ((Z6 rk.length ls).map V.bl))->Q (.ref d) H'
theorem sc23:FnScope ["ranks", "lines"] ["ranks", "lines"] (Zg (top 34)):=⟨rfl,rfl,rfl,by decide+kernel,rfl,by decide+kernel,by decide+kernel⟩
theorem Zhl (D:Def K mg "marks_of" (top 34) ["ranks", "lines"]) (T:Txt K mg):Fu P w K mg base CX0 1 "marks_of" ["ranks", "lines"] Zb4:=by
 refine D.fu sc23 (fun vs H Q E h=>?_) (fun f cdv A outer s H vs Q E hr h=>?_)
 ·obtain⟨a,b,rk,ls,rfl,_⟩:=h
  rfl
 ·obtain⟨a,b,rk,ls,rfl,hq,hl,l1,kk⟩:=h
  refine' ⟨_,Zf (Zj (Jp (ts:=["line"]) (fvs:=["lines"]) (js:=[1]) (cl:=[("lines",s.heap.objs.size+1)]) rfl ?S (Zaf rfl T.range (Za (Yc T.len (pv 0)) Zc)) (fun _ _ _ _=>Ya (i:=0) (show List.Nodup (["line", "lines"]:List Str) from by decide+kernel) rfl (.inl rfl) (Or.inr rfl)) (fun _ _ _ _=>Zas)
    (fun _ _ _ _=>Zs9 (K:=K) (pv 0) (pv 1) (by with_unfolding_all rfl)))),?main⟩
  case S=>exact Zg4 rfl rfl (by decide+kernel) (by decide+kernel) rfl (.inl rfl) rfl (.inl rfl) rfl
  case main =>
   refine⟨_,rfl,a,_,rfl,.inl (SqL.of hq),_,rfl,by omega,by rw[List.length_map];omega,[.ref b],rfl,fun d nd=>?_⟩
   rw[List.length_map]
   refine Jg rk.length (by rw[sizeLine_eq];omega) (fun i ys H2=>ys=(Z6 i ls).map V.bl/\Same H H2/\H2 d=some (.lst ys)) ⟨rfl,Same.new nd,Ze⟩ (fun i ys H2 ⟨e,_,e2⟩=>⟨e2,by rw[e];simp[Z6]⟩) ?_ ?_
   ·rintro i ys H2 N hi ⟨rfl,sm,hD⟩ rest
    refine⟨hi,?_⟩
    rintro x H3 ⟨rfl,rfl⟩
    refine⟨rfl,rfl,iteT ⟨_,rfl,_,rfl,b,_,rfl,.inl (sm.seq (SqL.of hl)),rfl,Zeu _,?_⟩⟩
    refine⟨hD,rest _ _ ⟨?_,fun b o e=>?_,Ze⟩⟩
    ·unfold Z6
     rw[List.range_succ,List.map_append,List.map_append]
     simp[Zgr]
    ·rw[Zb (Zl e nd)]
     exact sm b o e
   ·rintro ys H2 ⟨rfl,sm,hD⟩
    exact⟨Nat.le_refl _,kk d _ sm nd hD⟩
def Zf4:Sp:=fun vs H Q _=>∃ (a:Addr) (bs:List Bool),vs=[.ref a]/\H a=some (.lst (bs.map V.bl))/\bs.length<=60/\∀ d H',Same H H'->H d=none->H' d=some (.lst ((idxL bs bs.length).map V.int))->Q (.ref d) H'
theorem sc24:FnScope ["marks"] ["marks"] (Zg (top 35)):=⟨rfl,rfl,rfl,by decide+kernel,rfl,by decide+kernel,by decide+kernel⟩
theorem Zer (bs:List Bool) (n:Nat):idxL bs (n+1)=if bs.getD n false=true then idxL bs n++[(n:Int)] else idxL bs n:=by
 unfold idxL
 rw[List.range_succ,List.filter_append,List.map_append]
 rw[List.filter_cons,List.filter_nil]
 cases h:bs.getD n false with
 | true=>rfl
 | false=>simp
theorem Zlt (bs:List Bool) (n:Nat):(idxL bs n).length<=n:=by
 unfold idxL
 rw[List.length_map]
 have:=List.length_filter_le (fun i=>bs.getD i false) (List.range n)
 rwa [List.length_range] at this
theorem Zl3 (D:Def K mg "marked" (top 35) ["marks"]) (T:Txt K mg):Fu P w K mg base CX0 1 "marked" ["marks"] Zf4:=by
 refine D.fu sc24 (fun vs H Q E h=>?_) (fun f cdv A outer s H vs Q E hr h=>?_)
 ·obtain⟨a,bs,rfl,_⟩:=h
  rfl
 ·obtain⟨a,bs,rfl,hq,l1,kk⟩:=h
  refine' ⟨_,Zf (Zj (Jp (ts:=["line", "mark"]) (fvs:=[]) (js:=[]) (cl:=[]) rfl ?S (Zfn T.enum (Za (pv 0) Zc)) (fun _ _ _ _=>Zdl (K:=K) (n:=2) rfl (Y0 (Ya (i:=0) (show List.Nodup (["line", "mark"]:List Str) from by decide+kernel) rfl (.inl rfl) (Or.inr rfl)) (Y0 (Ya (i:=1) (show List.Nodup (["line", "mark"]:List Str) from by decide+kernel) rfl (.inl rfl) (Or.inr rfl)) Zbk)))
    (fun _ _ _ _=>Zfm (Zz (pv 1))) (fun _ _ _ _=>pv 0))),?main⟩
  case S=>exact Zoi rfl rfl (by decide+kernel) (by decide+kernel) rfl
  case main =>
   refine⟨_,rfl,a,rfl,⟨_,SqL.of hq⟩,[],rfl,fun d nd=>?_⟩
   refine Jg bs.length (by rw[sizeLine_eq];omega) (fun i ys H2=>ys=(idxL bs i).map V.int/\Same H H2/\H2 d=some (.lst ys)) ⟨rfl,Same.new nd,Ze⟩ (fun i ys H2 ⟨e,_,e2⟩=>⟨e2,by rw[e,List.length_map];exact Zlt _ _⟩) ?_ ?_
   ·rintro i ys H2 N hi ⟨rfl,sm,hD⟩ rest
    have g1:(bs.map V.bl)[i]?=some (.bl (bs.getD i false)):=by simp[hi]
    refine⟨⟨_,_,sm.seq (SqL.of hq),g1⟩,?_⟩
    rintro x H3 ⟨t,v,nt,rfl,rfl,hv⟩
    have e1:=hv _ (sm.seq (SqL.of hq))
    rw[g1] at e1
    cases e1
    have nt':d≠t:=Zl hD nt
    refine⟨t,_,rfl,SqT.of Ze,rfl,_,_,rfl,_,_,rfl,rfl,rfl,rfl,_,rfl,_,rfl,?_⟩
    have sk:Same H (upd H2 t (.tup [.int i,.bl (bs.getD i false)])):=sm.trans (Same.new nt)
    have hD2:upd H2 t (.tup [.int i,.bl (bs.getD i false)]) d=some (.lst ((idxL bs i).map V.int)):=by rw[Zb nt'];exact hD
    refine ite2 (fun hc=>?_) (fun hc=>?_)
    ·refine⟨_,rfl,hD2,rest _ _ ⟨?_,fun b o e=>?_,Ze⟩⟩
     ·rw[Zer,if_pos hc,List.map_append]
      rfl
     ·rw[Zb (Zl e nd)]
      exact sk b o e
    ·refine rest _ _ ⟨?_,sk,hD2⟩
     rw[Zer,if_neg hc]
   ·rintro ys H2 ⟨rfl,sm,hD⟩
    exact⟨⟨_,sm.seq (SqL.of hq),by rw[List.length_map];exact Nat.le_refl _⟩,kk d _ sm nd hD⟩
def Zdd (K:PySem.W.Frag):Sp:=fun vs H Q _=>∃ (a:Addr) (pl:List Int),vs=[.ref a]/\H a=some (.lst (pl.map V.int))/\Q (Yx pl) H
theorem sc25:FnScope ["pile"] ["pile"] (Zg (top 36)):=⟨rfl,rfl,rfl,by decide+kernel,rfl,by decide+kernel,by decide+kernel⟩
theorem Zl0 (D:Def K mg "top_of" (top 36) ["pile"]):Fu P w K mg base CX0 1 "top_of" ["pile"] (Zdd K):=by
 refine D.fu sc25 (fun vs H Q E h=>?_) (fun f cdv A outer s H vs Q E hr h=>?_)
 ·obtain⟨a,pl,rfl,_⟩:=h
  rfl
 ·obtain⟨a,pl,rfl,hq,kk⟩:=h
  refine⟨_,Zf (Zj (Zdn (Zfq (pv 0)) (Zr Z9 (pv 0) (Zg6 Zcq Zd) (fun _ _=>rfl)) Y4)),?_⟩
  refine⟨_,rfl,_,Zaq hq,?_⟩
  unfold Yx at kk
  cases e:pl.getLast? with
  | none =>
   have e':pl=[]:=List.getLast?_eq_none_iff.mp e
   subst e'
   exact iteF kk
  | some x =>
   rw[e] at kk
   have hne:pl≠[]:=by intro z;rw[z] at e;cases e
   refine Z2 (by cases pl with|nil=>exact absurd rfl hne|cons _ _=>rfl) ⟨_,rfl,_,rfl,a,_,_,_,rfl,rfl,SqL.of hq,Zgl e,kk⟩
end
end K10
namespace K10
open PySem L2 L3
def bf (r a m p:Addr) (lim:V) (ex:List (Str × V)):List (Str × V):=("ranks",.ref r)::("asks",.ref a)::("muted",.ref m)::("pile",.ref p)::("limit",lim)::ex
section
variable {r a m p:Addr}{lim v:V}{ex:List (Str × V)}
theorem Ziu:putF "limit" v (bf r a m p lim ex)=bf r a m p v ex:=by
 simp only [bf,putF]
 repeat rw[if_neg (by decide)]
 simp
theorem Ztd:putF "limit" lim (putF "pile" (.ref p) (putF "muted" (.ref m) (putF "asks" (.ref a) (putF "ranks" (.ref r) []))))=bf r a m p lim []:=by
 simp only [putF]
 repeat rw[if_neg (by decide)]
 rfl
end
def rx (g:Addr):List (Str × V):=[("rack",.ref g)]
def ExOk (ex:List (Str × V)):Prop:=ex=[]\/∃ g:Addr,ex=rx g
structure BoardAt (C:Addr) (ex:List (Str × V)) (H:Hp) (x r a m p:Addr) (rk:List Int) (as ms:List Bool) (pl:List Int) (lim:V):Prop where
 at_:∃ dx,H x=some (.ins C dx (bf r a m p lim ex))
 rk:H r=some (.lst (rk.map V.int))
 as:H a=some (.lst (as.map V.bl))
 ms:H m=some (.lst (ms.map V.bl))
 pl:H p=some (.lst (pl.map V.int))
 ra:r≠a
 rm:r≠m
 rp:r≠p
 am:a≠m
 ap:a≠p
 mp:m≠p
 exo:ExOk ex
section
variable {C:Addr}{ex:List (Str × V)}{H H':Hp}{x r a m p dx:Addr}{rk:List Int}{as ms bs:List Bool}{pl ys:List Int}{lim v:V}
theorem BoardAt.ne (B:BoardAt C ex H x r a m p rk as ms pl lim):r≠x/\a≠x/\m≠x/\p≠x:=by
 obtain⟨dx,e⟩:=B.at_
 exact⟨Yl B.rk e (by intro z;cases z),Yl B.as e (by intro z;cases z),Yl B.ms e (by intro z;cases z),Yl B.pl e (by intro z;cases z)⟩
theorem BoardAt.to (B:BoardAt C ex H x r a m p rk as ms pl lim) (kp:∀ b o,(b=x\/b=r\/b=a\/b=m\/b=p)->H b=some o->H' b=some o):BoardAt C ex H' x r a m p rk as ms pl lim:=by
 obtain⟨dx,e⟩:=B.at_
 exact⟨⟨dx,kp _ _ (.inl rfl) e⟩,kp _ _ (.inr (.inl rfl)) B.rk,kp _ _ (.inr (.inr (.inl rfl))) B.as,kp _ _ (.inr (.inr (.inr (.inl rfl)))) B.ms,kp _ _ (.inr (.inr (.inr (.inr rfl)))) B.pl,B.ra,B.rm,B.rp,B.am,B.ap,B.mp,B.exo⟩
theorem BoardAt.same (B:BoardAt C ex H x r a m p rk as ms pl lim) (sm:Same H H'):BoardAt C ex H' x r a m p rk as ms pl lim:=B.to fun b o _ e=>sm b o e
theorem BoardAt.setAs (B:BoardAt C ex H x r a m p rk as ms pl lim):BoardAt C ex (upd H a (.lst (bs.map V.bl))) x r a m p rk bs ms pl lim:=by
 obtain⟨dx,e⟩:=B.at_
 obtain⟨z1,z2,z3,z4⟩:=B.ne
 exact⟨⟨dx,by rw[Zb (Ne.symm z2)];exact e⟩,by rw[Zb B.ra];exact B.rk,Ze,by rw[Zb (Ne.symm B.am)];exact B.ms,by rw[Zb (Ne.symm B.ap)];exact B.pl,B.ra,B.rm,B.rp,B.am,B.ap,B.mp,B.exo⟩
theorem BoardAt.setMs (B:BoardAt C ex H x r a m p rk as ms pl lim):BoardAt C ex (upd H m (.lst (bs.map V.bl))) x r a m p rk as bs pl lim:=by
 obtain⟨dx,e⟩:=B.at_
 obtain⟨z1,z2,z3,z4⟩:=B.ne
 exact⟨⟨dx,by rw[Zb (Ne.symm z3)];exact e⟩,by rw[Zb B.rm];exact B.rk,by rw[Zb B.am];exact B.as,Ze,by rw[Zb (Ne.symm B.mp)];exact B.pl,B.ra,B.rm,B.rp,B.am,B.ap,B.mp,B.exo⟩
theorem BoardAt.setPl (B:BoardAt C ex H x r a m p rk as ms pl lim):BoardAt C ex (upd H p (.lst (ys.map V.int))) x r a m p rk as ms ys lim:=by
 obtain⟨dx,e⟩:=B.at_
 obtain⟨z1,z2,z3,z4⟩:=B.ne
 exact⟨⟨dx,by rw[Zb (Ne.symm z4)];exact e⟩,by rw[Zb B.rp];exact B.rk,by rw[Zb B.ap];exact B.as,by rw[Zb B.mp];exact B.ms,Ze,B.ra,B.rm,B.rp,B.am,B.ap,B.mp,B.exo⟩
theorem BoardAt.setLim (B:BoardAt C ex H x r a m p rk as ms pl lim):BoardAt C ex (upd H x (.ins C dx (putF "limit" v (bf r a m p lim ex)))) x r a m p rk as ms pl v:=by
 obtain⟨z1,z2,z3,z4⟩:=B.ne
 rw[Ziu]
 exact⟨⟨dx,Ze⟩,by rw[Zb z1];exact B.rk,by rw[Zb z2];exact B.as,by rw[Zb z3];exact B.ms,by rw[Zb z4];exact B.pl,B.ra,B.rm,B.rp,B.am,B.ap,B.mp,B.exo⟩
end
structure BTxt (K:PySem.W.Frag) (C:Addr):Prop where
 cl:Cls K C
 nR:NoAttr K C "ranks"
 nA:NoAttr K C "asks"
 nM:NoAttr K C "muted"
 nP:NoAttr K C "pile"
 nL:NoAttr K C "limit"
def bm (j:Nat):Stmt:=Zbm (top 37) j
def wm (j:Nat):Stmt:=Zbm (top 45) j
def fm (j:Nat):Stmt:=Zbm (top 43) j
section
variable {P:Program}{w:World}{K:PySem.W.Frag}{mg:Str->Option Value}{base:Heap}{C P5:Addr}
def Y3 (as ms:List Bool) (i:Nat):Bool:=as.getD i false && !ms.getD i false
def Zfg (C:Addr):Sp:=fun vs H Q _=>∃ (ex:List (Str × V)) (x r a m p:Addr) (rk:List Int) (as ms:List Bool) (pl:List Int) (lim:V) (i:Int),vs=[.ref x,.int i]/\BoardAt C ex H x r a m p rk as ms pl lim/\0<=i/\i<as.length/\i<ms.length/\Q (.bl (Y3 as ms i.toNat)) H
theorem Zol:FnScope ["self", "line"] ["self", "line"] (Zg (bm 11)):=⟨rfl,rfl,rfl,by decide+kernel,rfl,by decide+kernel,by decide+kernel⟩
theorem Zdy (D:MDef K C "wants" "Board.wants" (bm 11) ["self", "line"]) (TB:BTxt K C):FuM P w K mg base CX0 1 C "wants" ["self", "line"] (Zfg C):=by
 refine D.fu Zol (fun vs H Q E h=>?_) (fun f cdv A outer s H vs Q E hr h=>?_)
 ·obtain⟨ex,x,r,a,m,p,rk,as,ms,pl,lim,i,rfl,_⟩:=h
  rfl
 ·obtain⟨ex,x,r,a,m,p,rk,as,ms,pl,lim,i,rfl,B,h0,h1,h2,kk⟩:=h
  refine⟨_,Zf (Zj (Ys (Zr Z9 (Zt (pv 0) rfl) (pv 1) (fun _ _=>rfl)) (Yk (Zi8 (Zr Z9 (Zt (pv 0) rfl) (pv 1) (fun _ _=>rfl)))))),?_⟩
  obtain⟨dx,e0⟩:=B.at_
  refine⟨_,rfl,x,C,dx,_,_,rfl,e0,TB.cl,TB.nA,rfl,_,rfl,a,_,_,_,rfl,rfl,SqL.of B.as,Zkq h0 h1,_,rfl,?_⟩
  unfold Y3 at kk
  cases e:as.getD i.toNat false with
  | false =>
   rw[e] at kk
   exact iteF kk
  | true =>
   rw[e] at kk
   refine iteT ⟨_,rfl,x,C,dx,_,_,rfl,e0,TB.cl,TB.nM,rfl,_,rfl,m,_,_,_,rfl,rfl,SqL.of B.ms,Zkq h0 h2,_,rfl,kk⟩
def Yd (as ms:List Bool) (n:Nat):List Int:=((List.range n).filter fun i=>Y3 as ms i).map fun i:Nat=>(i:Int)
theorem Zcp (as ms:List Bool) (n:Nat):Yd as ms (n+1)=if Y3 as ms n=true then Yd as ms n++[(n:Int)] else Yd as ms n:=by
 unfold Yd
 rw[List.range_succ,List.filter_append,List.map_append]
 rw[List.filter_cons,List.filter_nil]
 cases h:Y3 as ms n with
 | true=>rfl
 | false=>simp
theorem Zbx (as ms:List Bool) (n:Nat):(Yd as ms n).length<=n:=by
 unfold Yd
 rw[List.length_map]
 have:=List.length_filter_le (fun i=>Y3 as ms i) (List.range n)
 rwa [List.length_range] at this
theorem Zaz {as ms:List Bool}{n:Nat}{x:Int}(h:x∈Yd as ms n):0<=x/\x<n:=by
 unfold Yd at h
 obtain⟨i,hi,rfl⟩:=List.mem_map.mp h
 have:=List.mem_range.mp (List.mem_filter.mp hi).1
 omega
theorem Zc7 (as ms:List Bool) (n:Nat):(Yd as ms n).Nodup:=by
 unfold Yd
 exact List.pairwise_map.mpr ((List.nodup_range.filter _).imp fun h e=>h (Int.ofNat_inj.mp e))
def Zb2 (C:Addr):Sp:=fun vs H Q _=>∃ (ex:List (Str × V)) (x r a m p:Addr) (rk:List Int) (as ms:List Bool) (pl:List Int) (lim:V),vs=[.ref x]/\BoardAt C ex H x r a m p rk as ms pl lim/\as.length=rk.length/\ms.length=rk.length/\rk.length<=60/\∀ d H',Same H H'->H d=none->H' d=some (.lst ((Yd as ms rk.length).map V.int))->Q (.ref d) H'
theorem Zin:FnScope ["self"] ["self"] (Zg (bm 12)):=⟨rfl,rfl,rfl,by decide+kernel,rfl,by decide+kernel,by decide+kernel⟩
theorem Z1 {r a m p:Addr}{lim:V}{ex:List (Str × V)}{f:Str}(hx:ExOk ex) (h:(["ranks", "asks", "muted", "pile", "limit", "rack"]:List Str).contains f=false):(bf r a m p lim ex).lookup f=none:=by
 simp only [List.contains_cons,Bool.or_eq_false_iff] at h
 simp only [bf,List.lookup]
 rw[h.1,h.2.1,h.2.2.1,h.2.2.2.1,h.2.2.2.2.1]
 rcases hx with rfl|⟨g,rfl⟩
 ·rfl
 ·simp only [rx,List.lookup]
  rw[h.2.2.2.2.2.1]
theorem Zex (D:MDef K C "wanting" "Board.wanting" (bm 12) ["self"]) (T:Txt K mg) (TB:BTxt K C) (GW:FuM P w K mg base CX0 1 C "wants" ["self", "line"] (Zfg C)):FuM P w K mg base CX0 2 C "wanting" ["self"] (Zb2 C):=by
 refine D.fu Zin (fun vs H Q E h=>?_) (fun f cdv A outer s H vs Q E hr h=>?_)
 ·obtain⟨ex,x,r,a,m,p,rk,as,ms,pl,lim,rfl,_⟩:=h
  rfl
 ·obtain⟨ex,x,r,a,m,p,rk,as,ms,pl,lim,rfl,B,la,lm,l60,kk⟩:=h
  refine' ⟨_,Zf (Zj (Jp (ts:=["line"]) (fvs:=["self"]) (js:=[0]) (cl:=[("self",s.heap.objs.size+1)]) rfl ?S (Zaf rfl T.range (Za (Yc T.len (Zt (pv 0) rfl)) Zc)) (fun _ _ _ _=>Ya (i:=0) (show List.Nodup (["line", "self"]:List Str) from by decide+kernel) rfl (.inl rfl) (Or.inr rfl))
    (fun _ _ _ _=>Zfm (Zz (pm GW TB.cl hr Zk (pv 1) (Za (pv 0) Zc)))) (fun _ _ _ _=>pv 0))),?main⟩
  case S=>exact Zg4 rfl rfl (by decide+kernel) (by decide+kernel) rfl (.inl rfl) rfl (.inl rfl) rfl
  case main =>
   obtain⟨dx,e0⟩:=B.at_
   refine⟨_,rfl,x,C,dx,_,_,rfl,e0,TB.cl,TB.nR,rfl,r,_,rfl,.inl (SqL.of B.rk),_,rfl,by omega,by rw[List.length_map];omega,[.ref x],rfl,fun d nd=>?_⟩
   rw[List.length_map]
   refine Jg rk.length (by rw[sizeLine_eq];omega) (fun i ys H2=>ys=(Yd as ms i).map V.int/\Same H H2/\H2 d=some (.lst ys)) ⟨rfl,Same.new nd,Ze⟩ (fun i ys H2 ⟨e,_,e2⟩=>⟨e2,by rw[e,List.length_map];exact Zbx _ _ _⟩) ?_ ?_
   ·rintro i ys H2 N hi ⟨rfl,sm,hD⟩ rest
    refine⟨hi,?_⟩
    rintro y H3 ⟨rfl,rfl⟩
    have B2:=B.same sm
    obtain⟨dx2,e2⟩:=B2.at_
    refine⟨rfl,rfl,_,rfl,x,dx2,_,rfl,e2,Z1 B.exo (by decide+kernel),_,rfl,ex,x,r,a,m,p,rk,as,ms,pl,lim,_,rfl,B2,by omega,by omega,by omega,_,rfl,?_⟩
    rw[show (0+(i:Int)).toNat=i by omega]
    refine ite2 (fun hc=>?_) (fun hc=>?_)
    ·refine⟨_,rfl,hD,rest _ _ ⟨?_,fun b o e=>?_,Ze⟩⟩
     ·rw[Zcp,if_pos hc,List.map_append]
      simp
     ·rw[Zb (Zl e nd)]
      exact sm b o e
    ·refine rest _ _ ⟨?_,sm,hD⟩
     rw[Zcp,if_neg hc]
   ·rintro ys H2 ⟨rfl,sm,hD⟩
    exact⟨Nat.le_refl _,kk d _ sm nd hD⟩
def Yu (rk:List Int) (lim:V) (pl:List Int) (i:Int):Bool:=(match lim with | .int z=>decide (rkAt rk i<z)|_=>true)&&(match pl.getLast? with|some t=>decide (rkAt rk i<rkAt rk t)|none=>true)
def Zid (C:Addr):Sp:=fun vs H Q _=>∃ (ex:List (Str × V)) (x r a m p:Addr) (rk:List Int) (as ms:List Bool) (pl:List Int) (lim:V) (i:Int),vs=[.ref x,.int i]/\BoardAt C ex H x r a m p rk as ms pl lim/\0<=i/\i<rk.length/\(∀ t∈pl,0<=t/\t<rk.length)/\(lim=.non\/∃ z,lim=.int z)/\Q (.bl (Yu rk lim pl i)) H
theorem Zm7:FnScope ["self", "line", "rank"] ["self", "line"] (Zg (bm 13)):=⟨rfl,rfl,rfl,by decide+kernel,rfl,by decide+kernel,by decide+kernel⟩
theorem Zns (D:MDef K C "is_open" "Board.is_open" (bm 13) ["self", "line"]) (TB:BTxt K C) (GT:Fu P w K mg base CX0 1 "top_of" ["pile"] (Zdd K)):FuM P w K mg base CX0 2 C "is_open" ["self", "line"] (Zid C):=by
 refine D.fu Zm7 (fun vs H Q E h=>?_) (fun f cdv A outer s H vs Q E hr h=>?_)
 ·obtain⟨ex,x,r,a,m,p,rk,as,ms,pl,lim,i,rfl,_⟩:=h
  rfl
 ·obtain⟨ex,x,r,a,m,p,rk,as,ms,pl,lim,i,rfl,B,h0,h1,hp,hlim,kk⟩:=h
  refine⟨_,Zh (Zp (i:=2) Zm7.nd rfl (.inl rfl) (Zr Z9 (Zt (pv 0) rfl) (pv 1) (fun _ _=>rfl)))
   (Zh (Zn (Zb6 (Zec (Zfp (Zt (pv 0) rfl))) (Zar (Zu Zta (pv 2) (Zt (pv 0) rfl) (Zs _)))).pt (Zf (Zj Ye)) Zo)
   (Zf (Zj (Zoz (Zi7 (Zt (pv 0) rfl)) (Yk (Y1 Zg8 (pv 2) (Zr Z9 (Zt (pv 0) rfl) (pc GT hr Zk (Za (Zt (pv 0) rfl) Zc)) (fun _ _=>rfl)) (Zs _))))))),?_⟩
  obtain⟨dx,e0⟩:=B.at_
  refine⟨_,rfl,x,C,dx,_,_,rfl,e0,TB.cl,TB.nR,rfl,_,rfl,r,_,_,_,rfl,rfl,SqL.of B.rk,Y7 h0 h1,?_⟩
  refine⟨_,rfl,x,C,dx,_,_,rfl,e0,TB.cl,TB.nL,rfl,_,rfl,?_⟩
  have fin:Q (.bl (match pl.getLast? with|some t=>decide (rkAt rk i<rkAt rk t)|none=>true)) H->tRet (tOrV (fun σ H Q=>tFld K (tVar 0) "pile" σ H fun x H1=>∃ k,TruV K x H1 k/\Q (.bl (!k)) H1) (tOp (rI0 fun i j=>.bl (decide (i<j))) (tVar 2) (tOp (rIxL K) (tFld K (tVar 0) "ranks") (Zg1 (Zdd K) [] E0 (Yr (tFld K (tVar 0) "pile") tNil))))) { nx:=fun _ H'=>Q .non H',rt:=Q } [some (.ref x),some (.int i),some (.int (rk.getD i.toNat 0))] H:=fun q=>by
   refine⟨_,rfl,x,C,dx,_,_,rfl,e0,TB.cl,TB.nP,rfl,_,Zaq B.pl,_,rfl,?_⟩
   cases e:pl.getLast? with
   | none =>
    have e':pl=[]:=List.getLast?_eq_none_iff.mp e
    subst e'
    exact iteT q
   | some t =>
    rw[e] at q
    have hne:pl≠[]:=by intro z;rw[z] at e;cases e
    have hm:=hp t (List.mem_of_getLast? e)
    refine Zm (by cases pl with|nil=>exact absurd rfl hne|cons _ _=>rfl) ⟨_,rfl,_,rfl,x,C,dx,_,_,rfl,e0,TB.cl,TB.nR,rfl,_,rfl,x,C,dx,_,_,rfl,e0,TB.cl,TB.nP,rfl,p,pl,rfl,B.pl,?_⟩
    have el:Yx pl=.int t:=by unfold Yx;rw[e]
    rw[el]
    exact⟨r,_,_,_,rfl,rfl,SqL.of B.rk,Y7 hm.1 hm.2,_,_,rfl,rfl,q⟩
  unfold Yu at kk
  rcases hlim with rfl|⟨z,rfl⟩
  ·refine iteF ?_
   exact fin (by simpa using kk)
  ·dsimp only at kk
   refine iteT ⟨_,rfl,_,rfl,x,C,dx,_,_,rfl,e0,TB.cl,TB.nL,rfl,_,_,rfl,rfl,_,rfl,?_⟩
   by_cases hz:rkAt rk i<z
   ·refine Zm (decide_eq_false (by unfold rkAt at hz;omega)) ?_
    rw[decide_eq_true hz,Bool.true_and] at kk
    exact fin kk
   ·refine Z2 (decide_eq_true (by unfold rkAt at hz;omega)) ?_
    rw[decide_eq_false hz,Bool.false_and] at kk
    exact kk
end
end K10
namespace K10
open PySem L2 L3
section
variable {P:Program}{w:World}{K:PySem.W.Frag}{mg:Str->Option Value}{base:Heap}{C:Addr}
def Zd6 (C:Addr):Sp:=fun vs H Q _=>∃ (ex:List (Str × V)) (x r a m p:Addr) (rk:List Int) (as ms:List Bool) (pl:List Int) (lim:V),vs=[.ref x]/\BoardAt C ex H x r a m p rk as ms pl lim/\as.length<=60/\ms.length<=60 /\
 ∀ t d0 d1 d2 H',Same H H'->H t=none->H d0=none->H d1=none->H d2=none->d0≠d1->d0≠d2->d1≠d2->H' t=some (.tup [.ref d0,.ref d1,.ref d2,lim])->H' d0=some (.lst ((idxL as as.length).map V.int))->H' d1=some (.lst ((idxL ms ms.length).map V.int))->H' d2=some (.lst (pl.map V.int))->Q (.ref t) H'
theorem Zqq:FnScope ["self"] ["self"] (Zg (bm 8)):=⟨rfl,rfl,rfl,by decide+kernel,rfl,by decide+kernel,by decide+kernel⟩
theorem Znp (D:MDef K C "told" "Board.told" (bm 8) ["self"]) (T:Txt K mg) (TB:BTxt K C) (GM:Fu P w K mg base CX0 1 "marked" ["marks"] Zf4):FuM P w K mg base CX0 2 C "told" ["self"] (Zd6 C):=by
 refine D.fu Zqq (fun vs H Q E h=>?_) (fun f cdv A outer s H vs Q E hr h=>?_)
 ·obtain⟨ex,x,r,a,m,p,rk,as,ms,pl,lim,rfl,_⟩:=h
  rfl
 ·obtain⟨ex,x,r,a,m,p,rk,as,ms,pl,lim,rfl,B,l1,l2,kk⟩:=h
  refine⟨_,Zf (Zj (Z5 (Za (pc GM hr Zk (Za (Zt (pv 0) rfl) Zc)) (Za (pc GM hr Zk (Za (Zt (pv 0) rfl) Zc)) (Za (Jd T.list (Zt (pv 0) rfl)) (Za (Zt (pv 0) rfl) Zc)))))),?_⟩
  obtain⟨dx,e0⟩:=B.at_
  refine⟨_,rfl,x,C,dx,_,_,rfl,e0,TB.cl,TB.nA,rfl,a,as,rfl,B.as,l1,fun d0 H1 s1 n0 g0=>?_⟩
  have B1:=B.same s1
  refine⟨_,rfl,x,C,dx,_,_,rfl,s1 _ _ e0,TB.cl,TB.nM,rfl,m,ms,rfl,B1.ms,l2,fun d1 H2 s2 n1 g1=>?_⟩
  have s12:=s1.trans s2
  have B2:=B.same s12
  refine⟨_,rfl,x,C,dx,_,_,rfl,s12 _ _ e0,TB.cl,TB.nP,rfl,p,_,rfl,.inl (SqL.of B2.pl),fun d2 n2=>?_⟩
  have s3:=Same.new (o:=.lst (pl.map V.int)) n2
  have s13:=s12.trans s3
  refine⟨_,rfl,x,C,dx,_,_,rfl,s13 _ _ e0,TB.cl,TB.nL,rfl,(by show 4<=sizeLine;decide),fun t nt=>?_⟩
  have s4:=Same.new (o:=.tup [.ref d0,.ref d1,.ref d2,lim]) nt
  have d01:d0≠d1:=Zl g0 n1
  have d02:d0≠d2:=Zl (s2 _ _ g0) n2
  have d12:d1≠d2:=Zl g1 n2
  exact kk t d0 d1 d2 _ (s13.trans s4) (s13.free nt) n0 (s1.free n1) (s12.free n2) d01 d02 d12 Ze (s4 _ _ (s3 _ _ (s2 _ _ g0))) (s4 _ _ (s3 _ _ g1)) (s4 _ _ Ze)
end
end K10
namespace K10
open PySem L2 L3
theorem Yg {t u:TS}{D:Ends}{σ:L2.St}{H:Hp}(h:∀ N:L2.St->Hp->Prop,(∀ σ' H',u D σ' H'->N σ' H')->t { D with nx:=N } σ H):tSeq t u D σ H:=h (u D) fun _ _ q=>q
structure ScAt (H:Hp) (t p0 p1 p2:Addr) (l0 l1 pl:List Int) (v:V):Prop where
 at_:H t=some (.tup [.ref p0,.ref p1,.ref p2,v])
 e0:H p0=some (.lst (l0.map V.int))
 e1:H p1=some (.lst (l1.map V.int))
 e2:H p2=some (.lst (pl.map V.int))
theorem ScAt.to {H H':Hp}{t p0 p1 p2:Addr}{l0 l1 pl:List Int}{v:V}(S:ScAt H t p0 p1 p2 l0 l1 pl v) (kp:∀ b o,(b=t\/b=p0\/b=p1\/b=p2)->H b=some o->H' b=some o):ScAt H' t p0 p1 p2 l0 l1 pl v :=
 ⟨kp _ _ (.inl rfl) S.at_,kp _ _ (.inr (.inl rfl)) S.e0,kp _ _ (.inr (.inr (.inl rfl))) S.e1,kp _ _ (.inr (.inr (.inr rfl))) S.e2⟩
theorem ScAt.same {H H':Hp}{t p0 p1 p2:Addr}{l0 l1 pl:List Int}{v:V}(S:ScAt H t p0 p1 p2 l0 l1 pl v) (sm:Same H H'):ScAt H' t p0 p1 p2 l0 l1 pl v:=S.to fun b o _ e=>sm b o e
def PicV (H:Hp) (pv:V) (l0 l1 pl:List Int) (v:V):Prop:=(pv=.non/\l0=[]/\l1=[]/\pl=[]/\v=.non)\/∃ t p0 p1 p2:Addr,pv=.ref t/\ScAt H t p0 p1 p2 l0 l1 pl v
section
variable {P:Program}{w:World}{K:PySem.W.Frag}{mg:Str->Option Value}{base:Heap}{C:Addr}
def Zcs (C:Addr):Sp:=fun vs H Q _=>∃ (x ra:Addr) (rk:List Int) (pv:V) (l0 l1 pl:List Int) (v:V),vs=[.ref x,.ref ra,pv]/\(∃ dx,H x=some (.ins C dx []))/\H ra=some (.lst (rk.map V.int))/\1<=rk.length/\rk.length<=60/\(∀ y∈rk,0<=y/\y<M60)/\PicV H pv l0 l1 pl v/\PicOk rk l0 l1 pl v /\
 ∀ H' r a m p,KeepBut [x] H H'->H r=none->H a=none->H m=none->H p=none->BoardAt C [] H' x r a m p rk (Z6 rk.length l0) (Z6 rk.length l1) pl v->Q .non H'
theorem Zip:FnScope ["self", "ranks", "picture", "start"] ["self", "ranks", "picture"] (Zg (bm 0)):=⟨rfl,rfl,rfl,by decide+kernel,rfl,by decide+kernel,by decide+kernel⟩
set_option maxHeartbeats 1000000 in
theorem Zep (T:Txt K mg) (TB:BTxt K C) (GR:Fu P w K mg base CX0 4 "are_ranks" ["thing"] Zbh) (GP:Fu P w K mg base CX0 6 "is_picture" ["ranks", "thing"] Zb3)
  (GM:Fu P w K mg base CX0 1 "marks_of" ["ranks", "lines"] Zb4) (f:Addr) (cdv:Value) (A:Around) (outer:List Env) (s:Shared) (H:Hp) (vs:List V) (Q:VK) (E:XK) (hr:Room 6 (A.deeper (PyProof.Rows.envOfC "Board.__init__" (Zg (bm 0)) s.heap.objs.size f cdv))) (h:Zcs C vs H Q E) :
  ∃ t,PSs (cxOf CX0 P w K mg base ["self", "ranks", "picture", "start"] "Board.__init__" (Zg (bm 0)) f cdv A outer s H E).nox (Zw (bm 0)) t/\t { nx:=fun _ H'=>Q .non H',rt:=Q } (Z3 ["self", "ranks", "picture", "start"] vs) H:=by
 obtain⟨x,ra,rk,pv0,l0,ls1,pl,v,rfl,⟨dx,e0⟩,hq,l1,l60,hrk,hpv,ok,kk⟩:=h
 refine⟨_,Zh (Zn (Yh (Zz (pc GR hr Zk (Za (pv 1) Zc)))) (Zf Zai) Zo)
  (Zh (Zp (i:=3) Zip.nd rfl (.inl rfl) (Zdn (Zec (Zgg (pv 2))) (Z5 (Za (Z0 Zc) (Za (Z0 Zc) (Za (Z0 Zc) (Za Y4 Zc))))) (pv 2)))
  (Zh (Zn (Yh (Zz (pc GP hr Zk (Za (pv 1) (Za (pv 3) Zc))))) (Zf Zai) Zo)
  (Zh (Yj (pv 0) (Jd T.list (pv 1)) rfl)
  (Zh (Yj (pv 0) (pc GM hr Zk (Za (pv 1) (Za (Zr Zx (pv 3) Zd (fun _ _=>rfl)) Zc))) rfl)
  (Zh (Yj (pv 0) (pc GM hr Zk (Za (pv 1) (Za (Zr Zx (pv 3) Zd (fun _ _=>rfl)) Zc))) rfl)
  (Zh (Yj (pv 0) (Jd T.list (Zr Zx (pv 3) Zd (fun _ _=>rfl))) rfl)
  (Zf (Yj (pv 0) (Zr Zx (pv 3) Zd (fun _ _=>rfl)) rfl)))))))),?_⟩
 refine⟨_,rfl,ra,rk,rfl,hq,l1,l60,hrk,fun H1 s1=>⟨_,rfl,iteF ?_⟩⟩
 refine Yg fun N0 h0=>h0 _ _ (Yg fun NS hNS=>?_)
 have rest:∀ (t p0 p1 p2:Addr) (H2:Hp),Same H H2->ScAt H2 t p0 p1 p2 l0 ls1 pl v->NS [some (.ref x),some (.ref ra),some pv0,some (.ref t)] H2:=by
  intro t p0 p1 p2 H2 s2 sc
  apply hNS
  refine⟨_,rfl,_,rfl,ra,t,p0,p1,p2,v,rk,l0,ls1,pl,rfl,s2 _ _ hq,sc.at_,sc.e0,sc.e1,sc.e2,ok,fun H3 s3=>⟨_,rfl,iteF ?_⟩⟩
  have s23:=s2.trans s3
  refine⟨_,rfl,ra,_,rfl,.inl (SqL.of (s23 _ _ hq)),fun r nr=>?_⟩
  have u4:=Same.new (o:=.lst (rk.map V.int)) nr
  have s4:=s23.trans u4
  refine⟨_,rfl,x,C,dx,_,rfl,s4 _ _ e0,TB.cl,TB.nR,(by show 0<1000;decide),?_⟩
  have xr:r≠x:=Ne.symm (Zl (s23 _ _ e0) nr)
  have zr:H r=none:=s23.free nr
  have k5:KeepBut [x] H (upd (upd H3 r (.lst (rk.map V.int))) x (.ins C dx (putF "ranks" (.ref r) []))):=KeepBut.upd (fun b o e _=>s4 b o e) (.inl (by simp))
  have xt:t≠x:=Yl sc.at_ (s2 _ _ e0) (by intro z;cases z)
  have x0:p0≠x:=Yl sc.e0 (s2 _ _ e0) (by intro z;cases z)
  have x1:p1≠x:=Yl sc.e1 (s2 _ _ e0) (by intro z;cases z)
  have x2:p2≠x:=Yl sc.e2 (s2 _ _ e0) (by intro z;cases z)
  have xra:ra≠x:=Yl hq e0 (by intro z;cases z)
  have f34:=s3.trans u4
  have et5:upd (upd H3 r (.lst (rk.map V.int))) x (.ins C dx (putF "ranks" (.ref r) [])) t=some (.tup [.ref p0,.ref p1,.ref p2,v]):=by rw[Zb xt];exact f34 _ _ sc.at_
  have e05:upd (upd H3 r (.lst (rk.map V.int))) x (.ins C dx (putF "ranks" (.ref r) [])) p0=some (.lst (l0.map V.int)):=by rw[Zb x0];exact f34 _ _ sc.e0
  have e15:upd (upd H3 r (.lst (rk.map V.int))) x (.ins C dx (putF "ranks" (.ref r) [])) p1=some (.lst (ls1.map V.int)):=by rw[Zb x1];exact f34 _ _ sc.e1
  have e25:upd (upd H3 r (.lst (rk.map V.int))) x (.ins C dx (putF "ranks" (.ref r) [])) p2=some (.lst (pl.map V.int)):=by rw[Zb x2];exact f34 _ _ sc.e2
  have er5:upd (upd H3 r (.lst (rk.map V.int))) x (.ins C dx (putF "ranks" (.ref r) [])) r=some (.lst (rk.map V.int)):=by rw[Zb xr];exact Ze
  have ex5:upd (upd H3 r (.lst (rk.map V.int))) x (.ins C dx (putF "ranks" (.ref r) [])) x=some (.ins C dx (putF "ranks" (.ref r) [])):=Ze
  have eq5:upd (upd H3 r (.lst (rk.map V.int))) x (.ins C dx (putF "ranks" (.ref r) [])) ra=some (.lst (rk.map V.int)):=by rw[Zb xra];exact s4 _ _ hq
  generalize upd (upd H3 r (.lst (rk.map V.int))) x (.ins C dx (putF "ranks" (.ref r) []))=H5 at k5 et5 e05 e15 e25 er5 ex5 eq5 ⊢
  clear f34 s4 u4 nr s23 s3 s2 s1
  refine⟨_,rfl,_,rfl,t,_,_,_,rfl,rfl,SqT.of et5,rfl,ra,p0,rk,l0,rfl,eq5,e05,l60,fun a H6 s6 na ga=>?_⟩
  refine⟨_,rfl,x,C,dx,_,rfl,s6 _ _ ex5,TB.cl,TB.nA,(by show 1<1000;decide),?_⟩
  have xa:a≠x:=Ne.symm (Zl ex5 na)
  have ra':r≠a:=Zl er5 na
  have hold:∀ {b:Addr} {o:HO},H5 b=some o->b≠x->upd H6 x (.ins C dx (putF "asks" (.ref a) (putF "ranks" (.ref r) []))) b=some o:=fun e hb=>by rw[Zb hb];exact s6 _ _ e
  have k6:KeepBut [x] H (upd H6 x (.ins C dx (putF "asks" (.ref a) (putF "ranks" (.ref r) [])))):=fun b o e hn=>hold (k5 b o e hn) (by simpa using hn)
  have et6:=hold et5 xt
  have e16:=hold e15 x1
  have e26:=hold e25 x2
  have er6:=hold er5 xr
  have eq6:=hold eq5 xra
  have ea6:upd H6 x (.ins C dx (putF "asks" (.ref a) (putF "ranks" (.ref r) []))) a=some (.lst ((Z6 rk.length l0).map V.bl)):=by rw[Zb xa];exact ga
  have ex6:upd H6 x (.ins C dx (putF "asks" (.ref a) (putF "ranks" (.ref r) []))) x=some (.ins C dx (putF "asks" (.ref a) (putF "ranks" (.ref r) []))):=Ze
  have za:H a=none:=by
   cases e:H a with
   | none=>rfl
   | some o=>rw[k5 a o e (by simpa using xa)] at na;cases na
  generalize upd H6 x (.ins C dx (putF "asks" (.ref a) (putF "ranks" (.ref r) [])))=H7 at k6 et6 e16 e26 er6 eq6 ea6 ex6 ⊢
  clear hold s6 na ga k5 et5 e05 e15 e25 er5 ex5 eq5
  refine⟨_,rfl,_,rfl,t,_,_,_,rfl,rfl,SqT.of et6,rfl,ra,p1,rk,ls1,rfl,eq6,e16,l60,fun m H8 s8 nm gm=>?_⟩
  refine⟨_,rfl,x,C,dx,_,rfl,s8 _ _ ex6,TB.cl,TB.nM,(by show 2<1000;decide),?_⟩
  have xm:m≠x:=Ne.symm (Zl ex6 nm)
  have rm':r≠m:=Zl er6 nm
  have am':a≠m:=Zl ea6 nm
  have hold:∀ {b:Addr} {o:HO},H7 b=some o->b≠x->upd H8 x (.ins C dx (putF "muted" (.ref m) (putF "asks" (.ref a) (putF "ranks" (.ref r) [])))) b=some o:=fun e hb=>by rw[Zb hb];exact s8 _ _ e
  have k8:KeepBut [x] H (upd H8 x (.ins C dx (putF "muted" (.ref m) (putF "asks" (.ref a) (putF "ranks" (.ref r) []))))):=fun b o e hn=>hold (k6 b o e hn) (by simpa using hn)
  have et8:=hold et6 xt
  have e28:=hold e26 x2
  have er8:=hold er6 xr
  have ea8:=hold ea6 xa
  have em8:upd H8 x (.ins C dx (putF "muted" (.ref m) (putF "asks" (.ref a) (putF "ranks" (.ref r) [])))) m=some (.lst ((Z6 rk.length ls1).map V.bl)):=by rw[Zb xm];exact gm
  have ex8:upd H8 x (.ins C dx (putF "muted" (.ref m) (putF "asks" (.ref a) (putF "ranks" (.ref r) [])))) x=some (.ins C dx (putF "muted" (.ref m) (putF "asks" (.ref a) (putF "ranks" (.ref r) [])))):=Ze
  have zm:H m=none:=by
   cases e:H m with
   | none=>rfl
   | some o=>rw[k6 m o e (by simpa using xm)] at nm;cases nm
  generalize upd H8 x (.ins C dx (putF "muted" (.ref m) (putF "asks" (.ref a) (putF "ranks" (.ref r) []))))=H9 at k8 et8 e28 er8 ea8 em8 ex8 ⊢
  clear hold s8 nm gm k6 et6 e16 e26 er6 eq6 ea6 ex6
  refine⟨_,rfl,t,_,_,_,rfl,rfl,SqT.of et8,rfl,p2,_,rfl,.inl (SqL.of e28),fun p np=>?_⟩
  have s9:=Same.new (o:=.lst (pl.map V.int)) np
  refine⟨_,rfl,x,C,dx,_,rfl,s9 _ _ ex8,TB.cl,TB.nP,(by show 3<1000;decide),?_⟩
  have xp:p≠x:=Ne.symm (Zl ex8 np)
  have rp':r≠p:=Zl er8 np
  have ap':a≠p:=Zl ea8 np
  have mp':m≠p:=Zl em8 np
  have zp:H p=none:=by
   cases e:H p with
   | none=>rfl
   | some o=>rw[k8 p o e (by simpa using xp)] at np;cases np
  refine⟨_,rfl,t,_,_,_,rfl,rfl,SqT.of (by rw[Zb xt];exact s9 _ _ et8),rfl,_,rfl,x,C,dx,_,rfl,Ze,TB.cl,TB.nL,(by show 4<1000;decide),?_⟩
  refine kk _ r a m p ?_ zr za zm zp ⟨⟨dx,by rw[Ze,Ztd]⟩,?_,?_,?_,?_,ra',rm',rp',am',ap',mp',.inl rfl⟩
  ·intro b o e hn
   have hb:b≠x:=by simpa using hn
   rw[Zb hb,Zb hb]
   exact s9 _ _ (k8 b o e hn)
  ·rw[Zb xr,Zb xr];exact s9 _ _ er8
  ·rw[Zb xa,Zb xa];exact s9 _ _ ea8
  ·rw[Zb xm,Zb xm];exact s9 _ _ em8
  ·rw[Zb xp,Zb xp];exact Ze
 rcases hpv with ⟨rfl,rfl,rfl,rfl,rfl⟩|⟨t,p0,p1,p2,rfl,sc⟩
 ·refine⟨_,rfl,_,rfl,iteT ⟨(by show 0<=sizeLine;decide),fun p0 n0=>⟨(by show 0<=sizeLine;decide),fun p1 n1=>⟨(by show 0<=sizeLine;decide),fun p2 n2=>⟨(by show 4<=sizeLine;decide),fun t nt=>?_⟩⟩⟩⟩⟩
  have u0:=Same.new (o:=.lst []) n0
  have u1:=Same.new (o:=.lst []) n1
  have u2:=Same.new (o:=.lst []) n2
  have u3:=Same.new (o:=.tup [.ref p0,.ref p1,.ref p2,.non]) nt
  exact rest t p0 p1 p2 _ ((((s1.trans u0).trans u1).trans u2).trans u3) ⟨Ze,((u1.trans u2).trans u3) _ _ (Ze (H:=H1) (a:=p0) (o:=.lst [])),(u2.trans u3) _ _ (Ze (a:=p1) (o:=.lst [])),u3 _ _ (Ze (a:=p2) (o:=.lst []))⟩
 ·exact⟨_,rfl,_,rfl,iteF ⟨_,rfl,rest t p0 p1 p2 H1 s1 (sc.same s1)⟩⟩
theorem Zgp:∀ vs H Q E,Zcs C vs H Q E->vs.length=(["self", "ranks", "picture"]:List Str).length:=fun vs H Q E h=>by
 obtain⟨x,ra,rk,pv0,l0,ls1,pl,v,rfl,_⟩:=h
 rfl
theorem Zpw {DB:Addr}(D:BDef K DB "__init__" "Board.__init__" (bm 0) ["self", "ranks", "picture"]) (T:Txt K mg) (TB:BTxt K C) (GR:Fu P w K mg base CX0 4 "are_ranks" ["thing"] Zbh) (GP:Fu P w K mg base CX0 6 "is_picture" ["ranks", "thing"] Zb3)
  (GM:Fu P w K mg base CX0 1 "marks_of" ["ranks", "lines"] Zb4):FuB P w K mg base CX0 7 DB "__init__" ["self", "ranks", "picture"] (Zcs C):=D.fu Zip Zgp (Zep T TB GR GP GM)
end
end K10
namespace K10
open PySem L2 L3
theorem Zge:∀ (m:Nat) (l:List Int),l.Nodup->(∀ x∈l,0<=x/\x<m)->l.length<=m
 | 0,l,_,h=>by
  cases l with
  | nil=>simp
  | cons x r=>have:=h x (by simp);omega
 | m+1,l,nd,h=>by
  by_cases hm:(m:Int)∈l
  ·have:=Zge m (l.erase m) (nd.erase _) fun x hx=>by
    have h1:=(List.Nodup.mem_erase_iff nd).mp hx
    have h2:=h x h1.2
    have:x≠m:=h1.1
    omega
   rw[List.length_erase_of_mem hm] at this
   omega
  ·have:=Zge m l nd fun x hx=>by
    have h2:=h x hx
    have:x≠m:=fun e=>hm (e▸hx)
    omega
   omega
theorem Zbt {rk:List Int}:∀ {l:List Int},l.Pairwise (fun x y=>lt rk x y=true)->l.Nodup
 | [],_=>List.nodup_nil
 | x::r,h=>by
  obtain⟨a,b⟩:=List.pairwise_cons.mp h
  exact List.nodup_cons.mpr ⟨fun z=>(by have:=a x z;rw[Zgk] at this;cases this),Zbt b⟩
theorem Sorted.one {rk:List Int}:∀ {ys zs:List Int},ys.Perm zs->ys.Pairwise (fun x y=>lt rk x y=true)->zs.Pairwise (fun x y=>lt rk x y=true)->ys=zs
 | [],zs,p,_,_=>(List.nil_perm.mp p).symm
 | y::ys,[],p,_,_=>by cases p.length_eq
 | y::ys,z::zs,p,h1,h2=>by
  obtain⟨a1,a2⟩:=List.pairwise_cons.mp h1
  obtain⟨b1,b2⟩:=List.pairwise_cons.mp h2
  have e:y=z:=by
   by_cases e:y=z
   ·exact e
   ·exfalso
    have hy:y∈zs:=by
     have:y∈z::zs:=p.mem_iff.mp (by simp)
     rcases List.mem_cons.mp this with q|q
     ·exact absurd q e
     ·exact q
    have hz:z∈ys:=by
     have:z∈y::ys:=p.mem_iff.mpr (by simp)
     rcases List.mem_cons.mp this with q|q
     ·exact absurd q.symm e
     ·exact q
    have q:=Zjj (a1 z hz) (b1 y hy)
    rw[Zgk] at q
    cases q
  subst e
  rw[Sorted.one ((List.perm_cons y).mp p) a2 b2]
theorem Sorted.eq {rk ls ys zs:List Int}(a:Sorted rk ls ys) (b:Sorted rk ls zs):ys=zs:=Sorted.one (a.perm.trans b.perm.symm) a.pw b.pw
structure GInv (rk:List Int) (n:Int) (hg bk:List Int):Prop where
 pw:(hg++bk).Pairwise fun x y=>lt rk x y=true
 len:(hg.length:Int)<=n
 ne:bk≠[]->hg≠[]
theorem Zds {hg:List Int}{z:Int}(h:hg.getLast?=some z):hg=hg.dropLast++[z]:=by
 have hne:hg≠[]:=by intro e;rw[e] at h;cases h
 have:=List.dropLast_concat_getLast hne
 rw[List.getLast?_eq_getLast hne] at h
 cases h
 exact this.symm
theorem Zhf {rk:List Int}{hg:List Int}{z:Int}(h:hg.getLast?=some z) (pw:hg.Pairwise fun x y=>lt rk x y=true):∀ x∈hg,x=z\/lt rk x z=true:=fun x hx=>by
 have e:=Zds h
 rw[e,List.pairwise_append] at pw
 rw[e] at hx
 rcases List.mem_append.mp hx with q|q
 ·exact .inr (pw.2.2 x q z (by simp))
 ·exact .inl (by simpa using q)
theorem Zmf {rk:List Int}{n:Int}{hg bk:List Int}{line l:Int}{hg' bk':List Int}{l':Int}(G:GInv rk n hg bk) (hn:1<=n) (hni:line∉hg++bk) (R:Zml rk n hg bk line l hg' bk' l'):GInv rk n hg' bk':=by
 have pw:=G.pw
 rw[List.pairwise_append] at pw
 obtain⟨pwh,pwb,pwc⟩:=pw
 rcases R with ⟨ho,so,rfl,_⟩|⟨ho,eh,so,_⟩
 ·-- laid on a peg
  have hpr:bk0 n hg bk≠[]->∃ z,hg.getLast?=some z/\lt rk line z=true:=fun hb=>by
   unfold Jq at ho
   cases hl:hg.getLast? with
   | none =>
    have e:hg=[]:=List.getLast?_eq_none_iff.mp hl
    subst e
    have hb':bk≠[]:=by
     intro z
     subst z
     unfold bk0 at hb
     simp at hb
    exact absurd rfl (G.ne hb')
   | some z =>
    refine⟨z,rfl,?_⟩
    have hp:Zed rk hg line=lt rk line z:=by unfold Zed;rw[hl]
    rw[hp] at ho
    cases hz:lt rk line z with
    | true=>rfl
    | false =>
     rw[hz,Bool.false_or,Bool.and_eq_true,decide_eq_true_iff] at ho
     exfalso
     apply hb
     unfold bk0
     rw[if_neg (by omega)]
     exact List.isEmpty_iff.mp ho.1
  have h0s:=Zjs n hg
  refine⟨List.pairwise_append.mpr ⟨so.pw,?_,fun x hx y hy=>?_⟩,?_,fun _ z=>?_⟩
  ·unfold bk0
   split
   ·cases hl:hg.getLast? with
    | none=>simpa using pwb
    | some z=>exact List.pairwise_cons.mpr ⟨fun y hy=>pwc z (List.mem_of_getLast? hl) y hy,pwb⟩
   ·exact pwb
  ·have hb:bk0 n hg bk≠[]:=List.ne_nil_of_mem hy
   obtain⟨z,hz,hlz⟩:=hpr hb
   have hx':=so.perm.mem_iff.mp hx
   have hzm:=List.mem_of_getLast? hz
   have toz:(x=line\/x∈hg0 n hg)->y∈bk->lt rk x y=true:=fun hx hy=>by
    rcases hx with rfl|hx
    ·exact Zjj hlz (pwc z hzm y hy)
    ·exact pwc x (h0s.subset hx) y hy
   have hx2:x=line\/x∈hg0 n hg:=by
    rcases List.mem_append.mp hx' with q|q
    ·exact .inr q
    ·exact .inl (by simpa using q)
   unfold bk0 at hy
   split at hy
   ·rename_i hfull
    rw[hz] at hy
    have hy':y=z\/y∈bk:=by simpa using hy
    rcases hy' with rfl|hy'
    ·rcases hx2 with rfl|q
     ·exact hlz
     ·have e:=Zds hz
      unfold hg0 at q
      rw[if_pos hfull] at q
      rw[e,List.pairwise_append] at pwh
      exact pwh.2.2 x q y (by simp)
    ·exact toz hx2 hy'
   ·exact toz hx2 hy
  ·rw[so.perm.length_eq,List.length_append]
   have:=G.len
   unfold hg0
   split
   ·rename_i hfull
    rw[List.length_dropLast]
    show ((hg.length - 1+1:Nat):Int)<=n
    omega
   ·show ((hg.length+1:Nat):Int)<=n
    omega
  ·have:=so.perm.mem_iff.mpr (show line∈hg0 n hg++[line] by simp)
   rw[z] at this
   cases this
 ·-- it waits
  have eh':=eh.symm
  subst eh'
  have hbk:hg=[]->False:=fun e=>by
   subst e
   unfold Jq Zed at ho
   have ho':(bk.isEmpty&&decide (((([]:List Int).length:Nat):Int)<n))=false:=by simpa using ho
   cases bk with
   | nil =>
    simp at ho'
    omega
   | cons y r=>exact absurd rfl (G.ne (by simp))
  refine⟨List.pairwise_append.mpr ⟨pwh,so.pw,fun x hx y hy=>?_⟩,G.len,fun _ e=>hbk e⟩
  have hy':=so.perm.mem_iff.mp hy
  rcases List.mem_append.mp hy' with q|q
  ·exact pwc x hx y q
  ·have e:y=line:=by simpa using q
   subst e
   cases hl:hg.getLast? with
   | none=>exact absurd (List.getLast?_eq_none_iff.mp hl) hbk
   | some z =>
    have hp:lt rk y z=false:=by
     unfold Jq Zed at ho
     rw[hl] at ho
     cases hz:lt rk y z with
     | false=>rfl
     | true =>
      dsimp only at ho
      rw[hz,Bool.true_or] at ho
      cases ho
    have hzm:=List.mem_of_getLast? hl
    have hne:y≠z:=fun e=>hni (by rw[e];simp[hzm])
    have hzl:lt rk z y=true:=(Znk rk hne).resolve_left (by rw[hp];simp)
    rcases Zhf hl pwh x hx with rfl|q
    ·exact hzl
    ·exact Zjj q hzl
theorem Zcg (x:Int):∀ l:List Int,(Yv x l).Sublist l
 | []=>List.Sublist.refl _
 | y::r=>by
  unfold Yv
  split
  ·exact List.sublist_cons_self y r
  ·exact List.Sublist.cons_cons y (Zcg x r)
theorem Zry {rk:List Int}{n:Int}{hg bk:List Int}{line l k:Int}{hg' bk':List Int}{l' k':Int}(G:GInv rk n hg bk) (hn:1<=n) (R:GoR n hg bk line l k hg' bk' l' k'):GInv rk n hg' bk':=by
 have s1:(hg1 hg line).Sublist hg:=by unfold hg1;split;exact Zcg _ _;exact List.Sublist.refl _
 have s2:(bk1 hg bk line).Sublist bk:=by unfold bk1;split;exact List.Sublist.refl _;exact Zcg _ _
 have pw1:(hg1 hg line++bk1 hg bk line).Pairwise fun x y=>lt rk x y=true:=G.pw.sublist (s1.append s2)
 rcases R with ⟨hb,hh,rfl,rfl,_,_⟩|⟨hc,rfl,rfl,_,_⟩
 ·rw[hh,List.nil_append] at pw1
  refine⟨by rw[List.take_append_drop];exact pw1,by rw[List.length_take];omega,fun _ z=>?_⟩
  have hne:=List.length_pos_iff.mpr hb
  have:=congrArg List.length z
  rw[List.length_take,List.length_nil] at this
  omega
 ·refine⟨pw1,?_,fun z y=>hc ⟨z,y⟩⟩
  have:=s1.length_le
  have:=G.len
  omega
theorem Zlo {rk ls ys:List Int}{n:Int}(hn:1<=n) (so:Sorted rk ls ys):GInv rk n (ys.take n.toNat) (ys.drop n.toNat):=by
 refine⟨by rw[List.take_append_drop];exact so.pw,by rw[List.length_take];omega,fun z y=>?_⟩
 have h1:=congrArg List.length y
 rw[List.length_take,List.length_nil] at h1
 have h2:=List.length_pos_iff.mpr z
 rw[List.length_drop] at h2
 omega
theorem Zfy {x:Int}:∀ {l:List Int},l.Nodup->∀ z,z∈Yv x l ↔ z∈l/\z≠x
 | [],_,z=>by simp[Yv]
 | y::r,nd,z=>by
  obtain⟨h1,h2⟩:=List.nodup_cons.mp nd
  unfold Yv
  by_cases e:y=x
  ·rw[if_pos e]
   subst e
   simp only [List.mem_cons]
   constructor
   ·intro h
    exact⟨.inr h,fun e=>h1 (e▸h)⟩
   ·rintro⟨h|h,hn⟩
    ·exact absurd h hn
    ·exact h
  ·rw[if_neg e]
   have:=Zfy (x:=x) h2 z
   simp only [List.mem_cons]
   constructor
   ·rintro (h|h)
    ·exact⟨.inl h,fun e2=>e (h▸e2)⟩
    ·exact⟨.inr (this.mp h).1,(this.mp h).2⟩
   ·rintro⟨h|h,hn⟩
    ·exact .inl h
    ·exact .inr (this.mpr ⟨h,hn⟩)
theorem Zhe {hg:List Int}:hg.dropLast++hg.getLast?.toList=hg:=by
 cases h:hg.getLast? with
 | none =>
  have:=List.getLast?_eq_none_iff.mp h
  subst this
  rfl
 | some z=>exact(Zds h).symm
theorem Zke {rk:List Int}{n:Int}{hg bk:List Int}{line l:Int}{hg' bk':List Int}{l':Int}(R:Zml rk n hg bk line l hg' bk' l'):(hg'++bk').Perm (line::(hg++bk)):=by
 rcases R with ⟨_,so,rfl,_⟩|⟨_,rfl,so,_⟩
 ·refine(so.perm.append_right _).trans ?_
  have e:(hg0 n hg++bk0 n hg bk)=hg++bk:=by
   unfold hg0 bk0
   split
   ·rw[← List.append_assoc,Zhe]
   ·rfl
  rw[← e,List.append_assoc]
  exact List.perm_middle
 ·refine(so.perm.append_left _).trans ?_
  rw[← List.append_assoc]
  exact List.perm_append_singleton _ _
theorem Zrx {n:Int}{hg bk:List Int}{line l k:Int}{hg' bk':List Int}{l' k':Int}(nd:(hg++bk).Nodup) (R:GoR n hg bk line l k hg' bk' l' k'):(hg'++bk').Nodup/\∀ z,z∈hg'++bk' ↔ z∈hg++bk/\z≠line:=by
 have e:hg'++bk'=hg1 hg line++bk1 hg bk line:=by
  rcases R with ⟨_,e1,rfl,rfl,_⟩|⟨_,rfl,rfl,_⟩
  ·rw[e1,List.take_append_drop];rfl
  ·rfl
 rw[e]
 have hb:=List.nodup_append.mp nd
 unfold hg1 bk1
 by_cases hm:line∈hg
 ·rw[if_pos hm,if_pos hm]
  refine⟨nd.sublist ((Zcg _ _).append_right _),fun z=>?_⟩
  rw[List.mem_append,List.mem_append,Zfy hb.1]
  constructor
  ·rintro (h|h)
   ·exact⟨.inl h.1,h.2⟩
   ·exact⟨.inr h,fun e=>hb.2.2 _ hm _ h e.symm⟩
  ·rintro⟨h|h,hn⟩
   ·exact .inl ⟨h,hn⟩
   ·exact .inr h
 ·rw[if_neg hm,if_neg hm]
  refine⟨nd.sublist ((Zcg _ _).append_left _),fun z=>?_⟩
  rw[List.mem_append,List.mem_append,Zfy hb.2.1]
  constructor
  ·rintro (h|h)
   ·exact⟨.inl h,fun e=>hm (e▸h)⟩
   ·exact⟨.inr h.1,h.2⟩
  ·rintro⟨h|h,hn⟩
   ·exact .inl h
   ·exact .inr ⟨h,hn⟩
theorem Zdm {l1 l2:List Int}(n1:l1.Nodup) (n2:l2.Nodup) (h:∀ z,z∈l1 ↔ z∈l2):l1.Perm l2:=(List.perm_ext_iff_of_nodup n1 n2).mpr h
structure BS where
 rk:List Int
 as:List Bool
 ms:List Bool
 pl:List Int
 lim:V
structure PG where
 n:Int
 hg:List Int
 bk:List Int
 c:Int
 l:Int
 k:Int
abbrev BS.want (b:BS) (i:Nat):Bool:=Y3 b.as b.ms i
abbrev BS.wants (b:BS):List Int:=Yd b.as b.ms b.rk.length
structure BOk (b:BS):Prop where
 la:b.as.length=b.rk.length
 lm:b.ms.length=b.rk.length
 l1:1<=b.rk.length
 l60:b.rk.length<=60
 ro:∀ y∈b.rk,0<=y/\y<M60
 pr:∀ t∈b.pl,0<=t/\t<b.rk.length
 fl:Up (b.pl.reverse.map (rkAt b.rk))
 li:BarV b.lim
structure POk (b:BS) (p:PG):Prop where
 n1:1<=p.n
 n16:p.n<=16
 g:GInv b.rk p.n p.hg p.bk
 pm:(p.hg++p.bk).Perm b.wants
theorem POk.so {b:BS}{p:PG}(h:POk b p):Sorted b.rk b.wants (p.hg++p.bk):=⟨h.pm,h.g.pw⟩
theorem Za0 {as ms:List Bool}{n:Nat}{z:Int}:z∈Yd as ms n ↔ 0<=z/\z<n/\Y3 as ms z.toNat=true:=by
 unfold Yd
 rw[List.mem_map]
 constructor
 ·rintro⟨i,hi,rfl⟩
  obtain⟨h1,h2⟩:=List.mem_filter.mp hi
  have:=List.mem_range.mp h1
  exact⟨by omega,by omega,by simpa using h2⟩
 ·rintro⟨h1,h2,h3⟩
  exact⟨z.toNat,List.mem_filter.mpr ⟨List.mem_range.mpr (by omega),h3⟩,by omega⟩
theorem Zp9 {ns:List Int}(h:Up ns):ns.Pairwise (· < ·):=by
 rw[List.pairwise_iff_getElem]
 intro i j hi hj hij
 have e:∀ (k:Nat) (hk:i+k<ns.length),0<k->ns[i]<ns[i+k]:=by
  intro k
  induction k with
  | zero=>intro _ h0;omega
  | succ k ih =>
   intro hk _
   have s:=h (i+k) (by omega)
   have e1:ns.getD (i+k) 0=ns[i+k]:=by simp[show i+k<ns.length by omega]
   have e2:ns.getD (i+k+1) 0=ns[i+k+1]:=by simp[show i+k+1<ns.length by omega]
   rw[e1,e2] at s
   by_cases hk0:k=0
   ·subst hk0
    exact s
   ·have:=ih (by omega) (by omega)
    exact Int.lt_trans this s
 have:=e (j - i) (by omega) (by omega)
 simpa [show i+(j - i)=j by omega] using this
theorem BOk.pnd {b:BS}(h:BOk b):b.pl.Nodup:=by
 have:=Zp9 h.fl
 rw[List.pairwise_map] at this
 have h2:b.pl.reverse.Nodup:=this.imp fun {x y} q e=>by subst e;omega
 exact(List.pairwise_reverse.mp h2).imp Ne.symm
theorem BOk.plen {b:BS}(h:BOk b):b.pl.length<=60:=Nat.le_trans (Zge b.rk.length b.pl h.pnd h.pr) h.l60
theorem Zh0 {x:Int}{ns:List Int}(h:Up ns) (hx:∀ y,ns.head?=some y->x<y):Up (x::ns):=by
 intro i hi
 cases i with
 | zero =>
  cases ns with
  | nil=>simp at hi
  | cons y r=>exact hx y rfl
 | succ i=>exact h i (by simpa using hi)
theorem Zn3 {x:Int}{ns:List Int}(h:Up (x::ns)):Up ns:=fun i hi=>h (i+1) (by simpa using hi)
abbrev TabF (H:Hp) (P5:Addr):Prop:=Tab H P5 (Zhg (top 21)) q5
structure TT (P4 P5:Addr) (H:Hp):Prop where
 o:TabO H P4
 f:TabF H P5
 ne:P4≠P5
def TL (P4 P5:Addr):List Addr:=[P4,P5]
def Solid (H:Hp) (z:Addr):Prop:=(∃ xs,H z=some (.lst xs))\/(∃ C dx fs,H z=some (.ins C dx fs))
section
variable {P4 P5 a z:Addr}{S:List Addr}{H H':Hp}{o:HO}
theorem TT.in4:P4∈TL P4 P5:=by unfold TL;simp
theorem TT.tbl (t:TT P4 P5 H):∀ z∈TL P4 P5,∃ ps,H z=some (.tbl ps):=fun z hz=>by
 unfold TL at hz
 simp only [List.mem_cons,List.not_mem_nil,or_false] at hz
 rcases hz with rfl|rfl
 ·exact t.o.tbl
 ·exact t.f.tbl
theorem TT.off (t:TT P4 P5 H) (e:H a=some o) (n:∀ ps,o ≠ .tbl ps):a∉TL P4 P5:=fun hz=>by
 obtain⟨ps,q⟩:=t.tbl a hz
 rw[e] at q
 cases q
 exact n _ rfl
theorem Solid.off (h:Solid H a) (t:TT P4 P5 H):a∉TL P4 P5:=by
 rcases h with ⟨xs,e⟩|⟨C,dx,fs,e⟩
 ·exact t.off e fun _ z=>by cases z
 ·exact t.off e fun _ z=>by cases z
theorem TT.has (t:TT P4 P5 H):∀ y∈TL P4 P5,H y≠none:=fun y hy=>by
 obtain⟨ps,q⟩:=t.tbl y hy
 rw[q];simp
theorem TT.same (t:TT P4 P5 H) (s:Same H H'):TT P4 P5 H' :=
 ⟨t.o.same s,t.f.same s,t.ne⟩
theorem TT.kb (t:TT P4 P5 H) (k:KeepBut S H H') (hs:∀ z∈S,Solid H z):TT P4 P5 H':=by
 have h1:∀ z∈S,(∃ xs,H z=some (.lst xs))\/(∃ C dx fs,H z=some (.ins C dx fs))\/(z≠P4/\∃ ps,H z=some (.tbl ps)):=fun z hz=>by
  rcases hs z hz with h|h
  ·exact .inl h
  ·exact .inr (.inl h)
 have h2:∀ z∈S,(∃ xs,H z=some (.lst xs))\/(∃ C dx fs,H z=some (.ins C dx fs))\/(z≠P5/\∃ ps,H z=some (.tbl ps)):=fun z hz=>by
  rcases hs z hz with h|h
  ·exact .inl h
  ·exact .inr (.inl h)
 exact⟨t.o.kb k h1,t.f.kb k h2,t.ne⟩
theorem TT.p4 (t:TT P4 P5 H) (k:KeepBut (P4::S) H H') (o:TabO H' P4) (hs:∀ z∈S,Solid H z):TT P4 P5 H' :=
 ⟨o,t.f.kb k fun z hz=>by
  rcases List.mem_cons.mp hz with rfl|hz
  ·exact .inr (.inr ⟨t.ne,t.o.tbl⟩)
  ·rcases hs z hz with h|h
   ·exact .inl h
   ·exact .inr (.inl h),t.ne⟩
abbrev KB (P4 P5:Addr) (H H':Hp):Prop:=KeepBut (TL P4 P5) H H'
theorem Zcb (s:Same H H'):KeepBut S H H':=fun b o e _=>s b o e
theorem TT.at (t:TT P4 P5 H) (k:KB P4 P5 H H') (e:H a=some o) (n:∀ ps,o ≠ .tbl ps):H' a=some o:=k a o e (t.off e n)
theorem TT.lst (t:TT P4 P5 H) (k:KB P4 P5 H H') {xs:List V}(e:H a=some (.lst xs)):H' a=some (.lst xs):=t.at k e fun _ z=>by cases z
theorem TT.tup (t:TT P4 P5 H) (k:KB P4 P5 H H') {xs:List V}(e:H a=some (.tup xs)):H' a=some (.tup xs):=t.at k e fun _ z=>by cases z
theorem TT.sc (t:TT P4 P5 H) (k:KB P4 P5 H H') {p p0 p1 p2:Addr}{l0 l1 pl:List Int}{v:V}(S:ScAt H p p0 p1 p2 l0 l1 pl v):ScAt H' p p0 p1 p2 l0 l1 pl v :=
 ⟨t.tup k S.at_,t.lst k S.e0,t.lst k S.e1,t.lst k S.e2⟩
theorem TT.free (t':TT P4 P5 H') (k:KB P4 P5 H H') (h:H' z=none):H z=none:=KeepBut.none k h t'.has
end
def Off (S:List Addr) (x r a m p:Addr):Prop:=∀ z∈S,z≠x/\z≠r/\z≠a/\z≠m/\z≠p
structure Rk (fw:Bool) (CP:Addr) (ex:List (Str × V)) (S:List Addr) (H:Hp) (rk:List Int) (p:PG):Prop where
 wide:fw=false->ex=[]/\S=[]
 few:fw=true->∃ (g r h b:Addr),ex=rx g/\S=[g,r,h,b]/\PegsAt CP H g r h b rk p.n p.hg p.bk p.c p.l p.k
theorem Rk.to {fw:Bool}{CP:Addr}{ex:List (Str × V)}{S:List Addr}{H H':Hp}{rk:List Int}{p:PG}(R:Rk fw CP ex S H rk p) (kp:∀ z o,z∈S->H z=some o->H' z=some o):Rk fw CP ex S H' rk p:=by
 refine⟨R.wide,fun e=>?_⟩
 obtain⟨g,r,h,b,e1,e2,A⟩:=R.few e
 refine⟨g,r,h,b,e1,e2,A.to fun a o ha ea=>kp _ _ ?_ ea⟩
 rw[e2]
 rcases ha with rfl|rfl|rfl|rfl<;>simp
theorem Rk.solid {fw:Bool}{CP:Addr}{ex:List (Str × V)}{S:List Addr}{H:Hp}{rk:List Int}{p:PG}(R:Rk fw CP ex S H rk p):∀ z∈S,Solid H z:=fun z hz=>by
 cases fw with
 | false=>rw[(R.wide rfl).2] at hz;cases hz
 | true =>
  obtain⟨g,r,h,b,_,rfl,A⟩:=R.few rfl
  obtain⟨dg,eg⟩:=A.at_
  simp only [List.mem_cons,List.not_mem_nil,or_false] at hz
  rcases hz with rfl|rfl|rfl|rfl
  ·exact .inr ⟨_,_,_,eg⟩
  ·exact .inl ⟨_,A.rk⟩
  ·exact .inl ⟨_,A.hg⟩
  ·exact .inl ⟨_,A.bk⟩
structure Bd (fw:Bool) (C CP:Addr) (F:List Addr) (H:Hp) (x:Addr) (b:BS) (p:PG):Prop where
 ex:∃ (e:List (Str × V)) (S:List Addr) (r a m q:Addr),F=x::r::a::m::q::S/\BoardAt C e H x r a m q b.rk b.as b.ms b.pl b.lim/\Rk fw CP e S H b.rk p/\Off S x r a m q
 ok:BOk b
 pok:fw=true->POk b p
section
variable {fw:Bool}{C CP P4 P5:Addr}{F:List Addr}{H H':Hp}{x:Addr}{b:BS}{p:PG}
theorem Bd.to (D:Bd fw C CP F H x b p) (kp:∀ z o,z∈F->H z=some o->H' z=some o):Bd fw C CP F H' x b p:=by
 obtain⟨e,S,r,a,m,q,rfl,B,R,off⟩:=D.ex
 exact⟨⟨e,S,r,a,m,q,rfl,B.to fun z o hz ez=>kp z o (by rcases hz with rfl|rfl|rfl|rfl|rfl<;>simp) ez,R.to fun z o hz ez=>kp z o (by simp[hz]) ez,off⟩,D.ok,D.pok⟩
theorem Bd.same (D:Bd fw C CP F H x b p) (s:Same H H'):Bd fw C CP F H' x b p:=D.to fun z o _ e=>s z o e
theorem Bd.solid (D:Bd fw C CP F H x b p):∀ z∈F,Solid H z:=by
 obtain⟨e,S,r,a,m,q,rfl,B,R,off⟩:=D.ex
 intro z hz
 simp only [List.mem_cons] at hz
 obtain⟨dx,e0⟩:=B.at_
 rcases hz with rfl|rfl|rfl|rfl|rfl|hz
 ·exact .inr ⟨_,_,_,e0⟩
 ·exact .inl ⟨_,B.rk⟩
 ·exact .inl ⟨_,B.as⟩
 ·exact .inl ⟨_,B.ms⟩
 ·exact .inl ⟨_,B.pl⟩
 ·exact R.solid z hz
theorem Bd.has (D:Bd fw C CP F H x b p):∀ z∈F,H z≠none:=fun z hz=>by
 rcases D.solid z hz with ⟨xs,e⟩|⟨_,_,_,e⟩<;>rw[e]<;>simp
theorem Bd.kb (D:Bd fw C CP F H x b p) (t:TT P4 P5 H) (k:KB P4 P5 H H'):Bd fw C CP F H' x b p:=D.to fun z o hz e=>k z o e ((D.solid z hz).off t)
theorem Bd.off (D:Bd fw C CP F H x b p) {z:Addr}(hz:H z=none):z∉F:=fun h=>D.has z h hz
theorem Bd.inst (D:Bd fw C CP F H x b p):∃ dx fs,H x=some (.ins C dx fs)/\∀ f:Str,(["ranks", "asks", "muted", "pile", "limit", "rack"]:List Str).contains f=false->fs.lookup f=none:=by
 obtain⟨e,S,r,a,m,q,rfl,B,_⟩:=D.ex
 obtain⟨dx,e0⟩:=B.at_
 exact⟨dx,_,e0,fun f hf=>Z1 B.exo hf⟩
abbrev KD (P4 P5:Addr) (F:List Addr) (H H':Hp):Prop:=KeepBut (TL P4 P5++F) H H'
abbrev Nw (H:Hp) (F F':List Addr):Prop:=∀ z∈F',z∈F\/H z=none
theorem KD.at {a:Addr}{o:HO}(k:KD P4 P5 F H H') (t:TT P4 P5 H) (e:H a=some o) (n:∀ ps,o ≠ .tbl ps) (hf:a∉F):H' a=some o:=k a o e (by
 rw[List.mem_append,not_or]
 exact⟨t.off e n,hf⟩)
theorem KD.of_kb (k:KB P4 P5 H H'):KD P4 P5 F H H':=KeepBut.more k fun z hz=>List.mem_append_left _ hz
theorem KD.free (k:KD P4 P5 F H H') (t':TT P4 P5 H') (hF:∀ z∈F,H' z≠none) {z:Addr}(h:H' z=none):H z=none:=KeepBut.none k h fun y hy=>by
 rcases List.mem_append.mp hy with q|q
 ·exact t'.has y q
 ·exact hF y q
end
end K10
namespace K10
open PySem L2 L3
def Zsp (rk:List Int) (p:PG) (i:Int) (p':PG):Prop:=Zml rk p.n p.hg p.bk i p.l p'.hg p'.bk p'.l/\p'.c=p.c+1/\p'.k=p.k/\p'.n=p.n
def Zp7 (p:PG) (i:Int) (p':PG):Prop:=GoR p.n p.hg p.bk i p.l p.k p'.hg p'.bk p'.l p'.k/\p'.c=p.c/\p'.n=p.n
theorem Zga {bs:List Bool}{i:Nat}{b:Bool}(h:i<bs.length) (e:bs.getD i false=b):bs.set i b=bs:=by
 apply List.ext_getElem (by simp)
 intro j h1 h2
 rw[List.getElem_set]
 split
 ·rename_i z
  subst z
  simpa [List.getD,h] using e.symm
 ·rfl
theorem Zce {bs:List Bool}{i j:Nat}{b:Bool}(h:j≠i):(bs.set i b).getD j false=bs.getD j false:=by
 simp only [List.getD_eq_getElem?_getD]
 rw[List.getElem?_set_ne (Ne.symm h)]
theorem Zax {bs:List Bool}{i:Nat}{b:Bool}(h:i<bs.length):(bs.set i b).getD i false=b:=by
 simp only [List.getD_eq_getElem?_getD]
 rw[List.getElem?_set_self h]
 rfl
section
variable {P:Program}{w:World}{K:PySem.W.Frag}{mg:Str->Option Value}{base:Heap}{C CP P4 CN:Addr}{fw:Bool}
def Zfj (fw:Bool) (C CP P4:Addr):Sp:=fun vs H Q _=>∃ (ex:List (Str × V)) (S:List Addr) (x r a m q:Addr) (rk:List Int) (as ms:List Bool) (pl:List Int) (lim:V) (i:Int) (p:PG),vs=[.ref x,.int i]/\BoardAt C ex H x r a m q rk as ms pl lim/\Rk fw CP ex S H rk p/\TabO H P4 /\
 (fw=true->1<=p.n/\(i::(p.hg++p.bk)).Nodup/\(∀ z∈i::(p.hg++p.bk),0<=z/\z<rk.length)/\(p.hg++p.bk).length<63) /\
 ∀ H' S' p',KeepBut (P4::S) H H'->(∀ z∈S',z∈S\/H z=none)->TabO H' P4->Rk fw CP ex S' H' rk p'->(fw=true->Zsp rk p i p')->Q .non H'
def Zie (fw:Bool) (C CP P4:Addr):Sp:=fun vs H Q _=>∃ (ex:List (Str × V)) (S:List Addr) (x r a m q:Addr) (rk:List Int) (as ms:List Bool) (pl:List Int) (lim:V) (i:Int) (p:PG),vs=[.ref x,.int i]/\BoardAt C ex H x r a m q rk as ms pl lim/\Rk fw CP ex S H rk p/\TabO H P4 /\
 (fw=true->1<=p.n/\i∈p.hg++p.bk) /\
 ∀ H' S' p',KeepBut (P4::S) H H'->(∀ z∈S',z∈S\/H z=none)->TabO H' P4->Rk fw CP ex S' H' rk p'->(fw=true->Zp7 p i p')->Q .non H'
theorem scW1:FnScope ["self", "line"] ["self", "line"] (Zg (wm 1)):=⟨rfl,rfl,rfl,by decide+kernel,rfl,by decide+kernel,by decide+kernel⟩
theorem scW2:FnScope ["self", "line"] ["self", "line"] (Zg (wm 2)):=⟨rfl,rfl,rfl,by decide+kernel,rfl,by decide+kernel,by decide+kernel⟩
theorem Zlz (D:MDef K C "line_comes" "Wide.line_comes" (wm 1) ["self", "line"]):FuM P w K mg base CX0 8 C "line_comes" ["self", "line"] (Zfj false C CP P4):=by
 refine FuM.mono (j:=1) (D.fu scW1 (fun vs H Q E h=>?_) (fun f cdv A outer s H vs Q E hr h=>?_)) (by decide)
 ·obtain⟨ex,S,x,r,a,m,q,rk,as,ms,pl,lim,i,p,rfl,_⟩:=h
  rfl
 ·obtain⟨ex,S,x,r,a,m,q,rk,as,ms,pl,lim,i,p,rfl,B,R,t,_,kk⟩:=h
  exact⟨_,Zf Zi1,kk H S p (KeepBut.refl _ _) (fun z h=>.inl h) t R (fun e=>by cases e)⟩
theorem Zpl (D:MDef K C "line_goes" "Wide.line_goes" (wm 2) ["self", "line"]):FuM P w K mg base CX0 3 C "line_goes" ["self", "line"] (Zie false C CP P4):=by
 refine FuM.mono (j:=1) (D.fu scW2 (fun vs H Q E h=>?_) (fun f cdv A outer s H vs Q E hr h=>?_)) (by decide)
 ·obtain⟨ex,S,x,r,a,m,q,rk,as,ms,pl,lim,i,p,rfl,_⟩:=h
  rfl
 ·obtain⟨ex,S,x,r,a,m,q,rk,as,ms,pl,lim,i,p,rfl,B,R,t,_,kk⟩:=h
  exact⟨_,Zf Zi1,kk H S p (KeepBut.refl _ _) (fun z h=>.inl h) t R (fun e=>by cases e)⟩
theorem scF5:FnScope ["self", "line"] ["self", "line"] (Zg (fm 5)):=⟨rfl,rfl,rfl,by decide+kernel,rfl,by decide+kernel,by decide+kernel⟩
theorem scF6:FnScope ["self", "line"] ["self", "line"] (Zg (fm 6)):=⟨rfl,rfl,rfl,by decide+kernel,rfl,by decide+kernel,by decide+kernel⟩
theorem Zl4 (D:MDef K C "line_comes" "Few.line_comes" (fm 5) ["self", "line"]) (TB:BTxt K C) (nK:NoAttr K C "rack") (TP:PTxt K CP) (GC:FuM P w K mg base CX0 7 CP "come" ["self", "line"] (Zm1 K CP P4)):FuM P w K mg base CX0 8 C "line_comes" ["self", "line"] (Zfj true C CP P4):=by
 refine D.fu scF5 (fun vs H Q E h=>?_) (fun f cdv A outer s H vs Q E hr h=>?_)
 ·obtain⟨ex,S,x,r,a,m,q,rk,as,ms,pl,lim,i,p,rfl,_⟩:=h
  rfl
 ·obtain⟨ex,S,x,r,a,m,q,rk,as,ms,pl,lim,i,p,rfl,B,R,t,hp,kk⟩:=h
  obtain⟨hn,nd,hrng,hlen⟩:=hp rfl
  refine⟨_,Zf (Z8 (pm GC TP.cl hr Zk (Zt (pv 0) rfl) (Za (pv 1) Zc))),?_⟩
  obtain⟨g,gr,gh,gb,rfl,rfl,A0⟩:=R.few rfl
  obtain⟨dx,e0⟩:=B.at_
  obtain⟨dg,eg⟩:=A0.at_
  refine⟨_,rfl,x,C,dx,_,_,rfl,e0,TB.cl,nK,rfl,g,dg,_,rfl,eg,rfl,_,rfl,g,gr,gh,gb,rk,p.n,p.hg,p.bk,p.c,p.l,p.k,i,rfl,A0,t,hn,nd,hrng,hlen,fun H' h' b' hg' bk' l' kp nh nb t' CR A'=>?_⟩
  refine kk H' [g,gr,h',b'] ⟨p.n,hg',bk',p.c+1,l',p.k⟩ (kp.more fun z hz=>?_) (fun z hz=>?_) t' ⟨(fun e=>by cases e),fun _=>⟨g,gr,h',b',rfl,rfl,A'⟩⟩ fun _=>⟨CR,rfl,rfl,rfl⟩
  ·simp only [List.mem_cons,List.not_mem_nil,or_false] at hz ⊢
   rcases hz with h|h|h|h<;>simp[h]
  ·simp only [List.mem_cons,List.not_mem_nil,or_false] at hz ⊢
   rcases hz with rfl|rfl|rfl|rfl
   ·simp
   ·simp
   ·rcases nh with rfl|nh
    ·simp
    ·exact .inr nh
   ·rcases nb with rfl|nb
    ·simp
    ·exact .inr nb
theorem Zpt (D:MDef K C "line_goes" "Few.line_goes" (fm 6) ["self", "line"]) (TB:BTxt K C) (nK:NoAttr K C "rack") (TP:PTxt K CP) (GG:FuM P w K mg base CX0 2 CP "go" ["self", "line"] (spGo CP)):FuM P w K mg base CX0 3 C "line_goes" ["self", "line"] (Zie true C CP P4):=by
 refine D.fu scF6 (fun vs H Q E h=>?_) (fun f cdv A outer s H vs Q E hr h=>?_)
 ·obtain⟨ex,S,x,r,a,m,q,rk,as,ms,pl,lim,i,p,rfl,_⟩:=h
  rfl
 ·obtain⟨ex,S,x,r,a,m,q,rk,as,ms,pl,lim,i,p,rfl,B,R,t,hp,kk⟩:=h
  obtain⟨hn,hin⟩:=hp rfl
  refine⟨_,Zf (Z8 (pm GG TP.cl hr Zk (Zt (pv 0) rfl) (Za (pv 1) Zc))),?_⟩
  have so:=R.solid
  obtain⟨g,gr,gh,gb,rfl,rfl,A0⟩:=R.few rfl
  obtain⟨dx,e0⟩:=B.at_
  obtain⟨dg,eg⟩:=A0.at_
  refine⟨_,rfl,x,C,dx,_,_,rfl,e0,TB.cl,nK,rfl,g,dg,_,rfl,eg,rfl,_,rfl,g,gr,gh,gb,rk,p.n,p.hg,p.bk,p.c,p.l,p.k,i,rfl,A0,hn,List.mem_append.mp hin,fun H' h' b' hg' bk' l' k' kp nh nb GR A'=>?_⟩
  have kp':KeepBut [g,gr,gh,gb] H H':=kp.more fun z hz=>by
   simp only [List.mem_cons,List.not_mem_nil,or_false] at hz ⊢
   rcases hz with h|h|h<;>simp[h]
  refine kk H' [g,gr,h',b'] ⟨p.n,hg',bk',p.c,l',k'⟩ (kp'.more fun z hz=>List.mem_cons_of_mem _ hz) (fun z hz=>?_) (t.kb kp' fun z hz=>?_) ⟨(fun e=>by cases e),fun _=>⟨g,gr,h',b',rfl,rfl,A'⟩⟩ fun _=>⟨GR,rfl,rfl⟩
  ·simp only [List.mem_cons,List.not_mem_nil,or_false] at hz ⊢
   rcases hz with rfl|rfl|rfl|rfl
   ·simp
   ·simp
   ·rcases nh with rfl|nh
    ·simp
    ·exact .inr nh
   ·rcases nb with rfl|nb
    ·simp
    ·exact .inr nb
  ·rcases so z hz with h|h
   ·exact .inl h
   ·exact .inr (.inl h)
def Odd (K:PySem.W.Frag) (H:Hp) (n:Nat) (v:V):Prop:=(∃ i:Int,v=.int i/\¬ (0<=i/\i<n))\/WholeV K H v false
theorem Zoo:FnScope ["self", "line"] ["self", "line"] (Zg (bm 9)):=⟨rfl,rfl,rfl,by decide+kernel,rfl,by decide+kernel,by decide+kernel⟩
def Zfk (K:PySem.W.Frag) (C CN:Addr):Sp:=fun vs H Q E=>∃ (ex:List (Str × V)) (x r a m q:Addr) (rk:List Int) (as ms:List Bool) (pl:List Int) (lim:V) (v:V),vs=[.ref x,v]/\BoardAt C ex H x r a m q rk as ms pl lim /\
 ((∃ i,v=.int i/\0<=i/\i<rk.length/\Q .non H)\/(Odd K H rk.length v/\E (.ref CN) none H))
theorem Zjz (D:MDef K C "check_line" "Board.check_line" (bm 9) ["self", "line"]) (TB:BTxt K C) (XN:ExcC K mg "NoLine" CN) (GL:Fu P w K mg base CX0 3 "is_line" ["ranks", "thing"] (Zdf K)):FuM P w K mg base (CX1 P w) 4 C "check_line" ["self", "line"] (Zfk K C CN):=by
 refine D.fux Zoo (fun vs H Q E h=>?_) (fun f cdv A outer s H vs Q E hr h=>?_)
 ·obtain⟨ex,x,r,a,m,q,rk,as,ms,pl,lim,v,rfl,_⟩:=h
  rfl
 ·obtain⟨ex,x,r,a,m,q,rk,as,ms,pl,lim,v,rfl,B,hv⟩:=h
  refine⟨_,Zf (Zn (Yh (Zz (pc GL hr Zk (Za (Zt (pv 0) rfl) (Za (pv 1) Zc))))) (Zf (Zdj XN hr.hd (Za Zq Zc))) Zo),?_⟩
  obtain⟨dx,e0⟩:=B.at_
  rcases hv with ⟨i,rfl,h0,h1,kk⟩|⟨od,hE⟩
  ·refine⟨_,rfl,x,C,dx,_,_,rfl,e0,TB.cl,TB.nR,rfl,_,rfl,r,rk,_,rfl,SqL.of B.rk,.inl ⟨i,rfl,?_⟩⟩
   rw[Zej h0 h1]
   exact⟨_,rfl,iteF kk⟩
  ·rcases od with ⟨i,rfl,hi⟩|wv
   ·refine⟨_,rfl,x,C,dx,_,_,rfl,e0,TB.cl,TB.nR,rfl,_,rfl,r,rk,_,rfl,SqL.of B.rk,.inl ⟨i,rfl,?_⟩⟩
    have:(decide (0<=i)&&decide (i<=(rk.length:Int) - 1))=false:=by
     rw[Bool.eq_false_iff]
     intro z
     simp only [Bool.and_eq_true,decide_eq_true_eq] at z
     exact hi ⟨z.1,by omega⟩
    rw[this]
    exact⟨_,rfl,iteT ⟨by show 1<=sizeLine;decide,hE⟩⟩
   ·exact⟨_,rfl,x,C,dx,_,_,rfl,e0,TB.cl,TB.nR,rfl,_,rfl,r,rk,_,rfl,SqL.of B.rk,.inr ⟨wv,_,rfl,iteT ⟨by show 1<=sizeLine;decide,hE⟩⟩⟩
def setA (b:BS) (isA wish:Bool) (i:Int):BS:=if isA then { b with as:=b.as.set i.toNat wish } else { b with ms:=b.ms.set i.toNat wish }
def Zmj (b b':BS) (i:Int) (p p':PG):Prop :=
 (b.want i.toNat=b'.want i.toNat->p'=p)/\(b.want i.toNat=false->b'.want i.toNat=true->Zsp b.rk p i p')/\(b.want i.toNat=true->b'.want i.toNat=false->Zp7 p i p')
def Y6 (b:BS) (isA:Bool) (i:Int):Bool:=(if isA then b.as else b.ms).getD i.toNat false
section
variable {b:BS}{isA wish:Bool}{i:Int}
theorem Jn:(setA b isA wish i).rk=b.rk:=by unfold setA;cases isA<;>rfl
theorem Zil:(setA b isA wish i).pl=b.pl:=by unfold setA;cases isA<;>rfl
theorem Zk6:(setA b isA wish i).lim=b.lim:=by unfold setA;cases isA<;>rfl
theorem Zdi (h:BOk b):BOk (setA b isA wish i):=by
 unfold setA
 cases isA with
 | true=>exact⟨by show (b.as.set _ _).length=_;rw[List.length_set];exact h.la,h.lm,h.l1,h.l60,h.ro,h.pr,h.fl,h.li⟩
 | false=>exact⟨h.la,by show (b.ms.set _ _).length=_;rw[List.length_set];exact h.lm,h.l1,h.l60,h.ro,h.pr,h.fl,h.li⟩
theorem Zok {j:Nat}(h:j≠i.toNat):(setA b isA wish i).want j=b.want j:=by
 unfold setA BS.want Y3
 cases isA with
 | true =>
  show ((b.as.set i.toNat wish).getD j false && !b.ms.getD j false)=(b.as.getD j false && !b.ms.getD j false)
  rw[Zce h]
 | false =>
  show (b.as.getD j false && !(b.ms.set i.toNat wish).getD j false)=(b.as.getD j false && !b.ms.getD j false)
  rw[Zce h]
theorem Zik (hb:BOk b) (h0:0<=i) (h1:i<b.rk.length) (e:Y6 b isA i=wish):setA b isA wish i=b:=by
 have:=hb.la
 have:=hb.lm
 unfold setA
 unfold Y6 at e
 cases isA with
 | true =>
  show ({ b with as:=b.as.set i.toNat wish }:BS)=b
  rw[Zga (bs:=b.as) (by omega) e]
 | false =>
  show ({ b with ms:=b.ms.set i.toNat wish }:BS)=b
  rw[Zga (bs:=b.ms) (by omega) e]
theorem Zk5 {p p':PG}(hb:BOk b) (h0:0<=i) (h1:i<b.rk.length) (hp:POk b p) (st:Zmj b (setA b isA wish i) i p p'):POk (setA b isA wish i) p':=by
 have hwl:∀ z,z∈(setA b isA wish i).wants ↔ 0<=z/\z<b.rk.length/\(setA b isA wish i).want z.toNat=true:=fun z=>by
  unfold BS.wants BS.want
  rw[Jn]
  exact Za0
 have hw0:∀ z,z∈b.wants ↔ 0<=z/\z<b.rk.length/\b.want z.toNat=true:=fun z=>Za0
 have ndw:=Zc7 (setA b isA wish i).as (setA b isA wish i).ms (setA b isA wish i).rk.length
 have nd0:=Zbt hp.g.pw
 have hmem:∀ z,z∈p.hg++p.bk ↔ 0<=z/\z<b.rk.length/\b.want z.toNat=true:=fun z=>(hp.pm.mem_iff).trans (hw0 z)
 have ne:∀ z:Int,0<=z->z≠i->(setA b isA wish i).want z.toNat=b.want z.toNat:=fun z hz hne=>Zok (by omega)
 obtain⟨s1,s2,s3⟩:=st
 cases w0:b.want i.toNat with
 | false =>
  cases w1:(setA b isA wish i).want i.toNat with
  | false =>
   have e:=s1 (w0.trans w1.symm)
   subst e
   refine⟨hp.n1,hp.n16,by rw[Jn];exact hp.g,Zdm nd0 ndw fun z=>?_⟩
   rw[hmem,hwl]
   refine and_congr_right fun hz=>and_congr_right fun _=>?_
   by_cases e:z=i
   ·rw[e,w0,w1]
   ·rw[ne z hz e]
  | true =>
   obtain⟨CR,_,_,en⟩:=s2 w0 w1
   have hni:i∉p.hg++p.bk:=fun z=>by rw[hmem,w0] at z;cases z.2.2
   have g:=Zmf hp.g hp.n1 hni CR
   have pm:=Zke CR
   refine⟨by rw[en];exact hp.n1,by rw[en];exact hp.n16,by rw[en,Jn];exact g,Zdm (Zbt g.pw) ndw fun z=>?_⟩
   rw[pm.mem_iff,List.mem_cons,hmem,hwl]
   by_cases e:z=i
   ·subst e
    exact⟨fun _=>⟨h0,h1,w1⟩,fun _=>.inl rfl⟩
   ·constructor
    ·rintro (q|⟨q1,q2,q3⟩)
     ·exact absurd q e
     ·exact⟨q1,q2,by rw[ne z q1 e];exact q3⟩
    ·rintro⟨q1,q2,q3⟩
     exact .inr ⟨q1,q2,by rw[← ne z q1 e];exact q3⟩
 | true =>
  cases w1:(setA b isA wish i).want i.toNat with
  | true =>
   have e:=s1 (w0.trans w1.symm)
   subst e
   refine⟨hp.n1,hp.n16,by rw[Jn];exact hp.g,Zdm nd0 ndw fun z=>?_⟩
   rw[hmem,hwl]
   refine and_congr_right fun hz=>and_congr_right fun _=>?_
   by_cases e:z=i
   ·rw[e,w0,w1]
   ·rw[ne z hz e]
  | false =>
   obtain⟨GR,_,en⟩:=s3 w0 w1
   have g:=Zry hp.g hp.n1 GR
   obtain⟨nd',hz'⟩:=Zrx nd0 GR
   refine⟨by rw[en];exact hp.n1,by rw[en];exact hp.n16,by rw[en,Jn];exact g,Zdm nd' ndw fun z=>?_⟩
   rw[hz',hmem,hwl]
   by_cases e:z=i
   ·subst e
    constructor
    ·rintro⟨_,q⟩
     exact absurd rfl q
    ·rintro⟨_,_,q⟩
     rw[w1] at q
     cases q
   ·constructor
    ·rintro⟨⟨q1,q2,q3⟩,_⟩
     exact⟨q1,q2,by rw[ne z q1 e];exact q3⟩
    ·rintro⟨q1,q2,q3⟩
     exact⟨⟨q1,q2,by rw[← ne z q1 e];exact q3⟩,e⟩
end
end
end K10
namespace K10
open PySem L2 L3
section
variable {P:Program}{w:World}{K:PySem.W.Frag}{mg:Str->Option Value}{base:Heap}{C CP P4 P5 CN:Addr}{fw:Bool}
def Zks (fw:Bool) (C CP P4:Addr) (isA wish:Bool) (ex:List (Str × V)) (S:List Addr) (H:Hp) (x r a m q:Addr) (b:BS) (p:PG) (i:Int) (Q:VK):Prop :=
 ∀ H' S' p',KeepBut (P4::(if isA then a else m)::S) H H'->(∀ z∈S',z∈S\/H z=none)->TabO H' P4->BoardAt C ex H' x r a m q b.rk (setA b isA wish i).as (setA b isA wish i).ms b.pl b.lim ->
  Rk fw CP ex S' H' b.rk p'->(fw=true->Zmj b (setA b isA wish i) i p p')->Q (.bl (Y6 b isA i != wish)) H'
def Zcr (K:PySem.W.Frag) (fw:Bool) (C CP P4 CN:Addr):Sp:=fun vs H Q E=>∃ (isA wish:Bool) (ex:List (Str × V)) (S:List Addr) (x r a m q:Addr) (b:BS) (p:PG) (v:V),vs=[.ref x,.ref (if isA then a else m),v,.bl wish]/\BoardAt C ex H x r a m q b.rk b.as b.ms b.pl b.lim /\
 Rk fw CP ex S H b.rk p/\Off S x r a m q/\TabO H P4/\BOk b/\(fw=true->POk b p)/\((∃ i,v=.int i/\0<=i/\i<b.rk.length/\Zks fw C CP P4 isA wish ex S H x r a m q b p i Q)\/(Odd K H b.rk.length v/\E (.ref CN) none H))
theorem Zm5:FnScope ["self", "marks", "line", "wish", "wanted"] ["self", "marks", "line", "wish"] (Zg (bm 10)):=⟨rfl,rfl,rfl,by decide+kernel,rfl,by decide+kernel,by decide+kernel⟩
theorem Zno (D:MDef K C "turn" "Board.turn" (bm 10) ["self", "marks", "line", "wish"]) (TB:BTxt K C) (GK:FuM P w K mg base (CX1 P w) 4 C "check_line" ["self", "line"] (Zfk K C CN)) (GW:FuM P w K mg base CX0 1 C "wants" ["self", "line"] (Zfg C))
  (GC:FuM P w K mg base CX0 8 C "line_comes" ["self", "line"] (Zfj fw C CP P4)) (GG:FuM P w K mg base CX0 3 C "line_goes" ["self", "line"] (Zie fw C CP P4)):FuM P w K mg base (CX1 P w) 9 C "turn" ["self", "marks", "line", "wish"] (Zcr K fw C CP P4 CN):=by
 refine D.fux Zm5 (fun vs H Q E h=>?_) (fun f cdv A outer s H vs Q E hr h=>?_)
 ·obtain⟨isA,wish,ex,S,x,r,a,m,q,b,p,v,rfl,_⟩:=h
  rfl
 ·obtain⟨isA,wish,ex,S,x,r,a,m,q,b,p,v,rfl,B,R,off,t,ok,pok,hv⟩:=h
  refine⟨_,Zh (Z8 (pm GK TB.cl hr Yf (pv 0) (Za (pv 2) Zc)))
   (Zh (Zn (Zu Zy (Zr Z9 (pv 1) (pv 2) (fun _ _=>rfl)) (pv 3) (Zs _)) (Zf (Zj Ye)) Zo)
   (Zh (Zp (i:=4) Zm5.nd rfl (.inl rfl) (pm GW TB.cl hr Zk (pv 0) (Za (pv 2) Zc)))
   (Zh (Zi2 (pv 3) (Zq5 (pv 1) (pv 2) Zk4))
   (Zh (Zn (Zz (pm GW TB.cl hr Zk (pv 0) (Za (pv 2) Zc))) (Zf (Z8 (pm GC TB.cl hr Zk (pv 0) (Za (pv 2) Zc))))
     (Zf (Zn (Zz (pv 4)) (Zf (Z8 (pm GG TB.cl hr Zk (pv 0) (Za (pv 2) Zc)))) Zo)))
   (Zf (Zj Ye)))))),?_⟩
  obtain⟨dx,e0⟩:=B.at_
  refine⟨_,rfl,x,dx,_,rfl,e0,Z1 B.exo (by decide+kernel),_,rfl,ex,x,r,a,m,q,b.rk,b.as,b.ms,b.pl,b.lim,v,rfl,B,?_⟩
  rcases hv with ⟨i,rfl,h0,h1,kk⟩|⟨od,hE⟩
  case inr=>exact .inr ⟨od,hE⟩
  refine .inl ⟨i,rfl,h0,h1,?_⟩
  have la:=ok.la
  have lm:=ok.lm
  obtain⟨cs,hk,hl,hset,hcs,koff⟩:∃ cs:List Bool,H (if isA then a else m)=some (.lst (cs.map V.bl))/\cs.length=b.rk.length/\BoardAt C ex (upd H (if isA then a else m) (.lst ((cs.set i.toNat wish).map V.bl))) x r a m q b.rk (setA b isA wish i).as (setA b isA wish i).ms b.pl b.lim/\cs.getD i.toNat false=Y6 b isA i /\
    (∀ z∈S,z≠(if isA then a else m)):=by
   cases isA with
   | true=>exact⟨b.as,B.as,la,B.setAs,rfl,fun z hz=>(off z hz).2.2.1⟩
   | false=>exact⟨b.ms,B.ms,lm,B.setMs,rfl,fun z hz=>(off z hz).2.2.2.1⟩
  have hk':=kk
  unfold Zks at hk'
  have ok':=Zdi (isA:=isA) (wish:=wish) (i:=i) ok
  have esame:=Zik (isA:=isA) (wish:=wish) (i:=i) ok h0 h1
  have hrk:(setA b isA wish i).rk=b.rk:=Jn
  have hwn:Y6 b isA i≠wish->(setA b isA wish i).want i.toNat=true->b.want i.toNat=false:=by
   intro hne hw
   unfold Y6 at hne
   unfold setA BS.want Y3 at hw
   unfold BS.want Y3
   cases isA with
   | true =>
    have hw':((b.as.set i.toNat wish).getD i.toNat false && !b.ms.getD i.toNat false)=true:=hw
    have hne':b.as.getD i.toNat false≠wish:=hne
    rw[Zax (by omega),Bool.and_eq_true] at hw'
    rw[hw'.1] at hne'
    rw[show b.as.getD i.toNat false=false from Bool.eq_false_iff.mpr hne']
    rfl
   | false =>
    have hw':(b.as.getD i.toNat false && !(b.ms.set i.toNat wish).getD i.toNat false)=true:=hw
    have hne':b.ms.getD i.toNat false≠wish:=hne
    rw[Zax (by omega),Bool.and_eq_true,Bool.not_eq_true'] at hw'
    rw[hw'.2] at hne'
    rw[show b.ms.getD i.toNat false=true from Bool.not_eq_false _ |>.mp hne']
    simp
  generalize hb':setA b isA wish i=b' at hset hk' ok' esame hrk hwn
  generalize (if isA then a else m)=k at hk hset hk' koff ⊢
  refine⟨_,rfl,_,rfl,k,_,_,_,rfl,rfl,SqL.of hk,Zkq h0 (by omega),_,rfl,rfl,_,rfl,?_⟩
  rw[hcs]
  refine ite2 (fun hc=>?_) (fun hc=>?_)
  ·have e:Y6 b isA i=wish:=by
    have:=of_decide_eq_true hc
    injection this
   have e2:=esame e
   subst e2
   have q:=hk' H S p (KeepBut.refl _ _) (fun z h=>.inl h) t B R fun _=>⟨fun _=>rfl,fun h1 h2=>(by rw[h1] at h2;cases h2),fun h1 h2=>(by rw[h1] at h2;cases h2)⟩
   rw[e] at q
   have q':Q (.bl false) H:=by simpa using q
   exact q'
  ·have e:Y6 b isA i≠wish:=fun z=>hc (decide_eq_true (by rw[z]))
   refine⟨_,rfl,x,dx,_,rfl,e0,Z1 B.exo (by decide+kernel),_,rfl,ex,x,r,a,m,q,b.rk,b.as,b.ms,b.pl,b.lim,i,rfl,B,h0,by omega,by omega,?_⟩
   refine⟨_,rfl,_,rfl,_,rfl,k,_,_,_,rfl,rfl,hk,Zpd h0 (by rw[List.length_map];omega),?_⟩
   rw[show (cs.map V.bl).set i.toNat (.bl wish)=(cs.set i.toNat wish).map V.bl from (List.map_set ..).symm]
   have B2:=hset
   have R2:Rk fw CP ex S (upd H k (.lst ((cs.set i.toNat wish).map V.bl))) b.rk p:=R.to fun z o hz ez=>by rw[Zb (koff z hz)];exact ez
   have t2:TabO (upd H k (.lst ((cs.set i.toNat wish).map V.bl))) P4:=t.lst hk
   have k2:KeepBut (P4::k::S) H (upd H k (.lst ((cs.set i.toNat wish).map V.bl))):=(KeepBut.refl _ _).upd (.inl (by simp))
   have fr2:∀ z,upd H k (.lst ((cs.set i.toNat wish).map V.bl)) z=none->H z=none:=fun z hz=>by
    by_cases ezk:z=k
    ·subst ezk;rw[Ze] at hz;cases hz
    ·rwa [Zb ezk] at hz
   rw[show (Y6 b isA i != wish)=true by simpa using e] at hk'
   generalize upd H k (.lst ((cs.set i.toNat wish).map V.bl))=H2 at B2 R2 t2 k2 fr2 ⊢
   obtain⟨dx2,e2⟩:=B2.at_
   have la':=ok'.la
   have lm':=ok'.lm
   rw[hrk] at la' lm'
   have over:∀ H3,KeepBut (P4::S) H2 H3->BoardAt C ex H3 x r a m q b.rk b'.as b'.ms b.pl b.lim:=fun H3 kp=>B2.to fun z o hz eb=>kp z o eb (by
    simp only [List.mem_cons,not_or]
    refine⟨?_,fun hS=>?_⟩
    ·intro z4
     subst z4
     have hb2:Solid H2 z:=by
      rcases hz with rfl|rfl|rfl|rfl|rfl
      ·exact .inr ⟨_,_,_,e2⟩
      ·exact .inl ⟨_,B2.rk⟩
      ·exact .inl ⟨_,B2.as⟩
      ·exact .inl ⟨_,B2.ms⟩
      ·exact .inl ⟨_,B2.pl⟩
     rcases hb2 with ⟨xs,q⟩|⟨C',dx',fs,q⟩
     ·exact t2.ne q (fun _ z=>by cases z) rfl
     ·exact t2.ne q (fun _ z=>by cases z) rfl
    ·obtain⟨o1,o2,o3,o4,o5⟩:=off z hS
     rcases hz with rfl|rfl|rfl|rfl|rfl
     ·exact o1 rfl
     ·exact o2 rfl
     ·exact o3 rfl
     ·exact o4 rfl
     ·exact o5 rfl)
   have kpo:∀ H3,KeepBut (P4::S) H2 H3->KeepBut (P4::k::S) H H3:=fun H3 kp=>k2.trans (kp.more fun z hz=>by
    rcases List.mem_cons.mp hz with rfl|hz
    ·simp
    ·simp[hz])
   refine⟨_,rfl,x,dx2,_,rfl,e2,Z1 B.exo (by decide+kernel),_,rfl,ex,x,r,a,m,q,b.rk,_,_,b.pl,b.lim,i,rfl,B2,h0,by omega,by omega,_,rfl,?_⟩
   have wm:fw=true->∀ z,z∈p.hg++p.bk ↔ 0<=z/\z<b.rk.length/\b.want z.toNat=true:=fun hf z=>((pok hf).pm.mem_iff).trans Za0
   refine ite2 (fun hw=>?_) (fun hw=>?_)
   ·have hw0:=hwn e hw
    refine⟨_,rfl,x,dx2,_,rfl,e2,Z1 B.exo (by decide+kernel),_,rfl,ex,S,x,r,a,m,q,b.rk,b'.as,b'.ms,b.pl,b.lim,i,p,rfl,B2,R2,t2,fun hf=>?_,fun H3 S' p' kp fr t3 R3 hC=>?_⟩
    ·have nd:=Zbt (pok hf).g.pw
     have hni:i∉p.hg++p.bk:=fun z=>by rw[wm hf,hw0] at z;cases z.2.2
     have hrng:∀ z∈p.hg++p.bk,0<=z/\z<b.rk.length:=fun z hz=>by
      have:=(wm hf z).mp hz
      exact⟨this.1,this.2.1⟩
     have hlen:=Zge b.rk.length (p.hg++p.bk) nd hrng
     have:=ok.l60
     refine⟨(pok hf).n1,List.nodup_cons.mpr ⟨hni,nd⟩,fun z hz=>?_,by omega⟩
     rcases List.mem_cons.mp hz with rfl|hz
     ·exact⟨h0,h1⟩
     ·exact hrng z hz
    ·exact hk' H3 S' p' (kpo H3 kp) (fun z hz=>(fr z hz).imp id (fr2 z)) t3 (over H3 kp) R3 fun hf=>⟨fun z=>(by have hw2:b'.want i.toNat=true:=hw;rw[hw0,hw2] at z;cases z),fun _ _=>hC hf,fun z _=>by rw[hw0] at z;cases z⟩
   ·have hw':b'.want i.toNat=false:=Bool.eq_false_iff.mpr hw
    refine⟨_,rfl,_,rfl,ite2 (fun hv=>?_) (fun hv=>?_)⟩
    ·have hv1:b.want i.toNat=true:=hv
     refine⟨_,rfl,x,dx2,_,rfl,e2,Z1 B.exo (by decide+kernel),_,rfl,ex,S,x,r,a,m,q,b.rk,b'.as,b'.ms,b.pl,b.lim,i,p,rfl,B2,R2,t2,fun hf=>⟨(pok hf).n1,(wm hf i).mpr ⟨h0,h1,hv1⟩⟩,fun H3 S' p' kp fr t3 R3 hG=>?_⟩
     exact hk' H3 S' p' (kpo H3 kp) (fun z hz=>(fr z hz).imp id (fr2 z)) t3 (over H3 kp) R3 fun hf=>⟨fun z=>(by rw[hv1,hw'] at z;cases z),fun z _=>(by rw[hv1] at z;cases z),fun _ _=>hG hf⟩
    ·have hv':b.want i.toNat=false:=Bool.eq_false_iff.mpr hv
     exact hk' H2 S p k2 (fun z hz=>.inl hz) t2 B2 R2 fun _=>⟨fun _=>rfl,fun _ z=>(by rw[hw'] at z;cases z),fun z _=>by rw[hv'] at z;cases z⟩
def Zkv (fw:Bool) (C CP P4 P5:Addr) (isA wish:Bool) (F:List Addr) (H:Hp) (x:Addr) (b:BS) (p:PG) (i:Int) (Q:VK):Prop :=
 ∀ H' F' p',KD P4 P5 F H H'->Nw H F F'->TT P4 P5 H'->Bd fw C CP F' H' x (setA b isA wish i) p'->(fw=true->Zmj b (setA b isA wish i) i p p')->Q (.bl (Y6 b isA i != wish)) H'
def Jl (K:PySem.W.Frag) (fw:Bool) (C CP P4 P5 CN:Addr) (isA wish:Bool):Sp:=fun vs H Q E=>∃ (F:List Addr) (x:Addr) (b:BS) (p:PG) (v:V),vs=[.ref x,v]/\Bd fw C CP F H x b p/\TT P4 P5 H /\
 ((∃ i,v=.int i/\0<=i/\i<b.rk.length/\Zkv fw C CP P4 P5 isA wish F H x b p i Q)\/(Odd K H b.rk.length v/\E (.ref CN) none H))
theorem Zpj {isA wish:Bool}{H:Hp}{F:List Addr}{x:Addr}{b:BS}{p:PG}{i:Int}{e:List (Str × V)}{S:List Addr}{r a m q:Addr}{Q:VK}(hF:F=x::r::a::m::q::S) (D:Bd fw C CP F H x b p) (t:TT P4 P5 H) (off:Off S x r a m q) (B:BoardAt C e H x r a m q b.rk b.as b.ms b.pl b.lim) (R:Rk fw CP e S H b.rk p)
  (h0:0<=i) (h1:i<b.rk.length) (kk:Zkv fw C CP P4 P5 isA wish F H x b p i Q):Zks fw C CP P4 isA wish e S H x r a m q b p i Q:=by
 intro H' S' p' kp fr t' B' R' st
 have so:=D.solid
 subst hF
 have hsub:∀ z∈(if isA then a else m)::S,z∈x::r::a::m::q::S:=fun z hz=>by
  rcases List.mem_cons.mp hz with rfl|hz
  ·cases isA<;>simp
  ·simp[hz]
 have tt':=t.p4 kp t' fun z hz=>so z (hsub z hz)
 refine kk H' (x::r::a::m::q::S') p' (kp.more fun z hz=>?_) (fun z hz=>?_) tt' ⟨⟨e,S',r,a,m,q,rfl,?_,by rw[Jn];exact R',fun z hz=>?_⟩,Zdi D.ok,fun hf=>Zk5 D.ok h0 h1 (D.pok hf) (st hf)⟩ st
 ·rcases List.mem_cons.mp hz with rfl|hz
  ·exact List.mem_append_left _ TT.in4
  ·exact List.mem_append_right _ (hsub z hz)
 ·simp only [List.mem_cons] at hz ⊢
  rcases hz with h|h|h|h|h|h
  ·exact .inl (.inl h)
  ·exact .inl (.inr (.inl h))
  ·exact .inl (.inr (.inr (.inl h)))
  ·exact .inl (.inr (.inr (.inr (.inl h))))
  ·exact .inl (.inr (.inr (.inr (.inr (.inl h)))))
  ·rcases fr z h with h|h
   ·exact .inl (.inr (.inr (.inr (.inr (.inr h)))))
   ·exact .inr h
 ·rw[Jn,Zil,Zk6];exact B'
 ·rcases fr z hz with h|h
  ·exact off z h
  ·obtain⟨dx,e0⟩:=B.at_
   exact⟨Ne.symm (Zl e0 h),Ne.symm (Zl B.rk h),Ne.symm (Zl B.as h),Ne.symm (Zl B.ms h),Ne.symm (Zl B.pl h)⟩
theorem scR1:FnScope ["self", "line"] ["self", "line"] (Zg (bm 1)):=⟨rfl,rfl,rfl,by decide+kernel,rfl,by decide+kernel,by decide+kernel⟩
theorem scR2:FnScope ["self", "line"] ["self", "line"] (Zg (bm 2)):=⟨rfl,rfl,rfl,by decide+kernel,rfl,by decide+kernel,by decide+kernel⟩
theorem scR3:FnScope ["self", "line"] ["self", "line"] (Zg (bm 3)):=⟨rfl,rfl,rfl,by decide+kernel,rfl,by decide+kernel,by decide+kernel⟩
theorem scR4:FnScope ["self", "line"] ["self", "line"] (Zg (bm 4)):=⟨rfl,rfl,rfl,by decide+kernel,rfl,by decide+kernel,by decide+kernel⟩
theorem Zda {isA wish:Bool}{H:Hp}{F:List Addr}{x:Addr}{b:BS}{p:PG}{v:V}{Q:VK}{E:XK}{e:List (Str × V)}{S:List Addr}{r a m q:Addr}{vs:List V}(hv:vs=[.ref x,.ref (if isA then a else m),v,.bl wish]) (hF:F=x::r::a::m::q::S) (D:Bd fw C CP F H x b p) (t:TT P4 P5 H) (off:Off S x r a m q) (B:BoardAt C e H x r a m q b.rk b.as b.ms b.pl b.lim) (R:Rk fw CP e S H b.rk p)
  (hq:(∃ i,v=.int i/\0<=i/\i<b.rk.length/\Zkv fw C CP P4 P5 isA wish F H x b p i Q)\/(Odd K H b.rk.length v/\E (.ref CN) none H)):Zcr K fw C CP P4 CN vs H Q E:=by
 refine⟨isA,wish,e,S,x,r,a,m,q,b,p,v,hv,B,R,off,t.o,D.ok,D.pok,?_⟩
 rcases hq with ⟨i,rfl,h0,h1,kk⟩|h
 ·exact .inl ⟨i,rfl,h0,h1,Zpj hF D t off B R h0 h1 kk⟩
 ·exact .inr h
theorem Znr (D:MDef K C "ring" "Board.ring" (bm 1) ["self", "line"]) (TB:BTxt K C) (GT:FuM P w K mg base (CX1 P w) 9 C "turn" ["self", "marks", "line", "wish"] (Zcr K fw C CP P4 CN)):FuM P w K mg base (CX1 P w) 10 C "ring" ["self", "line"] (Jl K fw C CP P4 P5 CN true true):=by
 refine D.fux scR1 (fun vs H Q E h=>?_) (fun f cdv A outer s H vs Q E hr h=>?_)
 ·obtain⟨F,x,b,p,v,rfl,_⟩:=h
  rfl
 ·obtain⟨F,x,b,p,v,rfl,D0,t,hq⟩:=h
  refine⟨_,Zf (Zj (pm GT TB.cl hr Yf (pv 0) (Za (Zt (pv 0) rfl) (Za (pv 1) (Za Ye Zc))))),?_⟩
  obtain⟨e,S,r,a,m,q,hF,B,R,off⟩:=D0.ex
  obtain⟨dx,e0⟩:=B.at_
  exact⟨_,rfl,x,dx,_,rfl,e0,Z1 B.exo (by decide+kernel),_,rfl,x,C,dx,_,_,rfl,e0,TB.cl,TB.nA,rfl,_,rfl,Zda (isA:=true) rfl hF D0 t off B R hq⟩
theorem Znv (D:MDef K C "calm" "Board.calm" (bm 2) ["self", "line"]) (TB:BTxt K C) (GT:FuM P w K mg base (CX1 P w) 9 C "turn" ["self", "marks", "line", "wish"] (Zcr K fw C CP P4 CN)):FuM P w K mg base (CX1 P w) 10 C "calm" ["self", "line"] (Jl K fw C CP P4 P5 CN true false):=by
 refine D.fux scR2 (fun vs H Q E h=>?_) (fun f cdv A outer s H vs Q E hr h=>?_)
 ·obtain⟨F,x,b,p,v,rfl,_⟩:=h
  rfl
 ·obtain⟨F,x,b,p,v,rfl,D0,t,hq⟩:=h
  refine⟨_,Zf (Zj (pm GT TB.cl hr Yf (pv 0) (Za (Zt (pv 0) rfl) (Za (pv 1) (Za Ye Zc))))),?_⟩
  obtain⟨e,S,r,a,m,q,hF,B,R,off⟩:=D0.ex
  obtain⟨dx,e0⟩:=B.at_
  exact⟨_,rfl,x,dx,_,rfl,e0,Z1 B.exo (by decide+kernel),_,rfl,x,C,dx,_,_,rfl,e0,TB.cl,TB.nA,rfl,_,rfl,Zda (isA:=true) rfl hF D0 t off B R hq⟩
theorem Znt (D:MDef K C "mute" "Board.mute" (bm 3) ["self", "line"]) (TB:BTxt K C) (GT:FuM P w K mg base (CX1 P w) 9 C "turn" ["self", "marks", "line", "wish"] (Zcr K fw C CP P4 CN)):FuM P w K mg base (CX1 P w) 10 C "mute" ["self", "line"] (Jl K fw C CP P4 P5 CN false true):=by
 refine D.fux scR3 (fun vs H Q E h=>?_) (fun f cdv A outer s H vs Q E hr h=>?_)
 ·obtain⟨F,x,b,p,v,rfl,_⟩:=h
  rfl
 ·obtain⟨F,x,b,p,v,rfl,D0,t,hq⟩:=h
  refine⟨_,Zf (Zj (pm GT TB.cl hr Yf (pv 0) (Za (Zt (pv 0) rfl) (Za (pv 1) (Za Ye Zc))))),?_⟩
  obtain⟨e,S,r,a,m,q,hF,B,R,off⟩:=D0.ex
  obtain⟨dx,e0⟩:=B.at_
  exact⟨_,rfl,x,dx,_,rfl,e0,Z1 B.exo (by decide+kernel),_,rfl,x,C,dx,_,_,rfl,e0,TB.cl,TB.nM,rfl,_,rfl,Zda (isA:=false) rfl hF D0 t off B R hq⟩
theorem Znu (D:MDef K C "free" "Board.free" (bm 4) ["self", "line"]) (TB:BTxt K C) (GT:FuM P w K mg base (CX1 P w) 9 C "turn" ["self", "marks", "line", "wish"] (Zcr K fw C CP P4 CN)):FuM P w K mg base (CX1 P w) 10 C "free" ["self", "line"] (Jl K fw C CP P4 P5 CN false false):=by
 refine D.fux scR4 (fun vs H Q E h=>?_) (fun f cdv A outer s H vs Q E hr h=>?_)
 ·obtain⟨F,x,b,p,v,rfl,_⟩:=h
  rfl
 ·obtain⟨F,x,b,p,v,rfl,D0,t,hq⟩:=h
  refine⟨_,Zf (Zj (pm GT TB.cl hr Yf (pv 0) (Za (Zt (pv 0) rfl) (Za (pv 1) (Za Ye Zc))))),?_⟩
  obtain⟨e,S,r,a,m,q,hF,B,R,off⟩:=D0.ex
  obtain⟨dx,e0⟩:=B.at_
  exact⟨_,rfl,x,dx,_,rfl,e0,Z1 B.exo (by decide+kernel),_,rfl,x,C,dx,_,_,rfl,e0,TB.cl,TB.nM,rfl,_,rfl,Zda (isA:=false) rfl hF D0 t off B R hq⟩
end
end K10
namespace K10
open PySem L2 L3
def Zsm (rk:List Int) (as ms:List Bool) (pl:List Int) (lim:V):List Int:=(Yd as ms rk.length).filter (Yu rk lim pl)
abbrev BS.best (b:BS):List Int:=Zsm b.rk b.as b.ms b.pl b.lim
theorem Zew {α:Type}(l:List α) (q:α->Bool) (i:Nat) (h:i<l.length):(l.take (i+1)).filter q=if q l[i]=true then (l.take i).filter q++[l[i]] else (l.take i).filter q:=by
 rw[List.take_succ_eq_append_getElem h,List.filter_append]
 rw[List.filter_cons,List.filter_nil]
 cases e:q l[i] with
 | true=>rfl
 | false=>simp
theorem Zjd {rk pl:List Int}{lim:V}{y l:Int}(h:rkAt rk y<=rkAt rk l) (ho:Yu rk lim pl l=true):Yu rk lim pl y=true:=by
 unfold Yu at ho ⊢
 rw[Bool.and_eq_true] at ho ⊢
 obtain⟨h1,h2⟩:=ho
 constructor
 ·cases lim with
  | int z =>
   have:=of_decide_eq_true h1
   exact decide_eq_true (by omega)
  | _=>rfl
 ·cases e:pl.getLast? with
  | none=>rfl
  | some t =>
   rw[e] at h2
   have:=of_decide_eq_true h2
   exact decide_eq_true (by omega)
theorem Zkm {rk W r pl:List Int}{lim:V}{y:Int}(so:Sorted rk W (y::r)) (ho:Yu rk lim pl y=true):Y8 rk (W.filter (Yu rk lim pl)) (.int y):=by
 refine⟨List.mem_filter.mpr ⟨so.perm.mem_iff.mp (by simp),ho⟩,fun l hl hne=>?_⟩
 have h:=so.perm.mem_iff.mpr (List.mem_filter.mp hl).1
 rcases List.mem_cons.mp h with h|h
 ·exact absurd h hne
 ·exact(List.pairwise_cons.mp so.pw).1 l h
theorem Zkl {rk W r pl:List Int}{lim:V}{y:Int}(so:Sorted rk W (y::r)) (ho:Yu rk lim pl y=false):Y8 rk (W.filter (Yu rk lim pl)) .non:=by
 show W.filter (Yu rk lim pl)=[]
 refine List.filter_eq_nil_iff.mpr fun l hl z=>?_
 have h:=so.perm.mem_iff.mpr hl
 rcases List.mem_cons.mp h with rfl|h
 ·rw[z] at ho;cases ho
 ·have q:=(Zei rk y l).mp ((List.pairwise_cons.mp so.pw).1 l h)
  rw[Zjd (by omega) z] at ho
  cases ho
theorem Zag {rk ls:List Int}{v:V}(h:Y8 rk ls v):v=.non\/∃ m,v=.int m:=by
 cases v with
 | non=>exact .inl rfl
 | int m=>exact .inr ⟨m,rfl⟩
 | bl _=>exact h.elim
 | str _=>exact h.elim
 | byt _=>exact h.elim
 | flt _=>exact h.elim
 | ref _=>exact h.elim
 | ty _=>exact h.elim
theorem Zev {rk ls:List Int}{u v:V}(h1:Y8 rk ls u) (h2:Y8 rk ls v):u=v:=by
 rcases Zag h1 with rfl|⟨m,rfl⟩
 ·have e:ls=[]:=h1
  rcases Zag h2 with rfl|⟨k,rfl⟩
  ·rfl
  ·have:=h2.1;rw[e] at this;cases this
 ·rcases Zag h2 with rfl|⟨k,rfl⟩
  ·have e:ls=[]:=h2
   have:=h1.1;rw[e] at this;cases this
  ·by_cases e:m=k
   ·rw[e]
   ·have a:=h1.2 k h2.1 (Ne.symm e)
    have b:=h2.2 m h1.1 e
    have:=Zjj a b
    rw[Zgk] at this
    cases this
theorem Zfe {b:BS}{i:Int}(h:i∈b.best):(0<=i/\i<b.rk.length)/\b.want i.toNat=true/\Yu b.rk b.lim b.pl i=true:=by
 obtain⟨h1,h2⟩:=List.mem_filter.mp h
 obtain⟨a1,a2,a3⟩:=Za0.mp h1
 exact⟨⟨a1,a2⟩,a3,h2⟩
theorem BOk.lim2 {b:BS}(h:BOk b):b.lim=.non\/∃ z,b.lim=.int z:=h.li.elim .inl fun⟨z,e,_⟩=>.inr ⟨z,e⟩
section
variable {P:Program}{w:World}{K:PySem.W.Frag}{mg:Str->Option Value}{base:Heap}{C CP P4 P5 CN CB CT:Addr}{fw:Bool}
def BadBar (K:PySem.W.Frag) (H:Hp) (v:V):Prop:=(∃ i:Int,v=.int i/\¬ (0<=i/\i<=M60))\/(WholeV K H v false/\v ≠ .non)
def Zm4 (K:PySem.W.Frag):Sp:=fun vs H Q _=>∃ v:V,vs=[v]/\((BarV v/\Q (.bl true) H)\/(BadBar K H v/\Q (.bl false) H))
theorem Zsd (D:Def K mg "is_bar" (top 26) ["thing"]) (GU:Fu P w K mg base CX0 2 "is_up_to" ["most", "thing"] (Zd5 K)):Fu P w K mg base CX0 3 "is_bar" ["thing"] (Zm4 K):=by
 refine D.fu sc15 (fun vs H Q E h=>?_) (fun f cdv A outer s H vs Q E hr h=>?_)
 ·obtain⟨v,rfl,_⟩:=h
  rfl
 ·obtain⟨v,rfl,hv⟩:=h
  refine⟨_,Zf (Zj (Zoz (Zne (Zgg (pv 0))) (Yk (pc GU hr Zk (Za (Zi Yz Zd Zd) (Za (pv 0) Zc)))))),?_⟩
  rcases hv with ⟨rfl|⟨z,rfl,h0,h1⟩,q⟩|⟨⟨z,rfl,hz⟩|⟨wv,hne⟩,q⟩
  ·exact⟨_,rfl,true,rfl,iteT q⟩
  ·refine⟨_,rfl,false,rfl,iteF ⟨_,_,rfl,rfl,cpow _ _ (by decide+kernel),_,rfl,_,_,rfl,.inl ⟨z,rfl,?_⟩⟩⟩
   have e1:decide ((0:Int)<=z)=true:=decide_eq_true h0
   have e2:decide (z<=10 ^ (60:Int).toNat)=true:=decide_eq_true h1
   rw[e1,e2]
   exact q
  ·refine⟨_,rfl,false,rfl,iteF ⟨_,_,rfl,rfl,cpow _ _ (by decide+kernel),_,rfl,_,_,rfl,.inl ⟨z,rfl,?_⟩⟩⟩
   have e:(decide ((0:Int)<=z)&&decide (z<=10 ^ (60:Int).toNat))=false:=by
    rw[Bool.eq_false_iff]
    intro y
    simp only [Bool.and_eq_true,decide_eq_true_eq] at y
    exact hz y
   rw[e]
   exact q
  ·refine⟨_,rfl,false,?_,iteF ⟨_,_,rfl,rfl,cpow _ _ (by decide+kernel),_,rfl,_,_,rfl,.inr ⟨wv,q⟩⟩⟩
   cases v<;>first|rfl|exact absurd rfl hne
def Zm2 (K:PySem.W.Frag) (fw:Bool) (C CP CB:Addr):Sp:=fun vs H Q E=>∃ (F:List Addr) (x:Addr) (b:BS) (p:PG) (v:V),vs=[.ref x,v]/\Bd fw C CP F H x b p /\
 ((BarV v/\∀ H',KeepBut [x] H H'->Bd fw C CP F H' x { b with lim:=v } p->Q b.lim H')\/(BadBar K H v/\E (.ref CB) none H))
theorem Zqx:FnScope ["self", "rank", "old"] ["self", "rank"] (Zg (bm 5)):=⟨rfl,rfl,rfl,by decide+kernel,rfl,by decide+kernel,by decide+kernel⟩
theorem Znw (D:MDef K C "bar" "Board.bar" (bm 5) ["self", "rank"]) (TB:BTxt K C) (XB:ExcC K mg "NoBar" CB) (GB:Fu P w K mg base CX0 3 "is_bar" ["thing"] (Zm4 K)):FuM P w K mg base (CX1 P w) 4 C "bar" ["self", "rank"] (Zm2 K fw C CP CB):=by
 refine D.fux Zqx (fun vs H Q E h=>?_) (fun f cdv A outer s H vs Q E hr h=>?_)
 ·obtain⟨F,x,b,p,v,rfl,_⟩:=h
  rfl
 ·obtain⟨F,x,b,p,v,rfl,D0,hv⟩:=h
  refine⟨_,Zh (Zn (Yh (Zz (pc GB hr Zk (Za (pv 1) Zc)))) (Zf (Zdj XB hr.hd (Za Zq Zc))) Zo)
   (Zh (Zp (i:=2) Zqx.nd rfl (.inl rfl) (Zt (pv 0) rfl))
   (Zh (Yj (pv 0) (pv 1) rfl) (Zf (Zj (pv 2))))),?_⟩
  rcases hv with ⟨hv,kk⟩|⟨hv,hE⟩
  ·refine⟨_,rfl,v,rfl,.inl ⟨hv,_,rfl,iteF ?_⟩⟩
   obtain⟨e,S,r,a,m,q,rfl,B,R,off⟩:=D0.ex
   obtain⟨dx,e0⟩:=B.at_
   refine⟨_,rfl,x,C,dx,_,_,rfl,e0,TB.cl,TB.nL,rfl,_,rfl,_,rfl,x,C,dx,_,rfl,e0,TB.cl,TB.nL,?_,?_⟩
   ·rcases B.exo with rfl|⟨g,rfl⟩
    ·show 5<1000;decide
    ·show 6<1000;decide
   ·have k1:KeepBut [x] H (upd H x (.ins C dx (putF "limit" v (bf r a m q b.lim e)))):=(KeepBut.refl _ _).upd (.inl (by simp))
    refine⟨_,rfl,kk _ k1 ⟨⟨e,S,r,a,m,q,rfl,B.setLim,R.to fun z o hz ez=>?_,off⟩,⟨D0.ok.la,D0.ok.lm,D0.ok.l1,D0.ok.l60,D0.ok.ro,D0.ok.pr,D0.ok.fl,hv⟩,fun hf=>⟨(D0.pok hf).n1,(D0.pok hf).n16,(D0.pok hf).g,(D0.pok hf).pm⟩⟩⟩
    rw[Zb (off z hz).1]
    exact ez
  ·exact⟨_,rfl,v,rfl,.inr ⟨hv,_,rfl,iteT ⟨by show 1<=sizeLine;decide,hE⟩⟩⟩
def Zf8 (fw:Bool) (C CP P4 P5:Addr):Sp:=fun vs H Q _=>∃ (F:List Addr) (x:Addr) (b:BS) (p:PG),vs=[.ref x]/\Bd fw C CP F H x b p/\TT P4 P5 H/\∀ v H',KB P4 P5 H H'->TT P4 P5 H'->Y8 b.rk b.best v->Q v H'
theorem Zop:FnScope ["self"] ["self"] (Zg (wm 0)):=⟨rfl,rfl,rfl,by decide+kernel,rfl,by decide+kernel,by decide+kernel⟩
theorem Zpx (D:MDef K C "best" "Wide.best" (wm 0) ["self"]) (TB:BTxt K C) (GF:Fu P w K mg base CX0 4 "first_of" ["ranks", "lines"] (Zd8 K P5)) (GW:FuM P w K mg base CX0 2 C "wanting" ["self"] (Zb2 C)) (GO:FuM P w K mg base CX0 2 C "is_open" ["self", "line"] (Zid C)) :
  FuM P w K mg base CX0 5 C "best" ["self"] (Zf8 false C CP P4 P5):=by
 refine D.fu Zop (fun vs H Q E h=>?_) (fun f cdv A outer s H vs Q E hr h=>?_)
 ·obtain⟨F,x,b,p,rfl,_⟩:=h
  rfl
 ·obtain⟨F,x,b,p,rfl,D0,t,kk⟩:=h
  refine' ⟨_,Zf (Zj (pc GF hr Zk (Za (Zt (pv 0) rfl) (Za (Jp (ts:=["line"]) (fvs:=["self"]) (js:=[0]) (cl:=[("self",s.heap.objs.size+1)]) rfl ?S (Zb7 (pm0 GW TB.cl hr Zk (pv 0))) (fun _ _ _ _=>Ya (i:=0) (show List.Nodup (["line", "self"]:List Str) from by decide+kernel) rfl (.inl rfl) (Or.inr rfl))
    (fun _ _ _ _=>Zfm (Zz (pm GO TB.cl hr Zk (pv 1) (Za (pv 0) Zc)))) (fun _ _ _ _=>pv 0)) Zc)))),?main⟩
  case S=>exact Zg4 rfl rfl (by decide+kernel) (by decide+kernel) rfl (.inl rfl) rfl (.inl rfl) rfl
  case main =>
   have I:=D0.ok
   obtain⟨ex,S,r,a,m,q,rfl,B,_,_⟩:=D0.ex
   obtain⟨dx,e0⟩:=B.at_
   refine⟨_,rfl,x,C,dx,_,_,rfl,e0,TB.cl,TB.nR,rfl,_,rfl,x,dx,_,rfl,e0,Z1 B.exo (by decide+kernel),ex,x,r,a,m,q,b.rk,b.as,b.ms,b.pl,b.lim,rfl,B,I.la,I.lm,I.l60,fun wl H1 s1 _ hw=>?_⟩
   refine⟨wl,rfl,⟨_,SqL.of hw⟩,[.ref x],rfl,fun d nd=>?_⟩
   have B1:=B.same s1
   have hlen:=Zbx b.as b.ms b.rk.length
   refine Jg (Yd b.as b.ms b.rk.length).length (by rw[sizeLine_eq];have:=I.l60;omega) (fun i ys H2=>ys=(((Yd b.as b.ms b.rk.length).take i).filter (Yu b.rk b.lim b.pl)).map V.int/\Same H1 H2/\H2 d=some (.lst ys)) ⟨rfl,Same.new nd,Ze⟩ (fun i ys H2 ⟨e,_,e2⟩=>⟨e2,by rw[e,List.length_map];exact Nat.le_trans (List.length_filter_le _ _) (List.length_take_le _ _)⟩) ?_ ?_
   ·rintro i ys H2 N hi ⟨rfl,sm,hD⟩ rest
    have g1:((Yd b.as b.ms b.rk.length).map V.int)[i]?=some (.int (Yd b.as b.ms b.rk.length)[i]):=by simp[hi]
    refine⟨⟨_,_,sm.seq (SqL.of hw),g1⟩,?_⟩
    rintro y H3 ⟨rfl,hy⟩
    have hy':=hy _ (sm.seq (SqL.of hw))
    rw[g1] at hy'
    cases hy'
    have B2:=B1.same sm
    obtain⟨dx2,e2⟩:=B2.at_
    have hb:=Zaz (List.getElem_mem hi)
    refine⟨rfl,rfl,_,rfl,x,dx2,_,rfl,e2,Z1 B.exo (by decide+kernel),_,rfl,ex,x,r,a,m,q,b.rk,b.as,b.ms,b.pl,b.lim,_,rfl,B2,hb.1,hb.2,I.pr,I.lim2,_,rfl,?_⟩
    refine ite2 (fun hc=>?_) (fun hc=>?_)
    ·refine⟨_,rfl,hD,rest _ _ ⟨?_,fun z o e=>?_,Ze⟩⟩
     ·rw[Zew _ _ _ hi,if_pos hc,List.map_append]
      rfl
     ·rw[Zb (Zl e nd)]
      exact sm z o e
    ·refine rest _ _ ⟨?_,sm,hD⟩
     rw[Zew _ _ _ hi,if_neg hc]
   ·rintro ys H2 ⟨rfl,sm,hD⟩
    refine⟨⟨_,sm.seq (SqL.of hw),by rw[List.length_map];exact Nat.le_refl _⟩,?_⟩
    rw[List.take_of_length_le (Nat.le_refl _)] at hD
    have s12:=s1.trans sm
    have t2:=t.same s12
    refine⟨r,d,b.rk,b.best,rfl,SqL.of (s12 _ _ B.rk),SqL.of hD,(Zc7 _ _ _).filter _,fun l hl=>Zaz (List.mem_filter.mp hl).1,t2.f,fun v H4 kp t4 hF=>kk v H4 ((Zcb s12).trans (KeepBut.kp kp (by unfold TL;simp))) ⟨t2.o.kp kp t2.f t2.ne,t4,t.ne⟩ hF⟩
theorem Zis:FnScope ["self", "line"] ["self"] (Zg (fm 1)):=⟨rfl,rfl,rfl,by decide+kernel,rfl,by decide+kernel,by decide+kernel⟩
theorem Zpy (D:MDef K C "best" "Few.best" (fm 1) ["self"]) (TB:BTxt K C) (nK:NoAttr K C "rack") (TP:PTxt K CP) (GF:FuM P w K mg base CX0 1 CP "first" ["self"] (Zf6 CP)) (GO:FuM P w K mg base CX0 2 C "is_open" ["self", "line"] (Zid C)) :
  FuM P w K mg base CX0 5 C "best" ["self"] (Zf8 true C CP P4 P5):=by
 refine FuM.mono (j:=3) (D.fu Zis (fun vs H Q E h=>?_) (fun f cdv A outer s H vs Q E hr h=>?_)) (by decide)
 ·obtain⟨F,x,b,p,rfl,_⟩:=h
  rfl
 ·obtain⟨F,x,b,p,rfl,D0,t,kk⟩:=h
  refine⟨_,Zh (Zp (i:=1) Zis.nd rfl (.inl rfl) (pm0 GF TP.cl hr Zk (Zt (pv 0) rfl)))
   (Zh (Zn (Zb6 (Zec (Zfp (pv 1))) (Zar (Zz (pm GO TB.cl hr Zk (pv 0) (Za (pv 1) Zc))))).pt (Zf (Zj (pv 1))) Zo) (Zf (Zj Y4))),?_⟩
  have I:=D0.ok
  have PO:=D0.pok rfl
  obtain⟨ex,S,r,a,m,q,rfl,B,R,_⟩:=D0.ex
  obtain⟨g,gr,gh,gb,rfl,rfl,A⟩:=R.few rfl
  obtain⟨dx,e0⟩:=B.at_
  obtain⟨dg,eg⟩:=A.at_
  refine⟨_,rfl,x,C,dx,_,_,rfl,e0,TB.cl,nK,rfl,g,dg,_,rfl,eg,rfl,g,gr,gh,gb,b.rk,p.n,_,_,_,_,_,rfl,A,?_⟩
  have so:=PO.so
  cases eh:p.hg with
  | nil =>
   refine⟨_,rfl,_,rfl,iteF (iteF ?_)⟩
   refine kk .non H (KeepBut.refl _ _) t ?_
   show b.best=[]
   have eb:p.bk=[]:=by
    cases h:p.bk with
    | nil=>rfl
    | cons y u=>exact absurd eh (PO.g.ne (by rw[h];simp))
   rw[eh,eb] at so
   have ew:Yd b.as b.ms b.rk.length=[]:=List.nil_perm.mp so.perm
   unfold BS.best Zsm
   rw[ew]
   rfl
  | cons y u =>
   rw[eh] at so
   have hy:0<=y/\y<b.rk.length:=Zaz (so.perm.mem_iff.mp (by simp))
   refine⟨_,rfl,_,rfl,iteT ⟨_,rfl,x,dx,_,rfl,e0,Z1 B.exo (by decide+kernel),_,rfl,_,x,r,a,m,q,b.rk,b.as,b.ms,b.pl,b.lim,y,rfl,B,hy.1,hy.2,I.pr,I.lim2,_,rfl,?_⟩⟩
   cases ho:Yu b.rk b.lim b.pl y with
   | true=>exact iteT ⟨_,rfl,kk (.int y) H (KeepBut.refl _ _) t (Zkm so ho)⟩
   | false=>exact iteF (kk .non H (KeepBut.refl _ _) t (Zkl so ho))
def Zoa (b:BS) (i:Int):BS:={ b with as:=b.as.set i.toNat false,pl:=b.pl++[i] }
theorem Zn9 {b:BS}{i:Int}(h:BOk b) (hi:i∈b.best):BOk (Zoa b i):=by
 obtain⟨hr,_,ho⟩:=Zfe hi
 have h2:=Zdi (isA:=true) (wish:=false) (i:=i) h
 refine⟨h2.la,h2.lm,h.l1,h.l60,h.ro,fun t ht=>?_,?_,h.li⟩
 ·rcases List.mem_append.mp ht with q|q
  ·exact h.pr t q
  ·rw[List.mem_singleton.mp q];exact hr
 ·show Up ((b.pl++[i]).reverse.map (rkAt b.rk))
  rw[show (b.pl++[i]).reverse=i::b.pl.reverse by simp]
  refine Zh0 h.fl fun y hy=>?_
  unfold Yu at ho
  rw[Bool.and_eq_true] at ho
  have h3:=ho.2
  cases e:b.pl.getLast? with
  | none =>
   have:b.pl=[]:=List.getLast?_eq_none_iff.mp e
   rw[this] at hy
   simp at hy
  | some t =>
   rw[e] at h3
   have h4:rkAt b.rk i<rkAt b.rk t:=of_decide_eq_true h3
   rw[List.head?_map,List.head?_reverse,e] at hy
   cases hy
   exact h4
def Took (fw:Bool) (b:BS) (p:PG) (v:V) (b':BS) (p':PG):Prop:=(v=.non/\b'=b/\p'=p)\/∃ i,v=.int i/\b'=Zoa b i/\(fw=true->Zp7 p i p')
def Zmt (fw:Bool) (C CP P4 P5:Addr):Sp:=fun vs H Q _=>∃ (F:List Addr) (x:Addr) (b:BS) (p:PG),vs=[.ref x]/\Bd fw C CP F H x b p/\TT P4 P5 H /\
 ∀ v H' F' b' p',KD P4 P5 F H H'->Nw H F F'->TT P4 P5 H'->Y8 b.rk b.best v->Took fw b p v b' p'->Bd fw C CP F' H' x b' p'->Q v H'
theorem Zm6:FnScope ["self", "line"] ["self"] (Zg (bm 6)):=⟨rfl,rfl,rfl,by decide+kernel,rfl,by decide+kernel,by decide+kernel⟩
theorem Znq (D:MDef K C "take" "Board.take" (bm 6) ["self"]) (TB:BTxt K C) (GB:FuM P w K mg base CX0 5 C "best" ["self"] (Zf8 fw C CP P4 P5)) (GC:FuM P w K mg base (CX1 P w) 10 C "calm" ["self", "line"] (Jl K fw C CP P4 P5 CN true false)):FuM P w K mg base (CX1 P w) 11 C "take" ["self"] (Zmt fw C CP P4 P5):=by
 refine D.fux Zm6 (fun vs H Q E h=>?_) (fun f cdv A outer s H vs Q E hr h=>?_)
 ·obtain⟨F,x,b,p,rfl,_⟩:=h
  rfl
 ·obtain⟨F,x,b,p,rfl,D0,t,kk⟩:=h
  refine⟨_,Zh (Zp (i:=1) Zm6.nd rfl (.inl rfl) (pm0 GB TB.cl hr Zk (pv 0)))
   (Zh (Zn (Zec (Zfp (pv 1))) (Zh (Z8 (pm GC TB.cl hr Yf (pv 0) (Za (pv 1) Zc))) (Zf (Z8 (Jc PySem.F.plainAttrs_list PySem.F.slot_list_append PySem.F.type_list_append Zac (Zt (pv 0) rfl) (Za (pv 1) Zc))))) Zo)
   (Zf (Zj (pv 1)))),?_⟩
  obtain⟨dx,fs,e0,no⟩:=D0.inst
  refine⟨_,rfl,x,dx,fs,rfl,e0,no _ (by decide+kernel),F,x,b,p,rfl,D0,t,fun v H1 k1 t1 hF=>?_⟩
  have D1:=D0.kb t k1
  refine⟨_,rfl,_,rfl,?_⟩
  rcases Zag hF with rfl|⟨i,rfl⟩
  ·exact iteF ⟨_,rfl,kk .non H1 F b p (KD.of_kb k1) (fun z hz=>.inl hz) t1 hF (.inl ⟨rfl,rfl,rfl⟩) D1⟩
  ·have hm:i∈b.best:=hF.1
   obtain⟨hr1,hw,_⟩:=Zfe hm
   obtain⟨dx1,fs1,e1,no1⟩:=D1.inst
   refine iteT ⟨_,rfl,x,dx1,fs1,rfl,e1,no1 _ (by decide+kernel),_,rfl,F,x,b,p,.int i,rfl,D1,t1,.inl ⟨i,rfl,hr1.1,hr1.2,fun H2 F2 p2 k2 n2 t2 D2 st=>?_⟩⟩
   obtain⟨e,S,r,a,m,q,rfl,B2,R2,off2⟩:=D2.ex
   have hb2:=Zn9 D0.ok hm
   obtain⟨dx2,e2⟩:=B2.at_
   have hpl:(setA b true false i).pl.length<=60:=(Zdi D0.ok).plen
   refine⟨_,rfl,x,C,dx2,_,_,rfl,e2,TB.cl,TB.nP,rfl,.inl ⟨rfl,_,SqL.of B2.pl⟩,_,rfl,q,_,_,rfl,rfl,B2.pl,by rw[List.length_map,sizeLine_eq];omega,?_⟩
   rw[show (setA b true false i).pl.map V.int++[V.int i]=(b.pl++[i]).map V.int by rw[Zil];simp]
   have B3:=B2.setPl (ys:=b.pl++[i])
   have k3:KeepBut [q] H2 (upd H2 q (.lst ((b.pl++[i]).map V.int))):=(KeepBut.refl _ _).upd (.inl (by simp))
   have wa:(setA b true false i).want i.toNat=false:=by
    have:=D0.ok.la
    show ((b.as.set i.toNat false).getD i.toNat false&&_)=false
    rw[Zax (by omega)]
    rfl
   have hq:q∈F\/H q=none:=by
    rcases n2 q (by simp) with h|h
    ·exact .inl h
    ·exact .inr (t1.free k1 h)
   have k12:KD P4 P5 F H H2:=(KD.of_kb k1).trans k2
   have tk:Took fw b p (.int i) (Zoa b i) p2:=.inr ⟨i,rfl,rfl,fun hf=>(st hf).2.2 hw wa⟩
   refine⟨_,rfl,kk (.int i) _ _ _ p2 ?_ (fun z hz=>?_) (t2.kb k3 fun z hz=>?_) hF tk ⟨⟨e,S,r,a,m,q,rfl,B3,R2.to fun z o hz ez=>?_,off2⟩,hb2,fun hf=>?_⟩⟩
   ·exact k12.upd (by
     rcases hq with h|h
     ·exact .inl (List.mem_append_right _ h)
     ·exact .inr h)
   ·rcases n2 z hz with h|h
    ·exact .inl h
    ·exact .inr (t1.free k1 h)
   ·rw[List.mem_singleton.mp hz];exact .inl ⟨_,B2.pl⟩
   ·rw[Zb (off2 z hz).2.2.2.2];exact ez
   ·have z:=D2.pok hf
    exact⟨z.n1,z.n16,z.g,z.pm⟩
def nt (j:Nat):Stmt:=Zbm (top 8) j
def spNT (C:Addr):Sp:=fun vs H Q _=>∃ (e:Addr) (l t:V),vs=[.ref e,l,t]/\H e=some (Yb e C none)/\∀ dx H',H dx=none->H' dx=some (Y2 dx [("line",l),("top",t)])->H' e=some (Yb e C (some dx))->(∀ z,z≠dx->z≠e->H' z=H z)->Q .non H'
theorem scNT:FnScope ["self", "line", "top"] ["self", "line", "top"] (Zg (nt 0)):=⟨rfl,rfl,rfl,by decide+kernel,rfl,by decide+kernel,by decide+kernel⟩
theorem f_nt {DB:Addr}(D:DefX K mg "NotTop" CT "NotTop.__init__" (nt 0) ["self", "line", "top"]) (hBE:mg "BoardError" = some (.ref DB)) (BI:BInit K DB) (XC:XCls K CT) (n1:PySem.W.findIn K (.ref CT) "line" = some none) (n2:PySem.W.findIn K (.ref CT) "top" = some none):FuX P w K mg base 1 "NotTop" CT ["self", "line", "top"] (spNT CT):=by
 refine D.fu scNT (fun vs H Q E h=>?_) (fun f cdv A outer s H vs Q E hr h=>?_)
 ·obtain⟨e,l,t,rfl,_⟩:=h
  rfl
 ·obtain⟨e,l,t,rfl,he,kk⟩:=h
  refine⟨_,Zh (Z8 (Zq6 BI hBE (Za (pv 0) (Za Zq Zc)))) (Zh (Zq2 (pv 0) (pv 1) rfl) (Zf (Zs8 (pv 0) (pv 2) rfl))),?_⟩
  refine⟨_,rfl,e,CT,none,_,rfl,he,XC,(by show 1<=sizeLine;decide),?_⟩
  refine⟨_,rfl,_,rfl,e,CT,rfl,he,XC,n1,fun dx hdx=>?_⟩
  have ne:e≠dx:=Zl he hdx
  refine⟨_,rfl,_,rfl,e,CT,dx,_,rfl,by rw[Zb ne];exact Ze,Ze,XC,n2,(by show 1<1000;decide),?_⟩
  refine kk dx _ hdx ?_ ?_ fun z h1 h2=>?_
  ·rw[Ze];rfl
  ·rw[Zb ne,Zb ne];exact Ze
  ·rw[Zb h1,Zb h1,Zb h2]
def Zqm (K:PySem.W.Frag) (fw:Bool) (C CP P4 P5 CN CT:Addr):Sp:=fun vs H Q E=>∃ (F:List Addr) (x:Addr) (b:BS) (p:PG) (v:V),vs=[.ref x,v]/\Bd fw C CP F H x b p /\
 ((∃ i,v=.int i/\0<=i/\i<b.rk.length/\((b.pl.getLast?=some i/\∀ H',KeepBut F H H'->Bd fw C CP F H' x { b with pl:=b.pl.dropLast } p->Q (Yx b.pl.dropLast) H')\/(b.pl.getLast?≠some i/\∀ H',Same H H'->E (.ref CT) none H')))\/(Odd K H b.rk.length v/\E (.ref CN) none H))
theorem Zqs:FnScope ["self", "line", "top"] ["self", "line"] (Zg (bm 7)):=⟨rfl,rfl,rfl,by decide+kernel,rfl,by decide+kernel,by decide+kernel⟩
theorem Zsg {b:BS}(h:BOk b):BOk { b with pl:=b.pl.dropLast }:=by
 refine⟨h.la,h.lm,h.l1,h.l60,h.ro,fun t ht=>h.pr t ((List.dropLast_sublist _).subset ht),?_,h.li⟩
 show Up (b.pl.dropLast.reverse.map (rkAt b.rk))
 cases e:b.pl.getLast? with
 | none =>
  have:b.pl=[]:=List.getLast?_eq_none_iff.mp e
  rw[this]
  intro i hi
  simp at hi
 | some t =>
  have h2:=h.fl
  rw[Zds e,show (b.pl.dropLast++[t]).reverse=t::b.pl.dropLast.reverse by simp] at h2
  exact Zn3 h2
theorem Zr5 (D:MDef K C "end" "Board.end" (bm 7) ["self", "line"]) (TB:BTxt K C) (GK:FuM P w K mg base (CX1 P w) 4 C "check_line" ["self", "line"] (Zfk K C CN)) (GT:Fu P w K mg base CX0 1 "top_of" ["pile"] (Zdd K)) (GX:FuX P w K mg base 1 "NotTop" CT ["self", "line", "top"] (spNT CT)):FuM P w K mg base (CX1 P w) 5 C "end" ["self", "line"] (Zqm K fw C CP P4 P5 CN CT):=by
 refine D.fux Zqs (fun vs H Q E h=>?_) (fun f cdv A outer s H vs Q E hr h=>?_)
 ·obtain⟨F,x,b,p,v,rfl,_⟩:=h
  rfl
 ·obtain⟨F,x,b,p,v,rfl,D0,hv⟩:=h
  refine⟨_,Zh (Z8 (pm GK TB.cl hr Yf (pv 0) (Za (pv 1) Zc)))
   (Zh (Zp (i:=2) Zqs.nd rfl (.inl rfl) (pc GT hr Zk (Za (Zt (pv 0) rfl) Zc)))
   (Zh (Zn (Zu Zje (pv 1) (pv 2) (Zs _)) (Zf (Ziy (k:=3) GX hr (Za (pv 1) (Za (pv 2) Zc)))) Zo)
   (Zh (Z8 (Znf PySem.F.plainAttrs_list PySem.F.slot_list_pop PySem.F.type_list_pop Znj (Zt (pv 0) rfl)))
   (Zf (Zj (pc GT hr Zk (Za (Zt (pv 0) rfl) Zc))))))),?_⟩
  obtain⟨e,S,r,a,m,q,rfl,B,R,off⟩:=D0.ex
  obtain⟨dx,e0⟩:=B.at_
  refine⟨_,rfl,x,dx,_,rfl,e0,Z1 B.exo (by decide+kernel),_,rfl,e,x,r,a,m,q,b.rk,b.as,b.ms,b.pl,b.lim,v,rfl,B,?_⟩
  rcases hv with ⟨i,rfl,h0,h1,hv⟩|h
  case inr=>exact .inr h
  refine .inl ⟨i,rfl,h0,h1,?_⟩
  refine⟨_,rfl,x,C,dx,_,_,rfl,e0,TB.cl,TB.nP,rfl,q,b.pl,rfl,B.pl,?_⟩
  have sc:scal (.int i) (Yx b.pl)=true:=by unfold Yx;cases b.pl.getLast?<;>rfl
  refine⟨_,rfl,_,rfl,sc,_,rfl,?_⟩
  rcases hv with ⟨hl,kk⟩|⟨hl,hE⟩
  ·have el:Yx b.pl=.int i:=by unfold Yx;rw[hl]
   refine Zm (by rw[el];simp) ?_
   refine⟨_,rfl,x,C,dx,_,_,rfl,e0,TB.cl,TB.nP,rfl,.inl ⟨rfl,_,SqL.of B.pl⟩,q,_,.int i,rfl,rfl,B.pl,?_,?_⟩
   ·rw[List.length_map,List.getElem?_map,← List.getLast?_eq_getElem?,hl]
    rfl
   ·rw[← List.map_dropLast]
    have B2:=B.setPl (ys:=b.pl.dropLast)
    obtain⟨dx2,e2⟩:=B2.at_
    refine⟨_,rfl,x,C,dx2,_,_,rfl,e2,TB.cl,TB.nP,rfl,q,_,rfl,B2.pl,?_⟩
    refine kk _ ((KeepBut.refl _ _).upd (.inl (by simp))) ⟨⟨e,S,r,a,m,q,rfl,B2,R.to fun z o hz ez=>?_,off⟩,Zsg D0.ok,fun hf=>⟨(D0.pok hf).n1,(D0.pok hf).n16,(D0.pok hf).g,(D0.pok hf).pm⟩⟩
    rw[Zb (off z hz).2.2.2.2]
    exact ez
  ·have el:Yx b.pl ≠ .int i:=by
    unfold Yx
    cases h:b.pl.getLast? with
    | none=>simp
    | some t =>
     intro z
     injection z with z
     exact hl (by rw[h,z])
   refine Z2 (by simp[Ne.symm el]) ?_
   refine⟨_,rfl,_,rfl,(by show 2<=sizeLine;decide),fun ea hea=>?_⟩
   refine⟨ea,.int i,Yx b.pl,rfl,Ze,fun dd H2 hdd h1 h2 h3=>⟨rfl,some dd,h2,hE _ fun z o ez=>?_⟩⟩
   have z1:z≠ea:=Zl ez hea
   have z2:z≠dd:=fun h=>by
    subst h
    rw[Zb z1,ez] at hdd
    cases hdd
   rw[Zbg z1,h3 z z2 z1,Zb z1]
   exact ez
theorem Zh5 {F:List Addr}{σ:L2.St}{H:Hp}{x:Addr}{b:BS}{p:PG}{Q:VK}{E:XK}(D:Bd fw C CP F H x b p)
  (kk:∀ t d0 d1 d2 H',Same H H'->H t=none->H d0=none->H d1=none->H d2=none->d0≠d1->d0≠d2->d1≠d2->ScAt H' t d0 d1 d2 (idxL b.as b.as.length) (idxL b.ms b.ms.length) b.pl b.lim->Q (.ref t) H'):tNil σ H (fun vs H2=>Zd6 C (V.ref x::(vs++[])) H2 Q E):=by
 obtain⟨e,S,r,a,m,q,rfl,B,_⟩:=D.ex
 have I:=D.ok
 exact⟨e,x,r,a,m,q,b.rk,_,_,b.pl,b.lim,rfl,B,by rw[I.la];exact I.l60,by rw[I.lm];exact I.l60,fun t d0 d1 d2 H' sm nt n0 n1 n2 e01 e02 e12 ht h0 h1 h2=>kk t d0 d1 d2 H' sm nt n0 n1 n2 e01 e02 e12 ⟨ht,h0,h1,h2⟩⟩
end
end K10
namespace K10
open PySem L2 L3
def mkBS (rk l0 l1 pl:List Int) (v:V):BS:=⟨rk,Z6 rk.length l0,Z6 rk.length l1,pl,v⟩
def mkPG (n:Int) (ys:List Int):PG:=⟨n,ys.take n.toNat,ys.drop n.toNat,ys.length,(ys.take n.toNat).length,0⟩
theorem Zba (n:Nat) (l:List Int):(Z6 n l).length=n:=by unfold Z6;simp
theorem Zrm {rk l0 l1 pl:List Int}{v:V}(h1:1<=rk.length) (h60:rk.length<=60) (hrk:∀ y∈rk,0<=y/\y<M60) (ok:PicOk rk l0 l1 pl v):BOk (mkBS rk l0 l1 pl v) :=
 ⟨Zba _ _,Zba _ _,h1,h60,hrk,ok.i2,ok.u2,ok.b⟩
theorem Zrl {b:BS}{n:Int}{ys:List Int}(n1:1<=n) (n16:n<=16) (so:Sorted b.rk b.wants ys):POk b (mkPG n ys) :=
 ⟨n1,n16,Zlo n1 so,by show (ys.take n.toNat++ys.drop n.toNat).Perm _;rw[List.take_append_drop];exact so.perm⟩
theorem Zlb {r a m p g:Addr}{lim:V}:putF "rack" (.ref g) (bf r a m p lim [])=bf r a m p lim (rx g):=by
 simp only [bf,putF,rx]
 repeat rw[if_neg (by decide)]
theorem Zrd {X:Cx}{P:Program}{w:World}:Yq (CX1 P w) X E0:=fun _ _ _ _ _ _ _ ⟨_,_,_,_,_,_,q⟩=>q.elim
section
variable {P:Program}{w:World}{K:PySem.W.Frag}{mg:Str->Option Value}{base:Heap}{C CP P4 P5 CQ DB:Addr}
def Za5 (C CP P4:Addr):Sp:=fun vs H Q _=>∃ (x ra:Addr) (rk:List Int) (n:Int) (pv:V) (l0 l1 pl:List Int) (v:V),vs=[.ref x,.ref ra,.int n,pv]/\(∃ dx,H x=some (.ins C dx []))/\H ra=some (.lst (rk.map V.int))/\1<=rk.length/\rk.length<=60/\(∀ y∈rk,0<=y/\y<M60)/\PicV H pv l0 l1 pl v/\PicOk rk l0 l1 pl v/\1<=n/\n<=16/\TabO H P4 /\
 ∀ H' F ys,KeepBut [x,P4] H H'->(∀ z∈F,z=x\/H z=none)->TabO H' P4->Sorted rk (mkBS rk l0 l1 pl v).wants ys->Bd true C CP F H' x (mkBS rk l0 l1 pl v) (mkPG n ys)->Q .non H'
theorem Ziq:FnScope ["self", "ranks", "pegs", "picture"] ["self", "ranks", "pegs", "picture"] (Zg (fm 0)):=⟨rfl,rfl,rfl,by decide+kernel,rfl,by decide+kernel,by decide+kernel⟩
theorem Zpk:∀ vs H Q E,Za5 C CP P4 vs H Q E->vs.length=(["self", "ranks", "pegs", "picture"]:List Str).length:=fun vs H Q E h=>by
 obtain⟨x,ra,rk,n,pv0,l0,ls1,pl,v,rfl,_⟩:=h
 rfl
set_option maxHeartbeats 1000000 in
theorem Zly (TB:BTxt K C) (nK:NoAttr K C "rack") (hB:mg "Board" = some (.ref DB)) (hP:mg "Pegs" = some (.ref CP)) (GB:FuB P w K mg base CX0 7 DB "__init__" ["self", "ranks", "picture"] (Zcs C))
  (GP:FuK P w K mg base (CX1 P w) 6 CP ["self", "ranks", "many", "lines"] (Zic K CP P4 CQ)) (GW:FuM P w K mg base CX0 2 C "wanting" ["self"] (Zb2 C))
  (f:Addr) (cdv:Value) (A:Around) (outer:List Env) (s:Shared) (H:Hp) (vs:List V) (Q:VK) (E:XK) (hr:Room 7 (A.deeper (PyProof.Rows.envOfC "Few.__init__" (Zg (fm 0)) s.heap.objs.size f cdv))) (h:Za5 C CP P4 vs H Q E) :
  ∃ t,PSs (cxOf CX0 P w K mg base ["self", "ranks", "pegs", "picture"] "Few.__init__" (Zg (fm 0)) f cdv A outer s H E).nox (Zw (fm 0)) t/\t { nx:=fun _ H'=>Q .non H',rt:=Q } (Z3 ["self", "ranks", "pegs", "picture"] vs) H:=by
 obtain⟨x,ra,rk,n,pv0,l0,ls1,pl,v,rfl,⟨dx,e0⟩,hq,l1,l60,hrk,hpv,ok,n1,n16,t,kk⟩:=h
 refine⟨_,Zh (Z8 (pb GB hr hB Zk (Za (pv 0) (Za (pv 1) (Za (pv 3) Zc)))))
  (Zf (Yj (pv 0) (pmk (k:=6) GP hr hP Zrd (Za (Zt (pv 0) rfl) (Za (pv 2) (Za (pm0 GW TB.cl hr Zk (pv 0)) Zc)))) rfl)),?_⟩
 refine⟨_,rfl,_,rfl,_,rfl,x,ra,rk,pv0,l0,ls1,pl,v,rfl,⟨dx,e0⟩,hq,l1,l60,hrk,hpv,ok,fun H1 r a m p k1 nr na nm np B1=>?_⟩
 have t1:TabO H1 P4:=t.kb k1 fun z hz=>by
  rw[List.mem_singleton.mp hz]
  exact .inr (.inl ⟨_,_,_,e0⟩)
 obtain⟨dx1,e1⟩:=B1.at_
 have iv:=Zrm l1 l60 hrk ok
 refine⟨_,rfl,x,C,dx1,_,_,rfl,e1,TB.cl,TB.nR,rfl,_,rfl,_,rfl,x,dx1,_,rfl,e1,Z1 B1.exo (by decide+kernel),[],x,r,a,m,p,rk,_,_,pl,v,rfl,B1,iv.la,iv.lm,l60,fun d H2 s2 nd hd=>?_⟩
 have B2:=B1.same s2
 have t2:TabO H2 P4:=t1.same s2
 obtain⟨dx2,e2⟩:=B2.at_
 have back:∀ z,H2 z=none->H z=none:=fun z hz=>by
  cases ez:H z with
  | none=>rfl
  | some o =>
   by_cases zx:z=x
   ·subst zx;rw[e2] at hz;cases hz
   ·rw[s2 _ _ (k1 z o ez (by simpa using zx))] at hz;cases hz
 refine fun g dg ng ndg ne=>?_
 have ng':upd H2 dg (.own g) g=none:=by rw[Zb (Ne.symm ne)];exact ng
 have s3:Same H2 (upd (upd H2 dg (.own g)) g (.ins CP dg [])):=(Same.new ndg).trans (Same.new ng')
 have hwl:=Zbx (Z6 rk.length l0) (Z6 rk.length ls1) rk.length
 refine⟨g,.ref r,.int n,.ref d,rfl,⟨dg,Ze⟩,.inl ⟨n,r,d,rk,_,rfl,n1,n16,rfl,rfl,SqL.of (s3 _ _ B2.rk),SqL.of (s3 _ _ hd),Zc7 _ _ _,fun y hy=>Zaz hy,by omega,t2.same s3,fun H3 gr gh gb ys k3 nr3 nh3 nb3 t3 so A3=>?_⟩⟩
 have fr3:∀ z,upd (upd H2 dg (.own g)) g (.ins CP dg []) z=none->H2 z=none:=fun z hz=>s3.free hz
 have ngr:=fr3 _ nr3
 have ngh:=fr3 _ nh3
 have ngb:=fr3 _ nb3
 have pt:∀ {b:Addr} {o:HO},H2 b=some o->(∀ ps,o ≠ .tbl ps)->H3 b=some o:=fun {b o} eb hb=>k3 b o (s3 _ _ eb) (by
  simp only [List.mem_cons,List.not_mem_nil,or_false,not_or]
  exact⟨Zl eb ng,t2.ne eb hb⟩)
 have B3:BoardAt C [] H3 x r a m p rk (Z6 rk.length l0) (Z6 rk.length ls1) pl v :=
  ⟨⟨dx2,pt e2 (fun _ z=>by cases z)⟩,pt B2.rk (fun _ z=>by cases z),pt B2.as (fun _ z=>by cases z),pt B2.ms (fun _ z=>by cases z),pt B2.pl (fun _ z=>by cases z),B2.ra,B2.rm,B2.rp,B2.am,B2.ap,B2.mp,B2.exo⟩
 have e3:=pt e2 (fun _ z=>by cases z)
 refine⟨rfl,_,rfl,x,C,dx2,_,rfl,e3,TB.cl,nK,(by show 5<1000;decide),?_⟩
 rw[Zlb]
 have offS:∀ z,H2 z=none->z≠x/\z≠r/\z≠a/\z≠m/\z≠p:=fun z hz=>⟨Ne.symm (Zl e2 hz),Ne.symm (Zl B2.rk hz),Ne.symm (Zl B2.as hz),Ne.symm (Zl B2.ms hz),Ne.symm (Zl B2.pl hz)⟩
 obtain⟨z1,z2,z3,z4⟩:=B3.ne
 have B4:BoardAt C (rx g) (upd H3 x (.ins C dx2 (bf r a m p v (rx g)))) x r a m p rk (Z6 rk.length l0) (Z6 rk.length ls1) pl v :=
  ⟨⟨dx2,Ze⟩,by rw[Zb z1];exact B3.rk,by rw[Zb z2];exact B3.as,by rw[Zb z3];exact B3.ms,by rw[Zb z4];exact B3.pl,B3.ra,B3.rm,B3.rp,B3.am,B3.ap,B3.mp,.inr ⟨g,rfl⟩⟩
 refine kk _ [x,r,a,m,p,g,gr,gh,gb] ys ?_ ?_ (TabO.ins t3 e3) so ⟨⟨rx g,[g,gr,gh,gb],r,a,m,p,rfl,B4,⟨(fun h=>by cases h),fun _=>⟨g,gr,gh,gb,rfl,rfl,A3.to fun b o hb eb=>?_⟩⟩,fun z hz=>?_⟩,iv,fun _=>Zrl n1 n16 so⟩
 ·intro b o eb hn
  simp only [List.mem_cons,List.not_mem_nil,or_false,not_or] at hn
  rw[Zb hn.1]
  exact k3 b o (s3 _ _ (s2 _ _ (k1 b o eb (by simpa using hn.1)))) (by
   simp only [List.mem_cons,List.not_mem_nil,or_false,not_or]
   exact⟨Zl eb (back g ng),hn.2⟩)
 ·intro z hz
  simp only [List.mem_cons,List.not_mem_nil,or_false] at hz
  rcases hz with rfl|rfl|rfl|rfl|rfl|rfl|rfl|rfl|rfl
  ·exact .inl rfl
  ·exact .inr nr
  ·exact .inr na
  ·exact .inr nm
  ·exact .inr np
  ·exact .inr (back _ ng)
  ·exact .inr (back _ ngr)
  ·exact .inr (back _ ngh)
  ·exact .inr (back _ ngb)
 ·rw[Zb]
  ·exact eb
  ·rcases hb with rfl|rfl|rfl|rfl
   ·exact(offS _ ng).1
   ·exact(offS _ ngr).1
   ·exact(offS _ ngh).1
   ·exact(offS _ ngb).1
 ·simp only [List.mem_cons,List.not_mem_nil,or_false] at hz
  rcases hz with rfl|rfl|rfl|rfl
  ·exact offS _ ng
  ·exact offS _ ngr
  ·exact offS _ ngh
  ·exact offS _ ngb
theorem Zro {H:Hp}{rk:List Int}{n:Int}{x dx ra:Addr}{pv0:V}{l0 l1 pl:List Int}{v:V}{Q:VK}{E:XK}{vs:List V}(hv:vs=[.ref x,.ref ra,.int n,pv0]) (nx:H x=none) (ndx:H dx=none) (ne:dx≠x) (hh:H ra=some (.lst (rk.map V.int))) (h1:1<=rk.length) (h60:rk.length<=60) (hrk:∀ y∈rk,0<=y/\y<M60) (hp:PicV H pv0 l0 l1 pl v) (ok:PicOk rk l0 l1 pl v) (n1:1<=n) (n16:n<=16) (t:TT P4 P5 H)
  (kk:∀ F H' ys,KB P4 P5 H H'->TT P4 P5 H'->(∀ z∈F,H z=none)->Sorted rk (mkBS rk l0 l1 pl v).wants ys->Bd true C CP F H' x (mkBS rk l0 l1 pl v) (mkPG n ys)->Q .non H'):Za5 C CP P4 vs (upd (upd H dx (.own x)) x (.ins C dx [])) Q E:=by
 subst hv
 have nx':upd H dx (.own x) x=none:=by rw[Zb (Ne.symm ne)];exact nx
 have s3:Same H (upd (upd H dx (.own x)) x (.ins C dx [])):=(Same.new ndx).trans (Same.new nx')
 have hp':PicV (upd (upd H dx (.own x)) x (.ins C dx [])) pv0 l0 l1 pl v:=by
  rcases hp with hp|⟨t,p0,p1,p2,e,S⟩
  ·exact .inl hp
  ·exact .inr ⟨t,p0,p1,p2,e,S.same s3⟩
 have t3:=t.same s3
 refine⟨x,ra,rk,n,pv0,l0,l1,pl,v,rfl,⟨dx,Ze⟩,s3 _ _ hh,h1,h60,hrk,hp',ok,n1,n16,t3.o,fun H' F ys k' fr t' so D'=>?_⟩
 have k'':KeepBut (P4::[x]) (upd (upd H dx (.own x)) x (.ins C dx [])) H':=k'.more fun z hz=>by
  simp only [List.mem_cons,List.not_mem_nil,or_false] at hz ⊢
  exact hz.symm
 refine kk F H' ys (fun b o e hn=>k' b o (s3 b o e) ?_) (t3.p4 k'' t' fun z hz=>?_) (fun z hz=>?_) so D'
 ·simp only [List.mem_cons,List.not_mem_nil,or_false,not_or]
  exact⟨Zl e nx,fun z=>hn (by rw[z];exact TT.in4)⟩
 ·rw[List.mem_singleton.mp hz];exact .inr ⟨_,_,_,Ze⟩
 ·rcases fr z hz with rfl|h
  ·exact nx
  ·exact s3.free h
theorem Zrn {H:Hp}{rk:List Int}{p:PG}{x dx ra:Addr}{pv0:V}{l0 l1 pl:List Int}{v:V}{Q:VK}{E:XK}{vs:List V}(hv:vs=[.ref x,.ref ra,pv0]) (nx:H x=none) (ndx:H dx=none) (ne:dx≠x) (hh:H ra=some (.lst (rk.map V.int))) (h1:1<=rk.length) (h60:rk.length<=60) (hrk:∀ y∈rk,0<=y/\y<M60) (hp:PicV H pv0 l0 l1 pl v) (ok:PicOk rk l0 l1 pl v) (t:TT P4 P5 H)
  (kk:∀ F H',KB P4 P5 H H'->TT P4 P5 H'->(∀ z∈F,H z=none)->Bd false C CP F H' x (mkBS rk l0 l1 pl v) p->Q .non H'):Zcs C vs (upd (upd H dx (.own x)) x (.ins C dx [])) Q E:=by
 subst hv
 have nx':upd H dx (.own x) x=none:=by rw[Zb (Ne.symm ne)];exact nx
 have s3:Same H (upd (upd H dx (.own x)) x (.ins C dx [])):=(Same.new ndx).trans (Same.new nx')
 have hp':PicV (upd (upd H dx (.own x)) x (.ins C dx [])) pv0 l0 l1 pl v:=by
  rcases hp with hp|⟨t,p0,p1,p2,e,S⟩
  ·exact .inl hp
  ·exact .inr ⟨t,p0,p1,p2,e,S.same s3⟩
 refine⟨x,ra,rk,pv0,l0,l1,pl,v,rfl,⟨dx,Ze⟩,s3 _ _ hh,h1,h60,hrk,hp',ok,fun H' r a m q k' nr na nm np B=>?_⟩
 have t3:=t.same s3
 refine kk [x,r,a,m,q] H' (fun b o e hn=>k' b o (s3 b o e) (by simpa using Zl e nx)) (t3.kb k' fun z hz=>?_) (fun z hz=>?_) ⟨⟨[],[],r,a,m,q,rfl,B,⟨fun _=>⟨rfl,rfl⟩,(fun e=>by cases e)⟩,fun z hz=>by cases hz⟩,Zrm h1 h60 hrk ok,fun e=>by cases e⟩
 ·rw[List.mem_singleton.mp hz];exact .inr ⟨_,_,_,Ze⟩
 ·simp only [List.mem_cons,List.not_mem_nil,or_false] at hz
  rcases hz with rfl|rfl|rfl|rfl|rfl
  ·exact nx
  ·exact s3.free nr
  ·exact s3.free na
  ·exact s3.free nm
  ·exact s3.free np
end
end K10
namespace L2
open PySem PySem.Spec PyProof.Rows
section
variable {κ:Type} [DecidableEq κ]
def valV (kvs:List (κ × V)) (k:κ):Option V:=(kvs.find? fun kv=>decide (kv.1=k)).map (·.2)
def putK (kvs:List (κ × V)) (k:κ) (v:V):List (κ × V) :=
 if (kvs.any fun kv=>decide (kv.1=k))=true then kvs.map (fun kv=>if kv.1=k then (kv.1,v) else kv) else kvs++[(k,v)]
def Zsj (kvs:List (κ × V)) (k:κ):List (κ × V):=kvs.filter fun kv=>decide (kv.1≠k)
theorem Zc8 {p:κ × V}{r:List (κ × V)}{k:κ}(e:p.1=k):valV (p::r) k=some p.2:=by simp[valV,List.find?_cons,e]
theorem Zc9 {p:κ × V}{r:List (κ × V)}{k:κ}(e:¬ p.1=k):valV (p::r) k=valV r k:=by simp[valV,List.find?_cons,e]
theorem Zf2 (k:κ):∀ kvs:List (κ × V),(kvs.any fun kv=>decide (kv.1=k))=(valV kvs k).isSome
 | []=>rfl
 | p::r=>by
  rw[List.any_cons]
  by_cases e:p.1=k
  ·simp only [Zc8 e,decide_eq_true e,Bool.true_or,Option.isSome_some]
  ·rw[Zc9 e,decide_eq_false e,Bool.false_or];exact Zf2 k r
theorem Zfs (kvs:List (κ × V)) (k:κ) (v:V):(putK kvs k v).length<=kvs.length+1:=by
 unfold putK
 split
 ·rw[List.length_map];omega
 ·rw[List.length_append,List.length_cons,List.length_nil];omega
theorem RelO.isSome_eq {o:Option V}{u:Option Value}(r:RelO o u):o.isSome=u.isSome:=by
 cases o with
 | none=>cases u with
  | none=>rfl
  | some _=>exact(show False from r).elim
 | some _=>cases u with
  | none=>exact(show False from r).elim
  | some _=>rfl
theorem RelO.getD {o:Option V}{u:Option Value}{d:V}{d':Value}(r:RelO o u) (rd:RelV d d'):RelV (o.getD d) (u.getD d'):=by
 cases o with
 | none=>cases u with
  | none=>exact rd
  | some _=>exact(show False from r).elim
 | some _=>cases u with
  | none=>exact(show False from r).elim
  | some _=>exact r
theorem KV.val {kvs:List (κ × V)}{vs:List (κ × Value)}(r:KV kvs vs) (k:κ):RelO (valV kvs k) (valueAt vs k):=by
 unfold KV at r
 induction r with
 | nil=>exact True.intro
 | @cons p q ps qs h t ih =>
  obtain⟨h1,h2⟩:=h
  by_cases e:p.1=k
  ·have e':q.1=k:=h1.symm.trans e
   have b:valueAt (q::qs) k=some q.2:=by simp[valueAt,List.find?_cons,e']
   rw[Zc8 e,b];exact h2
  ·have e':¬ q.1=k:=fun z=>e (h1.trans z)
   have b:valueAt (q::qs) k=valueAt qs k:=by simp[valueAt,List.find?_cons,e']
   rw[Zc9 e,b];exact ih
theorem KV.any {kvs:List (κ × V)}{vs:List (κ × Value)}(r:KV kvs vs) (k:κ):(kvs.any fun kv=>decide (kv.1=k))=vs.any fun kv=>decide (kv.1=k):=by
 unfold KV at r
 induction r with
 | nil=>rfl
 | cons h t ih=>rw[List.any_cons,List.any_cons,ih,h.1]
theorem KV.repl {kvs:List (κ × V)}{vs:List (κ × Value)}(r:KV kvs vs) (k:κ) {y:V}{u:Value}(ry:RelV y u) :
  KV (kvs.map fun kv=>if kv.1=k then (kv.1,y) else kv) (vs.map fun kv=>if kv.1=k then (kv.1,u) else kv):=by
 unfold KV at r ⊢
 induction r with
 | nil=>exact .nil
 | @cons p q ps qs h t ih =>
  rw[List.map_cons,List.map_cons]
  refine .cons ?_ ih
  obtain⟨h1,h2⟩:=h
  by_cases e:p.1=k
  ·rw[if_pos e,if_pos (h1.symm.trans e)];exact⟨h1,ry⟩
  ·rw[if_neg e,if_neg (fun z=>e (h1.trans z))];exact⟨h1,h2⟩
theorem KV.put {kvs:List (κ × V)}{vs:List (κ × Value)}(r:KV kvs vs) (k:κ) {y:V}{u:Value}(ry:RelV y u):KV (putK kvs k y) (stored vs k u):=by
 unfold putK stored
 rw[r.any k]
 by_cases e:(vs.any fun kv=>decide (kv.1=k))=true
 ·rw[if_pos e,if_pos e];exact r.repl k ry
 ·rw[if_neg e,if_neg e];exact Paired.snoc r ⟨rfl,ry⟩
theorem KV.drop {kvs:List (κ × V)}{vs:List (κ × Value)}(r:KV kvs vs) (k:κ):KV (Zsj kvs k) (without vs k):=by
 unfold KV at r ⊢
 unfold Zsj without
 induction r with
 | nil=>exact .nil
 | @cons p q ps qs h t ih =>
  obtain⟨h1,h2⟩:=h
  rw[List.filter_cons,List.filter_cons]
  by_cases e:p.1=k
  ·have a:¬ decide (p.1≠k)=true:=by simp[e]
   have b:¬ decide (q.1≠k)=true:=by simp[h1.symm.trans e]
   rw[if_neg a,if_neg b];exact ih
  ·have e':¬ q.1=k:=fun z=>e (h1.trans z)
   have a:decide (p.1≠k)=true:=by simp[e]
   have b:decide (q.1≠k)=true:=by simp[e']
   rw[if_pos a,if_pos b];exact .cons ⟨h1,h2⟩ ih
theorem KV.keys {kvs:List (κ × V)}{vs:List (κ × Value)}(r:KV kvs vs):kvs.map (·.1)=vs.map (·.1):=by
 unfold KV at r
 induction r with
 | nil=>rfl
 | cons h t ih=>rw[List.map_cons,List.map_cons,ih,h.1]
theorem KV.length {kvs:List (κ × V)}{vs:List (κ × Value)}(r:KV kvs vs):kvs.length=vs.length:=Paired.length r
end
theorem Zlr {P:Program}{w:World}{k:Key}{u:Value}(r:RelV (kV k) u):(Yp P w).is k u=true:=by
 cases k with
 | inl i=>obtain⟨t,e⟩:=(show ∃ t,u=Value.int i t from r);subst e;exact Zfr P w i t
 | inr x=>obtain⟨t,e⟩:=(show ∃ t,u=Value.str x t from r);subst e;exact Zav P w x t
theorem Zem {P:Program}{w:World}:∀ {ks:List Key}{us:List Value},Vals (ks.map kV) us->ItemsAre (Yp P w) ks us
 | [],_,r=>by rw[List.map_nil] at r;cases r;exact .nil
 | k::ks,_,r=>by
  rw[List.map_cons] at r
  cases r with
  | cons h t=>exact .cons (Zlr h) (Zem t)
abbrev KT (H:Hp):List (List Key × V)->List (List Key × Addr × Value)->Prop:=Paired fun p q=>p.1=q.1/\H q.2.1=some (.tup (p.1.map kV))/\RelV p.2 q.2.2
theorem KT.val {H:Hp}{kvs:List (List Key × V)}{xs:List (List Key × Addr × Value)}(r:KT H kvs xs) (k:List Key):RelO (valV kvs k) ((atKey xs k).map (·.2)):=by
 induction r with
 | nil=>exact True.intro
 | @cons p q ps qs h t ih =>
  obtain⟨h1,_,h2⟩:=h
  by_cases e:p.1=k
  ·have e':q.1=k:=h1.symm.trans e
   have b:atKey (q::qs) k=some q.2:=by simp[atKey,List.find?_cons,e']
   rw[Zc8 e,b];exact h2
  ·have e':¬ q.1=k:=fun z=>e (h1.trans z)
   have b:atKey (q::qs) k=atKey qs k:=by simp[atKey,List.find?_cons,e']
   rw[Zc9 e,b];exact ih
theorem KT.repl {H:Hp}{kvs:List (List Key × V)}{xs:List (List Key × Addr × Value)}(r:KT H kvs xs) (k:List Key) {y:V}{u:Value}(ry:RelV y u) :
  KT H (kvs.map fun kv=>if kv.1=k then (kv.1,y) else kv) (xs.map (putAt k u)):=by
 induction r with
 | nil=>exact .nil
 | @cons p q ps qs h t ih =>
  rw[List.map_cons,List.map_cons]
  refine .cons ?_ ih
  obtain⟨h1,h2,h3⟩:=h
  unfold putAt
  by_cases e:p.1=k
  ·rw[if_pos e,if_pos (h1.symm.trans e)];exact⟨h1,h2,ry⟩
  ·rw[if_neg e,if_neg (fun z=>e (h1.trans z))];exact⟨h1,h2,h3⟩
theorem KT.put {H:Hp}{kvs:List (List Key × V)}{xs:List (List Key × Addr × Value)}(r:KT H kvs xs) (k:List Key) {b:Addr}{y:V}{u:Value}(hb:H b=some (.tup (k.map kV))) (ry:RelV y u) :
  KT H (putK kvs k y) (storedH xs k b u):=by
 have e:(kvs.any fun kv=>decide (kv.1=k))=(atKey xs k).isSome:=by
  rw[Zf2,(r.val k).isSome_eq,Option.isSome_map]
 unfold putK storedH
 rw[e]
 by_cases q:(atKey xs k).isSome=true
 ·rw[if_pos q,if_pos q];exact r.repl k ry
 ·rw[if_neg q,if_neg q];exact Paired.snoc r ⟨rfl,hb,ry⟩
theorem KT.keeps {H H':Hp}{kvs:List (List Key × V)}{xs:List (List Key × Addr × Value)}(r:KT H kvs xs) (ht:∀ b ys,H b=some (.tup ys)->H' b=some (.tup ys)):KT H' kvs xs :=
 Paired.mapP r fun _ _ z=>⟨z.1,ht _ _ z.2.1,z.2.2⟩
section
variable {P:Program}{w:World}{H:Hp}{h:Heap}{a:Addr}
theorem Zqy {u:HO}(ok:HOk P w H h) (e:Rd H a u):ObjOk P w H h a u:=e.ok ok
theorem Zp2 {kvs:List (Key × V)}(ok:HOk P w H h) (e:Rd H a (.dK kvs)):kvs.length<=sizeLine/\(a == sysModules)=false/\∃ vs,KV kvs vs/\h.DictOf (Yp P w) a vs :=
 show ObjOk P w H h a (.dK kvs) from Zqy ok e
theorem Ztt {kvs:List (Key × V)}(ok:HOk P w H h) (e:H a=some (.dK kvs)):kvs.length<=sizeLine/\(a == sysModules)=false/\∃ vs,KV kvs vs/\h.DictOf (Yp P w) a vs:=Zp2 ok (.inl e)
theorem Znm {ks:List Key}(ok:HOk P w H h) (e:H a=some (.tup (ks.map kV))):(tupleKind (Yp P w)).is h ks a:=by
 obtain⟨_,its,r,o,h1,h2,n,h3⟩:=(show ObjOk P w H h a (.tup (ks.map kV)) from ok a _ e)
 exact⟨o,its.toArray,n,h1,h2,h3,by simpa using Zem r⟩
theorem Zsh {kvs:List (List Key × V)}(ok:HOk P w H h) (e:Rd H a (.dT kvs)):kvs.length<=sizeLine/\(a == sysModules)=false /\
  ∃ xs,KT H kvs xs/\h.DictOfH (tupleKind (Yp P w)) a xs:=by
 obtain⟨z,y,xs,r,o,es,ep,h1,h2,h3,h4,h5⟩:=(show ObjOk P w H h a (.dT kvs) from Zqy ok e)
 refine⟨z,y,xs,r,o,es,ep,h1,h2,h3,h4,fun x hx=>?_,h5⟩
 have all:∀ {l:List (List Key × V)} {m:List (List Key × Addr × Value)},KT H l m->∀ x∈m,(tupleKind (Yp P w)).is h x.1 x.2.1:=by
  intro l m q
  induction q with
  | nil=>intro x hx;exact nomatch hx
  | @cons p q ps qs hq t ih =>
   intro x hx
   rcases List.mem_cons.mp hx with e|hx
   ·subst e
    exact Znm ok (by rw[← hq.1];exact hq.2.1)
   ·exact ih x hx
 exact all r x hx
end
def DGet (H:Hp) (a:Addr) (y:V) (r:Option V):Prop :=
 (∃ kvs k,Rd H a (.dK kvs)/\y=kV k/\r=valV kvs k)\/∃ kvs k b,Rd H a (.dT kvs)/\y=.ref b/\H b=some (.tup (k.map kV))/\r=valV kvs k
def DPut (H:Hp) (a:Addr) (y v:V) (H':Hp):Prop :=
 (∃ kvs k,H a=some (.dK kvs)/\y=kV k/\kvs.length<sizeLine/\H'=upd H a (.dK (putK kvs k v))) \/
 ∃ kvs k b,H a=some (.dT kvs)/\y=.ref b/\H b=some (.tup (k.map kV))/\kvs.length<sizeLine/\H'=upd H a (.dT (putK kvs k v))
theorem DGet.k {H:Hp}{a:Addr}{kvs:List (Key × V)}{k:Key}(e:H a=some (.dK kvs)):DGet H a (kV k) (valV kvs k):=.inl ⟨kvs,k,.inl e,rfl,rfl⟩
theorem DGet.t {H:Hp}{a b:Addr}{kvs:List (List Key × V)}{k:List Key}(e:H a=some (.dT kvs)) (eb:H b=some (.tup (k.map kV))):DGet H a (.ref b) (valV kvs k):=.inr ⟨kvs,k,b,.inl e,rfl,eb,rfl⟩
theorem DPut.k {H:Hp}{a:Addr}{kvs:List (Key × V)}{k:Key}{v:V}(e:H a=some (.dK kvs)) (hl:kvs.length<sizeLine):DPut H a (kV k) v (upd H a (.dK (putK kvs k v))):=.inl ⟨kvs,k,e,rfl,hl,rfl⟩
theorem DPut.t {H:Hp}{a b:Addr}{kvs:List (List Key × V)}{k:List Key}{v:V}(e:H a=some (.dT kvs)) (eb:H b=some (.tup (k.map kV))) (hl:kvs.length<sizeLine) :
  DPut H a (.ref b) v (upd H a (.dT (putK kvs k v))):=.inr ⟨kvs,k,b,e,rfl,eb,hl,rfl⟩
section
variable {X:Cx}{pins:List (Addr × Obj)}{σ:St}{H:Hp}{s:Shared}{a:Addr}{y v:V}{u r:Value}{o:Option V}{A:Around}{E:Value->Shared->Prop}
theorem Inv.big (I:Inv X pins σ H s):sysModules<s.heap.objs.size:=by
 have h:mainGlobals<s.heap.objs.size:=(I.mod.glob.keeps I.bk).lt
 exact Nat.lt_trans (by decide) h
theorem Zka {Q:Value->Shared->Prop}(hu:A.units+1<cLine) (I:Inv X pins σ H s) (g:DGet H a y (some v)) (ry:RelV y u) (h:∀ w' s',Inv X pins σ H s'->RelV v w'->Q w' s') :
  wpAny (model X.prog X.w) A (getItem (.ref a) u) Q E s:=by
 rcases g with ⟨kvs,k,e,ey,l⟩|⟨kvs,k,b,e,ey,eb,l⟩
 ·subst ey
  obtain⟨z,hd,vs,rel,dd⟩:=Zp2 I.hok e
  obtain⟨w',hw,rw'⟩:=RelO.some_of (v:=v) (o:=valueAt vs k) (by rw[l];exact rel.val k)
  exact wpAny_getItem_of (Zlr ry) dd.mapOf hw (h w' _ (I.tok _) rw')
 ·subst ey
  cases (show u=Value.ref b from ry)
  obtain⟨z,hd,xs,rel,dd⟩:=Zsh I.hok e
  obtain⟨w',hw,rw'⟩:=RelO.some_of (v:=v) (o:=(atKey xs k).map (·.2)) (by rw[l];exact rel.val k)
  obtain⟨p,hp,hp2⟩:=Option.map_eq_some_iff.mp hw
  refine wpAny_getItem_heap (tupleKind_room_in1 hu) (Znm I.hok eb) dd hp ?_
  rw[hp2]
  exact h w' _ (I.tok _) rw'
theorem Zp3 {h':Heap}{t':Nat}{ob:HO}(I:Inv X pins σ H s) (mu:Mut (H a)) (hs:Heap.SameBut a s.heap h') (he:∃ q,h'.get? a=some q) (new:ObjOk X.prog X.w (upd H a ob) h' a ob) :
  Inv X pins σ (upd H a ob) { s with heap:=h',toks:=t' } :=
 I.write (x:=a) (e:=a) mu (.inl rfl) (fun b q hb z=>(hs.2 b hb).trans z) he new
theorem Zsk {P:Program}{w:World}{H':Hp}{h':Heap}{kvs:List (Key × V)}{vs:List (Key × Value)}(z:kvs.length<=sizeLine) (hd:(a == sysModules)=false) (rel:KV kvs vs) (dd:h'.DictOf (Yp P w) a vs) :
  ObjOk P w H' h' a (.dK kvs):=⟨z,hd,vs,rel,dd⟩
end
section
variable {X:Cx}{pins:List (Addr × Obj)}{σ:St}{H:Hp}{s:Shared}{a:Addr}{kvs:List (Key × V)}{k:Key}{u:Value}{A:Around}{E:Value->Shared->Prop}
end
def NoSl (i:Expr):Prop:=∀ ov iv,subscripted i false ov iv=operate [ov,iv] (getItem ov iv)
theorem Zoe {prog:Program}{w:World}{A:Around}{E:Value->Shared->Prop}{s:Shared}{env:Env}{value slice:Expr}{pos:Pos}{T id:String}{Q:Value->Shared->Prop}
  (hl:typeLookup (.type T) "__getitem__" = pure (some (.builtin id))) (hs:NoSl slice)
  (h:wpAny (model prog w) A (eval value env) (fun o s₁=>wpAny (model prog w) A (eval slice env) (fun i s₂=>s₂.TypeIs o T/\wpAny (model prog w) A (getItem o i) Q E s₂) E s₁) E s) :
  wpAny (model prog w) A (eval (.Subscript value slice pos) env) Q E s:=by
 refine Subscript_ (wpAny_mono h (fun o s₁ h₁=>wpAny_mono h₁ (fun i s₂ h₂=>?_) fun _ _ x=>x) fun _ _ x=>x)
 obtain⟨hT,h₂⟩:=h₂
 unfold subscriptTail
 refine wpAny_bind ?_
 rw[getitemInPython_of_ne hT.not_modules]
 refine wpAny_bind (wpAny_specialOf hT hl ?_)
 have fin:wpAny (model prog w) A (subscripted slice false o i) (fun r s₃=>wpAny (model prog w) A (letTemporaryGo value o r >>= fun _=>pure r) Q E s₃) E s₂:=by
  rw[hs o i]
  exact wpAny_operating (wpAny_mono h₂ (fun r s₃ h₃=>wpAny_bind (wpAny_letTemporaryGo (wpAny_pure h₃))) fun _ _ x=>x)
 first
  | exact wpAny_pure (wpAny_bind fin)
  | exact wpAny_bind (wpAny_pure (wpAny_bind fin))
  | exact wpAny_bind fin
theorem Zfx {X:Cx}{pins:List (Addr × Obj)}{σ:St}{H:Hp}{s:Shared}{a:Addr}{y:V}{o:Option V}(I:Inv X pins σ H s) (g:DGet H a y o):s.TypeIs (.ref a) "dict" := by
 rcases g with ⟨kvs,k,e,_,_⟩|⟨kvs,k,b,e,_,_,_⟩
 ·obtain⟨_,_,vs,_,dd⟩:=Zp2 I.hok e
  exact dd.typeIs
 ·obtain⟨_,_,xs,_,dd⟩:=Zsh I.hok e
  exact dd.typeIs
def Zs0 (td ty:TE):TE:=fun σ H Q=>td σ H fun x H1=>ty σ H1 fun y H2=>∃ a v,x=.ref a/\DGet H2 a y (some v)/\Q v H2
section
variable {X:Cx}{o i e value:Expr}{pos pos' tpos:Pos}{td ty tv:TE}
theorem Zfo (hu:X.A.units+1<cLine) (ho:PE X o td) (hi:PE X i ty) (hs:NoSl i):PE X (.Subscript o i pos) (Zs0 td ty):=by
 intro pins s σ H Q I h
 refine Zoe PySem.F.slot_dict_getitem.lookup hs (thn (ho pins s σ H _ I h) fun u s1 ⟨x,H1,I1,rx,q1⟩=>thn (hi pins s1 σ H1 _ I1 q1) fun iv s2 ⟨y,H2,I2,ry,a,v,ex,g,q2⟩=>?_)
 subst ex
 obtain rfl:u=Value.ref a:=rx
 exact⟨Zfx I2 g,Zka hu I2 g ry fun w' s3 I3 rw'=>⟨v,H2,I3,rw',q2⟩⟩
end
theorem Zgw {P:Program}{w:World}{H:Hp}(h:Heap) (hb:sysModules<h.objs.size):ObjOk P w H (h.push { cls:=.type "dict",data:=.dict #[] }) h.objs.size (.dK []) :=
 ⟨Nat.zero_le _,beq_eq_false_iff_ne.mpr (Ne.symm (Nat.ne_of_lt hb)),[],.nil,Heap.DictOf.new h⟩
def Zqe:TE:=fun _ H Q=>∀ p,H p=none->Q (.ref p) (upd H p (.dK []))
section
variable {X:Cx}{pos:Pos}
theorem Zli:PE X (.Dict [] [] pos) Zqe:=fun pins s σ H Q I h =>
 wpAny_Dict_empty ⟨.ref s.heap.objs.size,_,I.laid (a:=s.heap.objs.size) (o:=.dK []) (t':=s.toks) (fun _ _ q=>Heap.get?_push_of_some _ q) (Nat.le_refl _) (Zgw s.heap I.big),rfl,h _ (I.hok.fresh (Nat.le_refl _))⟩
end
def Zh8:List (TE × TE)->St->Hp->(List (V × V)->Hp->Prop)->Prop
 | [],_,H,Q=>Q [] H
 | (tk,tv)::r,σ,H,Q=>tk σ H fun x H1=>tv σ H1 fun y H2=>Zh8 r σ H2 fun ps H3=>Q ((x,y)::ps) H3
abbrev VV:List (V × V)->List (Value × Value)->Prop:=Paired fun p q=>RelV p.1 q.1/\RelV p.2 q.2
def PPs (X:Cx) (pos:Pos) (keys:List (Option Expr)) (values:List Expr) (trs:List (TE × TE)):Prop :=
 ∀ (pins:List (Addr × Obj)) (s:Shared) (σ:St) (H:Hp) (Q:List (V × V)->Hp->Prop),Inv X pins σ H s->Zh8 trs σ H Q ->
  wpAny (model X.prog X.w) X.A (evalPairs (pairTrees keys values X.env pos)) (fun vs s'=>∃ ps H',Inv X pins σ H' s'/\VV ps vs/\Q ps H') X.xe s
theorem Zoy {X:Cx}{pos:Pos}:PPs X pos [] [] []:=fun pins s σ H Q I h=>pairTrees_nil_walk ⟨[],H,I,.nil,h⟩
theorem Za7 {X:Cx}{pos:Pos}{k v:Expr}{ks:List (Option Expr)}{vs:List Expr}{tk tv:TE}{trs:List (TE × TE)}(hk:PE X k tk) (hv:PE X v tv) (hr:PPs X pos ks vs trs) :
  PPs X pos (some k::ks) (v::vs) ((tk,tv)::trs):=fun pins s σ H Q I h =>
 pairTrees_cons_walk (thn (hk pins s σ H _ I h) fun u s1 ⟨x,H1,I1,rx,q1⟩=>thn (hv pins s1 σ H1 _ I1 q1) fun w2 s2 ⟨y,H2,I2,ry,q2⟩ =>
  thn (hr pins s2 σ H2 _ I2 q2) fun ws s3 ⟨ps,H3,I3,rel,q3⟩=>⟨(x,y)::ps,H3,I3,.cons ⟨rx,ry⟩ rel,q3⟩)
def Zb9 (kvs more:List (Key × V)):List (Key × V):=more.foldl (fun acc kv=>putK acc kv.1 kv.2) kvs
theorem KV.merge:∀ {more:List (Key × V)}{rs:List (Key × Value)}{kvs:List (Key × V)}{vs:List (Key × Value)},KV more rs->KV kvs vs->KV (Zb9 kvs more) (merged vs rs):=by
 intro more rs kvs vs r
 unfold KV at r
 induction r generalizing kvs vs with
 | nil=>intro q;exact q
 | @cons p q ps qs h t ih =>
  intro r0
  have e:KV (putK kvs p.1 p.2) (stored vs q.1 q.2):=by
   have:=r0.put p.1 h.2
   rw[← h.1];exact this
  exact ih e
theorem Zbb:∀ (more kvs:List (Key × V)),(Zb9 kvs more).length<=kvs.length+more.length
 | [],kvs=>by show kvs.length<=kvs.length+0;omega
 | p::r,kvs=>by
  have h1:=Zbb r (putK kvs p.1 p.2)
  have h2:=Zfs kvs p.1 p.2
  show (Zb9 (putK kvs p.1 p.2) r).length<=_
  rw[List.length_cons];omega
theorem Zc5 {P:Program}{w:World}:∀ {kvs:List (Key × V)}{ws:List (Value × Value)},VV (kvs.map fun kv=>(kV kv.1,kv.2)) ws->∃ rs,Carries (Yp P w) ws rs/\KV kvs rs
 | [],_,r=>by rw[List.map_nil] at r;cases r;exact⟨[],True.intro,.nil⟩
 | p::kvs,_,r=>by
  rw[List.map_cons] at r
  cases r with
  | @cons a b as bs h t =>
   obtain⟨rs,c,q⟩:=Zc5 (P:=P) (w:=w) t
   obtain⟨b1,b2⟩:=b
   exact⟨(p.1,b2)::rs,⟨Zlr h.1,rfl,c⟩,.cons ⟨rfl,h.2⟩ q⟩
def Zsz (trs:List (TE × TE)):TE:=fun σ H Q=>∀ p,H p=none->Zh8 trs σ (upd H p (.dK [])) fun ps H2=>H2 p=some (.dK [])/\∃ kvs:List (Key × V),ps=kvs.map (fun kv=>(kV kv.1,kv.2))/\kvs.length<=15/\Q (.ref p) (upd H2 p (.dK (Zb9 [] kvs)))
theorem Zo3 {X:Cx}{pos:Pos}{keys:List (Option Expr)}{values:List Expr}{trs:List (TE × TE)}(h:PPs X pos keys values trs) (hall:keys.all (·.isSome)=true) (hl:keys.length=values.length) (h0:keys≠[])
  (h15:keys.length<=15):PE X (.Dict keys values pos) (Zsz trs):=by
 intro pins s σ H Q I q
 have hn:=I.hok.fresh (Nat.le_refl s.heap.objs.size)
 have I1:=I.laid (a:=s.heap.objs.size) (o:=.dK []) (h':=s.heap.push { cls:=.type "dict",data:=.dict #[] }) (t':=s.toks) (fun _ _ q=>Heap.get?_push_of_some _ q) (Nat.le_refl _) (Zgw s.heap I.big)
 refine wpAny_Dict_walk (knd:=Yp X.prog X.w) hall hl h0 h15 (thn (h pins _ σ _ _ I1 (q _ hn)) fun ws s2 ⟨ps,H2,I2,rel,e,kvs,ep,lk,q2⟩=>?_)
 subst ep
 obtain⟨rs,c,rk⟩:=Zc5 (P:=X.prog) (w:=X.w) rel
 obtain⟨z,hd,vs0,r0,dd⟩:=Ztt I2.hok e
 cases r0
 refine⟨rs,c,dd,fun h' dd' hs=>⟨.ref s.heap.objs.size,_,?_,rfl,q2⟩⟩
 have hz:(Zb9 [] kvs).length<=sizeLine:=by
  have h1:=Zbb kvs []
  rw[List.length_nil] at h1
  rw[sizeLine_eq];omega
 have he:∃ q,h'.get? s.heap.objs.size=some q:=let ⟨q,_,_,hq,_⟩:=dd';⟨q,hq⟩
 exact Zp3 I2 (by rw[e];exact True.intro) hs he (Zsk hz hd (rk.merge .nil) dd')
structure M1 (X:Cx) (o:Expr) (m:Str) (apos:Pos) (e:Expr) (cpos:Pos):Prop where
 base:attributeBase o m X.env (eval o X.env)=eval o X.env
 few:((backTo cpos (starEach [e] X.env)).all (fun x=>!x.1)&&(backToKw cpos (keywordEach [] X.env)).all (fun x=>x.1.isSome)
  && decide (([e]:List Expr).length+([]:List Keyword).length+(if ([]:List Keyword).isEmpty then 0 else 1)<30))=true
 line:(apos.endLine == cpos.line)=true
 trees:backTo cpos (starEach [e] X.env)=[(false,eval e X.env)]
structure M2 (X:Cx) (o:Expr) (m:Str) (apos:Pos) (e f:Expr) (cpos:Pos):Prop where
 base:attributeBase o m X.env (eval o X.env)=eval o X.env
 few:((backTo cpos (starEach [e,f] X.env)).all (fun x=>!x.1)&&(backToKw cpos (keywordEach [] X.env)).all (fun x=>x.1.isSome)
  && decide (([e,f]:List Expr).length+([]:List Keyword).length+(if ([]:List Keyword).isEmpty then 0 else 1)<30))=true
 line:(apos.endLine == cpos.line)=true
 trees:backTo cpos (starEach [e,f] X.env)=[(false,eval e X.env),(false,eval f X.env)]
section
variable {X:Cx}{pins:List (Addr × Obj)}{σ:St}{H:Hp}{s:Shared}{a:Addr}{y d:V}{u r:Value}{o:Option V}{A:Around}{E:Value->Shared->Prop}
end
section
variable {X:Cx}{o e f:Expr}{apos cpos:Pos}{td ty tx:TE}
end
section
variable {X:Cx}{pins:List (Addr × Obj)}{σ:St}{H:Hp}{s:Shared}{a:Addr}{kvs:List (Key × V)}{A:Around}{E:Value->Shared->Prop}
end
section
variable {X:Cx}{pins:List (Addr × Obj)}{σ:St}{H:Hp}{s:Shared}{a:Addr}{y:V}{u:Value}{A:Around}{E:Value->Shared->Prop}
end
end L2
namespace K10
open PySem L2 L3
theorem rk_a (z:Int):0<=z % 4/\z % 4<M60:=by have:=Zck;omega
theorem rk_b (z:Int):0<=z % 10 ^ (60:Int).toNat/\z % 10 ^ (60:Int).toNat<M60:=⟨Int.emod_nonneg _ (by decide),Int.emod_lt_of_pos _ (by decide)⟩
theorem rk_c (z:Int):0<=10 ^ (60:Int).toNat - 1 - z % 2/\10 ^ (60:Int).toNat - 1 - z % 2<M60:=by
 have h:=Zck
 have e:(10:Int) ^ (60:Int).toNat=M60:=rfl
 rw[e]
 omega
theorem M58:59 * ((10:Int) ^ (58:Int).toNat+6)<M60/\0<(10:Int) ^ (58:Int).toNat:=by decide+kernel
theorem rk_d {q:Int}(h0:0<=q) (h1:q<=59) (z:Int):0<=q * (10 ^ (58:Int).toNat+z % 7)/\q * (10 ^ (58:Int).toNat+z % 7)<M60:=by
 obtain⟨h,h2⟩:=M58
 generalize (10:Int) ^ (58:Int).toNat=t at h h2 ⊢
 have e1:0<=z % 7/\z % 7<=6:=by omega
 generalize z % 7=y at e1 ⊢
 have a1:0<=q * (t+y):=Int.mul_nonneg h0 (by omega)
 have a2:q * (t+y)<=59 * (t+y):=Int.mul_le_mul_of_nonneg_right h1 (by omega)
 have a3:59 * (t+y)<=59 * (t+6):=by omega
 omega
theorem Zmm:Up []:=fun i h=>by simp at h
theorem Zn4 {k:Int}{l:List Int}(u:Up l) (h:∀ x∈l,x<k):Up (l++[k]):=by
 intro i hi
 rw[List.length_append,List.length_singleton] at hi
 by_cases h1:i+1<l.length
 ·have:=u i h1
  simp only [List.getD_eq_getElem?_getD] at this ⊢
  rw[List.getElem?_append_left (by omega),List.getElem?_append_left h1]
  exact this
 ·have e:i+1=l.length:=by omega
  simp only [List.getD_eq_getElem?_getD]
  rw[List.getElem?_append_left (by omega),List.getElem?_append_right (by omega),e]
  have hm:=h l[i] (List.getElem_mem (by omega))
  simpa [show i<l.length by omega] using hm
section
variable {P:Program}{w:World}{K:PySem.W.Frag}{mg:Str->Option Value}{base:Heap}
def Zd9 (K:PySem.W.Frag):Sp:=fun vs H Q _=>∃ (a:Addr) (ns:List Int) (k:Int),vs=[.ref a,.int k]/\LI K H a ns/\0<=k/\∀ c,Q (.int c) H
theorem Zqv:FnScope ["_law_script", "_law_k"] ["_law_script", "_law_k"] (Zg (top 47)):=⟨rfl,rfl,rfl,by decide+kernel,rfl,by decide+kernel,by decide+kernel⟩
theorem Zsa (D:Def K mg "_law_cell_at" (top 47) ["_law_script", "_law_k"]) (T:Txt K mg):Fu P w K mg base CX0 1 "_law_cell_at" ["_law_script", "_law_k"] (Zd9 K):=by
 refine D.fu Zqv (fun vs H Q E h=>?_) (fun f cdv A outer s H vs Q E hr h=>?_)
 ·obtain⟨a,ns,k,rfl,_⟩:=h
  rfl
 ·obtain⟨a,ns,j,rfl,hq,h0,k⟩:=h
  refine⟨_,Zh (Zn (Zu Zg8 (pv 1) (Yc T.len (pv 0)) (Zs _)) (Zf (Zj (Zr Z9 (pv 0) (pv 1) (fun _ _=>rfl)))) Zo) (Zf (Zj Zd)),?_⟩
  refine⟨_,rfl,_,rfl,a,_,rfl,.inl hq,_,_,rfl,rfl,_,rfl,ite2 (fun hlt=>?_) (fun _=>?_)⟩
  ·have hlt:=of_decide_eq_true hlt
   rw[List.length_map] at hlt
   exact⟨_,rfl,_,rfl,a,_,_,_,rfl,rfl,hq,Y7 h0 hlt,k _⟩
  ·exact k 0
def Zia (K:PySem.W.Frag):Sp:=fun vs H Q _=>∃ (a:Addr) (ns:List Int),vs=[.ref a]/\LI K H a ns/\∀ (D:Addr) (H':Hp) (rk:List Int),Same H H'->H D=none->H' D=some (.lst (rk.map V.int))->1<=rk.length->rk.length<=60->(∀ y∈rk,0<=y/\y<M60)->Q (.ref D) H'
theorem scRk:FnScope ["_law_script", "_law_cell", "_law_many", "_law_way", "_law_mixed", "_law_ranks_here", "_law_k", "_law_rank"] ["_law_script"] (Zg (top 49)):=⟨rfl,rfl,rfl,by decide+kernel,rfl,by decide+kernel,by decide+kernel⟩
set_option maxHeartbeats 2000000 in
theorem Zpp (D:Def K mg "_law_ranks" (top 49) ["_law_script"]) (T:Txt K mg) (GC:Fu P w K mg base CX0 1 "_law_cell_at" ["_law_script", "_law_k"] (Zd9 K)):Fu P w K mg base CX0 2 "_law_ranks" ["_law_script"] (Zia K):=by
 refine D.fu scRk (fun vs H Q E h=>?_) (fun f cdv A outer s H vs Q E hr h=>?_)
 ·obtain⟨a,ns,rfl,_⟩:=h
  rfl
 ·obtain⟨a,ns,rfl,hq,kk⟩:=h
  refine⟨_,Zh (Zp (i:=1) scRk.nd rfl (.inl rfl) (pc GC hr Zk (Za (pv 0) (Za Zd Zc))))
   (Zh (Zp (i:=2) scRk.nd rfl (.inl rfl) (Zi Yi Zd (Zi Zv (Zi Zv (Zi Yo (pv 1) Zd) Zd) Zd)))
   (Zh (Zn (Zu Zy (Zi Zv (pv 1) Zd) Zd (Zs _)) (Zf (Zp (i:=2) scRk.nd rfl (.inl rfl) (Zi Yi Zd (Zi Zv (Zi Zv (Zi Yo (pv 1) Zd) Zd) Zd)))) Zo)
   (Zh (Zp (i:=3) scRk.nd rfl (.inl rfl) (Zi Zv (pc GC hr Zk (Za (pv 0) (Za Zd Zc))) Zd))
   (Zh (Zp (i:=4) scRk.nd rfl (.inl rfl) (Zi Yi Zd (Zi Zv (Zi Yo (pc GC hr Zk (Za (pv 0) (Za Zd Zc))) Zd) Zd)))
   (Zh (Zp (i:=5) scRk.nd rfl (.inl rfl) (Z0 Zc))
   (Zh (Zcx PassesOwn.never rfl (Zaf rfl T.range (Za (pv 2) Zc)) (Ya (i:=6) scRk.nd rfl (.inl rfl))
     (Zh (Zp (i:=4) scRk.nd rfl (.inl rfl) (Zi Zv (Zi Yi (Zi Yo (pv 4) Zd) (pv 6)) Zd))
    (Zh (Zp (i:=7) scRk.nd rfl (.inl rfl) (Zi Zv (pv 4) Zd))
    (Zh (Zn (Zu Zy (pv 3) Zd (Zs _)) (Zf (Zp (i:=7) scRk.nd rfl (.inl rfl) (Zi Zv (pc GC hr Zk (Za (pv 0) (Za (Zi Yi Zd (pv 6)) Zc))) (Zi Yz Zd Zd)))) Zo)
    (Zh (Zn (Zu Zy (pv 3) Zd (Zs _)) (Zf (Zp (i:=7) scRk.nd rfl (.inl rfl) (Zi Zv (Zi Yz (pv 4) Zd) (Zi Yz Zd Zd)))) Zo)
    (Zh (Zn (Zb6 (Zu Zy (pv 3) Zd (Zs _)) (Zar (Zu Zy (Zi Zv (pv 4) Zd) Zd (Zs _)))).pt (Zf (Zp (i:=7) scRk.nd rfl (.inl rfl) (Zi Zcy (Zi Zcy (Zi Yz Zd Zd) Zd) (Zi Zv (Zi Zau (pv 4) Zd) Zd)))) Zo)
    (Zh (Zn (Zu Zy (pv 3) Zd (Zs _)) (Zf (Zp (i:=7) scRk.nd rfl (.inl rfl) (Zi Yo (Zi Zcy Zd (pv 6)) (Zi Yi (Zi Yz Zd Zd) (Zi Zv (pv 4) Zd))))) Zo)
    (Zf (Z8 (Jc PySem.F.plainAttrs_list PySem.F.slot_list_append PySem.F.type_list_append Zac (pv 5) (Za (pv 7) Zc)))))))))))
   (Zf (Zj (pv 5))))))))),?_⟩
  refine⟨_,rfl,a,ns,0,rfl,hq,by omega,fun c=>?_⟩
  refine⟨_,rfl,_,_,rfl,rfl,.inr (by constructor<;>decide),_,_,rfl,rfl,(by show (0:Int)<2147483647;decide),_,_,rfl,rfl,(by show (0:Int)<12;decide),_,_,rfl,rfl,?_⟩
  refine Yg fun N0 h0=>h0 _ _ (Yg fun NA hA=>?_)
  have mid:∀ m:Int,1<=m->m<=60->NA [some (.ref a),some (.int c),some (.int m),none,none,none,none,none] H:=by
   intro m m1 m60
   apply hA
   refine⟨_,rfl,a,ns,1,rfl,hq,by omega,fun c1=>⟨_,_,rfl,rfl,(by show (0:Int)<4;decide),?_⟩⟩
   refine⟨_,rfl,a,ns,1,rfl,hq,by omega,fun c2=>⟨_,_,rfl,rfl,.inr (by constructor<;>decide),_,_,rfl,rfl,(by show (0:Int)<2147483647;decide),_,_,rfl,rfl,?_⟩⟩
   refine⟨(by show 0<=sizeLine;decide),fun d hd=>?_⟩
   refine⟨_,rfl,_,rfl,by omega,by omega,?_⟩
   refine Zbe (n:=m.toNat) (fun i σ H'=>∃ (rk:List Int) (q:Int) (v6 v7:Option V),σ=[some (.ref a),some (.int c),some (.int m),some (.int (c1 % 4)),some (.int q),some (.ref d),v6,v7]/\0<=q/\q<2147483649/\Same H H'/\H' d=some (.lst (rk.map V.int))/\rk.length=i/\∀ y∈rk,0<=y/\y<M60)
    ⟨[],_,none,none,rfl,by omega,by omega,Same.new hd,Ze,rfl,by simp⟩ ?_ ?_
   ·rintro i σ H' hi ⟨rk,q,v6,v7,rfl,q0,q1,sm,hD,hlen,hall⟩
    have hq':=sm.seq hq
    refine⟨_,rfl,_,_,rfl,rfl,.inr (by constructor<;>decide),_,rfl,_,_,rfl,rfl,_,_,rfl,rfl,(by show (0:Int)<2147483647;decide),?_⟩
    have q20:0<=(q * 48271+(0+(i:Int))) % 2147483647/\(q * 48271+(0+(i:Int))) % 2147483647<2147483647:=by omega
    refine⟨_,rfl,_,_,rfl,rfl,(by show (0:Int)<4;decide),?_⟩
    refine Yg fun N0 h0=>h0 _ _ (Yg fun N1 h1=>?_)
    have j1:∀ z:Int,(0<=z/\z<M60)->N1 [some (.ref a),some (.int c),some (.int m),some (.int (c1 % 4)),some (.int ((q * 48271+(0+(i:Int))) % 2147483647)),some (.ref d),some (.int (0+(i:Int))),some (.int z)] H':=by
     intro z hz
     apply h1
     refine Yg fun N2 h2=>?_
     have j2:∀ z:Int,(0<=z/\z<M60)->N2 [some (.ref a),some (.int c),some (.int m),some (.int (c1 % 4)),some (.int ((q * 48271+(0+(i:Int))) % 2147483647)),some (.ref d),some (.int (0+(i:Int))),some (.int z)] H':=by
      intro z hz
      apply h2
      refine Yg fun N3 h3=>?_
      have j3:∀ z:Int,(0<=z/\z<M60)->N3 [some (.ref a),some (.int c),some (.int m),some (.int (c1 % 4)),some (.int ((q * 48271+(0+(i:Int))) % 2147483647)),some (.ref d),some (.int (0+(i:Int))),some (.int z)] H':=by
       intro z hz
       apply h3
       refine Yg fun N4 h4=>?_
       have j4:∀ z:Int,(0<=z/\z<M60)->N4 [some (.ref a),some (.int c),some (.int m),some (.int (c1 % 4)),some (.int ((q * 48271+(0+(i:Int))) % 2147483647)),some (.ref d),some (.int (0+(i:Int))),some (.int z)] H':=by
        intro z hz
        apply h4
        have hsz:(rk.map V.int).length<sizeLine:=by rw[List.length_map,sizeLine_eq];omega
        refine⟨_,rfl,.inl ⟨rfl,_,SqL.of hD⟩,_,rfl,d,_,_,rfl,rfl,hD,hsz,?_⟩
        exact⟨rk++[z],((q * 48271+(0+(i:Int))) % 2147483647),_,_,rfl,by omega,by omega,fun b o e=>by rw[Zb (Zl e hd)];exact sm b o e,Ze.trans (by simp),by simp[hlen],fun y hy=>by
         rcases List.mem_append.mp hy with p|p
         ·exact hall y p
         ·rw[List.mem_singleton.mp p];exact hz⟩
       refine⟨_,rfl,rfl,_,rfl,ite2 (fun _=>?_) (fun _=>j4 z hz)⟩
       refine⟨_,rfl,_,_,rfl,rfl,_,_,rfl,rfl,cpow _ _ (by decide+kernel),_,rfl,_,_,rfl,rfl,(by show (0:Int)<7;decide),_,_,rfl,rfl,_,_,rfl,rfl,.inl ?_,?_⟩
       ·constructor<;>omega
       ·exact j4 _ (rk_d (by omega) (by omega) _)
      refine⟨_,rfl,rfl,_,rfl,ite2 (fun _=>?_) (fun _=>iteF (j3 z hz))⟩
      refine⟨_,rfl,_,_,rfl,rfl,(by show (0:Int)<9;decide),rfl,_,rfl,ite2 (fun _=>?_) (fun _=>j3 z hz)⟩
      refine⟨_,_,rfl,rfl,cpow _ _ (by decide+kernel),_,_,rfl,rfl,_,rfl,_,_,rfl,rfl,⟨by decide,by decide⟩,_,_,rfl,rfl,(by show (0:Int)<2;decide),_,_,rfl,rfl,j3 _ (rk_c _)⟩
     refine⟨_,rfl,rfl,_,rfl,ite2 (fun _=>?_) (fun _=>j2 z hz)⟩
     exact⟨_,rfl,_,_,rfl,rfl,⟨by decide,by decide,by omega⟩,_,_,rfl,rfl,cpow _ _ (by decide+kernel),_,_,rfl,rfl,(by show (0:Int)<10 ^ (60:Int).toNat;decide),j2 _ (rk_b _)⟩
    refine⟨_,rfl,rfl,_,rfl,ite2 (fun _=>?_) (fun _=>j1 (((q * 48271+(0+(i:Int))) % 2147483647) % 4) (rk_a ((q * 48271+(0+(i:Int))) % 2147483647)))⟩
    refine⟨_,rfl,_,rfl,_,_,rfl,rfl,a,ns,_,rfl,hq',by omega,fun c3=>⟨_,_,rfl,rfl,cpow _ _ (by decide+kernel),_,_,rfl,rfl,(by show (0:Int)<10 ^ (60:Int).toNat;decide),j1 _ (rk_b _)⟩⟩
   ·rintro σ H' ⟨rk,q,v6,v7,rfl,q0,q1,sm,hD,hlen,hall⟩
    exact⟨_,rfl,kk d H' rk sm hd hD (by omega) (by omega) hall⟩
  refine⟨_,rfl,_,_,rfl,rfl,(by show (0:Int)<8;decide),rfl,_,rfl,ite2 (fun _=>?_) (fun _=>mid _ (by omega) (by omega))⟩
  exact⟨_,rfl,_,_,rfl,rfl,.inr (by constructor<;>decide),_,_,rfl,rfl,(by show (0:Int)<2147483647;decide),_,_,rfl,rfl,(by show (0:Int)<60;decide),_,_,rfl,rfl,mid _ (by omega) (by omega)⟩
def Zm0:Sp:=fun vs H Q _=>∃ (t p0 p1 p2:Addr) (l0 l1 pl:List Int) (v:V),vs=[.ref t]/\ScAt H t p0 p1 p2 l0 l1 pl v /\
 ∀ u d0 d1 d2 H',Same H H'->H u=none->H d0=none->H d1=none->H d2=none->d0≠d1->d0≠d2->d1≠d2->ScAt H' u d0 d1 d2 l0 l1 pl v->Q (.ref u) H'
theorem Zqt:FnScope ["_law_picture"] ["_law_picture"] (Zg (top 51)):=⟨rfl,rfl,rfl,by decide+kernel,rfl,by decide+kernel,by decide+kernel⟩
theorem Zr8 (D:Def K mg "_law_copy" (top 51) ["_law_picture"]) (T:Txt K mg):Fu P w K mg base CX0 1 "_law_copy" ["_law_picture"] Zm0:=by
 refine D.fu Zqt (fun vs H Q E h=>?_) (fun f cdv A outer s H vs Q E hr h=>?_)
 ·obtain⟨t,p0,p1,p2,l0,l1,pl,v,rfl,_⟩:=h
  rfl
 ·obtain⟨t,p0,p1,p2,l0,l1,pl,v,rfl,S,kk⟩:=h
  refine⟨_,Zf (Zj (Z5 (Za (Jd T.list (Zr Zx (pv 0) Zd (fun _ _=>rfl))) (Za (Jd T.list (Zr Zx (pv 0) Zd (fun _ _=>rfl))) (Za (Jd T.list (Zr Zx (pv 0) Zd (fun _ _=>rfl))) (Za (Zr Zx (pv 0) Zd (fun _ _=>rfl)) Zc)))))),?_⟩
  refine⟨_,rfl,t,_,_,_,rfl,rfl,SqT.of S.at_,rfl,p0,_,rfl,.inl (SqL.of S.e0),fun d0 n0=>?_⟩
  have u0:=Same.new (o:=.lst (l0.map V.int)) n0
  refine⟨_,rfl,t,_,_,_,rfl,rfl,SqT.of (u0 _ _ S.at_),rfl,p1,_,rfl,.inl (SqL.of (u0 _ _ S.e1)),fun d1 n1=>?_⟩
  have u1:=Same.new (o:=.lst (l1.map V.int)) n1
  have u01:=u0.trans u1
  refine⟨_,rfl,t,_,_,_,rfl,rfl,SqT.of (u01 _ _ S.at_),rfl,p2,_,rfl,.inl (SqL.of (u01 _ _ S.e2)),fun d2 n2=>?_⟩
  have u2:=Same.new (o:=.lst (pl.map V.int)) n2
  have u02:=u01.trans u2
  refine⟨_,rfl,t,_,_,_,rfl,rfl,SqT.of (u02 _ _ S.at_),rfl,(by show 4<=sizeLine;decide),fun u nu=>?_⟩
  have u3:=Same.new (o:=.tup [.ref d0,.ref d1,.ref d2,v]) nu
  have g0:=Ze (H:=H) (a:=d0) (o:=.lst (l0.map V.int))
  have g1:=Ze (H:=upd H d0 (.lst (l0.map V.int))) (a:=d1) (o:=.lst (l1.map V.int))
  have g2:=Ze (H:=upd (upd H d0 (.lst (l0.map V.int))) d1 (.lst (l1.map V.int))) (a:=d2) (o:=.lst (pl.map V.int))
  exact kk u d0 d1 d2 _ (u02.trans u3) (u02.free nu) n0 (u0.free n1) (u01.free n2) (Zl g0 n1) (Zl (u1 _ _ g0) n2) (Zl g1 n2) ⟨Ze,(u1.trans (u2.trans u3)) _ _ g0,(u2.trans u3) _ _ g1,u3 _ _ g2⟩
end
end K10
namespace K10
open PySem L2 L3
def PB (i:Nat) (l:List Int):Prop:=l.length<=i/\(∀ x∈l,0<=x/\x<(i:Int))/\Up l
def PP (rk:List Int) (i:Nat) (l:List Int):Prop:=l.length<=i/\(∀ x∈l,0<=x/\x<rk.length)/\Up (l.reverse.map (rkAt rk))
theorem PB.nil (i:Nat):PB i []:=⟨by simp,by simp,Zmm⟩
theorem PP.nil (rk:List Int) (i:Nat):PP rk i []:=⟨by simp,by simp,Zmm⟩
theorem PB.up {i:Nat}{l:List Int}(h:PB i l):PB (i+1) l:=⟨by have:=h.1;omega,fun x hx=>by have:=h.2.1 x hx;omega,h.2.2⟩
theorem PP.up {rk:List Int}{i:Nat}{l:List Int}(h:PP rk i l):PP rk (i+1) l:=⟨by have:=h.1;omega,h.2.1,h.2.2⟩
theorem PB.add {i:Nat}{l:List Int}(h:PB i l) {z:Int}(e:z=i):PB (i+1) (l++[z]):=by
 subst e
 refine⟨by have:=h.1;simp;omega,fun x hx=>?_,Zn4 h.2.2 fun x hx=>(h.2.1 x hx).2⟩
 rcases List.mem_append.mp hx with q|q
 ·have:=h.2.1 x q;omega
 ·rw[List.mem_singleton.mp q];omega
theorem PP.add {rk:List Int}{i:Nat}{l:List Int}(h:PP rk i l) {z:Int}(h0:0<=z/\z<rk.length) (hz:∀ t,l.getLast?=some t->rkAt rk z<rkAt rk t):PP rk (i+1) (l++[z]):=by
 refine⟨by have:=h.1;simp;omega,fun x hx=>?_,?_⟩
 ·rcases List.mem_append.mp hx with q|q
  ·exact h.2.1 x q
  ·rw[List.mem_singleton.mp q];exact h0
 ·rw[List.reverse_append,List.reverse_singleton,List.singleton_append,List.map_cons]
  refine Zh0 h.2.2 fun y hy=>?_
  rw[List.head?_map,List.head?_reverse] at hy
  cases e:l.getLast? with
  | none=>rw[e] at hy;cases hy
  | some t=>rw[e] at hy;cases hy;exact hz t e
theorem Zmo {i:Int}(h:i=0\/i=1):∃ z:Int,atI [V.int 0,.int (10 ^ (60:Int).toNat)] i=some (.int z)/\0<=z/\z<=M60:=by
 rcases h with rfl|rfl
 ·exact⟨0,rfl,by omega,by have:=Zck;omega⟩
 ·exact⟨10 ^ (60:Int).toNat,rfl,by decide,Int.le_refl _⟩
section
variable {P:Program}{w:World}{K:PySem.W.Frag}{mg:Str->Option Value}{base:Heap}
def Zib (K:PySem.W.Frag):Sp:=fun vs H Q _=>∃ (a b:Addr) (ns rk:List Int),vs=[.ref a,.ref b]/\LI K H a ns/\H b=some (.lst (rk.map V.int))/\1<=rk.length/\rk.length<=60/\(∀ y∈rk,0<=y/\y<M60) /\
 ∀ (t d0 d1 d2:Addr) (H':Hp) (l0 l1 pl:List Int) (v:V),Same H H'->H t=none->H d0=none->H d1=none->H d2=none->ScAt H' t d0 d1 d2 l0 l1 pl v->PicOk rk l0 l1 pl v->Q (.ref t) H'
theorem scPB:FnScope ["_law_script", "_law_ranks_here", "_law_many", "_law_mixed", "_law_turn", "_law_asking", "_law_muted", "_law_pile", "_law_k", "_law_at", "_law_bar_here"] ["_law_script", "_law_ranks_here"] (Zg (top 50)):=⟨rfl,rfl,rfl,by decide+kernel,rfl,by decide+kernel,by decide+kernel⟩
set_option maxHeartbeats 4000000 in
theorem Zl1 (D:Def K mg "_law_picture_by" (top 50) ["_law_script", "_law_ranks_here"]) (T:Txt K mg) (GC:Fu P w K mg base CX0 1 "_law_cell_at" ["_law_script", "_law_k"] (Zd9 K)):Fu P w K mg base CX0 2 "_law_picture_by" ["_law_script", "_law_ranks_here"] (Zib K):=by
 refine D.fu scPB (fun vs H Q E h=>?_) (fun f cdv A outer s H vs Q E hr h=>?_)
 ·obtain⟨a,b,ns,rk,rfl,_⟩:=h
  rfl
 ·obtain⟨a,b,ns,rk,rfl,hq,hb,l1,l60,hrk,kk⟩:=h
  refine⟨_,Zh (Zp (i:=2) scPB.nd rfl (.inl rfl) (Yc T.len (pv 1)))
   (Zh (Zp (i:=3) scPB.nd rfl (.inl rfl) (Zi Yi Zd (Zi Zv (Zi Yo (pc GC hr Zk (Za (pv 0) (Za Zd Zc))) Zd) Zd)))
   (Zh (Zp (i:=4) scPB.nd rfl (.inl rfl) (Zi Yi Zd (Zi Zv (pv 3) (pv 2))))
   (Zh (Zp (i:=5) scPB.nd rfl (.inl rfl) (Z0 Zc))
   (Zh (Zp (i:=6) scPB.nd rfl (.inl rfl) (Z0 Zc))
   (Zh (Zp (i:=7) scPB.nd rfl (.inl rfl) (Z0 Zc))
   (Zh (Zcx PassesOwn.never rfl (Zaf rfl T.range (Za (pv 2) Zc)) (Ya (i:=8) scPB.nd rfl (.inl rfl))
     (Zh (Zp (i:=3) scPB.nd rfl (.inl rfl) (Zi Zv (Zi Yi (Zi Yo (pv 3) Zd) (pc GC hr Zk (Za (pv 0) (Za (Zi Yi Zd (pv 8)) Zc)))) Zd))
    (Zh (Zn (Zu Zy (Zi Zv (pv 3) Zd) Zd (Zs _)) (Zf (Z8 (Jc PySem.F.plainAttrs_list PySem.F.slot_list_append PySem.F.type_list_append Zac (pv 5) (Za (pv 8) Zc)))) Zo)
    (Zh (Zn (Zu Zy (Zi Zv (Zi Zau (pv 3) Zd) Zd) Zd (Zs _)) (Zf (Z8 (Jc PySem.F.plainAttrs_list PySem.F.slot_list_append PySem.F.type_list_append Zac (pv 6) (Za (pv 8) Zc)))) Zo)
    (Zh (Zp (i:=9) scPB.nd rfl (.inl rfl) (Zi Zv (Zi Yi (Zi Zv (Zi Zau (pv 3) Zd) Zd) (Zi Yo (pv 8) (pv 4))) (pv 2)))
    (Zf (Zn (Zb6 (Zu Zrh (Zi Zv (Zi Zau (pv 3) Zd) Zd) Zd (Zs _)) (Zar (Yy (Zu (Zri hr.units) (pv 7) (Z0 Zc) (Zs _)) (Ja (Zu Zg8 (Zr Z9 (pv 1) (pv 9) (fun _ _=>rfl)) (Zr Z9 (pv 1) (Zr Z9 (pv 7) (Zg6 Zcq Zd) (fun _ _=>rfl)) (fun _ _=>rfl)) (Zs _)))).pt)).pt
      (Zf (Z8 (Jc PySem.F.plainAttrs_list PySem.F.slot_list_append PySem.F.type_list_append Zac (pv 7) (Za (pv 9) Zc)))) Zo)))))))
   (Zh (Zp (i:=10) scPB.nd rfl (.inl rfl) Y4)
   (Zh (Zn (Zu Zy (Zi Zv (pv 3) Zd) Zd (Zs _)) (Zf (Zp (i:=10) scPB.nd rfl (.inl rfl) (Zi Yi (Zr Z9 (pv 1) (Zi Zv (Zi Zau (pv 3) Zd) (pv 2)) (fun _ _=>rfl)) (Zi Zv (Zi Zau (pv 3) Zd) Zd)))) Zo)
   (Zh (Zn (Zu Zy (Zi Zv (pv 3) Zd) Zd (Zs _)) (Zf (Zp (i:=10) scPB.nd rfl (.inl rfl) (Zr Z9 (Z0 (Za Zd (Za (Zi Yz Zd Zd) Zc))) (Zi Zv (Zi Zau (pv 3) Zd) Zd) (fun _ _=>rfl)))) Zo)
   (Zf (Zj (Z5 (Za (pv 5) (Za (pv 6) (Za (pv 7) (Za (pv 10) Zc)))))))))))))))),?_⟩
  refine⟨_,rfl,b,_,rfl,.inl (SqL.of hb),?_⟩
  rw[List.length_map]
  have hn:(0:Int)<(rk.length:Int):=by omega
  refine⟨_,rfl,a,ns,2,rfl,hq,by omega,fun c0=>⟨_,_,rfl,rfl,.inr (by constructor<;>decide),_,_,rfl,rfl,(by show (0:Int)<2147483647;decide),_,_,rfl,rfl,?_⟩⟩
  have hq0:0<=1+c0 * 397204094 % 2147483647/\1+c0 * 397204094 % 2147483647<2147483649:=by omega
  dsimp only
  generalize 1+c0 * 397204094 % 2147483647=q0 at hq0 ⊢
  refine⟨_,rfl,_,rfl,_,_,rfl,rfl,hn,_,_,rfl,rfl,?_⟩
  have ht:0<=1+q0 % (rk.length:Int)/\1+q0 % (rk.length:Int)<=60:=by
   have h1:=Int.emod_nonneg q0 (show (rk.length:Int)≠0 by omega)
   have h2:=Int.emod_lt_of_pos q0 hn
   omega
  dsimp only
  generalize 1+q0 % (rk.length:Int)=tn at ht ⊢
  refine⟨(by show 0<=sizeLine;decide),fun d5 n5=>⟨(by show 0<=sizeLine;decide),fun d6 n6=>⟨(by show 0<=sizeLine;decide),fun d7 n7=>?_⟩⟩⟩
  have u5:=Same.new (o:=.lst []) n5
  have u6:=Same.new (o:=.lst []) n6
  have u7:=Same.new (o:=.lst []) n7
  have g5:=Ze (H:=H) (a:=d5) (o:=.lst [])
  have g6:=Ze (H:=upd H d5 (.lst [])) (a:=d6) (o:=.lst [])
  have g7:=Ze (H:=upd (upd H d5 (.lst [])) d6 (.lst [])) (a:=d7) (o:=.lst [])
  have z6:H d6=none:=u5.free n6
  have z7:H d7=none:=(u5.trans u6).free n7
  have d56:d5≠d6:=Zl g5 n6
  have d57:d5≠d7:=Zl (u6 _ _ g5) n7
  have d67:d6≠d7:=Zl g6 n7
  have k5:=(u6.trans u7) _ _ g5
  have k6:=u7 _ _ g6
  have s0:=(u5.trans u6).trans u7
  generalize upd (upd (upd H d5 (.lst [])) d6 (.lst [])) d7 (.lst [])=H0 at k5 k6 g7 s0 ⊢
  refine⟨_,rfl,_,rfl,by omega,by omega,?_⟩
  refine Zbe (n:=(rk.length:Int).toNat) (fun i σ H'=>∃ (la lm lp:List Int) (q:Int) (v8 v9:Option V),σ=[some (.ref a),some (.ref b),some (.int rk.length),some (.int q),some (.int tn),some (.ref d5),some (.ref d6),some (.ref d7),v8,v9,none]/\0<=q/\q<2147483649/\Same H H' /\
    H' d5=some (.lst (la.map V.int))/\H' d6=some (.lst (lm.map V.int))/\H' d7=some (.lst (lp.map V.int))/\PB i la/\PB i lm/\PP rk i lp)
   ⟨[],[],[],q0,none,none,rfl,hq0.1,hq0.2,s0,k5,k6,g7,PB.nil _,PB.nil _,PP.nil _ _⟩ ?_ ?_
  ·rintro i σ H' hi ⟨la,lm,lp,q,v8,v9,rfl,q1,q2,sm,h5,h6,h7,p5,p6,p7⟩
   have hi':i<rk.length:=by omega
   refine⟨_,rfl,_,_,rfl,rfl,.inr (by constructor<;>decide),_,rfl,_,rfl,_,_,rfl,rfl,a,ns,_,rfl,sm.seq hq,by omega,fun c3=>⟨_,_,rfl,rfl,_,_,rfl,rfl,(by show (0:Int)<2147483647;decide),?_⟩⟩
   have hx:0<=(q * 48271+c3) % 2147483647/\(q * 48271+c3) % 2147483647<2147483649:=by omega
   dsimp only
   generalize (q * 48271+c3) % 2147483647=x at hx ⊢
   refine Yg fun N1 hN1=>?_
   have j1:∀ (la:List Int) (H':Hp),Same H H'->H' d5=some (.lst (la.map V.int))->H' d6=some (.lst (lm.map V.int))->H' d7=some (.lst (lp.map V.int))->PB (i+1) la ->
     N1 [some (.ref a),some (.ref b),some (.int rk.length),some (.int x),some (.int tn),some (.ref d5),some (.ref d6),some (.ref d7),some (.int (0+(i:Int))),v9,none] H':=by
    intro la H' sm h5 h6 h7 p5
    apply hN1
    refine Yg fun N2 hN2=>?_
    have j2:∀ (lm:List Int) (H':Hp),Same H H'->H' d5=some (.lst (la.map V.int))->H' d6=some (.lst (lm.map V.int))->H' d7=some (.lst (lp.map V.int))->PB (i+1) lm ->
      N2 [some (.ref a),some (.ref b),some (.int rk.length),some (.int x),some (.int tn),some (.ref d5),some (.ref d6),some (.ref d7),some (.int (0+(i:Int))),v9,none] H':=by
     intro lm H' sm h5 h6 h7 p6
     apply hN2
     refine⟨_,rfl,_,_,rfl,rfl,⟨by decide,by decide⟩,_,_,rfl,rfl,(by show (0:Int)<2;decide),_,rfl,_,rfl,_,_,rfl,rfl,.inl ⟨by omega,by omega⟩,_,_,rfl,rfl,_,rfl,_,_,rfl,rfl,hn,?_⟩
     have hat:0<=(x / 7 % 2+(0+(i:Int)) * tn) % (rk.length:Int)/\(x / 7 % 2+(0+(i:Int)) * tn) % (rk.length:Int)<rk.length:=⟨Int.emod_nonneg _ (by omega),Int.emod_lt_of_pos _ hn⟩
     dsimp only
     generalize (x / 7 % 2+(0+(i:Int)) * tn) % (rk.length:Int)=at_ at hat ⊢
     have no:∀ Hx,Same H' Hx->∃ (la lm lp:List Int) (q:Int) (v8 v9:Option V),[some (V.ref a),some (.ref b),some (.int rk.length),some (.int x),some (.int tn),some (.ref d5),some (.ref d6),some (.ref d7),some (.int (0+(i:Int))),some (.int at_),none]=[some (V.ref a),some (.ref b),some (.int rk.length),some (.int q),some (.int tn),some (.ref d5),some (.ref d6),some (.ref d7),v8,v9,none]/\0<=q/\q<2147483649/\Same H Hx /\
       Hx d5=some (.lst (la.map V.int))/\Hx d6=some (.lst (lm.map V.int))/\Hx d7=some (.lst (lp.map V.int))/\PB (i+1) la/\PB (i+1) lm/\PP rk (i+1) lp :=
      fun Hx sx=>⟨la,lm,lp,x,_,_,rfl,hx.1,hx.2,sm.trans sx,sx _ _ h5,sx _ _ h6,sx _ _ h7,p5,p6,p7.up⟩
     have yes:∀ Hx,Same H' Hx->(∀ t,lp.getLast?=some t->rkAt rk at_<rkAt rk t)->∃ (la lm lp2:List Int) (q:Int) (v8 v9:Option V),[some (V.ref a),some (.ref b),some (.int rk.length),some (.int x),some (.int tn),some (.ref d5),some (.ref d6),some (.ref d7),some (.int (0+(i:Int))),some (.int at_),none]=[some (V.ref a),some (.ref b),some (.int rk.length),some (.int q),some (.int tn),some (.ref d5),some (.ref d6),some (.ref d7),v8,v9,none]/\0<=q/\q<2147483649/\Same H (upd Hx d7 (.lst (lp.map V.int++[.int at_]))) /\
       upd Hx d7 (.lst (lp.map V.int++[.int at_])) d5=some (.lst (la.map V.int))/\upd Hx d7 (.lst (lp.map V.int++[.int at_])) d6=some (.lst (lm.map V.int))/\upd Hx d7 (.lst (lp.map V.int++[.int at_])) d7=some (.lst (lp2.map V.int))/\PB (i+1) la/\PB (i+1) lm/\PP rk (i+1) lp2 :=
      fun Hx sx hz=>⟨la,lm,lp++[at_],x,_,_,rfl,hx.1,hx.2,fun c o e=>by rw[Zb (Zl e z7)];exact sx _ _ (sm c o e),by rw[Zb d57];exact sx _ _ h5,by rw[Zb d67];exact sx _ _ h6,Ze.trans (by simp),p5,p6,p7.add hat hz⟩
     have hsz:(lp.map V.int).length<sizeLine:=by rw[List.length_map,sizeLine_eq];have:=p7.1;omega
     refine⟨_,rfl,_,_,rfl,rfl,⟨by decide,by decide⟩,_,_,rfl,rfl,(by show (0:Int)<3;decide),_,_,rfl,rfl,_,rfl,ite2 (fun _=>?_) (fun _=>iteF (no _ (Same.refl _)))⟩
     refine⟨_,rfl,(by show 0<=sizeLine;decide),fun e ne=>⟨d7,e,lp,[],rfl,rfl,(Same.new ne).seq (SqL.of h7),SqL.new (xs:=([]:List Int).map V.int),_,rfl,?_⟩⟩
     have sx:=Same.new (o:=.lst []) ne
     cases el:lp.getLast? with
     | none =>
      have e':lp=[]:=List.getLast?_eq_none_iff.mp el
      refine Z2 (decide_eq_true e') (iteT ⟨_,rfl,.inl ⟨rfl,_,SqL.of (sx _ _ h7)⟩,_,rfl,d7,_,_,rfl,rfl,sx _ _ h7,hsz,?_⟩)
      exact yes _ sx fun t ht=>by rw[el] at ht;cases ht
     | some t =>
      have hne:lp≠[]:=by intro z;rw[z] at el;cases el
      have hm:=p7.2.1 t (List.mem_of_getLast? el)
      refine Zm (decide_eq_false hne) ⟨_,rfl,_,rfl,b,_,_,_,rfl,rfl,SqL.of (sx _ _ (sm _ _ hb)),Y7 hat.1 hat.2,_,rfl,_,rfl,_,rfl,d7,_,_,_,rfl,rfl,SqL.of (sx _ _ h7),Zgl el,b,_,_,_,rfl,rfl,SqL.of (sx _ _ (sm _ _ hb)),Y7 hm.1 hm.2,_,_,rfl,rfl,_,rfl,?_⟩
      by_cases hlt:rkAt rk at_<rkAt rk t
      ·refine Z2 (decide_eq_true hlt) ⟨_,rfl,.inl ⟨rfl,_,SqL.of (sx _ _ h7)⟩,_,rfl,d7,_,_,rfl,rfl,sx _ _ h7,hsz,?_⟩
       exact yes _ sx fun t' ht=>by rw[el] at ht;cases ht;exact hlt
      ·exact Zm (decide_eq_false hlt) (no _ sx)
    have hsz:(lm.map V.int).length<sizeLine:=by rw[List.length_map,sizeLine_eq];have:=p6.1;omega
    refine⟨_,rfl,_,_,rfl,rfl,⟨by decide,by decide⟩,_,_,rfl,rfl,(by show (0:Int)<3;decide),rfl,_,rfl,ite2 (fun _=>?_) (fun _=>j2 lm H' sm h5 h6 h7 p6.up)⟩
    refine⟨_,rfl,.inl ⟨rfl,_,SqL.of h6⟩,_,rfl,d6,_,_,rfl,rfl,h6,hsz,?_⟩
    exact j2 (lm++[0+(i:Int)]) _ (fun c o e=>by rw[Zb (Zl e z6)];exact sm c o e) (by rw[Zb d56];exact h5) (Ze.trans (by simp)) (by rw[Zb (Ne.symm d67)];exact h7) (p6.add (by omega))
   have hsz:(la.map V.int).length<sizeLine:=by rw[List.length_map,sizeLine_eq];have:=p5.1;omega
   refine⟨_,rfl,_,_,rfl,rfl,(by show (0:Int)<2;decide),rfl,_,rfl,ite2 (fun _=>?_) (fun _=>j1 la H' sm h5 h6 h7 p5.up)⟩
   refine⟨_,rfl,.inl ⟨rfl,_,SqL.of h5⟩,_,rfl,d5,_,_,rfl,rfl,h5,hsz,?_⟩
   exact j1 (la++[0+(i:Int)]) _ (fun c o e=>by rw[Zb (Zl e n5)];exact sm c o e) (Ze.trans (by simp)) (by rw[Zb (Ne.symm d56)];exact h6) (by rw[Zb (Ne.symm d57)];exact h7) (p5.add (by omega))
  ·rintro σ H' ⟨la,lm,lp,q,v8,v9,rfl,q1,q2,sm,h5,h6,h7,p5,p6,p7⟩
   have en:(rk.length:Int).toNat=rk.length:=by omega
   rw[en] at p5 p6 p7
   have hb':=sm _ _ hb
   refine Yg fun N3 hN3=>?_
   apply hN3
   refine Yg fun N6 hN6=>?_
   apply hN6
   refine Yg fun N4 hN4=>?_
   have j4:∀ v,BarV v->N4 [some (.ref a),some (.ref b),some (.int rk.length),some (.int q),some (.int tn),some (.ref d5),some (.ref d6),some (.ref d7),v8,v9,some v] H':=by
    intro v hv
    apply hN4
    refine Yg fun N5 hN5=>?_
    have j5:∀ v Hx,BarV v->Same H' Hx->N5 [some (.ref a),some (.ref b),some (.int rk.length),some (.int q),some (.int tn),some (.ref d5),some (.ref d6),some (.ref d7),v8,v9,some v] Hx:=by
     intro v Hx hv sx
     apply hN5
     refine⟨_,rfl,_,rfl,_,rfl,_,rfl,(by show 4<=sizeLine;decide),fun t nt=>?_⟩
     have u:=Same.new (o:=.tup [.ref d5,.ref d6,.ref d7,v]) nt
     have sHx:=sm.trans sx
     refine kk t d5 d6 d7 _ la lm lp v (sHx.trans u) (sHx.free nt) n5 z6 z7 ⟨Ze,u _ _ (sx _ _ h5),u _ _ (sx _ _ h6),u _ _ (sx _ _ h7)⟩ ?_
     have a1:=p5.1
     have a2:=p6.1
     have a3:=p7.1
     exact⟨by omega,by omega,by omega,p5.2.1,p6.2.1,p7.2.1,p5.2.2,p6.2.2,p7.2.2,hv⟩
    refine⟨_,rfl,_,_,rfl,rfl,(by show (0:Int)<15;decide),rfl,_,rfl,ite2 (fun _=>?_) (fun _=>j5 v H' hv (Same.refl _))⟩
    refine⟨_,_,rfl,rfl,cpow _ _ (by decide+kernel),(by show 2<=sizeLine;decide),fun l hl=>?_⟩
    obtain⟨z,ez,z0,z1⟩:=Zmo (i:=q / 15 % 2) (by omega)
    exact⟨_,rfl,_,_,rfl,rfl,⟨by decide,by decide⟩,_,_,rfl,rfl,(by show (0:Int)<2;decide),l,_,_,_,rfl,rfl,SqL.of Ze,ez,j5 _ _ (.inr ⟨z,rfl,z0,z1⟩) (Same.new hl)⟩
   refine⟨_,rfl,_,_,rfl,rfl,(by show (0:Int)<3;decide),rfl,_,rfl,ite2 (fun _=>?_) (fun _=>j4 .non (.inl rfl))⟩
   have hj:0<=q / 3 % (rk.length:Int)/\q / 3 % (rk.length:Int)<rk.length:=⟨Int.emod_nonneg _ (by omega),Int.emod_lt_of_pos _ hn⟩
   refine⟨_,rfl,_,rfl,_,_,rfl,rfl,⟨by decide,by decide⟩,_,rfl,_,_,rfl,rfl,hn,b,_,_,_,rfl,rfl,SqL.of hb',Y7 hj.1 hj.2,_,rfl,_,_,rfl,rfl,⟨by decide,by decide⟩,_,_,rfl,rfl,(by show (0:Int)<2;decide),_,_,rfl,rfl,?_⟩
   refine j4 _ (.inr ⟨_,rfl,?_⟩)
   have hm:(q / 3 % (rk.length:Int)).toNat<rk.length:=by omega
   have hr2:=hrk _ (List.getElem_mem hm)
   have eg:rk.getD (q / 3 % (rk.length:Int)).toNat 0=rk[(q / 3 % (rk.length:Int)).toNat]:=by simp[List.getD,hm]
   rw[eg]
   omega
end
end K10
namespace K10
open PySem L2 L3
inductive Dd where
 | flag (isA wish:Bool) (v:V)
 | bar (v:V)
 | fin (v:V)
 | take
 | best
def Zpi:Bool->Bool->Str
 | true,true => "ring"
 | true,false => "calm"
 | false,true => "mute"
 | false,false => "free"
def Dd.parts:Dd->List V
 | .flag isA wish v=>[.str (Zpi isA wish),v]
 | .bar v=>[.str "bar",v]
 | .fin v=>[.str "end",v]
 | .take=>[.str "take"]
 | .best=>[.str "best"]
abbrev DeedAt (H:Hp) (a:Addr) (d:Dd):Prop:=H a=some (.tup d.parts)
def LineV (K:PySem.W.Frag) (H:Hp) (n:Nat) (v:V):Prop:=(∃ i:Int,v=.int i/\0<=i/\i<n)\/Odd K H n v
def BarT (K:PySem.W.Frag) (H:Hp) (v:V):Prop:=BarV v\/BadBar K H v
def DeedOk (K:PySem.W.Frag) (H:Hp) (n:Nat):Dd->Prop
 | .flag _ _ v=>LineV K H n v
 | .fin v=>LineV K H n v
 | .bar v=>BarT K H v
 | .take=>True
 | .best=>True
theorem Zn5 {K:PySem.W.Frag}{H H':Hp}{v:V}{t:Value}(h:TyOf K H v t) (k:∀ a o,v=.ref a->H a=some o->H' a=some o):TyOf K H' v t:=by
 cases h with
 | non=>exact .non
 | bl x=>exact .bl x
 | int i=>exact .int i
 | str x=>exact .str x
 | flt x=>exact .flt x
 | lst e=>exact .lst (k _ _ rfl e)
 | frz e=>exact .frz (k _ _ rfl e)
 | tup e=>exact .tup (k _ _ rfl e)
 | dK e=>exact .dK (k _ _ rfl e)
 | dT e=>exact .dT (k _ _ rfl e)
 | ins e a b c d f=>exact .ins (k _ _ rfl e) a b c d f
section
variable {K:PySem.W.Frag}{H H':Hp}{v:V}{n:Nat}{b:Bool}{d:Dd}
theorem WholeV.to (h:WholeV K H v b) (k:∀ a o,v=.ref a->H a=some o->H' a=some o):WholeV K H' v b:=by
 obtain⟨t,b1,b2,ty,r⟩:=h
 exact⟨t,b1,b2,Zn5 ty k,r⟩
theorem Odd.to (h:Odd K H n v) (k:∀ a o,v=.ref a->H a=some o->H' a=some o):Odd K H' n v:=h.imp id fun z=>z.to k
theorem LineV.to (h:LineV K H n v) (k:∀ a o,v=.ref a->H a=some o->H' a=some o):LineV K H' n v:=h.imp id fun z=>z.to k
theorem BadBar.to (h:BadBar K H v) (k:∀ a o,v=.ref a->H a=some o->H' a=some o):BadBar K H' v:=h.imp id fun z=>⟨z.1.to k,z.2⟩
theorem BarT.to (h:BarT K H v) (k:∀ a o,v=.ref a->H a=some o->H' a=some o):BarT K H' v:=h.imp id fun z=>z.to k
theorem DeedOk.to (h:DeedOk K H n d) (k:∀ a o,.ref a∈d.parts->H a=some o->H' a=some o):DeedOk K H' n d:=by
 cases d with
 | flag i w v=>exact LineV.to h fun a o e=>k a o (by rw[e];simp[Dd.parts])
 | fin v=>exact LineV.to h fun a o e=>k a o (by rw[e];simp[Dd.parts])
 | bar v=>exact BarT.to h fun a o e=>k a o (by rw[e];simp[Dd.parts])
 | take=>exact True.intro
 | best=>exact True.intro
end
inductive FW:Str->(V->Dd)->Prop
 | ring:FW "ring" (.flag true true)
 | calm:FW "calm" (.flag true false)
 | mute:FW "mute" (.flag false true)
 | free:FW "free" (.flag false false)
 | fin:FW "end" .fin
theorem FW.parts {x:Str}{k:V->Dd}(h:FW x k) (v:V):(k v).parts=[.str x,v]:=by cases h<;>rfl
theorem FW.ok {K:PySem.W.Frag}{H:Hp}{n:Nat}{x:Str}{k:V->Dd}(h:FW x k) {v:V}(hv:LineV K H n v):DeedOk K H n (k v):=by cases h<;>exact hv
def Jk:List V:=[.str "ring",.str "ring",.str "ring",.str "ring",.str "calm",.str "calm",.str "mute",.str "free",.str "free",.str "take",.str "take",.str "take",.str "end",.str "end",.str "bar",.str "best"]
theorem Zn1 {i:Int}(h0:0<=i) (h1:i<16):(atI Jk i=some (.str "take")\/atI Jk i=some (.str "best")\/atI Jk i=some (.str "bar"))\/∃ x k,atI Jk i=some (.str x)/\FW x k:=by
 have hi:i=0\/i=1\/i=2\/i=3\/i=4\/i=5\/i=6\/i=7\/i=8\/i=9\/i=10\/i=11\/i=12\/i=13\/i=14\/i=15:=by omega
 rcases hi with rfl|rfl|rfl|rfl|rfl|rfl|rfl|rfl|rfl|rfl|rfl|rfl|rfl|rfl|rfl|rfl
 ·exact .inr ⟨_,_,rfl,.ring⟩
 ·exact .inr ⟨_,_,rfl,.ring⟩
 ·exact .inr ⟨_,_,rfl,.ring⟩
 ·exact .inr ⟨_,_,rfl,.ring⟩
 ·exact .inr ⟨_,_,rfl,.calm⟩
 ·exact .inr ⟨_,_,rfl,.calm⟩
 ·exact .inr ⟨_,_,rfl,.mute⟩
 ·exact .inr ⟨_,_,rfl,.free⟩
 ·exact .inr ⟨_,_,rfl,.free⟩
 ·exact .inl (.inl rfl)
 ·exact .inl (.inl rfl)
 ·exact .inl (.inl rfl)
 ·exact .inr ⟨_,_,rfl,.fin⟩
 ·exact .inr ⟨_,_,rfl,.fin⟩
 ·exact .inl (.inr (.inr rfl))
 ·exact .inl (.inr (.inl rfl))
theorem Zkc (ns:List Int) (lo hi:Option Int):∃ ms:List Int,cutV (ns.map V.int) lo hi=ms.map V.int/\ms.length<=ns.length/\∀ x∈ms,x∈ns:=by
 refine⟨(ns.drop (HT.sIx ns.length 0 lo)).take (HT.sIx ns.length ns.length hi - HT.sIx ns.length 0 lo),?_,?_,fun x hx=>List.mem_of_mem_drop (List.mem_of_mem_take hx)⟩
 ·unfold cutV
  rw[List.length_map,← List.map_drop,← List.map_take]
 ·rw[List.length_take,List.length_drop]
  omega
section
variable {P:Program}{w:World}{K:PySem.W.Frag}{mg:Str->Option Value}{base:Heap}
theorem bar7 {p1 p2:Addr}{H:Hp}{x:Str}{i:Int}(h0:0<=i) (h1:i<7) (e1:H p1=some (.lst [.int 0])) (e2:H p2=some (.tup [.int 1])) :
  ∃ v,atI [V.int (-1),.int (10 ^ (60:Int).toNat+1),.bl true,.bl false,.str x,.ref p1,.ref p2] i=some v/\BadBar K H v:=by
 have hi:i=0\/i=1\/i=2\/i=3\/i=4\/i=5\/i=6:=by omega
 have e:(10:Int) ^ (60:Int).toNat=M60:=rfl
 have hp:=Zck
 rcases hi with rfl|rfl|rfl|rfl|rfl|rfl|rfl
 ·exact⟨_,rfl,.inl ⟨_,rfl,by omega⟩⟩
 ·exact⟨_,rfl,.inl ⟨_,rfl,by rw[e];omega⟩⟩
 ·exact⟨_,rfl,.inr ⟨Zc6 _,by simp⟩⟩
 ·exact⟨_,rfl,.inr ⟨Zc6 _,by simp⟩⟩
 ·exact⟨_,rfl,.inr ⟨Zd0 _,by simp⟩⟩
 ·exact⟨_,rfl,.inr ⟨Zd2 e1,by simp⟩⟩
 ·exact⟨_,rfl,.inr ⟨Zhx e2,by simp⟩⟩
theorem Zte {p1:Addr}{H:Hp}{x:Str}{n:Nat}{i:Int}(hn:n<=60) (h0:0<=i) (h1:i<7) (e1:H p1=some (.lst [.int 0])) :
  ∃ v,atI [V.int (-1),.int n,.bl true,.non,.str x,.ref p1,.int (10 ^ (30:Int).toNat)] i=some v/\Odd K H n v:=by
 have hi:i=0\/i=1\/i=2\/i=3\/i=4\/i=5\/i=6:=by omega
 have hp:(60:Int)<(10:Int) ^ (30:Int).toNat:=by decide
 rcases hi with rfl|rfl|rfl|rfl|rfl|rfl|rfl
 ·exact⟨_,rfl,.inl ⟨_,rfl,by omega⟩⟩
 ·exact⟨_,rfl,.inl ⟨_,rfl,by omega⟩⟩
 ·exact⟨_,rfl,.inr (Zc6 _)⟩
 ·exact⟨_,rfl,.inr Zhy⟩
 ·exact⟨_,rfl,.inr (Zd0 _)⟩
 ·exact⟨_,rfl,.inr (Zd2 e1)⟩
 ·exact⟨_,rfl,.inl ⟨_,rfl,by omega⟩⟩
def Zm3 (K:PySem.W.Frag):Sp:=fun vs H Q _=>∃ (c:Int) (a:Addr) (rk:List Int),vs=[.int c,.ref a]/\H a=some (.lst (rk.map V.int))/\1<=rk.length/\rk.length<=60/\(∀ y∈rk,0<=y/\y<M60)/\∀ v H',Same H H'->BarT K H' v->(∀ z,v=.ref z->H z=none)->Q v H'
theorem Zit:FnScope ["_law_cell", "_law_ranks_here", "_law_pick", "_law_way"] ["_law_cell", "_law_ranks_here"] (Zg (top 52)):=⟨rfl,rfl,rfl,by decide+kernel,rfl,by decide+kernel,by decide+kernel⟩
set_option maxHeartbeats 2000000 in
theorem Zsc (D:Def K mg "_law_bar" (top 52) ["_law_cell", "_law_ranks_here"]) (T:Txt K mg):Fu P w K mg base CX0 1 "_law_bar" ["_law_cell", "_law_ranks_here"] (Zm3 K):=by
 refine D.fu Zit (fun vs H Q E h=>?_) (fun f cdv A outer s H vs Q E hr h=>?_)
 ·obtain⟨c,a,rk,rfl,_⟩:=h
  rfl
 ·obtain⟨c,a,rk,rfl,ha,l1,l60,hrk,kk⟩:=h
  refine⟨_,Zh (Zp (i:=2) Zit.nd rfl (.inl rfl) (Zi Zv (Zi Yo (pv 0) Zd) Zd))
   (Zh (Zp (i:=3) Zit.nd rfl (.inl rfl) (Zi Zv (Zi Zv (Zi Yo (pv 0) Zd) Zd) Zd))
   (Zh (Zn (Zu Zg8 (pv 3) Zd (Zs _)) (Zf (Zj Y4)) Zo)
   (Zh (Zn (Zu Zy (pv 3) Zd (Zs _)) (Zf (Zj (Zi Zv (pv 0) (Zi Yi (Zi Yz Zd Zd) Zd)))) Zo)
   (Zh (Zn (Zu Zy (pv 3) Zd (Zs _)) (Zf (Zj (Zr Z9 (Z0 (Za Zd (Za (Zi Yz Zd Zd) Zc))) (Zi Zv (pv 2) Zd) (fun _ _=>rfl)))) Zo)
   (Zh (Zn (Zu Zy (pv 3) Zd (Zs _)) (Zf (Zj (Zr Z9 (Z0 (Za (Zg6 Zcq Zd) (Za (Zi Yi (Zi Yz Zd Zd) Zd) (Za Ye (Za Ye (Za Zq (Za (Z0 (Za Zd Zc)) (Za (Z5 (Za Zd Zc)) Zc)))))))) (Zi Zv (pv 2) Zd) (fun _ _=>rfl)))) Zo)
   (Zf (Zj (Zi Yi (Zr Z9 (pv 1) (Zi Zv (pv 2) (Yc T.len (pv 1))) (fun _ _=>rfl)) (Zi Zv (pv 0) Zd))))))))),?_⟩
  have hn:(0:Int)<(rk.length:Int):=by omega
  have eM:(10:Int) ^ (60:Int).toNat=M60:=rfl
  have hp:=Zck
  refine⟨_,rfl,_,_,rfl,rfl,.inr (by constructor<;>decide),_,_,rfl,rfl,(by show (0:Int)<2147483647;decide),?_⟩
  refine⟨_,rfl,_,_,rfl,rfl,.inr (by constructor<;>decide),_,_,rfl,rfl,(by show (0:Int)<2147483647;decide),_,_,rfl,rfl,(by show (0:Int)<8;decide),?_⟩
  dsimp only
  generalize c * 62089911 % 2147483647=pk
  generalize c * 1343714438 % 2147483647 % 8=wy
  refine⟨_,rfl,_,_,rfl,rfl,_,rfl,ite2 (fun _=>kk .non H (Same.refl _) (.inl (.inl rfl)) (fun z e=>by cases e)) (fun _=>?_)⟩
  refine⟨_,rfl,rfl,_,rfl,ite2 (fun _=>?_) (fun _=>?_)⟩
  ·refine⟨_,rfl,_,_,rfl,rfl,cpow _ _ (by decide+kernel),_,_,rfl,rfl,_,_,rfl,rfl,(by show (0:Int)<10 ^ (60:Int).toNat+1;decide),?_⟩
   refine kk _ H (Same.refl _) (.inl (.inr ⟨_,rfl,Int.emod_nonneg _ (by decide),?_⟩)) (fun z e=>by cases e)
   have:=Int.emod_lt_of_pos c (show (0:Int)<10 ^ (60:Int).toNat+1 by decide)
   rw[eM] at this
   rw[eM]
   omega
  refine⟨_,rfl,rfl,_,rfl,ite2 (fun _=>?_) (fun _=>?_)⟩
  ·refine⟨_,_,rfl,rfl,cpow _ _ (by decide+kernel),(by show 2<=sizeLine;decide),fun l hl=>?_⟩
   obtain⟨z,ez,z0,z1⟩:=Zmo (i:=pk % 2) (by omega)
   exact⟨_,rfl,_,_,rfl,rfl,(by show (0:Int)<2;decide),l,_,_,_,rfl,rfl,SqL.of Ze,ez,kk _ _ (Same.new hl) (.inl (.inr ⟨z,rfl,z0,z1⟩)) (fun z e=>by cases e)⟩
  refine⟨_,rfl,rfl,_,rfl,ite2 (fun _=>?_) (fun _=>?_)⟩
  ·refine⟨_,rfl,_,_,rfl,rfl,cpow _ _ (by decide+kernel),_,_,rfl,rfl,(by show 1<=sizeLine;decide),fun p1 h1=>⟨(by show 1<=sizeLine;decide),fun p2 h2=>⟨(by show 7<=sizeLine;decide),fun d hd=>?_⟩⟩⟩
   have t1:=Same.new (o:=.lst [.int 0]) h1
   have t2:=Same.new (o:=.tup [.int 1]) h2
   have e1:=Ze (H:=H) (a:=p1) (o:=.lst [.int 0])
   have e2:=Ze (H:=upd H p1 (.lst [.int 0])) (a:=p2) (o:=.tup [.int 1])
   obtain⟨v,ev,hv⟩:=bar7 (K:=K) (x := "0") (i:=pk % 7) (by omega) (by omega) ((t2.trans (Same.new hd)) _ _ e1) (Same.new hd _ _ e2)
   refine⟨_,rfl,_,_,rfl,rfl,(by show (0:Int)<7;decide),d,_,_,v,rfl,rfl,SqL.of Ze,ev,kk v _ ((t1.trans t2).trans (Same.new hd)) (.inr hv) fun z e=>?_⟩
   subst e
   have hi:pk % 7=0\/pk % 7=1\/pk % 7=2\/pk % 7=3\/pk % 7=4\/pk % 7=5\/pk % 7=6:=by omega
   rcases hi with h|h|h|h|h|h|h<;>rw[h] at ev
   ·cases ev
   ·cases ev
   ·cases ev
   ·cases ev
   ·cases ev
   ·cases ev;exact h1
   ·cases ev;exact t1.free h2
  have hj:0<=pk % (rk.length:Int)/\pk % (rk.length:Int)<rk.length:=⟨Int.emod_nonneg _ (by omega),Int.emod_lt_of_pos _ hn⟩
  refine⟨_,rfl,_,rfl,_,rfl,a,_,rfl,.inl (SqL.of ha),?_⟩
  rw[List.length_map]
  refine⟨_,_,rfl,rfl,hn,a,_,_,_,rfl,rfl,SqL.of ha,Y7 hj.1 hj.2,_,rfl,_,_,rfl,rfl,(by show (0:Int)<2;decide),_,_,rfl,rfl,?_⟩
  refine kk _ H (Same.refl _) (.inl (.inr ⟨_,rfl,?_⟩)) (fun z e=>by cases e)
  have hm:(pk % (rk.length:Int)).toNat<rk.length:=by omega
  have hr2:=hrk _ (List.getElem_mem hm)
  have eg:rk.getD (pk % (rk.length:Int)).toNat 0=rk[(pk % (rk.length:Int)).toNat]:=by simp[List.getD,hm]
  rw[eg]
  omega
def Zmz (K:PySem.W.Frag):Sp:=fun vs H Q _=>∃ (c:Int) (a t p0 p1 p2:Addr) (rk l0 l1 pl:List Int) (v:V),vs=[.int c,.ref a,.ref t]/\H a=some (.lst (rk.map V.int))/\1<=rk.length/\rk.length<=60/\(∀ y∈rk,0<=y/\y<M60)/\ScAt H t p0 p1 p2 l0 l1 pl v/\PicOk rk l0 l1 pl v /\
 ∀ u d H',Same H H'->H u=none->DeedAt H' u d->DeedOk K H' rk.length d->(∀ z,.ref z∈d.parts->H z=none)->Q (.ref u) H'
theorem Y9:FnScope ["_law_cell", "_law_ranks_here", "_law_picture", "_law_some", "_law_word", "_law_pick", "_law_way", "_law_line", "_law_rows"] ["_law_cell", "_law_ranks_here", "_law_picture"] (Zg (top 53)):=⟨rfl,rfl,rfl,by decide+kernel,rfl,by decide+kernel,by decide+kernel⟩
theorem FW.row {x:Str}{k:V->Dd}(h:FW x k) (a0 a1 a2 a3 a4:V):∃ r,(r=a0\/r=a1\/r=a2\/r=a3\/r=a4)/\valV (Zb9 [] [(Sum.inr "ring",a0),(Sum.inr "calm",a1),(Sum.inr "mute",a2),(Sum.inr "free",a3),(Sum.inr "end",a4)]) (Sum.inr x)=some r:=by
 cases h with
 | ring=>exact⟨a0,.inl rfl,rfl⟩
 | calm=>exact⟨a1,.inr (.inl rfl),rfl⟩
 | mute=>exact⟨a2,.inr (.inr (.inl rfl)),rfl⟩
 | free=>exact⟨a3,.inr (.inr (.inr (.inl rfl))),rfl⟩
 | fin=>exact⟨a4,.inr (.inr (.inr (.inr rfl))),rfl⟩
theorem FW.ne {x:Str}{k:V->Dd}(h:FW x k):x ≠ "take" /\ x ≠ "best" /\ x ≠ "bar" := by cases h<;>exact⟨by decide,by decide,by decide⟩
end
end K10
namespace L3
open PySem PySem.Spec PyProof.Rows L2
theorem Zg2 {c:Const}{j p}{es:List Expr}{env:Env}:starEach (.Constant c j p::es) env=(false,eval (.Constant c j p) env)::starEach es env:=rfl
section
variable {X:Cx}{es:List Expr}{t:TA}
theorem pa_s {x j p}(hr:PA X es t):PA X (.Constant (.str x) j p::es) (Yr (tC (.str x)) t):=Za Zq hr Zg2
def tS8 (l:List V):TE:=fun _ H Q=>∀ p,H p=none->Q (.ref p) (upd H p (.lst l))
theorem Zq8 {x1 x2 x3 x4 x5 x6 x7 x8:Str}{k1 k2 k3 k4 k5 k6 k7 k8}{p1 p2 p3 p4 p5 p6 p7 p8 pos:Pos} :
  PE X (.List [.Constant (.str x1) k1 p1,.Constant (.str x2) k2 p2,.Constant (.str x3) k3 p3,.Constant (.str x4) k4 p4,.Constant (.str x5) k5 p5,.Constant (.str x6) k6 p6,.Constant (.str x7) k7 p7,.Constant (.str x8) k8 p8] pos) (tS8 [.str x1,.str x2,.str x3,.str x4,.str x5,.str x6,.str x7,.str x8]):=by
 have h:=Z0 (X:=X) (pos:=pos) (pa_s (x:=x1) (j:=k1) (p:=p1) (pa_s (x:=x2) (j:=k2) (p:=p2) (pa_s (x:=x3) (j:=k3) (p:=p3) (pa_s (x:=x4) (j:=k4) (p:=p4) (pa_s (x:=x5) (j:=k5) (p:=p5) (pa_s (x:=x6) (j:=k6) (p:=p6) (pa_s (x:=x7) (j:=k7) (p:=p7) (pa_s (x:=x8) (j:=k8) (p:=p8) Zc))))))))
 exact fun pins s σ H Q I q=>h pins s σ H Q I ⟨by show 8<=sizeLine;decide,q⟩
end
end L3
namespace K10
open PySem L2 L3
section
variable {P:Program}{w:World}{K:PySem.W.Frag}{mg:Str->Option Value}{base:Heap}
theorem _root_.L2.Room.un1 {k:Nat}{A:Around}(r:Room k A):A.units+1<cLine:=by have:=r.un;omega
set_option maxHeartbeats 4000000 in
theorem Zr7 (D:Def K mg "_law_deed" (top 53) ["_law_cell", "_law_ranks_here", "_law_picture"]) (T:Txt K mg) (GB:Fu P w K mg base CX0 1 "_law_bar" ["_law_cell", "_law_ranks_here"] (Zm3 K)):Fu P w K mg base CX0 2 "_law_deed" ["_law_cell", "_law_ranks_here", "_law_picture"] (Zmz K):=by
 refine D.fu Y9 (fun vs H Q E h=>?_) (fun f cdv A outer s H vs Q E hr h=>?_)
 ·obtain⟨c,a,t,p0,p1,p2,rk,l0,l1,pl,v,rfl,_⟩:=h
  rfl
 ·obtain⟨c,a,t,p0,p1,p2,rk,l0,l1,pl,v,rfl,ha,h1,h60,hrk,S,ok,kk⟩:=h
  have hu:=hr.un1
  refine⟨_,Zh (Zp (i:=3) Y9.nd rfl (.inl rfl) (Zq8))
   (Zh (Zp (i:=3) Y9.nd rfl (.inl rfl) (Zi Zbr (pv 3) (Zq8)))
   (Zh (Zp (i:=4) Y9.nd rfl (.inl rfl) (Zr Z9 (pv 3) (Zi Zv (Zi Zv (Zi Yo (pv 0) Zd) Zd) Zd) (fun _ _=>rfl)))
   (Zh (Zn (Yy (Zu Zy (pv 4) Zq (Zs _)) (Ja (Zu Zy (pv 4) Zq (Zs _)))).pt (Zf (Zj (Z5 (Za (pv 4) Zc)))) Zo)
   (Zh (Zn (Zu Zy (pv 4) Zq (Zs _)) (Zf (Zj (Z5 (Za Zq (Za (pc GB hr Zk (Za (pv 0) (Za (pv 1) Zc))) Zc))))) Zo)
   (Zh (Zp (i:=5) Y9.nd rfl (.inl rfl) (Zi Zv (Zi Yo (pv 0) Zd) Zd))
   (Zh (Zp (i:=6) Y9.nd rfl (.inl rfl) (Zi Zv (Zi Zv (Zi Yo (pv 0) Zd) Zd) Zd))
   (Zh (Zp (i:=7) Y9.nd rfl (.inl rfl) (Zi Zv (pv 5) (Yc T.len (pv 1))))
   (Zh (Zp (i:=8) Y9.nd rfl (.inl rfl) (Zo3 (Za7 Zq (Z0 Zc) (Za7 Zq (Zr Zx (pv 2) Zd (fun _ _=>rfl)) (Za7 Zq (Zr Zx (pv 2) Zd (fun _ _=>rfl)) (Za7 Zq (Zr Zx (pv 2) Zd (fun _ _=>rfl)) (Za7 Zq (Jo Jm (Zr Zx (pv 2) Zd (fun _ _=>rfl)) (Jb (Zg6 Zcq Zd)) Zak) Zoy))))) rfl rfl (by simp) (by decide)))
   (Zh (Zn (Zb6 (Zu Zrh (pv 6) Zd (Zs _)) (Zar (Zu (Zrf hr.units) (Zfo hu (pv 8) (pv 4) (fun _ _=>rfl)) (Z0 Zc) (Zs _)))).pt
     (Zf (Zp (i:=7) Y9.nd rfl (.inl rfl) (Zr Z9 (Zfo hu (pv 8) (pv 4) (fun _ _=>rfl)) (Zi Zv (pv 5) (Yc T.len (Zfo hu (pv 8) (pv 4) (fun _ _=>rfl)))) (fun _ _=>rfl)))) Zo)
   (Zh (Zn (Zu Zy (pv 6) Zd (Zs _)) (Zf (Zp (i:=7) Y9.nd rfl (.inl rfl) (Zr Z9 (Z0 (Za (Zg6 Zcq Zd) (Za (Yc T.len (pv 1)) (Za Ye (Za Y4 (Za Zq (Za (Z0 (Za Zd Zc)) (Za (Zi Yz Zd Zd) Zc)))))))) (Zi Zv (pv 5) Zd) (fun _ _=>rfl)))) Zo)
   (Zf (Zj (Z5 (Za (pv 4) (Za (pv 7) Zc))))))))))))))),?_⟩
  refine fun s0 n0=>?_
  have u0:=Same.new (o:=.lst [.str "ring",.str "ring",.str "ring",.str "ring",.str "calm",.str "calm",.str "mute",.str "free"]) n0
  have g0:=Ze (H:=H) (a:=s0) (o:=.lst [.str "ring",.str "ring",.str "ring",.str "ring",.str "calm",.str "calm",.str "mute",.str "free"])
  refine⟨_,rfl,fun s1 n1=>?_⟩
  have u1:=Same.new (o:=.lst [.str "free",.str "take",.str "take",.str "take",.str "end",.str "end",.str "bar",.str "best"]) n1
  refine⟨s0,s1,_,_,rfl,rfl,u1 _ _ g0,Ze,(by show 16<=sizeLine;decide),fun s2 n2=>?_⟩
  have u2:=Same.new (o:=.lst Jk) n2
  have s02:=(u0.trans u1).trans u2
  have g2:=Ze (H:=upd (upd H s0 (.lst [.str "ring",.str "ring",.str "ring",.str "ring",.str "calm",.str "calm",.str "mute",.str "free"])) s1 (.lst [.str "free",.str "take",.str "take",.str "take",.str "end",.str "end",.str "bar",.str "best"])) (a:=s2) (o:=.lst Jk)
  show tSeq _ _ _ _ (upd (upd (upd H s0 (.lst [.str "ring",.str "ring",.str "ring",.str "ring",.str "calm",.str "calm",.str "mute",.str "free"])) s1 (.lst [.str "free",.str "take",.str "take",.str "take",.str "end",.str "end",.str "bar",.str "best"])) s2 (.lst Jk))
  generalize upd (upd (upd H s0 (.lst [.str "ring",.str "ring",.str "ring",.str "ring",.str "calm",.str "calm",.str "mute",.str "free"])) s1 (.lst [.str "free",.str "take",.str "take",.str "take",.str "end",.str "end",.str "bar",.str "best"])) s2 (.lst Jk)=H2 at s02 g2 ⊢
  clear u0 g0 u1 u2 n0 n1 n2
  refine⟨_,rfl,_,rfl,_,_,rfl,rfl,.inr (by constructor<;>decide),_,_,rfl,rfl,(by show (0:Int)<2147483647;decide),_,_,rfl,rfl,(by show (0:Int)<16;decide),s2,Jk,c * 950706376 % 2147483647 % 16,?_⟩
  have ha2:=s02 _ _ ha
  have S2:=S.same s02
  rcases Zn1 (i:=c * 950706376 % 2147483647 % 16) (by omega) (by omega) with (e|e|e)|⟨x,k,e,fw⟩
  ·refine⟨_,rfl,rfl,SqL.of g2,e,?_⟩
   refine⟨_,rfl,rfl,_,rfl,Z2 (by decide) (iteT ⟨_,rfl,(by show 1<=sizeLine;decide),fun u nu=>?_⟩)⟩
   exact kk u .take _ (s02.trans (Same.new nu)) (s02.free nu) Ze True.intro fun z hz=>by simp[Dd.parts] at hz
  ·refine⟨_,rfl,rfl,SqL.of g2,e,?_⟩
   refine⟨_,rfl,rfl,_,rfl,Zm (by decide) ⟨_,rfl,rfl,_,rfl,Z2 (by decide) ⟨_,rfl,(by show 1<=sizeLine;decide),fun u nu=>?_⟩⟩⟩
   exact kk u .best _ (s02.trans (Same.new nu)) (s02.free nu) Ze True.intro fun z hz=>by simp[Dd.parts] at hz
  ·refine⟨_,rfl,rfl,SqL.of g2,e,?_⟩
   refine⟨_,rfl,rfl,_,rfl,Zm (by decide) ⟨_,rfl,rfl,_,rfl,Zm (by decide) ?_⟩⟩
   refine⟨_,rfl,rfl,_,rfl,Z2 (by decide) ⟨_,rfl,_,rfl,c,a,rk,rfl,ha2,h1,h60,hrk,fun v' H3 s3 hb hz=>⟨(by show 2<=sizeLine;decide),fun u nu=>?_⟩⟩⟩
   have s4:=Same.new (o:=.tup [.str "bar",v']) nu
   refine kk u (.bar v') _ ((s02.trans s3).trans s4) ((s02.trans s3).free nu) Ze (hb.to fun z o _ ez=>s4 _ _ ez) fun z hz'=>s02.free (hz z ?_)
   simpa [Dd.parts,eq_comm] using hz'
  ·obtain⟨w1,w2,w3⟩:=fw.ne
   have ne:∀ y:Str,x≠y->decide (V.str x=V.str y)=false:=fun y h=>decide_eq_false fun z=>h (by injection z)
   refine⟨_,rfl,rfl,SqL.of g2,e,?_⟩
   refine⟨_,rfl,rfl,_,rfl,Zm (ne _ w1) ⟨_,rfl,rfl,_,rfl,Zm (ne _ w2) ?_⟩⟩
   refine⟨_,rfl,rfl,_,rfl,Zm (ne _ w3) ?_⟩
   refine⟨_,rfl,_,_,rfl,rfl,.inr (by constructor<;>decide),_,_,rfl,rfl,(by show (0:Int)<2147483647;decide),?_⟩
   refine⟨_,rfl,_,_,rfl,rfl,.inr (by constructor<;>decide),_,_,rfl,rfl,(by show (0:Int)<2147483647;decide),_,_,rfl,rfl,(by show (0:Int)<12;decide),?_⟩
   have hn:(0:Int)<(rk.length:Int):=by omega
   refine⟨_,rfl,_,rfl,a,_,rfl,.inl (SqL.of ha2),?_⟩
   rw[List.length_map]
   refine⟨_,_,rfl,rfl,hn,?_⟩
   dsimp only
   have hj:0<=c * 742938285 % 2147483647 % (rk.length:Int)/\c * 742938285 % 2147483647 % (rk.length:Int)<rk.length:=⟨Int.emod_nonneg _ (by omega),Int.emod_lt_of_pos _ hn⟩
   have hpk:0<=c * 742938285 % 2147483647:=by omega
   generalize c * 742938285 % 2147483647 % (rk.length:Int)=ln at hj ⊢
   generalize c * 742938285 % 2147483647=pk at hpk ⊢
   generalize c * 1226874159 % 2147483647 % 12=wy
   refine fun dd ndd=>?_
   have v0:=Same.new (o:=.dK []) ndd
   have f0:=Ze (H:=H2) (a:=dd) (o:=.dK [])
   refine⟨(by show 0<=sizeLine;decide),fun e0 ne0=>?_⟩
   have v1:=Same.new (o:=.lst []) ne0
   have q0:=Ze (H:=upd H2 dd (.dK [])) (a:=e0) (o:=.lst [])
   have v01:=v0.trans v1
   have S3:=S2.same v01
   refine⟨_,rfl,t,_,_,_,rfl,rfl,SqT.of S3.at_,rfl,_,rfl,t,_,_,_,rfl,rfl,SqT.of S3.at_,rfl,_,rfl,t,_,_,_,rfl,rfl,SqT.of S3.at_,rfl,_,rfl,t,_,_,_,rfl,rfl,SqT.of S3.at_,rfl,_,rfl,_,rfl,p2,_,rfl,SqL.of S3.e2,fun e4 ne4=>?_⟩
   obtain⟨tl,etl,ltl,mtl⟩:=Zkc pl (some (-1)) none
   have etl':cutV (pl.map V.int) (some (-1)) none=tl.map V.int:=etl
   have v2:=Same.new (o:=.lst (cutV (pl.map V.int) (some (-1)) none)) ne4
   have q4:=Ze (H:=upd (upd H2 dd (.dK [])) e0 (.lst [])) (a:=e4) (o:=.lst (cutV (pl.map V.int) (some (-1)) none))
   have n0d:e0≠dd:=(Zl f0 ne0).symm
   have n4d:e4≠dd:=(Zl (v1 _ _ f0) ne4).symm
   have fd:=v2 _ _ (v1 _ _ f0)
   have v012:=v01.trans v2
   have q0':=v2 _ _ q0
   refine⟨fd,[((Sum.inr "ring" : Key),.ref e0),((Sum.inr "calm" : Key),.ref p0),((Sum.inr "mute" : Key),.ref p0),((Sum.inr "free" : Key),.ref p1),((Sum.inr "end" : Key),.ref e4)],rfl,(by simp),?_⟩
   obtain⟨r,hr5,hval⟩:=fw.row (.ref e0) (.ref p0) (.ref p0) (.ref p1) (.ref e4)
   generalize Zb9 [] [((Sum.inr "ring" : Key),V.ref e0),((Sum.inr "calm" : Key),.ref p0),((Sum.inr "mute" : Key),.ref p0),((Sum.inr "free" : Key),.ref p1),((Sum.inr "end" : Key),.ref e4)]=kvs at hval ⊢
   generalize upd (upd (upd H2 dd (.dK [])) e0 (.lst [])) e4 (.lst (cutV (pl.map V.int) (some (-1)) none))=H5 at v2 v012 fd q0' q4 ⊢
   rw[etl'] at q4
   have s26:Same H2 (upd H5 dd (.dK kvs)):=fun b o e=>by
    rw[Zb (Zl e ndd)]
    exact v012 b o e
   have gd:=Ze (H:=H5) (a:=dd) (o:=.dK kvs)
   rw[← Zb (H:=H5) (o:=.dK kvs) n0d] at q0'
   rw[← Zb (H:=H5) (o:=.dK kvs) n4d] at q4
   have S6:=S2.same s26
   have hrow:∃ (ra:Addr) (ms:List Int),r=.ref ra/\upd H5 dd (.dK kvs) ra=some (.lst (ms.map V.int))/\∀ y∈ms,0<=y/\y<(rk.length:Int):=by
    rcases hr5 with h|h|h|h|h
    ·exact⟨e0,[],h,q0',by simp⟩
    ·exact⟨p0,l0,h,S6.e0,ok.i0⟩
    ·exact⟨p0,l0,h,S6.e0,ok.i0⟩
    ·exact⟨p1,l1,h,S6.e1,ok.i1⟩
    ·exact⟨e4,tl,h,q4,fun y hy=>ok.i2 y (mtl y hy)⟩
   obtain⟨ra,ms,rfl,gra,hms⟩:=hrow
   have s06:=s02.trans s26
   have ha6:=s26 _ _ ha2
   clear hr5 v2 v012 fd q0' q4 v0 f0 v1 v01 q0 S3 ne4 n0d n4d S6 etl etl' ne0
   generalize upd H5 dd (.dK kvs)=H6 at s26 gd gra s06 ha6 ⊢
   have hg:∀ H',Same H6 H'->DGet H' dd (.str x) (some (.ref ra)):=fun H' sm=>by
    have z:=DGet.k (k:=(Sum.inr x:Key)) (sm _ _ gd)
    rw[hval] at z
    exact z
   refine Yg fun M0 h0=>h0 _ _ (Yg fun M1 h1=>?_)
   have fin:∀ (j:Int) (H7:Hp),0<=j->j<rk.length->Same H6 H7->M1 [some (.int c),some (.ref a),some (.ref t),some (.ref s2),some (.str x),some (.int pk),some (.int wy),some (.int j),some (.ref dd)] H7:=by
    intro j H7 j0 j1 s67
    refine h1 _ _ (Yg fun M2 h2=>?_)
    have fin2:∀ (lv:V) (H8:Hp),LineV K H8 rk.length lv->(∀ z,lv=.ref z->H z=none)->Same H H8->M2 [some (.int c),some (.ref a),some (.ref t),some (.ref s2),some (.str x),some (.int pk),some (.int wy),some lv,some (.ref dd)] H8:=by
     intro lv H8 hl hf s8
     refine h2 _ _ ⟨_,rfl,_,rfl,(by show 2<=sizeLine;decide),fun u nu=>?_⟩
     have s9:=Same.new (o:=.tup [.str x,lv]) nu
     refine kk u (k lv) _ (s8.trans s9) (s8.free nu) (by show _=some (HO.tup (k lv).parts);rw[fw.parts];exact Ze) (fw.ok (hl.to fun z o _ e=>s9 _ _ e)) fun z hz=>?_
     rw[fw.parts] at hz
     exact hf z (by simpa [eq_comm] using hz)
    refine⟨_,rfl,rfl,_,rfl,ite2 (fun _=>?_) (fun _=>fin2 _ _ (.inl ⟨j,rfl,j0,j1⟩) (fun z e=>by cases e) (s06.trans s67))⟩
    refine⟨_,rfl,_,rfl,a,_,rfl,.inl (SqL.of (s67 _ _ ha6)),(by show 1<=sizeLine;decide),fun y1 ny1=>⟨_,_,rfl,rfl,cpow _ _ (by decide+kernel),(by show 7<=sizeLine;decide),fun y2 ny2=>?_⟩⟩
    have z1:=Same.new (o:=.lst [.int 0]) ny1
    have g1:=Ze (H:=H7) (a:=y1) (o:=.lst [.int 0])
    have z2:=Same.new (o:=.lst [V.int (-1),.int rk.length,.bl true,.non,.str "0",.ref y1,.int (10 ^ (30:Int).toNat)]) ny2
    obtain⟨lv,ev,hv⟩:=Zte (K:=K) (x := "0") (n:=rk.length) (i:=pk % 7) h60 (by omega) (by omega) (z2 _ _ g1)
    refine⟨_,rfl,_,_,rfl,rfl,(by show (0:Int)<7;decide),y2,_,_,lv,rfl,rfl,SqL.of Ze,(by rw[List.length_map];exact ev),?_⟩
    rw[List.length_map]
    refine fin2 lv _ (.inr hv) (fun z e=>?_) ((s06.trans s67).trans (z1.trans z2))
    subst e
    have hi:pk % 7=0\/pk % 7=1\/pk % 7=2\/pk % 7=3\/pk % 7=4\/pk % 7=5\/pk % 7=6:=by omega
    rcases hi with h|h|h|h|h|h|h<;>rw[h] at ev
    ·cases ev
    ·cases ev
    ·cases ev
    ·cases ev
    ·cases ev
    ·cases ev;exact(s06.trans s67).free ny1
    ·cases ev
   refine⟨_,rfl,_,_,rfl,rfl,_,rfl,ite2 (fun _=>?_) (fun _=>iteF (fin ln _ hj.1 hj.2 (Same.refl _)))⟩
   refine⟨_,rfl,_,rfl,dd,_,rfl,hg _ (Same.refl _),(by show 0<=sizeLine;decide),fun l nl=>⟨ra,l,ms,[],rfl,rfl,SqL.of (Same.new nl _ _ gra),SqL.of Ze,_,rfl,ite2 (fun hne=>?_) (fun _=>fin ln _ hj.1 hj.2 (Same.new nl))⟩⟩
   have hms0:0<ms.length:=by
    cases ms with
    | nil=>simp at hne
    | cons _ _=>simp
   refine⟨_,rfl,_,rfl,dd,_,rfl,hg _ (Same.new nl),_,rfl,_,rfl,_,rfl,dd,_,rfl,hg _ (Same.new nl),ra,_,rfl,.inl (SqL.of (Same.new nl _ _ gra)),?_⟩
   rw[List.length_map]
   have hk2:0<=pk % (ms.length:Int)/\pk % (ms.length:Int)<ms.length:=⟨Int.emod_nonneg _ (by omega),Int.emod_lt_of_pos _ (by omega)⟩
   refine⟨_,_,rfl,rfl,(by omega),ra,_,_,_,rfl,rfl,SqL.of (Same.new nl _ _ gra),Y7 hk2.1 hk2.2,?_⟩
   have hm:(pk % (ms.length:Int)).toNat<ms.length:=by omega
   have hr2:=hms _ (List.getElem_mem hm)
   have eg:ms.getD (pk % (ms.length:Int)).toNat 0=ms[(pk % (ms.length:Int)).toNat]:=by simp[List.getD,hm]
   rw[eg]
   exact fin _ _ hr2.1 hr2.2 (Same.new nl)
end
end K10
namespace L3
open PySem L2
theorem Jh {CX:CXT}{P:Program}{w:World}{K:PySem.W.Frag}{mg:Str->Option Value}{base:Heap}{N:List Str}{qual:Str}{scope:Scope}{f:Addr}{cd:Value}{A:Around}{outer:List Env}{s:Shared}{H:Hp}{E:XK}:Body (cxOf CX P w K mg base N qual scope f cd A outer s H E).nox:=⟨rfl,rfl,rfl,fun _=>rfl⟩
end L3
namespace K10
open PySem L2 L3
def Ran (K:PySem.W.Frag) (H:Hp) (fw:Bool) (b:BS) (p:PG):Dd->Sum V Str->BS->PG->Prop
 | .flag isA wish v,r,b',p'=>(∃ i:Int,v=.int i/\0<=i/\i<b.rk.length/\r=.inl (.bl (Y6 b isA i != wish))/\b'=setA b isA wish i/\(fw=true->Zmj b (setA b isA wish i) i p p'))\/(Odd K H b.rk.length v/\r=.inr "line" /\ b'=b/\p'=p)
 | .bar v,r,b',p'=>(BarV v/\r=.inl b.lim/\b'={ b with lim:=v }/\p'=p)\/(BadBar K H v/\r=.inr "bar" /\ b'=b/\p'=p)
 | .fin v,r,b',p'=>(∃ i:Int,v=.int i/\0<=i/\i<b.rk.length/\((b.pl.getLast?=some i/\r=.inl (Yx b.pl.dropLast)/\b'={ b with pl:=b.pl.dropLast }/\p'=p)\/(b.pl.getLast?≠some i/\r=.inr "top" /\ b'=b/\p'=p)))\/(Odd K H b.rk.length v/\r=.inr "line" /\ b'=b/\p'=p)
 | .take,r,b',p'=>∃ v,Y8 b.rk b.best v/\r=.inl v/\Took fw b p v b' p'
 | .best,r,b',p'=>∃ v,Y8 b.rk b.best v/\r=.inl v/\b'=b/\p'=p
def CWd (CN CB CT:Addr) (wd:Str) (C':Addr):Prop:=(wd = "line" /\ C'=CN)\/(wd = "bar" /\ C'=CB)\/(wd = "top" /\ C'=CT)
structure XW (K:PySem.W.Frag) (mg:Str->Option Value) (CN CB CT:Addr):Prop where
 n:mg "NoLine" = some (.ref CN)
 b:mg "NoBar" = some (.ref CB)
 t:mg "NotTop" = some (.ref CT)
 tn:PySem.W.typeIn K (.ref CN)=some (.type "type")
 tb:PySem.W.typeIn K (.ref CB)=some (.type "type")
 tt:PySem.W.typeIn K (.ref CT)=some (.type "type")
 en:PySem.W.mroIn K CN (.type "BaseException")=some true
 eb:PySem.W.mroIn K CB (.type "BaseException")=some true
 et:PySem.W.mroIn K CT (.type "BaseException")=some true
 nn:PySem.W.mroIn K CN (.ref CN)=some true
 bn:PySem.W.mroIn K CB (.ref CN)=some false
 bb:PySem.W.mroIn K CB (.ref CB)=some true
 tn':PySem.W.mroIn K CT (.ref CN)=some false
 tb':PySem.W.mroIn K CT (.ref CB)=some false
 tt':PySem.W.mroIn K CT (.ref CT)=some true
section
variable {P:Program}{w:World}{K:PySem.W.Frag}{mg:Str->Option Value}{base:Heap}{CC:Bool->Addr}{CP P4 P5 CN CB CT:Addr}{L:Bool->Prop}
structure MG (P:Program) (w:World) (K:PySem.W.Frag) (mg:Str->Option Value) (base:Heap) (L:Bool->Prop) (CC:Bool->Addr) (CP P4 P5 CN CB CT:Addr):Prop where
 tb:∀ fw,L fw->BTxt K (CC fw)
 g1:∀ fw,L fw->FuM P w K mg base (CX1 P w) 10 (CC fw) "ring" ["self", "line"] (Jl K fw (CC fw) CP P4 P5 CN true true)
 g2:∀ fw,L fw->FuM P w K mg base (CX1 P w) 10 (CC fw) "calm" ["self", "line"] (Jl K fw (CC fw) CP P4 P5 CN true false)
 g3:∀ fw,L fw->FuM P w K mg base (CX1 P w) 10 (CC fw) "mute" ["self", "line"] (Jl K fw (CC fw) CP P4 P5 CN false true)
 g4:∀ fw,L fw->FuM P w K mg base (CX1 P w) 10 (CC fw) "free" ["self", "line"] (Jl K fw (CC fw) CP P4 P5 CN false false)
 g5:∀ fw,L fw->FuM P w K mg base (CX1 P w) 4 (CC fw) "bar" ["self", "rank"] (Zm2 K fw (CC fw) CP CB)
 g6:∀ fw,L fw->FuM P w K mg base (CX1 P w) 5 (CC fw) "end" ["self", "line"] (Zqm K fw (CC fw) CP P4 P5 CN CT)
 g7:∀ fw,L fw->FuM P w K mg base (CX1 P w) 11 (CC fw) "take" ["self"] (Zmt fw (CC fw) CP P4 P5)
 g8:∀ fw,L fw->FuM P w K mg base CX0 5 (CC fw) "best" ["self"] (Zf8 fw (CC fw) CP P4 P5)
def Zf7 (L:Bool->Prop) (K:PySem.W.Frag) (CC:Bool->Addr) (CP P4 P5 CN CB CT:Addr):Sp:=fun vs H Q E=>∃ (fw:Bool) (F:List Addr) (x:Addr) (b:BS) (p:PG) (u:Addr) (d:Dd),L fw/\vs=[.ref x,.ref u]/\Bd fw (CC fw) CP F H x b p/\TT P4 P5 H/\DeedAt H u d/\DeedOk K H b.rk.length d /\
 (∀ v H' F' b' p',KD P4 P5 F H H'->Nw H F F'->TT P4 P5 H'->Bd fw (CC fw) CP F' H' x b' p'->Ran K H fw b p d (.inl v) b' p'->Q v H')/\(∀ C' wd H',Same H H'->Ran K H fw b p d (.inr wd) b p->CWd CN CB CT wd C'->E (.ref C') none H')
theorem Zqw:FnScope ["_law_board_here", "_law_deed_here"] ["_law_board_here", "_law_deed_here"] (Zg (top 54)):=⟨rfl,rfl,rfl,by decide+kernel,rfl,by decide+kernel,by decide+kernel⟩
set_option maxHeartbeats 8000000 in
theorem Zsb (D:Def K mg "_law_call" (top 54) ["_law_board_here", "_law_deed_here"]) (G:MG P w K mg base L CC CP P4 P5 CN CB CT):Fu P w K mg base (CX1 P w) 12 "_law_call" ["_law_board_here", "_law_deed_here"] (Zf7 L K CC CP P4 P5 CN CB CT):=by
 refine D.fux Zqw (fun vs H Q E h=>?_) (fun f cdv A outer s H vs Q E hr h=>?_)
 ·obtain⟨fw,F,x,b,p,u,d,l,rfl,_⟩:=h
  rfl
 ·obtain⟨fw,F,x,b,p,u,d,l,rfl,D0,t,hd,dok,k1,k2⟩:=h
  have TB:=G.tb fw l
  have G1:=G.g1 fw l
  have G2:=G.g2 fw l
  have G3:=G.g3 fw l
  have G4:=G.g4 fw l
  have G5:=G.g5 fw l
  have G6:=G.g6 fw l
  have G7:=G.g7 fw l
  have G8:=G.g8 fw l
  refine⟨_,Zh (Zn (Zu Zy (Zr Zx (pv 1) Zd (fun _ _=>rfl)) Zq (Zs _)) (Zf (Zj (pm G1 TB.cl hr Yf (pv 0) (Za (Zr Zx (pv 1) Zd (fun _ _=>rfl)) Zc)))) Zo)
   (Zh (Zn (Zu Zy (Zr Zx (pv 1) Zd (fun _ _=>rfl)) Zq (Zs _)) (Zf (Zj (pm G2 TB.cl hr Yf (pv 0) (Za (Zr Zx (pv 1) Zd (fun _ _=>rfl)) Zc)))) Zo)
   (Zh (Zn (Zu Zy (Zr Zx (pv 1) Zd (fun _ _=>rfl)) Zq (Zs _)) (Zf (Zj (pm G3 TB.cl hr Yf (pv 0) (Za (Zr Zx (pv 1) Zd (fun _ _=>rfl)) Zc)))) Zo)
   (Zh (Zn (Zu Zy (Zr Zx (pv 1) Zd (fun _ _=>rfl)) Zq (Zs _)) (Zf (Zj (pm G4 TB.cl hr Yf (pv 0) (Za (Zr Zx (pv 1) Zd (fun _ _=>rfl)) Zc)))) Zo)
   (Zh (Zn (Zu Zy (Zr Zx (pv 1) Zd (fun _ _=>rfl)) Zq (Zs _)) (Zf (Zj (pm G5 TB.cl hr Yf (pv 0) (Za (Zr Zx (pv 1) Zd (fun _ _=>rfl)) Zc)))) Zo)
   (Zh (Zn (Zu Zy (Zr Zx (pv 1) Zd (fun _ _=>rfl)) Zq (Zs _)) (Zf (Zj (pm G6 TB.cl hr Yf (pv 0) (Za (Zr Zx (pv 1) Zd (fun _ _=>rfl)) Zc)))) Zo)
   (Zh (Zn (Zu Zy (Zr Zx (pv 1) Zd (fun _ _=>rfl)) Zq (Zs _)) (Zf (Zj (pm0 G7 TB.cl hr Yf (pv 0)))) Zo)
   (Zf (Zj (pm0 G8 TB.cl hr Zk (pv 0)))))))))),?_⟩
  obtain⟨ex,S,r,a,m,q,hF,B,R,off⟩:=D0.ex
  obtain⟨dx,e0⟩:=B.at_
  have hx:x∈F:=by rw[hF];simp
  have kF:∀ {H':Hp},KeepBut F H H'->KD P4 P5 F H H':=fun k z o e hz=>k z o e fun h=>hz (List.mem_append_right _ h)
  have tF:∀ {H':Hp},KeepBut F H H'->TT P4 P5 H':=fun k=>t.kb k D0.solid
  have kx:∀ {H':Hp},KeepBut [x] H H'->KeepBut F H H':=fun k z o e hz=>k z o e fun h=>hz (by rw[List.mem_singleton.mp h];exact hx)
  have kT:∀ {H':Hp},KB P4 P5 H H'->KD P4 P5 F H H':=fun k z o e hz=>k z o e fun h=>hz (List.mem_append_left _ h)
  cases d with
  | flag isA wish v =>
   cases isA<;>cases wish
   ·refine⟨_,rfl,u,_,_,_,rfl,rfl,SqT.of hd,rfl,rfl,_,rfl,Zm (by decide) ⟨_,rfl,u,_,_,_,rfl,rfl,SqT.of hd,rfl,rfl,_,rfl,Zm (by decide) ⟨_,rfl,u,_,_,_,rfl,rfl,SqT.of hd,rfl,rfl,_,rfl,Zm (by decide) ⟨_,rfl,u,_,_,_,rfl,rfl,SqT.of hd,rfl,rfl,_,rfl,Z2 (by decide) ⟨_,rfl,x,dx,_,rfl,e0,Z1 B.exo (by decide+kernel),_,rfl,u,_,_,_,rfl,rfl,SqT.of hd,rfl,F,x,b,p,_,rfl,D0,t,?_⟩⟩⟩⟩⟩
    rcases dok with ⟨i,rfl,h0,h1⟩|od
    ·exact .inl ⟨i,rfl,h0,h1,fun H' F' p' k nw t' D' st=>k1 _ H' F' _ p' k nw t' D' (.inl ⟨i,rfl,h0,h1,rfl,rfl,st⟩)⟩
    ·exact .inr ⟨od,k2 CN _ H (Same.refl _) (.inr ⟨od,rfl,rfl,rfl⟩) (.inl ⟨rfl,rfl⟩)⟩
   ·refine⟨_,rfl,u,_,_,_,rfl,rfl,SqT.of hd,rfl,rfl,_,rfl,Zm (by decide) ⟨_,rfl,u,_,_,_,rfl,rfl,SqT.of hd,rfl,rfl,_,rfl,Zm (by decide) ⟨_,rfl,u,_,_,_,rfl,rfl,SqT.of hd,rfl,rfl,_,rfl,Z2 (by decide) ⟨_,rfl,x,dx,_,rfl,e0,Z1 B.exo (by decide+kernel),_,rfl,u,_,_,_,rfl,rfl,SqT.of hd,rfl,F,x,b,p,_,rfl,D0,t,?_⟩⟩⟩⟩
    rcases dok with ⟨i,rfl,h0,h1⟩|od
    ·exact .inl ⟨i,rfl,h0,h1,fun H' F' p' k nw t' D' st=>k1 _ H' F' _ p' k nw t' D' (.inl ⟨i,rfl,h0,h1,rfl,rfl,st⟩)⟩
    ·exact .inr ⟨od,k2 CN _ H (Same.refl _) (.inr ⟨od,rfl,rfl,rfl⟩) (.inl ⟨rfl,rfl⟩)⟩
   ·refine⟨_,rfl,u,_,_,_,rfl,rfl,SqT.of hd,rfl,rfl,_,rfl,Zm (by decide) ⟨_,rfl,u,_,_,_,rfl,rfl,SqT.of hd,rfl,rfl,_,rfl,Z2 (by decide) ⟨_,rfl,x,dx,_,rfl,e0,Z1 B.exo (by decide+kernel),_,rfl,u,_,_,_,rfl,rfl,SqT.of hd,rfl,F,x,b,p,_,rfl,D0,t,?_⟩⟩⟩
    rcases dok with ⟨i,rfl,h0,h1⟩|od
    ·exact .inl ⟨i,rfl,h0,h1,fun H' F' p' k nw t' D' st=>k1 _ H' F' _ p' k nw t' D' (.inl ⟨i,rfl,h0,h1,rfl,rfl,st⟩)⟩
    ·exact .inr ⟨od,k2 CN _ H (Same.refl _) (.inr ⟨od,rfl,rfl,rfl⟩) (.inl ⟨rfl,rfl⟩)⟩
   ·refine⟨_,rfl,u,_,_,_,rfl,rfl,SqT.of hd,rfl,rfl,_,rfl,Z2 (by decide) ⟨_,rfl,x,dx,_,rfl,e0,Z1 B.exo (by decide+kernel),_,rfl,u,_,_,_,rfl,rfl,SqT.of hd,rfl,F,x,b,p,_,rfl,D0,t,?_⟩⟩
    rcases dok with ⟨i,rfl,h0,h1⟩|od
    ·exact .inl ⟨i,rfl,h0,h1,fun H' F' p' k nw t' D' st=>k1 _ H' F' _ p' k nw t' D' (.inl ⟨i,rfl,h0,h1,rfl,rfl,st⟩)⟩
    ·exact .inr ⟨od,k2 CN _ H (Same.refl _) (.inr ⟨od,rfl,rfl,rfl⟩) (.inl ⟨rfl,rfl⟩)⟩
  | bar v =>
   refine⟨_,rfl,u,_,_,_,rfl,rfl,SqT.of hd,rfl,rfl,_,rfl,Zm (by decide) ⟨_,rfl,u,_,_,_,rfl,rfl,SqT.of hd,rfl,rfl,_,rfl,Zm (by decide) ⟨_,rfl,u,_,_,_,rfl,rfl,SqT.of hd,rfl,rfl,_,rfl,Zm (by decide) ⟨_,rfl,u,_,_,_,rfl,rfl,SqT.of hd,rfl,rfl,_,rfl,Zm (by decide) ⟨_,rfl,u,_,_,_,rfl,rfl,SqT.of hd,rfl,rfl,_,rfl,Z2 (by decide) ⟨_,rfl,x,dx,_,rfl,e0,Z1 B.exo (by decide+kernel),_,rfl,u,_,_,_,rfl,rfl,SqT.of hd,rfl,F,x,b,p,v,rfl,D0,?_⟩⟩⟩⟩⟩⟩
   rcases dok with bv|bb
   ·exact .inl ⟨bv,fun H' k D'=>k1 _ H' F _ p (kF (kx k)) (fun z hz=>.inl hz) (tF (kx k)) D' (.inl ⟨bv,rfl,rfl,rfl⟩)⟩
   ·exact .inr ⟨bb,k2 CB _ H (Same.refl _) (.inr ⟨bb,rfl,rfl,rfl⟩) (.inr (.inl ⟨rfl,rfl⟩))⟩
  | fin v =>
   refine⟨_,rfl,u,_,_,_,rfl,rfl,SqT.of hd,rfl,rfl,_,rfl,Zm (by decide) ⟨_,rfl,u,_,_,_,rfl,rfl,SqT.of hd,rfl,rfl,_,rfl,Zm (by decide) ⟨_,rfl,u,_,_,_,rfl,rfl,SqT.of hd,rfl,rfl,_,rfl,Zm (by decide) ⟨_,rfl,u,_,_,_,rfl,rfl,SqT.of hd,rfl,rfl,_,rfl,Zm (by decide) ⟨_,rfl,u,_,_,_,rfl,rfl,SqT.of hd,rfl,rfl,_,rfl,Zm (by decide) ⟨_,rfl,u,_,_,_,rfl,rfl,SqT.of hd,rfl,rfl,_,rfl,Z2 (by decide) ⟨_,rfl,x,dx,_,rfl,e0,Z1 B.exo (by decide+kernel),_,rfl,u,_,_,_,rfl,rfl,SqT.of hd,rfl,F,x,b,p,v,rfl,D0,?_⟩⟩⟩⟩⟩⟩⟩
   rcases dok with ⟨i,rfl,h0,h1⟩|od
   ·refine .inl ⟨i,rfl,h0,h1,?_⟩
    by_cases hl:b.pl.getLast?=some i
    ·exact .inl ⟨hl,fun H' k D'=>k1 _ H' F _ p (kF k) (fun z hz=>.inl hz) (tF k) D' (.inl ⟨i,rfl,h0,h1,.inl ⟨hl,rfl,rfl,rfl⟩⟩)⟩
    ·exact .inr ⟨hl,fun H' sm=>k2 CT _ H' sm (.inl ⟨i,rfl,h0,h1,.inr ⟨hl,rfl,rfl,rfl⟩⟩) (.inr (.inr ⟨rfl,rfl⟩))⟩
   ·exact .inr ⟨od,k2 CN _ H (Same.refl _) (.inr ⟨od,rfl,rfl,rfl⟩) (.inl ⟨rfl,rfl⟩)⟩
  | take =>
   refine⟨_,rfl,u,_,_,_,rfl,rfl,SqT.of hd,rfl,rfl,_,rfl,Zm (by decide) ⟨_,rfl,u,_,_,_,rfl,rfl,SqT.of hd,rfl,rfl,_,rfl,Zm (by decide) ⟨_,rfl,u,_,_,_,rfl,rfl,SqT.of hd,rfl,rfl,_,rfl,Zm (by decide) ⟨_,rfl,u,_,_,_,rfl,rfl,SqT.of hd,rfl,rfl,_,rfl,Zm (by decide) ⟨_,rfl,u,_,_,_,rfl,rfl,SqT.of hd,rfl,rfl,_,rfl,Zm (by decide) ⟨_,rfl,u,_,_,_,rfl,rfl,SqT.of hd,rfl,rfl,_,rfl,Zm (by decide) ⟨_,rfl,u,_,_,_,rfl,rfl,SqT.of hd,rfl,rfl,_,rfl,Z2 (by decide) ⟨_,rfl,x,dx,_,rfl,e0,Z1 B.exo (by decide+kernel),F,x,b,p,rfl,D0,t,?_⟩⟩⟩⟩⟩⟩⟩⟩
   exact fun v H' F' b' p' k nw t' hf tk D'=>k1 v H' F' b' p' k nw t' D' ⟨v,hf,rfl,tk⟩
  | best =>
   refine⟨_,rfl,u,_,_,_,rfl,rfl,SqT.of hd,rfl,rfl,_,rfl,Zm (by decide) ⟨_,rfl,u,_,_,_,rfl,rfl,SqT.of hd,rfl,rfl,_,rfl,Zm (by decide) ⟨_,rfl,u,_,_,_,rfl,rfl,SqT.of hd,rfl,rfl,_,rfl,Zm (by decide) ⟨_,rfl,u,_,_,_,rfl,rfl,SqT.of hd,rfl,rfl,_,rfl,Zm (by decide) ⟨_,rfl,u,_,_,_,rfl,rfl,SqT.of hd,rfl,rfl,_,rfl,Zm (by decide) ⟨_,rfl,u,_,_,_,rfl,rfl,SqT.of hd,rfl,rfl,_,rfl,Zm (by decide) ⟨_,rfl,u,_,_,_,rfl,rfl,SqT.of hd,rfl,rfl,_,rfl,Zm (by decide) ⟨_,rfl,x,dx,_,rfl,e0,Z1 B.exo (by decide+kernel),F,x,b,p,rfl,D0,t,?_⟩⟩⟩⟩⟩⟩⟩⟩
   exact fun v H' k t' hf=>k1 v H' F b p (kT k) (fun z hz=>.inl hz) t' (D0.to fun z o hz ez=>k z o ez ((D0.solid z hz).off t)) ⟨v,hf,rfl,rfl,rfl⟩
def Zsn (H H':Hp):Sum V Str->V->Prop
 | .inl v,r=>r=v
 | .inr wd,r=>∃ z,r=.ref z/\H z=none/\H' z=some (.tup [.str "refused",.str wd])
def spDo (L:Bool->Prop) (K:PySem.W.Frag) (CC:Bool->Addr) (CP P4 P5:Addr):Sp:=fun vs H Q _=>∃ (fw:Bool) (F:List Addr) (x:Addr) (b:BS) (p:PG) (u:Addr) (d:Dd),L fw/\vs=[.ref x,.ref u]/\Bd fw (CC fw) CP F H x b p/\TT P4 P5 H/\DeedAt H u d/\DeedOk K H b.rk.length d /\
 (∀ r rr H' F' b' p',KD P4 P5 F H H'->Nw H F F'->TT P4 P5 H'->Bd fw (CC fw) CP F' H' x b' p'->Ran K H fw b p d rr b' p'->Zsn H H' rr r->Q r H')
theorem scDo:FnScope ["_law_board_here", "_law_deed_here", "_law_told", "_law_refused_here"] ["_law_board_here", "_law_deed_here"] (Zg (top 55)):=⟨rfl,rfl,rfl,by decide+kernel,rfl,by decide+kernel,by decide+kernel⟩
theorem CWd.ne {wd:Str}{C':Addr}(h:CWd CN CB CT wd C'):decide (V.str wd=V.str "")=false:=by
 rcases h with ⟨rfl,_⟩|⟨rfl,_⟩|⟨rfl,_⟩<;>decide
set_option maxHeartbeats 8000000 in
theorem f_do (D:Def K mg "_law_do" (top 55) ["_law_board_here", "_law_deed_here"]) (X:XW K mg CN CB CT) (GC:Fu P w K mg base (CX1 P w) 12 "_law_call" ["_law_board_here", "_law_deed_here"] (Zf7 L K CC CP P4 P5 CN CB CT)):Fu P w K mg base CX0 13 "_law_do" ["_law_board_here", "_law_deed_here"] (spDo L K CC CP P4 P5):=by
 refine D.fu scDo (fun vs H Q E h=>?_) (fun f cdv A outer s H vs Q E hr h=>?_)
 ·obtain⟨fw,F,x,b,p,u,d,l,rfl,_⟩:=h
  rfl
 ·obtain⟨fw,F,x,b,p,u,d,l,rfl,D0,t,hd,dok,kk⟩:=h
  refine' ⟨_,Zh (Zp (i:=2) scDo.nd rfl (.inl rfl) Y4) (Zh (Zp (i:=3) scDo.nd rfl (.inl rfl) Zq)
   (Zh (Zm9 Jh ?B ?HH)
   (Zh (Zn (Zu Zje (pv 3) Zq (Zs _)) (Zf (Zj (Z5 (Za Zq (Za (pv 3) Zc))))) Zo)
   (Zf (Zj (pv 2)))))),?main⟩
  case B =>
   intro pins Ex
   exact Zf (Zp (i:=2) scDo.nd rfl (.inl rfl) (pcS GC hr (Zrc Jh) (Za (pv 0) (Za (pv 1) Zc))))
  case HH =>
   exact Zam Jh rfl X.n X.tn X.en (fun a'=>Zf (Zp (i:=3) scDo.nd rfl (.inl rfl) Zq)) (Zam Jh rfl X.b X.tb X.eb (fun a'=>Zf (Zp (i:=3) scDo.nd rfl (.inl rfl) Zq)) (Zam Jh rfl X.t X.tt X.et (fun a'=>Zf (Zp (i:=3) scDo.nd rfl (.inl rfl) Zq)) Zna))
  case main =>
   have fin:∀ (wd:Str) (C':Addr) (H':Hp),Same H H'->Ran K H fw b p d (.inr wd) b p->CWd CN CB CT wd C'->∀ z,H' z=none->Q (.ref z) (upd H' z (.tup [.str "refused",.str wd])):=by
    intro wd C' H' sm rn cw z nz
    have s2:=sm.trans (Same.new (o:=.tup [.str "refused",.str wd]) nz)
    exact kk _ (.inr wd) _ F b p (Zcb s2) (fun z hz=>.inl hz) (t.same s2) (D0.same s2) rn ⟨z,rfl,sm.free nz,Ze⟩
   refine⟨fun C' σ' H'=>∃ wd,CWd CN CB CT wd C'/\σ'=[some (.ref x),some (.ref u),some .non,some (.str "")]/\Same H H'/\Ran K H fw b p d (.inr wd) b p,?_,?_⟩
   ·refine⟨_,rfl,_,rfl,fw,F,x,b,p,u,d,l,rfl,D0,t,hd,dok,fun v H' F' b' p' k nw t' D' rn=>?_,fun C' wd H' sm rn cw C'' e=>?_⟩
    ·exact⟨_,rfl,rfl,_,rfl,Zm (by decide) ⟨_,rfl,kk v (.inl v) H' F' b' p' k nw t' D' rn rfl⟩⟩
    ·cases e
     exact⟨wd,cw,rfl,sm,rn⟩
   ·rintro C' σ' H' ⟨wd,cw,rfl,sm,rn⟩
    have f2:=fin wd C' H' sm rn cw
    rcases cw with ⟨rfl,rfl⟩|⟨rfl,rfl⟩|⟨rfl,rfl⟩
    ·exact⟨true,X.nn,iteT ⟨_,rfl,rfl,_,rfl,Z2 (by decide) ⟨_,rfl,(by show 2<=sizeLine;decide),f2⟩⟩⟩
    ·exact⟨false,X.bn,iteF ⟨true,X.bb,iteT ⟨_,rfl,rfl,_,rfl,Z2 (by decide) ⟨_,rfl,(by show 2<=sizeLine;decide),f2⟩⟩⟩⟩
    ·exact⟨false,X.tn',iteF ⟨false,X.tb',iteF ⟨true,X.tt',iteT ⟨_,rfl,rfl,_,rfl,Z2 (by decide) ⟨_,rfl,(by show 2<=sizeLine;decide),f2⟩⟩⟩⟩⟩
end
end K10
namespace K10
open PySem L2 L3
theorem Zha (n:Nat) (l:List Int) (i:Nat) (h:i<n):(Z6 n l).getD i false=decide ((i:Int)∈l):=by
 unfold Z6
 simp[List.getD,h]
def barD:V->PyData
 | .int z=>.int z
 | _=>.none
def picD (l0 l1 pl:List Int) (v:V):PyData:=.tuple [.list (l0.map PyData.int),.list (l1.map PyData.int),.list (pl.map PyData.int),barD v]
theorem Zb5 (l0 l1 pl:List Int) (v:V):SeqAt.shaped (picD l0 l1 pl v)=true:=by
 unfold picD
 cases v<;>simp[barD,SeqAt.shaped,PyData.canLay0,PyData.canLayAll0,PyData.depth,PyData.depthAll,PySem.W.ke_canLayAll0,PySem.W.ke_depthAll]
theorem eqvP (l0 l1 pl:List Int) (v:V):PyData.eqv (picD l0 l1 pl v) (picD l0 l1 pl v)=true:=PySem.SeqAt.eqv_refl _ (SeqAt.canLay_of_shaped (Zb5 l0 l1 pl v))
theorem ScAt.sh {K:PySem.W.Frag}{H:Hp}{t p0 p1 p2:Addr}{l0 l1 pl:List Int}{v:V}(S:ScAt H t p0 p1 p2 l0 l1 pl v) (hv:BarV v):Sh K H (.ref t) (picD l0 l1 pl v):=by
 refine .tup (SqT.of S.at_) (.cons (.ints (SqL.of S.e0)) (.cons (.ints (SqL.of S.e1)) (.cons (.ints (SqL.of S.e2)) (.cons ?_ .nil))))
 rcases hv with rfl|⟨z,rfl,_⟩
 ·exact .non
 ·exact .int z
theorem Zqk {K:PySem.W.Frag}{S:List Addr}{H H':Hp}{a:Addr}{xs:List V}(h:SqL K H a xs) (k:KeepBut S H H') (n:∀ o,H a=some o->(∀ ps,o ≠ .tbl ps)->a∉S):SqL K H' a xs:=by
 rcases h with (h|⟨o,h⟩)|h
 ·exact .inl (.inl (k _ _ h (n _ h fun _ z=>by cases z)))
 ·exact .inl (.inr ⟨o,k _ _ h (n _ h fun _ z=>by cases z)⟩)
 ·exact .inr h
section
variable {P:Program}{w:World}{K:PySem.W.Frag}{mg:Str->Option Value}{base:Heap}{C CP P4 P5:Addr}
inductive KindV (H:Hp):V->Str->Prop
 | non:KindV H .non "none"
 | bl (c:Bool):KindV H (.bl c) "truth"
 | int (i:Int):KindV H (.int i) "whole"
 | tup {a:Addr} {xs:List V} (e:H a=some (.tup xs)):KindV H (.ref a) "tuple"
def Zmy:Sp:=fun vs H Q _=>∃ (v:V) (k:Str),vs=[v]/\KindV H v k/\Q (.str k) H
theorem Zqr:FnScope ["_law_found"] ["_law_found"] (Zg (top 57)):=⟨rfl,rfl,rfl,by decide+kernel,rfl,by decide+kernel,by decide+kernel⟩
theorem Zr4 (D:Def K mg "_law_kind" (top 57) ["_law_found"]) (T:Txt K mg):Fu P w K mg base CX0 1 "_law_kind" ["_law_found"] Zmy:=by
 refine D.fu Zqr (fun vs H Q E h=>?_) (fun f cdv A outer s H vs Q E hr h=>?_)
 ·obtain⟨v,k,rfl,_⟩:=h
  rfl
 ·obtain⟨v,k,rfl,kv,kk⟩:=h
  refine⟨_,Zh (Zn (Zec (Zgg (pv 0))) (Zf (Zj Zq)) Zo)
   (Zh (Zn (Zz (Yt T.isi T.bool Zbp (pv 0))) (Zf (Zj Zq)) Zo)
   (Zh (Zn (Zz (Yt T.isi T.int Zci (pv 0))) (Zf (Zj Zq)) Zo)
   (Zh (Zn (Zz (Yt T.isi T.tuple Zaj (pv 0))) (Zf (Zj Zq)) Zo)
   (Zf (Zj Zq))))),?_⟩
  cases kv with
  | non=>exact⟨_,rfl,_,rfl,Z2 (by decide) kk⟩
  | bl c=>exact⟨_,rfl,_,rfl,Zm (by simp) ⟨_,rfl,_, "bool",_,true,rfl,.bl c,rfl,_,rfl,iteT kk⟩⟩
  | int i=>exact⟨_,rfl,_,rfl,Zm (by simp) ⟨_,rfl,_, "bool",_,false,rfl,.int i,rfl,_,rfl,iteF ⟨_,rfl,_, "int",_,true,rfl,.int i,rfl,_,rfl,iteT kk⟩⟩⟩
  | tup e=>exact⟨_,rfl,_,rfl,Zm (by simp) ⟨_,rfl,_, "bool",_,false,rfl,.tup e,rfl,_,rfl,iteF ⟨_,rfl,_, "int",_,false,rfl,.tup e,rfl,_,rfl,iteF ⟨_,rfl,_, "tuple",_,true,rfl,.tup e,Zad,_,rfl,iteT kk⟩⟩⟩⟩
inductive AlikeV (H:Hp):V->V->Prop
 | non:AlikeV H .non .non
 | bl (c:Bool):AlikeV H (.bl c) (.bl c)
 | int (i:Int):AlikeV H (.int i) (.int i)
 | tup {a b:Addr} {x y:Str} (e:H a=some (.tup [.str x,.str y])) (e':H b=some (.tup [.str x,.str y])) (ok:SeqAt.shaped (.tuple [.str x,.str y])=true):AlikeV H (.ref a) (.ref b)
def Zih:Sp:=fun vs H Q _=>∃ (u v:V),vs=[u,v]/\AlikeV H u v/\Q (.bl true) H
theorem Zoq:FnScope ["_law_found", "_law_due"] ["_law_found", "_law_due"] (Zg (top 58)):=⟨rfl,rfl,rfl,by decide+kernel,rfl,by decide+kernel,by decide+kernel⟩
theorem Zpz (D:Def K mg "_law_alike" (top 58) ["_law_found", "_law_due"]) (GK:Fu P w K mg base CX0 1 "_law_kind" ["_law_found"] Zmy):Fu P w K mg base CX0 2 "_law_alike" ["_law_found", "_law_due"] Zih:=by
 refine D.fu Zoq (fun vs H Q E h=>?_) (fun f cdv A outer s H vs Q E hr h=>?_)
 ·obtain⟨u,v,rfl,_⟩:=h
  rfl
 ·obtain⟨u,v,rfl,av,kk⟩:=h
  refine⟨_,Zf (Zj (Ys (Y1 Zy (pc GK hr Zk (Za (pv 0) Zc)) (pc GK hr Zk (Za (pv 1) Zc)) (Zs _)) (Yk (Zq9 (Y1 Zy (pv 0) (pv 1) (Zs _)) (Y1 (Zgi hr.units) (pv 0) (pv 1) (Zs _)))))),?_⟩
  cases av with
  | non=>exact⟨_,rfl,_,_,rfl,.non,_,rfl,_,_,rfl,.non,rfl,_,rfl,Z2 (by decide) (.inl ⟨_,rfl,_,rfl,rfl,kk⟩)⟩
  | bl c =>
   refine⟨_,rfl,_,_,rfl,.bl c,_,rfl,_,_,rfl,.bl c,rfl,_,rfl,Z2 (by decide) (.inl ⟨_,rfl,_,rfl,rfl,?_⟩)⟩
   rw[decide_eq_true rfl]
   exact kk
  | int i =>
   refine⟨_,rfl,_,_,rfl,.int i,_,rfl,_,_,rfl,.int i,rfl,_,rfl,Z2 (by decide) (.inl ⟨_,rfl,_,rfl,rfl,?_⟩)⟩
   rw[decide_eq_true rfl]
   exact kk
  | tup e e' ok =>
   refine⟨_,rfl,_,_,rfl,.tup e,_,rfl,_,_,rfl,.tup e',rfl,_,rfl,Z2 (by decide) (.inr ⟨_,rfl,_,rfl,_,_,.tup (SqT.of e) (.cons (.str _) (.cons (.str _) .nil)),.tup (SqT.of e') (.cons (.str _) (.cons (.str _) .nil)),ok,ok,?_⟩)⟩
   rw[PySem.SeqAt.eqv_refl _ (SeqAt.canLay_of_shaped ok)]
   exact kk
end
end K10
namespace K10
open PySem L2 L3
theorem Zd1 {K:PySem.W.Frag}{H:Hp}{i:Int}{b:Bool}(h:WholeV K H (.int i) b):b=true:=by
 obtain⟨t,b1,b2,ty,e1,e2,rfl⟩:=h
 cases ty
 have h1:PySem.W.kitOne K (.type "int") (.type "int")=some true:=rfl
 have h2:PySem.W.kitOne K (.type "int") (.type "bool")=some false:=rfl
 rw[h1] at e1
 rw[h2] at e2
 cases e1
 cases e2
 rfl
theorem Zdp {K:PySem.W.Frag}{H:Hp}{n:Nat}{i:Int}(h0:0<=i) (h1:i<n) (h:Odd K H n (.int i)):False:=by
 rcases h with ⟨j,e,hj⟩|h
 ·cases e
  exact hj ⟨h0,h1⟩
 ·cases Zd1 h
theorem Zjh {K:PySem.W.Frag}{H:Hp}{v:V}(b:BarV v) (h:BadBar K H v):False:=by
 rcases b with rfl|⟨z,rfl,hz⟩
 ·rcases h with ⟨j,e,_⟩|⟨_,e⟩
  ·cases e
  ·exact e rfl
 ·rcases h with ⟨j,e,hj⟩|⟨h,_⟩
  ·cases e
   exact hj hz
  ·cases Zd1 h
theorem Zos {K:PySem.W.Frag}{H H2:Hp}{fw fw2:Bool}{b b1 b2:BS}{p p1 q q1:PG}{d:Dd}{r r2:Sum V Str}(h:Ran K H fw b p d r b1 p1) (h2:Ran K H2 fw2 b q d r2 b2 q1):r=r2/\b1=b2:=by
 cases d with
 | flag isA wish v =>
  rcases h with ⟨i,rfl,h0,h1,rfl,rfl,_⟩|⟨od,rfl,rfl,_⟩
  ·rcases h2 with ⟨j,e,_,_,rfl,rfl,_⟩|⟨od,_⟩
   ·cases e
    exact⟨rfl,rfl⟩
   ·exact(Zdp h0 h1 od).elim
  ·rcases h2 with ⟨j,rfl,h0,h1,_⟩|⟨_,rfl,rfl,_⟩
   ·exact(Zdp h0 h1 od).elim
   ·exact⟨rfl,rfl⟩
 | bar v =>
  rcases h with ⟨bv,rfl,rfl,_⟩|⟨bb,rfl,rfl,_⟩
  ·rcases h2 with ⟨_,rfl,rfl,_⟩|⟨bb,_⟩
   ·exact⟨rfl,rfl⟩
   ·exact(Zjh bv bb).elim
  ·rcases h2 with ⟨bv,_⟩|⟨_,rfl,rfl,_⟩
   ·exact(Zjh bv bb).elim
   ·exact⟨rfl,rfl⟩
 | fin v =>
  rcases h with ⟨i,rfl,h0,h1,h⟩|⟨od,rfl,rfl,_⟩
  ·rcases h2 with ⟨j,e,_,_,h2⟩|⟨od,_⟩
   ·cases e
    rcases h with ⟨l1,rfl,rfl,_⟩|⟨l1,rfl,rfl,_⟩
    ·rcases h2 with ⟨_,rfl,rfl,_⟩|⟨l2,_⟩
     ·exact⟨rfl,rfl⟩
     ·exact absurd l1 l2
    ·rcases h2 with ⟨l2,_⟩|⟨_,rfl,rfl,_⟩
     ·exact absurd l2 l1
     ·exact⟨rfl,rfl⟩
   ·exact(Zdp h0 h1 od).elim
  ·rcases h2 with ⟨j,rfl,h0,h1,_⟩|⟨_,rfl,rfl,_⟩
   ·exact(Zdp h0 h1 od).elim
   ·exact⟨rfl,rfl⟩
 | take =>
  obtain⟨v,hf,rfl,tk⟩:=h
  obtain⟨v2,hf2,rfl,tk2⟩:=h2
  obtain rfl:=Zev hf hf2
  refine⟨rfl,?_⟩
  rcases tk with ⟨rfl,rfl,_⟩|⟨i,rfl,rfl,_⟩
  ·rcases tk2 with ⟨_,rfl,_⟩|⟨j,e,_⟩
   ·rfl
   ·cases e
  ·rcases tk2 with ⟨e,_⟩|⟨j,e,rfl,_⟩
   ·cases e
   ·cases e
    rfl
 | best =>
  obtain⟨v,hf,rfl,rfl,_⟩:=h
  obtain⟨v2,hf2,rfl,rfl,_⟩:=h2
  obtain rfl:=Zev hf hf2
  exact⟨rfl,rfl⟩
theorem Zqz {K:PySem.W.Frag}{H:Hp}{fw:Bool}{b b':BS}{p p':PG}{d:Dd}{r:Sum V Str}(h:Ran K H fw b p d r b' p'):b'.rk=b.rk:=by
 cases d with
 | flag isA wish v =>
  rcases h with ⟨i,_,_,_,_,rfl,_⟩|⟨_,_,rfl,_⟩
  ·exact Jn
  ·rfl
 | bar v=>rcases h with ⟨_,_,rfl,_⟩|⟨_,_,rfl,_⟩<;>rfl
 | fin v=>rcases h with ⟨i,_,_,_,⟨_,_,rfl,_⟩|⟨_,_,rfl,_⟩⟩|⟨_,_,rfl,_⟩<;>rfl
 | take=>obtain⟨v,_,_,⟨_,rfl,_⟩|⟨i,_,rfl,_⟩⟩:=h<;>rfl
 | best=>obtain⟨v,_,_,rfl,_⟩:=h;rfl
theorem Zgd {K:PySem.W.Frag}{H:Hp}{fw:Bool}{b b':BS}{p p':PG}{d:Dd}{r:Sum V Str}(ok:BOk b) (h:Ran K H fw b p d r b' p'):(∃ v,r=.inl v/\((v=.non)\/(∃ c,v=.bl c)\/∃ i,v=.int i))\/∃ wd,r=.inr wd/\SeqAt.shaped (.tuple [.str "refused",.str wd])=true:=by
 have sc:∀ {v:V},BarV v->(v=.non)\/(∃ c,v=.bl c)\/∃ i,v=.int i:=fun h=>h.elim .inl fun⟨z,e,_⟩=>.inr (.inr ⟨z,e⟩)
 have fs:∀ {v:V} {rk ls:List Int},Y8 rk ls v->(v=.non)\/(∃ c,v=.bl c)\/∃ i,v=.int i:=fun h=>(Zag h).elim .inl fun⟨i,e⟩=>.inr (.inr ⟨i,e⟩)
 cases d with
 | flag isA wish v =>
  rcases h with ⟨i,_,_,_,rfl,_⟩|⟨_,rfl,_⟩
  ·exact .inl ⟨_,rfl,.inr (.inl ⟨_,rfl⟩)⟩
  ·exact .inr ⟨_,rfl,by decide+kernel⟩
 | bar v =>
  rcases h with ⟨_,rfl,_⟩|⟨_,rfl,_⟩
  ·exact .inl ⟨_,rfl,sc ok.li⟩
  ·exact .inr ⟨_,rfl,by decide+kernel⟩
 | fin v =>
  rcases h with ⟨i,_,_,_,⟨_,rfl,_⟩|⟨_,rfl,_⟩⟩|⟨_,rfl,_⟩
  ·refine .inl ⟨_,rfl,?_⟩
   unfold Yx
   cases b.pl.dropLast.getLast? with
   | none=>exact .inl rfl
   | some z=>exact .inr (.inr ⟨z,rfl⟩)
  ·exact .inr ⟨_,rfl,by decide+kernel⟩
  ·exact .inr ⟨_,rfl,by decide+kernel⟩
 | take =>
  obtain⟨v,hf,rfl,_⟩:=h
  exact .inl ⟨_,rfl,fs hf⟩
 | best =>
  obtain⟨v,hf,rfl,_⟩:=h
  exact .inl ⟨_,rfl,fs hf⟩
abbrev Apart (F G:List Addr):Prop:=∀ z∈F,z∉G
section
variable {P:Program}{w:World}{K:PySem.W.Frag}{mg:Str->Option Value}{base:Heap}{CC:Bool->Addr}{CP P4 P5:Addr}
end
end K10
namespace L3
open PySem PySem.Spec PyProof.Rows L2
theorem Za1 {us:List Value}{ns:List Int}(h:IntsAre us ns):Vals (ns.map V.int) us:=by
 induction h with
 | nil=>exact .nil
 | cons n t _ ih=>exact .cons ⟨t,rfl⟩ ih
section
variable {X:Cx}{a:Expr}{ta:TE}{p pos:Pos}
end
section
open PySem.SeqAt PySem.MeetsSeq PySem.MeetsSeq2 PySem.MeetsSeq3
open PySem.AutoSeq1 (wpAny_loadPart')
end
section
variable {X:Cx}
end
section
variable {X:Cx}{a b:Expr}{ta tb:TE}{pos:Pos}{K:PySem.W.Frag}
end
end L3
namespace L3
open PySem PySem.Spec PyProof.Rows L2
section
variable {X:Cx}{pins:List (Addr × Obj)}{σ:L2.St}{H:Hp}{s:Shared}{ky:Nat->Int × Int}
end
section
variable {X:Cx}{a:Expr}{ta:TE}{p pos:Pos}
end
end L3
namespace L3
open PySem PySem.Spec PyProof.Rows L2
def DSafe {α:Type}:Sem α->Prop
 | .pure _=>True
 | .raise _=>True
 | .unsupported _=>True
 | .finish _=>True
 | .rule _ k=>DSafe (k ())
 | .at _ k=>DSafe (k ())
 | .load _ _ k=>∀ o,DSafe (k o)
 | .update _ _ f k=>(∀ o,(f o).dict=o.dict/\(f o).alive=o.alive)/\DSafe (k ())
 | .loadIfAlive _ k=>∀ o,DSafe (k o)
 | .point _ k=>DSafe (k ())
 | .register _ _=>True
 | .alloc _ k=>∀ a,DSafe (k a)
 | .fresh k=>∀ t,DSafe (k t)
 | .ask k=>∀ x,DSafe (k x)
 | .choose _ _ k=>∀ n,DSafe (k n)
 | .os _ _ k=>∀ r,DSafe (k r)
 | .call _ _ _ _ _=>False
 | .handled _ k=>∀ x,DSafe (k x)
 | .genState _ k=>∀ x,DSafe (k x)
 | .newGen _ k=>∀ x,DSafe (k x)
 | .resume _ _ _ _=>False
 | .yield ..=>True
 | .stack k=>∀ l,DSafe (k l)
 | .fork ..=>True
 | .thread k=>∀ n,DSafe (k n)
 | .await ..=>True
def DKeep (h h':Heap):Prop:=∀ b o,h.get? b=some o->∃ o',h'.get? b=some o'/\o'.dict=o.dict
theorem DKeep.refl (h:Heap):DKeep h h:=fun b o e=>⟨o,e,rfl⟩
theorem DKeep.trans {a b c:Heap}(x:DKeep a b) (y:DKeep b c):DKeep a c:=fun z o e=>by
 obtain⟨o1,e1,d1⟩:=x z o e
 obtain⟨o2,e2,d2⟩:=y z o1 e1
 exact⟨o2,e2,d2.trans d1⟩
theorem DKeep.push (h:Heap) (o:Obj):DKeep h (h.push o):=fun b u e=>⟨u,Heap.get?_push_of_some _ e,rfl⟩
theorem DKeep.update (h:Heap) (a:Addr) (f:Obj->Obj) (hf:∀ o,(f o).dict=o.dict/\(f o).alive=o.alive):DKeep h (h.update a f):=fun b u e=>by
 by_cases hb:b=a
 ·subst hb
  obtain⟨h1,h2⟩:=(Heap.get?_eq_some h b u).mp e
  exact⟨f u,(Heap.get?_eq_some _ _ _).mpr ⟨by rw[Heap.objs_update_self,h1];rfl,by rw[(hf u).2];exact h2⟩,(hf u).1⟩
 ·exact⟨u,by rw[Heap.get?_update_ne _ _ _ _ hb];exact e,rfl⟩
theorem Zkw {α:Type}(M:Model) (Γ:PySem.Ctx) (t:Sem α):∀ (Q:α->Pos->Shared->Prop) (E:Value->Pos->Shared->Prop) (p:Pos) (s:Shared),DSafe t->Sem.wp M Γ t Q E p s ->
  Sem.wp M Γ t (fun a q s'=>Q a q s'/\DKeep s.heap s'.heap) (fun e q s'=>E e q s'/\DKeep s.heap s'.heap) p s:=by
 have up:∀ {t:Sem α} {Q:α->Pos->Shared->Prop} {E:Value->Pos->Shared->Prop} {p:Pos} {s s1:Shared},DKeep s1.heap s.heap->Sem.wp M Γ t (fun a q s'=>Q a q s'/\DKeep s.heap s'.heap) (fun e q s'=>E e q s'/\DKeep s.heap s'.heap) p s ->
   Sem.wp M Γ t (fun a q s'=>Q a q s'/\DKeep s1.heap s'.heap) (fun e q s'=>E e q s'/\DKeep s1.heap s'.heap) p s:=fun k h=>Sem.wp_mono M Γ _ (fun _ _ _ q=>⟨q.1,k.trans q.2⟩) (fun _ _ _ q=>⟨q.1,k.trans q.2⟩) _ _ h
 induction t with
 | pure a=>intro Q E p s _ h;rw[Sem.wp] at h ⊢;exact⟨h,DKeep.refl _⟩
 | raise e=>intro Q E p s _ h;rw[Sem.wp] at h ⊢;exact⟨h,DKeep.refl _⟩
 | unsupported w=>intro Q E p s _ h;rw[Sem.wp] at h;exact h.elim
 | finish e=>intro Q E p s _ h;rw[Sem.wp] at h;exact h.elim
 | rule g k ih=>intro Q E p s d h;rw[Sem.wp] at h ⊢;exact ih () Q E p s d h
 | «at» p' k ih=>intro Q E p s d h;rw[Sem.wp] at h ⊢;exact ih () Q E p' s d h
 | load a x k ih=>intro Q E p s d h;rw[Sem.wp] at h ⊢;obtain⟨o,e,h⟩:=h;exact⟨o,e,ih o Q E p s (d o) h⟩
 | update a x f k ih=>intro Q E p s d h;rw[Sem.wp] at h ⊢;exact⟨h.1,up (DKeep.update _ _ _ d.1) (ih () Q E p _ d.2 h.2)⟩
 | loadIfAlive a k ih=>intro Q E p s d h;rw[Sem.wp] at h ⊢;exact ih _ Q E p s (d _) h
 | point l k ih=>intro Q E p s d h;rw[Sem.wp] at h ⊢;exact ih () Q E p s d h
 | register a k ih=>intro Q E p s _ h;rw[Sem.wp] at h;exact h.elim
 | alloc o k ih=>intro Q E p s d h;rw[Sem.wp] at h ⊢;exact up (DKeep.push _ _) (ih _ Q E p _ (d _) h)
 | fresh k ih=>intro Q E p s d h;rw[Sem.wp] at h ⊢;exact up (DKeep.refl _) (ih _ Q E p _ (d _) h)
 | ask k ih=>intro Q E p s d h;rw[Sem.wp] at h ⊢;exact ih _ Q E p s (d _) h
 | choose src n k ih=>intro Q E p s d h;rw[Sem.wp] at h ⊢;exact⟨h.1,up (DKeep.refl _) (ih _ Q E p _ (d _) h.2)⟩
 | os q l k ih=>intro Q E p s d h;rw[Sem.wp] at h ⊢;exact up (DKeep.refl _) (ih _ Q E p _ (d _) h)
 | call c h' x y k ih=>intro Q E p s d _;exact d.elim
 | handled own k ih=>intro Q E p s d h;rw[Sem.wp] at h ⊢;exact ih _ Q E p s (d _) h
 | genState g k ih=>intro Q E p s d h;rw[Sem.wp] at h ⊢;obtain⟨st,e,h⟩:=h;exact⟨st,e,ih _ Q E p s (d _) h⟩
 | newGen c k ih=>intro Q E p s d h;rw[Sem.wp] at h ⊢;exact up (DKeep.refl _) (ih _ Q E p _ (d _) h)
 | resume g r x k ih=>intro Q E p s d _;exact d.elim
 | stack k ih=>intro Q E p s d h;rw[Sem.wp] at h ⊢;exact ih _ Q E p s (d _) h
 | thread k ih=>intro Q E p s d h;rw[Sem.wp] at h ⊢;exact ih _ Q E p s (d _) h
 | _=>intro Q E p s _ h;rw[Sem.wp] at h;exact h.elim
theorem Zah {α:Type}{M:Model}{A:Around}{t:Sem α}{Q:α->Shared->Prop}{E:Value->Shared->Prop}{s:Shared}(d:DSafe t) (h:wpAny M A t Q E s):wpAny M A t (fun a s'=>Q a s'/\DKeep s.heap s'.heap) (fun e s'=>E e s'/\DKeep s.heap s'.heap) s:=fun Γ p hΓ=>Zkw M Γ t _ _ p s d (h Γ p hΓ)
theorem DSafe.bind' {α β:Type}(m:Sem α) (f:α->Sem β) (g:∀ a,DSafe (f a)):DSafe m->DSafe (m.bind f):=by
 induction m with
 | pure a=>intro _;exact g a
 | update a x h k ih=>intro d;exact⟨d.1,ih () d.2⟩
 | call c h x y k ih=>intro d;exact d.elim
 | resume a b c k ih=>intro d;exact d.elim
 | rule a k ih=>intro d;exact ih () d
 | «at» a k ih=>intro d;exact ih () d
 | point a k ih=>intro d;exact ih () d
 | load a b k ih=>intro d o;exact ih o (d o)
 | loadIfAlive a k ih=>intro d o;exact ih o (d o)
 | alloc a k ih=>intro d o;exact ih o (d o)
 | fresh k ih=>intro d o;exact ih o (d o)
 | ask k ih=>intro d o;exact ih o (d o)
 | choose a b k ih=>intro d o;exact ih o (d o)
 | os a b k ih=>intro d o;exact ih o (d o)
 | handled a k ih=>intro d o;exact ih o (d o)
 | genState a k ih=>intro d o;exact ih o (d o)
 | newGen a k ih=>intro d o;exact ih o (d o)
 | stack k ih=>intro d o;exact ih o (d o)
 | thread k ih=>intro d o;exact ih o (d o)
 | _=>intro _;exact True.intro
theorem DSafe.bind {α β:Type}{m:Sem α}{f:α->Sem β}(h:DSafe m) (g:∀ a,DSafe (f a)):DSafe (m >>= f):=DSafe.bind' m f g h
theorem Zbv (v:Value) (i:Nat):DSafe (field v i):=by
 unfold field
 refine DSafe.bind ?_ fun vs=>?_
 ·unfold fieldsOf
  split
  ·refine DSafe.bind (fun o=>True.intro) fun o=>?_
   split<;>exact True.intro
  ·exact True.intro
 ·split<;>exact True.intro
end L3
namespace L3
open PySem PySem.Spec PyProof.Rows L2
theorem Zsi {α:Type}(w:String):DSafe (unsupported w:Sem α):=True.intro
theorem Zj4 (a:Addr):DSafe (load a):=fun _=>True.intro
theorem Zay (v:Value) (i:Nat) (x:Value):DSafe (setField v i x):=by
 unfold setField
 split
 ·unfold updateField
  refine DSafe.bind (Zj4 _) fun o=>?_
  split
  ·split
   ·refine⟨fun o=>?_,True.intro⟩
    unfold Obj.mapFields
    split<;>exact⟨rfl,rfl⟩
   ·exact True.intro
  ·exact True.intro
 ·exact True.intro
theorem Zez (ty:String) (vs:List Value):DSafe (newFields ty vs):=by
 have hN:DSafe (newObjAsIs (.type ty) (.fields vs.toArray)):=by
  unfold newObjAsIs
  exact DSafe.bind (m:=alloc _) (fun _=>True.intro) fun a=>True.intro
 unfold newFields newObj
 dsimp only
 split
 ·exact DSafe.bind (Zsi _) fun _=>hN
 ·exact hN
theorem Zj5 (env:Env) (outer:List Env):DSafe (behindIsImport env outer):=by
 unfold behindIsImport
 split
 ·exact True.intro
 ·split
  ·exact True.intro
  ·exact DSafe.bind (Zbv _ _) fun _=>True.intro
theorem Zp1 (env:Env) (b:Bool) (l:List Env):DSafe (keptBack env b l):=by
 unfold keptBack
 split
 ·split
  ·exact True.intro
  ·unfold underTheClaimsCaller
   exact DSafe.bind (DSafe.bind (fun _=>True.intro) fun _=>True.intro) fun _=>True.intro
 ·exact True.intro
theorem Zgv:∀ l:List Env,DSafe (readyFrames l)
 | []=>True.intro
 | env::outer=>by
  unfold readyFrames
  split
  ·refine DSafe.bind (Zj4 _) fun o=>?_
   split
   ·exact True.intro
   ·exact DSafe.bind (Zj5 _ _) fun _=>DSafe.bind (Zp1 _ _ _) fun _=>DSafe.bind (m:=update _ _) ⟨fun o=>⟨rfl,rfl⟩,True.intro⟩ fun _=>Zgv outer
  ·exact True.intro
theorem Zhs (env:Env):DSafe (PySem.frameOf env):=by
 unfold PySem.frameOf
 refine DSafe.bind ?_ fun l=>DSafe.bind ?_ fun r=>?_
 ·unfold frameEnvs
  exact DSafe.bind (fun _=>True.intro) fun _=>True.intro
 ·unfold frameObject
  split
  ·exact True.intro
  ·exact DSafe.bind (Zgv _) fun _=>True.intro
 ·split<;>exact True.intro
theorem Zl9 (f:Addr) (b:Bool):DSafe (entryPlaceOf f b):=by
 unfold entryPlaceOf
 refine DSafe.bind (fun _=>True.intro) fun acts=>?_
 split<;>exact True.intro
theorem Zcf (e:Value) (f:Option Addr):DSafe (setFlight e f):=by
 unfold setFlight
 refine DSafe.bind (Zbv _ _) fun tb=>?_
 split
 ·exact Zay _ _ _
 ·exact True.intro
theorem Zj3 (e:Value) (env:Env):DSafe (noteFrame e env):=by
 unfold noteFrame
 split
 ·refine DSafe.bind (Zbv _ _) fun head=>?_
  have tail:∀ u,DSafe (do setField e 1 (← EntryCells.newEntry head (← PySem.frameOf env) .none (rawInt u) .none (← entryPlaceOf u (head != .none)))):=fun u =>
   DSafe.bind (Zhs _) fun _=>DSafe.bind (Zl9 _ _) fun _=>DSafe.bind (Zez _ _) fun _=>Zay _ _ _
  split
  ·refine DSafe.bind (Zbv _ _) fun x=>?_
   split
   ·exact True.intro
   ·exact DSafe.bind (Zay _ _ _) fun _=>tail _
  ·exact tail _
 ·exact True.intro
theorem Zhr (env:Env) (e:Value):DSafe (leaving env e):=by
 unfold leaving
 exact DSafe.bind (Zj3 _ _) fun _=>Zcf _ _
end L3
namespace L3
open PySem PySem.Spec PyProof.Rows L2
structure FnH (P:Program) (w:World) (K:PySem.W.Frag) (mg:Str->Option Value) (base:Heap) (k:Nat) (f:Addr) (fd:FuncData) (ps:List Str) (sp:Sp):Prop where
 len:∀ vs H Q E,sp vs H Q E->vs.length=ps.length
 run:∀ (a:Addr) (A:Around) (outer:List Env) (s:Shared) (H:Hp) (args:Args) (us:List Value) (vs:List V) (Q:VK) (E:XK),Room k A->Env0 P w K mg base A outer s H->BindsTo s fd args (ps.zip us)->Vals vs us->sp vs H Q E ->
  codeAny (model P w) (A.mark (some (.ref a))) (.call (.ref f) args) (CR CX0 outer P w H s Q E) s
theorem FnH.mono {P:Program}{w:World}{K:PySem.W.Frag}{mg:Str->Option Value}{base:Heap}{j k:Nat}{f:Addr}{fd:FuncData}{ps:List Str}{sp:Sp}(F:FnH P w K mg base j f fd ps sp) (h:j<=k) :
  FnH P w K mg base k f fd ps sp:=⟨F.len,fun a A outer s H args us vs Q E hr=>F.run a A outer s H args us vs Q E (hr.mono h)⟩
structure FuH (P:Program) (w:World) (K:PySem.W.Frag) (mg:Str->Option Value) (base:Heap) (k:Nat) (x:Str) (ps:List Str) (sp:Sp):Prop where
 ex:∃ f fd,FnH P w K mg base k f fd ps sp/\mg x=some (.ref f)/\PySem.W.keepIn K (.ref f)=true/\Binds K fd ps []
theorem Zr0 {P:Program}{w:World}{K:PySem.W.Frag}{mg:Str->Option Value}{base:Heap}{k:Nat}{f:Addr}{name qual:Str}{params:Arguments}{body:List Stmt}{scope:Scope}{dV kV doc pm cdv ct oc:Value}{an od:Option Addr}
  {osl:Array (Option Value)} {N ps:List Str} {sp:Sp} (lk:K.lookup f=some ⟨oc,od,.func (PySem.W.fnOf name qual params body scope dV kV doc pm an cdv ct),osl⟩) (hcd:PySem.W.codeIn K cdv qual=true) (S:FnScope N ps scope)
  (len:∀ vs H Q E,sp vs H Q E->vs.length=ps.length)
  (hbody:∀ (a:Addr) (A:Around) (outer:List Env) (s:Shared) (H:Hp) (vs:List V) (Q:VK) (E:XK),Room k (A.deeper (envOfC qual scope s.heap.objs.size f cdv))->sp vs H Q E ->
    ∃ t,PSs (Ym (cxOf CX0 P w K mg base N qual scope f cdv A outer s H E) a) body t/\t { nx:=fun _ H'=>Q .non H',rt:=Q } (Z3 N vs) H) :
  FnH P w K mg base (k+1) f (PySem.W.fnOf name qual params body scope dV kV doc pm an cdv ct) ps sp:=by
 refine⟨len,fun a A outer s H args us vs Q E hr e0 hb r hsp=>?_⟩
 have hl:=len _ _ _ _ hsp
 have KX:K.In s.heap:=e0.mod.kin.keeps fun b o e=>(e0.bs b o e).1
 have lim:s.heap.NoLimit:=e0.mod.nolimit.keeps fun b o e=>(e0.bs b o e).1
 have hkind:∀ y∈ps.zip us,scope.names.lookup y.1=some .local\/(scope.names.lookup y.1=some .cell/\((cellsFrom (s.heap.objs.size+1) scope.names []).lookup y.1).isSome=true):=fun⟨n,v⟩ hy=>by
  rcases S.par n (List.of_mem_zip hy).1 with q|q
  ·exact .inl q
  ·exact .inr ⟨q,PySem.W.cellsFrom_some _ _ _ (.inl q)⟩
 have hdep:(A.mark (some (.ref a))).depth<recursionLimit:=hr.depth
 refine codeAny_call_function hdep (KX _ _ lk) rfl S.co S.gen rfl (PySem.W.codeRec_of KX hcd) (hb _ _ _ _ ?_)
 refine wpAny_newFunctionEnv_cells S.kind hkind fun env he s1 x=>?_
 subst he
 refine⟨lim.keeps x.toInCall.keep,codeAny_func ?_⟩
 obtain⟨t,ht,hq⟩:=hbody a A outer s H vs Q E (hr.deeper _) hsp
 have I:Inv (cxOf CX0 P w K mg base N qual scope f cdv A outer s H E) [] (Z3 N vs) H s1:=Zen S hr.hd e0 hl r x
 have I':=Zcd (a:=a) I
 refine wpAny_mono (ht [] s1 (Z3 N vs) H _ I' hq) (fun fl s' hs=>?_) fun e s' hs=>False.elim hs
 have fin:∀ {σ':L2.St} {H':Hp} {v:V} {u:Value},Inv (Ym (cxOf CX0 P w K mg base N qual scope f cdv A outer s H E) a) [] σ' H' s'->RelV v u->Q v H'->CE outer P w H s Q u s' :=
  fun {σ' H' v u} J rv q=>⟨v,H',J.os,J.bare,J.base,J.hok,rv,q⟩
 cases fl with
 | ret u =>
  obtain⟨v,σ',H',J,rv,q⟩:=hs
  exact fin J rv q
 | next =>
  obtain⟨σ',H',J,q⟩:=hs
  exact fin (v:=V.non) (u:=Value.none) J rfl q
 | brk =>
  obtain⟨_,_,_,q⟩:=hs
  exact False.elim q
 | cont =>
  obtain⟨_,_,_,q⟩:=hs
  exact False.elim q
section
variable {X:Cx}{j k:Nat}{a:Addr}{x:Str}{ps:List Str}{sp:Sp}{p pos:Pos}{e:Expr}{es:List Expr}{t:TA}
theorem pcH (F:FuH X.prog X.w X.K X.mg X.base j x ps sp) (hr:Room k X.A) (ha:PA (Ym X a) (e::es) t) (hj:j<=k:=by decide) (hg:Gl (Ym X a) x:=by rfl) (hdb:(x == ("__debug__" : Str))=false:=by decide)
  (he:starEach (e::es) (Ym X a).env=(false,eval e (Ym X a).env)::starEach es (Ym X a).env:=by rfl) (hpl:(backTo pos (starEach es (Ym X a).env)).any (·.1)=false:=by rfl):PE (Ym X a) (.Call (.Name x p) (e::es) [] pos) (Zg1 sp [] E0 t):=by
 obtain⟨f,fd,G,hm,hk,hb⟩:=F.ex
 intro pins s σ H Q I h
 refine wpAny_Call_Name_kw (Je (X:=Ym X a) I hg hm ?_ hdb)
 refine PySem.W.callWith_K (h₀:=X.base) I.ok.mod.kin hk (thn (ha pos pins s σ H _ I h) fun us s1 ⟨vs,H1,I1,r,q⟩=>⟨I1.kIn,?_⟩) he hpl
 have q:sp (vs++[]) H1 Q E0:=q
 rw[List.append_nil] at q
 have hl:(us++[]).length=ps.length:=by rw[List.append_nil,← r.length];exact G.len _ _ _ _ q
 have hb':=hb s1 us I1.kIn hl
 rw[List.append_nil] at hb'
 have e0:=I1.env0
 refine wpAny_call (codeAny_mono ((G.mono hj).run a X.A X.stack s1 H1 ⟨us,[]⟩ us vs Q E0 hr ⟨e0.frames,e0.mod,e0.bs,e0.bsz,e0.funs,e0.frf,e0.hok,e0.bare⟩ hb' r q) fun res s' hq=>?_)
 cases res with
 | error e=>exact hq.elim
 | ok fl =>
  cases fl with
  | ret u=>exact I1.after hq
  | next=>exact hq.elim
  | brk=>exact hq.elim
  | cont=>exact hq.elim
end
section
variable {P:Program}{w:World}{K:PySem.W.Frag}{mg:Str->Option Value}{base:Heap}{x:Str}{st:Stmt}{N ps:List Str}{k:Nat}{sp:Sp}
theorem Def.fuH (D:Def K mg x st ps) (S:FnScope N ps (Zg st)) (len:∀ vs H Q E,sp vs H Q E->vs.length=ps.length)
  (hbody:∀ (a f:Addr) (cdv:Value) (A:Around) (outer:List Env) (s:Shared) (H:Hp) (vs:List V) (Q:VK) (E:XK),Room k (A.deeper (envOfC x (Zg st) s.heap.objs.size f cdv))->sp vs H Q E ->
    ∃ t,PSs (Ym (cxOf CX0 P w K mg base N x (Zg st) f cdv A outer s H E) a) (Zw st) t/\t { nx:=fun _ H'=>Q .non H',rt:=Q } (Z3 N vs) H):FuH P w K mg base (k+1) x ps sp:=by
 obtain⟨f,fd,F,hm,hb⟩:=D.ex
 obtain⟨oc,od,kV,doc,pm,an,cdv,ct,osl,rfl,lk,hcd⟩:=F.ex
 exact⟨f,_,Zr0 lk hcd S len fun a A outer s H vs Q E hr hsp=>hbody a f cdv A outer s H vs Q E hr hsp,hm,F.kp,hb⟩
end
theorem KDefD.fux {P:Program}{w:World}{K:PySem.W.Frag}{mg:Str->Option Value}{base:Heap}{C:Addr}{qual:Str}{st:Stmt}{N ps:List Str}{ds:List Value}{k:Nat}{sp:Sp}(D:KDefD K C qual st ps ds) (S:FnScope N ps (Zg st)) (len:∀ vs H Q E,sp vs H Q E->vs.length=ps.length)
  (hbody:∀ (f:Addr) (cdv:Value) (A:Around) (outer:List Env) (s:Shared) (H:Hp) (vs:List V) (Q:VK) (E:XK),Room k (A.deeper (envOfC qual (Zg st) s.heap.objs.size f cdv))->sp vs H Q E ->
    ∃ t,PSs (cxOf (CX1 P w) P w K mg base N qual (Zg st) f cdv A outer s H E) (Zw st) t/\t { nx:=fun _ H'=>Q .non H',rt:=Q } (Z3 N vs) H):FuKD P w K mg base (CX1 P w) (k+1) C ps ds sp:=by
 obtain⟨f,oc,od,dV,kV,doc,pm,an,cdv,ct,osl,lk,hcd,hm,hb⟩:=D.ex
 exact⟨f,_,Zdw lk hcd S len fun A outer s H vs Q E hr hsp=>hbody f cdv A outer s H vs Q E hr hsp,hm,hb⟩
theorem FuKD.k {P:Program}{w:World}{K:PySem.W.Frag}{mg:Str->Option Value}{base:Heap}{CX:CXT}{k:Nat}{C:Addr}{ps:List Str}{sp:Sp}(F:FuKD P w K mg base CX k C ps [] sp):FuK P w K mg base CX k C ps sp:=⟨F.ex⟩
theorem BDef.fux {P:Program}{w:World}{K:PySem.W.Frag}{mg:Str->Option Value}{base:Heap}{D:Addr}{m qual:Str}{st:Stmt}{N ps:List Str}{k:Nat}{sp:Sp}(B:BDef K D m qual st ps) (S:FnScope N ps (Zg st)) (len:∀ vs H Q E,sp vs H Q E->vs.length=ps.length)
  (hbody:∀ (f:Addr) (cdv:Value) (A:Around) (outer:List Env) (s:Shared) (H:Hp) (vs:List V) (Q:VK) (E:XK),Room k (A.deeper (envOfC qual (Zg st) s.heap.objs.size f cdv))->sp vs H Q E ->
    ∃ t,PSs (cxOf (CX1 P w) P w K mg base N qual (Zg st) f cdv A outer s H E) (Zw st) t/\t { nx:=fun _ H'=>Q .non H',rt:=Q } (Z3 N vs) H):FuB P w K mg base (CX1 P w) (k+1) D m ps sp:=by
 obtain⟨f,oc,od,dV,kV,doc,pm,an,cdv,ct,osl,lk,hcd,hm,hb⟩:=B.ex
 exact⟨f,_,Zdw lk hcd S len fun A outer s H vs Q E hr hsp=>hbody f cdv A outer s H vs Q E hr hsp,hm,hb⟩
theorem Zp4:bootBuiltins "ValueError" = some (.type "ValueError"):=by decide+kernel
section
variable {X:Cx}{p pos q:Pos}{T:Str}{e:Expr}{te:TE}
end
theorem Zhw {CX:CXT}{P:Program}{w:World}{K:PySem.W.Frag}{mg:Str->Option Value}{base:Heap}{N:List Str}{qual:Str}{scope:Scope}{f:Addr}{cd:Value}{A:Around}{outer:List Env}{s:Shared}{H:Hp}{E:XK}:Body (cxOf CX P w K mg base N qual scope f cd A outer s H E).nox:=⟨rfl,rfl,rfl,fun _=>rfl⟩
theorem _root_.L2.TyOf.same {K:PySem.W.Frag}{H H':Hp}{x:V}{t:Value}(h:TyOf K H x t) (s:∀ a o,H a=some o->H' a=some o):TyOf K H' x t:=by
 cases h with
 | non=>exact .non
 | bl b=>exact .bl b
 | int i=>exact .int i
 | str x=>exact .str x
 | flt x=>exact .flt x
 | lst e=>exact .lst (s _ _ e)
 | frz e=>exact .frz (s _ _ e)
 | tup e=>exact .tup (s _ _ e)
 | dK e=>exact .dK (s _ _ e)
 | dT e=>exact .dT (s _ _ e)
 | ins e a b c d f=>exact .ins (s _ _ e) a b c d f
section
variable {X:Cx}{a:Expr}{ta:TE}{p pos:Pos}
end
end L3
namespace L3
open PySem PySem.Spec PyProof.Rows L2 PySem.W Builtin.ObjectAttr
section
variable {prog:Program}{w:World}{A:Around}{E:Value->Shared->Prop}{s:Shared}{K:Frag}{x C dx:Addr}{name:Str}{v:Value}{mA:Str->Option Value}{sl:Array (Option Value)}{vs:Array Value}
theorem Zjk {M:Model}{h:Heap}(hd:h.Ns1 dx mA):Looks M h (nsGet dx name) (mA name):=by
 intro A' Q' E' s' k q
 exact wpAny_nsGet (hd.at (k dx)).ns q
theorem Zlx {M:Model}{h:Heap}(X:K.In h) (hx:h.get? x=some ⟨.ref C,some dx,.fields vs,sl⟩) (hn:findIn K (.ref C) name=some none) (hh:hasDictIn K C=true) (hd:h.Ns1 dx mA) (hv:mA name=some v):Looks M h (find (.ref x) (.ref C) name) (.value v):=by
 obtain⟨cd,hcd,hd'⟩:=any_some hh
 have F1:=looks_findIn (M:=M) X hn
 have F2:Looks M h (getOf none) none:=.now
 have F3:Looks M h (dataDescriptor? none none) none:=.now
 have F5:Looks M h (instanceDict x false) (some dx):=by
  refine(Looks.ld hx).andThen ((looks_clsIn X hcd).andThen ?_)
  rw[hd']
  exact .now
 have F6:Looks M h (ownDict x) (some dx):=(Looks.ld hx).andThen F5
 have F7:Looks M h (inOwnDict name (.ref x)) (some v):=F6.andThen (by have:=Zjk (M:=M) (name:=name) hd;rw[hv] at this;exact this)
 have F4:Looks M h (ownThenClass (.ref x) name none none) (.value v):=F7.andThen (Looks.tag .now)
 exact F1.andThen (F2.andThen (F3.andThen F4))
theorem Zp0 {b:Bool}{Q:Value->Shared->Prop}(X:K.In s.heap) (hx:s.heap.get? x=some ⟨.ref C,some dx,.fields vs,sl⟩) (G:ExcG K C) (hn:findIn K (.ref C) name=some none) (hh:hasDictIn K C=true) (hd:s.heap.Ns1 dx mA) (hv:mA name=some v) (hv2:handedIn v=true)
  (h:Q v { s with toks:=s.toks+1 }):wpAny (model prog w) A (getAttr (.ref x) name b) Q E s:=by
 obtain⟨hp,g,d,t,os⟩:=s
 have I:IsOf hp x C:=⟨_,hx,rfl⟩
 have L0:=I.type (M:=model prog w)
 have L1:=looks_findIn (M:=model prog w) X G.ga
 unfold getAttr getAttrBy
 refine wpAny_bind (wpAny_mkText (wpAny_holding (wpAny_bind (L0.at (wpAny_bind (L1.at ?_))))))
 show wpAny _ _ (getAttrByItsOwn (.ref x) (.str name t) (.ref C) (.builtin "BaseException.__getattribute__") true b) _ _ _
 refine Zj0 (s:=⟨hp,g,d,t+1,os⟩) X I G.gh G.be fun A'=>?_
 exact Zrz (s:=⟨hp,g,d,t+1,os⟩) I (Zlx X hx hn hh hd hv) ⟨hv2,h⟩
end
end L3
namespace L3
open PySem PySem.Spec PyProof.Rows L2 PySem.W
def HasD (h:Heap) (a:Addr) (od:Option Addr):Prop:=∃ o,h.get? a=some o/\o.dict=od
theorem HasD.keep {h h':Heap}{a:Addr}{od:Option Addr}(x:HasD h a od) (k:DKeep h h'):HasD h' a od:=by
 obtain⟨o,e,d⟩:=x
 obtain⟨o',e',d'⟩:=k a o e
 exact⟨o',e',d'.trans d⟩
def CX2 (P:Program) (w:World):CXT:=fun outer H s E e s'=>∃ (a C:Addr) (B:Heap) (H':Hp) (od:Option Addr),e=.ref a/\Fly P w outer H H' s s' a C B/\HasD s'.heap a od/\E (.ref C) od H'
def Zob (E:XK) (C:Addr) (sp:Sp) (t:TA):TS:=fun _ σ H=>t σ H fun vs H1=>vs.length<=sizeLine/\∀ e,H1 e=none->sp (.ref e::vs) (upd H1 e (Yb e C none)) (fun v H2=>v=.non/\∃ od,H2 e=some (Yb e C od)/\E (.ref C) od (del H2 e)) E0
section
variable {P:Program}{w:World}{K:PySem.W.Frag}{mg:Str->Option Value}{base:Heap}{N:List Str}{qual:Str}{scope:Scope}{g:Addr}{cd:Value}{A:Around}{outer:List Env}{s₀:Shared}{H₀:Hp}{E:XK}{x:Str}{C f:Addr}{fd:FuncData}{ps:List Str}{sp:Sp}{j k:Nat}{e:Expr}{es:List Expr}{t:TA}{p pos cpos:Pos}
theorem Zi0 (Fx:FuX P w K mg base j x C ps sp) (hr:Room (k+1) (A.deeper (envOfC qual scope s₀.heap.objs.size g cd))) (ha:PA (cxOf (CX2 P w) P w K mg base N qual scope g cd A outer s₀ H₀ E) (e::es) t) (hj:j<=k:=by decide) (hg:Gl (cxOf (CX2 P w) P w K mg base N qual scope g cd A outer s₀ H₀ E) x:=by rfl) (hdb:(x == ("__debug__" : Str))=false:=by decide)
  (he:starEach (e::es) (cxOf (CX2 P w) P w K mg base N qual scope g cd A outer s₀ H₀ E).env=(false,eval e (cxOf (CX2 P w) P w K mg base N qual scope g cd A outer s₀ H₀ E).env)::starEach es (cxOf (CX2 P w) P w K mg base N qual scope g cd A outer s₀ H₀ E).env:=by rfl)
  (hpl:(backTo cpos (starEach es (cxOf (CX2 P w) P w K mg base N qual scope g cd A outer s₀ H₀ E).env)).any (·.1)=false:=by rfl) :
  PS (cxOf (CX2 P w) P w K mg base N qual scope g cd A outer s₀ H₀ E) (.Raise (some (.Call (.Name x p) (e::es) [] cpos)) none pos) (Zob E C sp t):=by
 obtain⟨f,fd,D,F',hb⟩:=Fx.ex
 have F:=F'.mono hj
 intro pins s σ H Dn I h
 refine Zeb (K:=K) hr.hd ?_
 refine wpAny_Call_Name_kw (Je I hg D.bound ?_ hdb)
 refine PySem.W.callWith_K (h₀:=base) I.ok.mod.kin D.keep (thn (ha cpos pins s σ H _ I h) fun us s1 ⟨vs,H1,I1,r,z,q⟩=>⟨I1.kIn,?_⟩) he hpl
 have hq:=q (s1.heap.objs.size+1) (I1.hok.fresh (Nat.le_succ _))
 have hx:((s1.heap.push (argTup us)).push (excObj C s1.heap.objs.size)).get? (s1.heap.objs.size+1)=some (excObj C s1.heap.objs.size):=by heap_get
 have I2:Inv (cxOf (CX2 P w) P w K mg base N qual scope g cd A outer s₀ H₀ E) pins σ (upd H1 (s1.heap.objs.size+1) (Yb (s1.heap.objs.size+1) C none)) { s1 with heap:=(s1.heap.push (argTup us)).push (excObj C s1.heap.objs.size) } :=
  I1.laid (t':=s1.toks) (fun b u q=>Heap.get?_push_of_some _ (Heap.get?_push_of_some _ q)) (Nat.le_succ _) (Za9 hx rfl rfl rfl)
 have r2:Vals (V.ref (s1.heap.objs.size+1)::vs) (Value.ref (s1.heap.objs.size+1)::us):=.cons rfl r
 have hl:(Value.ref (s1.heap.objs.size+1)::us++[]).length=ps.length:=by
  have z:=r2.length
  rw[F.len _ _ _ _ hq] at z
  rw[List.append_nil]
  exact z.symm
 have hb':=hb _ (Value.ref (s1.heap.objs.size+1)::us) I2.kIn hl
 rw[List.append_nil] at hb'
 refine wpAny_call (Zgt I1.kIn D.cls.ex D.init D.fn (by show us.length<=sizeLine;rw[← r.length];exact z) (codeAny_mono (F.run _ _ _ _ _ _ _ _ _ (hr.make C us []) (I2.env0.make C us []) hb' r2 hq) fun res s' hq'=>?_))
 cases res with
 | error e=>exact hq'.elim
 | ok fl =>
  cases fl with
  | next=>exact hq'.elim
  | brk=>exact hq'.elim
  | cont=>exact hq'.elim
  | ret u =>
   obtain⟨v,H2,I3,rv,ev,od,e2,hE⟩:=I2.after hq'
   subst ev
   refine⟨rv,?_⟩
   obtain⟨⟨ws,a0,e0,hz,h0,h1⟩,_,_⟩:=(show ObjOk P w H2 s'.heap (s1.heap.objs.size+1) (Yb (s1.heap.objs.size+1) C od) from I3.hok _ _ e2)
   refine⟨s1.heap.objs.size+1,C,od,ws,rfl,I3.kIn,e0,h1,D.cls.be,D.typ,?_⟩
   have I4:=Inv.drop I3 e2
   have new:s₀.heap.get? (s1.heap.objs.size+1)=none:=Heap.get?_none_of_le (Nat.le_succ_of_le I1.sz)
   have hin:∀ env∈(envOfC qual scope s₀.heap.objs.size g cd::outer),∀ b,env.frame=some b->b∈(s1.heap.objs.size+1)::frs (envOfC qual scope s₀.heap.objs.size g cd::outer):=fun env he b hb=>List.mem_cons_of_mem _ (List.mem_filterMap.mpr ⟨env,he,hb⟩)
   show wpAny _ _ (leaving (envOfC qual scope s₀.heap.objs.size g cd) (.ref (s1.heap.objs.size+1))) _ _ s'
   have main:wpAny (model P w) (A.deeper (envOfC qual scope s₀.heap.objs.size g cd)) (leaving (envOfC qual scope s₀.heap.objs.size g cd) (.ref (s1.heap.objs.size+1))) (fun _ s''=>∃ B,Fly P w outer H₀ (del H2 (s1.heap.objs.size+1)) s₀ s'' (s1.heap.objs.size+1) C B) (fun _ _=>False) s':=by
    refine wpAny_leaving_firstW (base:=PySem.W.hideAll s'.heap ((s1.heap.objs.size+1)::frs (envOfC qual scope s₀.heap.objs.size g cd::outer))) (oe:=⟨.ref C,od,.fields ws,#[]⟩) I.ok.frames (PySem.W.funFrames_hide I3.stack hin) rfl e0 (fun b o q=>PySem.W.of_hideAll _ q) (PySem.W.hideAll_none _ (.head _)) rfl h1 h0 fun h2 hL=>?_
    obtain⟨x1,⟨_,_,x2⟩,x3,x4⟩:=hL
    refine⟨_,Fly.out (a0:=.ref a0) I4 rfl rfl rfl new Zbf (fun b o e1 hb n=>?_) ⟨x1,PySem.W.hideAll_none _ (.head _),x2,x3⟩ x4⟩
    refine PySem.W.hideAll_get _ e1 ?_
    simp only [List.mem_cons,not_or]
    refine⟨fun q=>?_,n⟩
    rcases hb with hb|⟨o',e2'⟩
    ·exact hb (by rw[q,Zbf])
    ·rw[q] at e2'
     have e3:s₀.heap.get? (s1.heap.objs.size+1)=some o':=e2'
     rw[new] at e3
     cases e3
   have hd:HasD s'.heap (s1.heap.objs.size+1) od:=⟨_,e0,rfl⟩
   refine wpAny_mono (Zah (Zhr _ _) main) (fun _ s'' ⟨⟨B,fl⟩,dk⟩=>⟨_,C,B,_,od,rfl,fl,hd.keep dk,hE⟩) fun _ _ z=>z.1.elim
end
def Zgx (X:Cx) (pins:List (Addr × Obj)) (Ex:Addr->Option Addr->L2.St->Hp->Prop):Cx :=
 { X with pn:=X.pn++pins,xe:=fun e s'=>∃ a C od σ' H',e=.ref a/\Air X pins σ' H' s' a C/\HasD s'.heap a od/\Ex C od σ' H' }
section
variable {X:Cx}{pins pins':List (Addr × Obj)}{σ:L2.St}{H H':Hp}{s s':Shared}{a C:Addr}{B h':Heap}{Ex:Addr->Option Addr->L2.St->Hp->Prop}
theorem Zn6 (I:Inv X pins σ H s):Inv (Zgx X pins Ex) [] σ H s :=
 ⟨⟨I.ok.mod,I.ok.kind,I.ok.glob,I.ok.blt,I.ok.above,I.ok.inj,I.ok.has,I.ok.cab,I.ok.hd,I.ok.frames,I.ok.stk,I.ok.exf,I.ok.bs,I.ok.bsz,I.ok.noex,I.ok.exfs,I.ok.funs,I.ok.frf⟩,I.os,I.bare,I.base,I.loc,I.cell,I.free,I.freeC,fun p hp=>I.pin p (by have hp':p∈(X.pn++pins)++[]:=hp;rwa [List.append_nil] at hp'),I.hok,I.len⟩
theorem Za2 (I:Inv (Zgx X pins Ex) pins' σ H s):Inv X pins σ H s :=
 ⟨⟨I.ok.mod,I.ok.kind,I.ok.glob,I.ok.blt,I.ok.above,I.ok.inj,I.ok.has,I.ok.cab,I.ok.hd,I.ok.frames,I.ok.stk,I.ok.exf,I.ok.bs,I.ok.bsz,I.ok.noex,I.ok.exfs,I.ok.funs,I.ok.frf⟩,I.os,I.bare,I.base,I.loc,I.cell,I.free,I.freeC,fun p hp=>I.pin p (List.mem_append_left _ hp),I.hok,I.len⟩
def exS2 (Ex:Addr->Option Addr->L2.St->Hp->Prop):L2.St->XK:=fun σ c od H'=>∀ C,c=.ref C->Ex C od σ H'
theorem Zng (b:Body X):Zmk (CX2 X.prog X.w) (Zgx X pins Ex) (exS2 Ex):=by
 intro pins' σ H s e s' I h
 obtain⟨a,C,B,H',od,rfl,F,hd,q⟩:=h
 have I1:Inv (Ze0 X pins fun C' σ'' H''=>C'=C/\σ''=σ/\H''=H') [] σ H s:=Zmp (Za2 I)
 obtain⟨a',C',σ',H'',ea,R,eC,eσ,eH⟩:=Zrb (pins':=[]) b I1 (E:=fun c _ H''=>c=.ref C/\H''=H') (fun C' H'' ⟨h1,h2⟩=>⟨by injection h1,rfl,h2⟩) ⟨a,C,B,H',rfl,F,rfl,rfl⟩
 subst eC eσ eH
 have ea':a'=a:=by injection ea with ea;exact ea.symm
 subst ea'
 exact⟨a',C',od,σ',H'',rfl,R,hd,q C' rfl⟩
end
def Ji (a C:Addr) (od:Option Addr):HO:=.ext fun h=>∃ ox vs,h.get? a=some ox/\ox.cls=.ref C/\ox.dict=od/\ox.data=.fields vs
section
variable {X:Cx}{pins pins':List (Addr × Obj)}{σ:L2.St}{H H':Hp}{s s':Shared}{a C:Addr}{od:Option Addr}
theorem Air.heldD (R:Air X pins σ H s a C) (hd:HasD s.heap a od):Inv X pins σ (upd H a (Ji a C od)) s:=by
 have I:=R.inv
 have ne:∀ b u,H b=some u->b≠a:=fun b u e z=>by rw[z,R.nt] at e;cases e
 refine⟨I.ok,I.os,I.bare,⟨I.base.keep,I.base.slot,fun b o e n hx=>?_,I.base.there,fun b xs e=>?_,fun b o u e=>?_,fun b ps e=>?_⟩,I.loc,I.cell,?_,fun x c e=>?_,fun p hp=>?_,fun b u e=>?_,I.len⟩
 ·rw[Zb (fun z=>by rw[z,R.new] at e;cases e)]
  exact I.base.free b o e n hx
 ·have q:=I.base.tups b xs e
  rw[Zb (ne b _ q)]
  exact q
 ·have q:=I.base.frzs b o u e
  rw[Zb (ne b _ q)]
  exact q
 ·obtain⟨more,q⟩:=I.base.tbls b ps e
  exact⟨more,by rw[Zb (ne b _ q)];exact q⟩
 ·rw[Zb (Ne.symm R.nloc)]
  exact I.free
 ·rw[Zb (fun z=>R.nneed (.inr (.inr (.inl ⟨x,by rw[← z];exact e⟩))))]
  exact I.freeC x c e
 ·obtain⟨e,n,r⟩:=I.pin p hp
  exact⟨e,by rw[Zb (fun z=>R.nneed (.inr (.inr (.inr ⟨p,hp,z⟩))))];exact n,r⟩
 ·by_cases hb:b=a
  ·subst hb
   rw[Ze] at e
   cases e
   obtain⟨a0,B,fl,_⟩:=R.fly
   obtain⟨_,_,_,oe,vs,_,_,_,he,hc,hdt,_⟩:=fl
   obtain⟨o,e1,d1⟩:=hd
   rw[he] at e1
   cases e1
   exact⟨⟨oe,vs,he,hc.1,d1,hdt⟩,⟨oe,he⟩,fun h1 h2 ⟨ox1,vs1,i1,r⟩ k=>⟨ox1,vs1,k _ i1,r⟩⟩
  ·rw[Zb hb] at e
   refine(I.hok b u e).stay (fun _ _ _ q=>q) (fun c q=>?_) fun c xs q=>?_
   ·rw[Zb (ne c _ q)]
    exact q
   ·rw[Zb (ne c _ q)]
    exact q
end
def PH2 (X:Cx) (hs:List ExceptHandler) (th:Addr->Option Addr->TS):Prop:=∀ (pins:List (Addr × Obj)) (σ:L2.St) (H:Hp) (s:Shared) (a C:Addr) (od:Option Addr) (D:Ends),Air X pins σ H s a C->HasD s.heap a od->th C od D σ H->wpAny (model X.prog X.w) X.A (handleBy (.ref a) X.env hs) (SP X pins D) X.xe s
def Zk2 (K:Frag) (Cb:Addr) (i:Nat) (th:TS) (rest:Addr->Option Addr->TS):Addr->Option Addr->TS:=fun C od D σ H=>∃ b,mroIn K C (.ref Cb)=some b /\
 if b=true then ∀ a,H a=none->th (Zrw D i) (σ.set i (some (.ref a))) (upd H a (Ji a C od)) else rest C od D σ H
section
variable {X:Cx}{x n:Str}{Cb:Addr}{i:Nat}{np pos:Pos}{b₀:Stmt}{suite:List Stmt}{rest:List ExceptHandler}{th:TS}{thr:Addr->Option Addr->TS}
theorem Znb (b:Body X) (hN:X.N.Nodup) (hi:X.N[i]?=some n) (hk:X.env.scope.names.lookup n=some .local) (hg:Gl X x) (hm:X.mg x=some (.ref Cb)) (hty:typeIn X.K (.ref Cb)=some (.type "type")) (hbe:mroIn X.K Cb (.type "BaseException")=some true)
  (hs:∀ a,PSs (Ym X a) (b₀::suite) th) (hr:PH2 X rest thr) (hdb:(x == ("__debug__" : Str))=false:=by decide):PH2 X (.ExceptHandler (some (.Name x np)) (some n) (b₀::suite) pos::rest) (Zk2 X.K Cb i th thr):=by
 intro pins σ H s a C od D R hd h
 obtain⟨bb,hc,h⟩:=h
 obtain⟨a0,B,fl,cov⟩:=R.fly
 refine wpAny_handleBy_cons (codeAny_handlers_test (Je (X:=Ym X a) (Zcd R.inv) hg hm (Zcz R.inv.kIn fl.there hty hbe hc ?_) hdb)) (by intro q;cases q)
 cases bb with
 | false=>exact hr pins σ H s a C od D R hd h
 | true =>
  have h1:=h
  rw[if_pos rfl] at h1
  refine codeAny_handlers_suite_as ?_
  refine wpAny_mono (Zah (Zcf _ _) (lands_againW (E:=fun _ _=>False) (Q:=fun _ s'=>∃ h',s'={ s with heap:=h' }/\Heap.FlyingW B X.stack a (.ref C) a0 h'/\s.heap.UpToSlots h') fl fun h' fl' up=>⟨h',rfl,fl',up⟩)) (fun _ s' ⟨⟨h',es,fl',up⟩,dk⟩=>?_) fun _ _ z=>z.1.elim
  subst es
  have R':=Air.on R b cov fl' up
  refine Zdc (Air.heldD R' (hd.keep dk)) hN hi (.inl hk) (show RelV (.ref a) (.ref a) from rfl) (fun s2 I2=>?_) (.inr hk)
  refine wpAny_mono (hs a pins s2 _ _ (Zrw D i) (Zcd I2) (h1 a R.nt)) (fun f s3 q=>?_) fun _ _ z=>False.elim z
  have q':=SP.hand R.inv.ok.hd q
  show wpAny _ X.A (do bindName X.env n .none;unbindBehindTheSuite X.env n pos) (fun _ s4=>SP X pins D f s4) X.xe s3
  cases f with
  | next=>obtain⟨σ',H',I3,q3⟩:=q';exact Zdv I3 hN hi hk fun s4 I4=>⟨_,H',I4,q3⟩
  | brk=>obtain⟨σ',H',I3,q3⟩:=q';exact Zdv I3 hN hi hk fun s4 I4=>⟨_,H',I4,q3⟩
  | cont=>obtain⟨σ',H',I3,q3⟩:=q';exact Zdv I3 hN hi hk fun s4 I4=>⟨_,H',I4,q3⟩
  | ret u=>obtain⟨v,σ',H',I3,r3,q3⟩:=q';exact Zdv I3 hN hi hk fun s4 I4=>⟨v,_,H',I4,r3,q3⟩
theorem Zi4:PH2 X [] (fun _ _ _ _ _=>False):=fun _ _ _ _ _ _ _ _ _ _ h=>h.elim
def Zsr (tb:(Addr->Option Addr->L2.St->Hp->Prop)->TS) (th:Addr->Option Addr->TS):TS:=fun D σ H=>∃ Ex,tb Ex D σ H/\∀ C od σ' H',Ex C od σ' H'->th C od D σ' H'
theorem Zix {body:List Stmt}{h₀:ExceptHandler}{hs:List ExceptHandler}{tb:(Addr->Option Addr->L2.St->Hp->Prop)->TS}{th:Addr->Option Addr->TS}(b:Body X) (hb:∀ pins Ex,PSs (Zgx X pins Ex) body (tb Ex)) (hh:PH2 X (h₀::hs) th):PS X (.Try body (h₀::hs) [] [] pos) (Zsr tb th):=by
 intro pins s σ H D I h
 obtain⟨Ex,h1,h2⟩:=h
 refine wpAny_Try_except (wpAny_mono (hb pins Ex [] s σ H D (Zn6 I) h1) (fun f s1 q=>?_) fun e s1 q=>?_)
 ·cases f with
  | next=>obtain⟨σ',H',J,q⟩:=q;exact wpAny_execs_nil ⟨σ',H',Za2 J,q⟩
  | brk=>obtain⟨σ',H',J,q⟩:=q;exact⟨σ',H',Za2 J,q⟩
  | cont=>obtain⟨σ',H',J,q⟩:=q;exact⟨σ',H',Za2 J,q⟩
  | ret u=>obtain⟨v,σ',H',J,r,q⟩:=q;exact⟨v,σ',H',Za2 J,r,q⟩
 ·obtain⟨a,C,od,σ',H',rfl,R,hd,q⟩:=q
  obtain⟨a0,B,fl,cov⟩:=R.fly
  have fl0:=fl
  rw[b.st] at fl0
  refine wpAny_mono (Zah (Zj3 _ _) (wpAny_looks_onW (E:=fun _ _=>False) (Q:=fun _ s4=>∃ h4,s4={ s1 with heap:=h4 }/\Heap.HeldW B (X.env::X.outer) a (.ref C) a0 X.env.locals h4/\s1.heap.UpToSlots h4) (by rw[R.inv.ok.frames,b.st]) b.fr fl0 fun h4 hh4 up4=>⟨h4,rfl,hh4,up4⟩)) (fun _ s4 ⟨⟨h4,es4,hh4,up4⟩,dk4⟩=>?_) fun _ _ z=>z.1.elim
  subst es4
  refine wpAny_mono (Zah (Zcf _ _) (wpAny_landsW (E:=fun _ _=>False) (Q:=fun _ s5=>∃ h5,s5={ s1 with heap:=h5 }/\Heap.FlyingW B (X.env::X.outer) a (.ref C) a0 h5/\h4.UpToSlots h5) hh4 fun h5 fl5 up5=>⟨h5,rfl,fl5,up5⟩)) (fun _ s5 ⟨⟨h5,es5,fl5,up5⟩,dk5⟩=>?_) fun _ _ z=>z.1.elim
  subst es5
  rw[← b.st] at fl5
  have R5:=Air.on R b cov fl5 (up4.trans up5)
  exact hh pins σ' H' { s1 with heap:=h5 } a C od D R5 ((hd.keep dk4).keep dk5) (h2 C od σ' H' q)
end
def Zsx (K:Frag) (ta:TE) (f:Str):TE:=fun σ H Q=>ta σ H fun x H1=>∃ a C dx fs v,x=.ref a/\H1 a=some (Ji a C (some dx))/\H1 dx=some (Y2 dx fs)/\ExcG K C/\hasDictIn K C=true/\findIn K (.ref C) f=some none/\fs.lookup f=some v/\Q v H1
theorem Zo2 {X:Cx}{e:Expr}{f:Str}{pos:Pos}{ta:TE}{K:Frag}(he:PE X e ta) (hb:attributeBase e f X.env (eval e X.env)=eval e X.env) (hK:X.K=K:=by rfl):PE X (.Attribute e f pos) (Zsx K ta f):=by
 subst hK
 intro pins s σ H Q I h
 refine Zkn hb (thn (he pins s σ H _ I h) fun u s1 ⟨x,H1,I1,rx,a,C,dx,fs,v,ex,ea,ed,G,hh,hn,l,q⟩=>?_)
 subst ex
 obtain rfl:u=Value.ref a:=rx
 obtain⟨⟨ox,vs,e0,c0,d0,t0⟩,_,_⟩:=(show ObjOk X.prog X.w H1 s1.heap a (Ji a C (some dx)) from I1.hok a _ ea)
 obtain⟨⟨mA,hm,r,wi⟩,_,_⟩:=(show ObjOk X.prog X.w H1 s1.heap dx (Y2 dx fs) from I1.hok dx _ ed)
 obtain⟨u,hu,ru⟩:=RelO.some_of (v:=v) (o:=mA f) (by rw[← l];exact r f)
 obtain⟨oc,od,odt,osl⟩:=ox
 have c0':oc=.ref C:=c0
 have d0':od=some dx:=d0
 have t0':odt=.fields vs:=t0
 subst c0' d0' t0'
 exact Zp0 I1.kIn e0 G hn hh hm hu (Zet ru) ⟨v,H1,I1.tok _,ru,q⟩
end L3
namespace L3
open PySem PySem.Spec PyProof.Rows L2
section
variable {P:Program}{w:World}{K:PySem.W.Frag}{mg:Str->Option Value}{base:Heap}{CX:CXT}{C:Addr}{x m qual:Str}{st:Stmt}{N ps:List Str}{k:Nat}{sp:Sp}
theorem Fun.okC {f:Addr}{fd:FuncData}(F:Fun K x qual st f fd) (S:FnScope N ps (Zg st)) (len:∀ vs H Q E,sp vs H Q E->vs.length=ps.length)
  (hbody:∀ (cdv:Value) (A:Around) (outer:List Env) (s:Shared) (H:Hp) (vs:List V) (Q:VK) (E:XK),Room k (A.deeper (envOfC qual (Zg st) s.heap.objs.size f cdv))->sp vs H Q E ->
    ∃ t,PSs (cxOf CX P w K mg base N qual (Zg st) f cdv A outer s H E) (Zw st) t/\t { nx:=fun _ H'=>Q .non H',rt:=Q } (Z3 N vs) H):FnOk P w K mg base CX (k+1) f fd ps sp:=by
 obtain⟨oc,od,kV,doc,pm,an,cdv,ct,osl,rfl,lk,hcd⟩:=F.ex
 exact Zdw lk hcd S len fun A outer s H vs Q E hr hsp=>hbody cdv A outer s H vs Q E hr hsp
theorem MDef.fuC (D:MDef K C m qual st ps) (S:FnScope N ps (Zg st)) (len:∀ vs H Q E,sp vs H Q E->vs.length=ps.length)
  (hbody:∀ (f:Addr) (cdv:Value) (A:Around) (outer:List Env) (s:Shared) (H:Hp) (vs:List V) (Q:VK) (E:XK),Room k (A.deeper (envOfC qual (Zg st) s.heap.objs.size f cdv))->sp vs H Q E ->
    ∃ t,PSs (cxOf CX P w K mg base N qual (Zg st) f cdv A outer s H E) (Zw st) t/\t { nx:=fun _ H'=>Q .non H',rt:=Q } (Z3 N vs) H):FuM P w K mg base CX (k+1) C m ps sp:=by
 obtain⟨f,fd,F,hm,hb⟩:=D.ex
 exact⟨f,fd,Fun.okC F S len fun cdv A outer s H vs Q E hr h=>hbody f cdv A outer s H vs Q E hr h,hm,hb⟩
theorem Def.fuC (D:Def K mg x st ps) (S:FnScope N ps (Zg st)) (len:∀ vs H Q E,sp vs H Q E->vs.length=ps.length)
  (hbody:∀ (f:Addr) (cdv:Value) (A:Around) (outer:List Env) (s:Shared) (H:Hp) (vs:List V) (Q:VK) (E:XK),Room k (A.deeper (envOfC x (Zg st) s.heap.objs.size f cdv))->sp vs H Q E ->
    ∃ t,PSs (cxOf CX P w K mg base N x (Zg st) f cdv A outer s H E) (Zw st) t/\t { nx:=fun _ H'=>Q .non H',rt:=Q } (Z3 N vs) H):Fu P w K mg base CX (k+1) x ps sp:=by
 obtain⟨f,fd,F,hm,hb⟩:=D.ex
 exact⟨f,fd,Fun.okC F S len fun cdv A outer s H vs Q E hr h=>hbody f cdv A outer s H vs Q E hr h,hm,F.kp,hb⟩
end
section
variable {X:Cx}{CX:CXT}{j k:Nat}{C:Addr}{ps:List Str}{sp:Sp}{E:L2.St->XK}{m:Str}{pos apos:Pos}{e o:Expr}{es:List Expr}{ta:TE}{t:TA}
end
end L3
namespace K10
open PySem L2 L3
section
variable {P:Program}{w:World}{K:PySem.W.Frag}{mg:Str->Option Value}{base:Heap}{CC:Bool->Addr}{CP P4 P5 CN CB CT:Addr}{L:Bool->Prop}
theorem Zm8:FnScope ["board", "deed", "name"] ["board", "deed"] (Zg (top 13)):=⟨rfl,rfl,rfl,by decide+kernel,rfl,by decide+kernel,by decide+kernel⟩
set_option maxHeartbeats 8000000 in
theorem Zr6 (D:Def K mg "done" (top 13) ["board", "deed"]) (G:MG P w K mg base L CC CP P4 P5 CN CB CT):Fu P w K mg base (CX1 P w) 12 "done" ["board", "deed"] (Zf7 L K CC CP P4 P5 CN CB CT):=by
 refine D.fux Zm8 (fun vs H Q E h=>?_) (fun f cdv A outer s H vs Q E hr h=>?_)
 ·obtain⟨fw,F,x,b,p,u,d,l,rfl,_⟩:=h
  rfl
 ·obtain⟨fw,F,x,b,p,u,d,l,rfl,D0,t,hd,dok,k1,k2⟩:=h
  have TB:=G.tb fw l
  have G1:=G.g1 fw l
  have G2:=G.g2 fw l
  have G3:=G.g3 fw l
  have G4:=G.g4 fw l
  have G5:=G.g5 fw l
  have G6:=G.g6 fw l
  have G7:=G.g7 fw l
  have G8:=G.g8 fw l
  refine⟨_,Zh (Zp (i:=2) Zm8.nd rfl (.inl rfl) (Zr Zx (pv 1) Zd (fun _ _=>rfl)))
   (Zh (Zn (Zu Zy (pv 2) Zq (Zs _)) (Zf (Zj (pm G1 TB.cl hr Yf (pv 0) (Za (Zr Zx (pv 1) Zd (fun _ _=>rfl)) Zc)))) Zo)
   (Zh (Zn (Zu Zy (pv 2) Zq (Zs _)) (Zf (Zj (pm G2 TB.cl hr Yf (pv 0) (Za (Zr Zx (pv 1) Zd (fun _ _=>rfl)) Zc)))) Zo)
   (Zh (Zn (Zu Zy (pv 2) Zq (Zs _)) (Zf (Zj (pm G3 TB.cl hr Yf (pv 0) (Za (Zr Zx (pv 1) Zd (fun _ _=>rfl)) Zc)))) Zo)
   (Zh (Zn (Zu Zy (pv 2) Zq (Zs _)) (Zf (Zj (pm G4 TB.cl hr Yf (pv 0) (Za (Zr Zx (pv 1) Zd (fun _ _=>rfl)) Zc)))) Zo)
   (Zh (Zn (Zu Zy (pv 2) Zq (Zs _)) (Zf (Zj (pm G5 TB.cl hr Yf (pv 0) (Za (Zr Zx (pv 1) Zd (fun _ _=>rfl)) Zc)))) Zo)
   (Zh (Zn (Zu Zy (pv 2) Zq (Zs _)) (Zf (Zj (pm G6 TB.cl hr Yf (pv 0) (Za (Zr Zx (pv 1) Zd (fun _ _=>rfl)) Zc)))) Zo)
   (Zh (Zn (Zu Zy (pv 2) Zq (Zs _)) (Zf (Zj (pm0 G7 TB.cl hr Yf (pv 0)))) Zo)
   (Zf (Zj (pm0 G8 TB.cl hr Zk (pv 0))))))))))),?_⟩
  obtain⟨ex,S,r,a,m,q,hF,B,R,off⟩:=D0.ex
  obtain⟨dx,e0⟩:=B.at_
  have hx:x∈F:=by rw[hF];simp
  have kF:∀ {H':Hp},KeepBut F H H'->KD P4 P5 F H H':=fun k z o e hz=>k z o e fun h=>hz (List.mem_append_right _ h)
  have tF:∀ {H':Hp},KeepBut F H H'->TT P4 P5 H':=fun k=>t.kb k D0.solid
  have kx:∀ {H':Hp},KeepBut [x] H H'->KeepBut F H H':=fun k z o e hz=>k z o e fun h=>hz (by rw[List.mem_singleton.mp h];exact hx)
  have kT:∀ {H':Hp},KB P4 P5 H H'->KD P4 P5 F H H':=fun k z o e hz=>k z o e fun h=>hz (List.mem_append_left _ h)
  cases d with
  | flag isA wish v =>
   cases isA<;>cases wish
   ·refine⟨_,rfl,u,_,_,_,rfl,rfl,SqT.of hd,rfl,_,rfl,rfl,_,rfl,Zm (by decide) ⟨_,rfl,rfl,_,rfl,Zm (by decide) ⟨_,rfl,rfl,_,rfl,Zm (by decide) ⟨_,rfl,rfl,_,rfl,Z2 (by decide) ⟨_,rfl,x,dx,_,rfl,e0,Z1 B.exo (by decide+kernel),_,rfl,u,_,_,_,rfl,rfl,SqT.of hd,rfl,F,x,b,p,_,rfl,D0,t,?_⟩⟩⟩⟩⟩
    rcases dok with ⟨i,rfl,h0,h1⟩|od
    ·exact .inl ⟨i,rfl,h0,h1,fun H' F' p' k nw t' D' st=>k1 _ H' F' _ p' k nw t' D' (.inl ⟨i,rfl,h0,h1,rfl,rfl,st⟩)⟩
    ·exact .inr ⟨od,k2 CN _ H (Same.refl _) (.inr ⟨od,rfl,rfl,rfl⟩) (.inl ⟨rfl,rfl⟩)⟩
   ·refine⟨_,rfl,u,_,_,_,rfl,rfl,SqT.of hd,rfl,_,rfl,rfl,_,rfl,Zm (by decide) ⟨_,rfl,rfl,_,rfl,Zm (by decide) ⟨_,rfl,rfl,_,rfl,Z2 (by decide) ⟨_,rfl,x,dx,_,rfl,e0,Z1 B.exo (by decide+kernel),_,rfl,u,_,_,_,rfl,rfl,SqT.of hd,rfl,F,x,b,p,_,rfl,D0,t,?_⟩⟩⟩⟩
    rcases dok with ⟨i,rfl,h0,h1⟩|od
    ·exact .inl ⟨i,rfl,h0,h1,fun H' F' p' k nw t' D' st=>k1 _ H' F' _ p' k nw t' D' (.inl ⟨i,rfl,h0,h1,rfl,rfl,st⟩)⟩
    ·exact .inr ⟨od,k2 CN _ H (Same.refl _) (.inr ⟨od,rfl,rfl,rfl⟩) (.inl ⟨rfl,rfl⟩)⟩
   ·refine⟨_,rfl,u,_,_,_,rfl,rfl,SqT.of hd,rfl,_,rfl,rfl,_,rfl,Zm (by decide) ⟨_,rfl,rfl,_,rfl,Z2 (by decide) ⟨_,rfl,x,dx,_,rfl,e0,Z1 B.exo (by decide+kernel),_,rfl,u,_,_,_,rfl,rfl,SqT.of hd,rfl,F,x,b,p,_,rfl,D0,t,?_⟩⟩⟩
    rcases dok with ⟨i,rfl,h0,h1⟩|od
    ·exact .inl ⟨i,rfl,h0,h1,fun H' F' p' k nw t' D' st=>k1 _ H' F' _ p' k nw t' D' (.inl ⟨i,rfl,h0,h1,rfl,rfl,st⟩)⟩
    ·exact .inr ⟨od,k2 CN _ H (Same.refl _) (.inr ⟨od,rfl,rfl,rfl⟩) (.inl ⟨rfl,rfl⟩)⟩
   ·refine⟨_,rfl,u,_,_,_,rfl,rfl,SqT.of hd,rfl,_,rfl,rfl,_,rfl,Z2 (by decide) ⟨_,rfl,x,dx,_,rfl,e0,Z1 B.exo (by decide+kernel),_,rfl,u,_,_,_,rfl,rfl,SqT.of hd,rfl,F,x,b,p,_,rfl,D0,t,?_⟩⟩
    rcases dok with ⟨i,rfl,h0,h1⟩|od
    ·exact .inl ⟨i,rfl,h0,h1,fun H' F' p' k nw t' D' st=>k1 _ H' F' _ p' k nw t' D' (.inl ⟨i,rfl,h0,h1,rfl,rfl,st⟩)⟩
    ·exact .inr ⟨od,k2 CN _ H (Same.refl _) (.inr ⟨od,rfl,rfl,rfl⟩) (.inl ⟨rfl,rfl⟩)⟩
  | bar v =>
   refine⟨_,rfl,u,_,_,_,rfl,rfl,SqT.of hd,rfl,_,rfl,rfl,_,rfl,Zm (by decide) ⟨_,rfl,rfl,_,rfl,Zm (by decide) ⟨_,rfl,rfl,_,rfl,Zm (by decide) ⟨_,rfl,rfl,_,rfl,Zm (by decide) ⟨_,rfl,rfl,_,rfl,Z2 (by decide) ⟨_,rfl,x,dx,_,rfl,e0,Z1 B.exo (by decide+kernel),_,rfl,u,_,_,_,rfl,rfl,SqT.of hd,rfl,F,x,b,p,v,rfl,D0,?_⟩⟩⟩⟩⟩⟩
   rcases dok with bv|bb
   ·exact .inl ⟨bv,fun H' k D'=>k1 _ H' F _ p (kF (kx k)) (fun z hz=>.inl hz) (tF (kx k)) D' (.inl ⟨bv,rfl,rfl,rfl⟩)⟩
   ·exact .inr ⟨bb,k2 CB _ H (Same.refl _) (.inr ⟨bb,rfl,rfl,rfl⟩) (.inr (.inl ⟨rfl,rfl⟩))⟩
  | fin v =>
   refine⟨_,rfl,u,_,_,_,rfl,rfl,SqT.of hd,rfl,_,rfl,rfl,_,rfl,Zm (by decide) ⟨_,rfl,rfl,_,rfl,Zm (by decide) ⟨_,rfl,rfl,_,rfl,Zm (by decide) ⟨_,rfl,rfl,_,rfl,Zm (by decide) ⟨_,rfl,rfl,_,rfl,Zm (by decide) ⟨_,rfl,rfl,_,rfl,Z2 (by decide) ⟨_,rfl,x,dx,_,rfl,e0,Z1 B.exo (by decide+kernel),_,rfl,u,_,_,_,rfl,rfl,SqT.of hd,rfl,F,x,b,p,v,rfl,D0,?_⟩⟩⟩⟩⟩⟩⟩
   rcases dok with ⟨i,rfl,h0,h1⟩|od
   ·refine .inl ⟨i,rfl,h0,h1,?_⟩
    by_cases hl:b.pl.getLast?=some i
    ·exact .inl ⟨hl,fun H' k D'=>k1 _ H' F _ p (kF k) (fun z hz=>.inl hz) (tF k) D' (.inl ⟨i,rfl,h0,h1,.inl ⟨hl,rfl,rfl,rfl⟩⟩)⟩
    ·exact .inr ⟨hl,fun H' sm=>k2 CT _ H' sm (.inl ⟨i,rfl,h0,h1,.inr ⟨hl,rfl,rfl,rfl⟩⟩) (.inr (.inr ⟨rfl,rfl⟩))⟩
   ·exact .inr ⟨od,k2 CN _ H (Same.refl _) (.inr ⟨od,rfl,rfl,rfl⟩) (.inl ⟨rfl,rfl⟩)⟩
  | take =>
   refine⟨_,rfl,u,_,_,_,rfl,rfl,SqT.of hd,rfl,_,rfl,rfl,_,rfl,Zm (by decide) ⟨_,rfl,rfl,_,rfl,Zm (by decide) ⟨_,rfl,rfl,_,rfl,Zm (by decide) ⟨_,rfl,rfl,_,rfl,Zm (by decide) ⟨_,rfl,rfl,_,rfl,Zm (by decide) ⟨_,rfl,rfl,_,rfl,Zm (by decide) ⟨_,rfl,rfl,_,rfl,Z2 (by decide) ⟨_,rfl,x,dx,_,rfl,e0,Z1 B.exo (by decide+kernel),F,x,b,p,rfl,D0,t,?_⟩⟩⟩⟩⟩⟩⟩⟩
   exact fun v H' F' b' p' k nw t' hf tk D'=>k1 v H' F' b' p' k nw t' D' ⟨v,hf,rfl,tk⟩
  | best =>
   refine⟨_,rfl,u,_,_,_,rfl,rfl,SqT.of hd,rfl,_,rfl,rfl,_,rfl,Zm (by decide) ⟨_,rfl,rfl,_,rfl,Zm (by decide) ⟨_,rfl,rfl,_,rfl,Zm (by decide) ⟨_,rfl,rfl,_,rfl,Zm (by decide) ⟨_,rfl,rfl,_,rfl,Zm (by decide) ⟨_,rfl,rfl,_,rfl,Zm (by decide) ⟨_,rfl,rfl,_,rfl,Zm (by decide) ⟨_,rfl,x,dx,_,rfl,e0,Z1 B.exo (by decide+kernel),F,x,b,p,rfl,D0,t,?_⟩⟩⟩⟩⟩⟩⟩⟩
   exact fun v H' k t' hf=>k1 v H' F b p (kT k) (fun z hz=>.inl hz) t' (D0.to fun z o hz ez=>k z o ez ((D0.solid z hz).off t)) ⟨v,hf,rfl,rfl,rfl⟩
theorem Zs5:FnScope ["board", "deed"] ["board", "deed"] (Zg (top 14)):=⟨rfl,rfl,rfl,by decide+kernel,rfl,by decide+kernel,by decide+kernel⟩
set_option maxHeartbeats 8000000 in
theorem Ztp (D:Def K mg "done_or_refused" (top 14) ["board", "deed"]) (X:XW K mg CN CB CT) (GC:Fu P w K mg base (CX1 P w) 12 "done" ["board", "deed"] (Zf7 L K CC CP P4 P5 CN CB CT)):Fu P w K mg base CX0 13 "done_or_refused" ["board", "deed"] (spDo L K CC CP P4 P5):=by
 refine D.fu Zs5 (fun vs H Q E h=>?_) (fun f cdv A outer s H vs Q E hr h=>?_)
 ·obtain⟨fw,F,x,b,p,u,d,l,rfl,_⟩:=h
  rfl
 ·obtain⟨fw,F,x,b,p,u,d,l,rfl,D0,t,hd,dok,kk⟩:=h
  refine' ⟨_,Zf (Zm9 Jh ?B ?HH),?main⟩
  case B =>
   intro pins Ex
   exact Zf (Zj (pcS GC hr (Zrc Jh) (Za (pv 0) (Za (pv 1) Zc))))
  case HH =>
   exact Zam Jh rfl X.n X.tn X.en (fun a'=>Zf (Zj (Z5 (Za Zq (Za Zq Zc))))) (Zam Jh rfl X.b X.tb X.eb (fun a'=>Zf (Zj (Z5 (Za Zq (Za Zq Zc))))) (Zam Jh rfl X.t X.tt X.et (fun a'=>Zf (Zj (Z5 (Za Zq (Za Zq Zc))))) Zna))
  case main =>
   have fin:∀ (wd:Str) (C':Addr) (H':Hp),Same H H'->Ran K H fw b p d (.inr wd) b p->CWd CN CB CT wd C'->∀ z,H' z=none->Q (.ref z) (upd H' z (.tup [.str "refused",.str wd])):=by
    intro wd C' H' sm rn cw z nz
    have s2:=sm.trans (Same.new (o:=.tup [.str "refused",.str wd]) nz)
    exact kk _ (.inr wd) _ F b p (Zcb s2) (fun z hz=>.inl hz) (t.same s2) (D0.same s2) rn ⟨z,rfl,sm.free nz,Ze⟩
   refine⟨fun C' σ' H'=>∃ wd,CWd CN CB CT wd C'/\σ'=[some (.ref x),some (.ref u)]/\Same H H'/\Ran K H fw b p d (.inr wd) b p,?_,?_⟩
   ·refine⟨_,rfl,_,rfl,fw,F,x,b,p,u,d,l,rfl,D0,t,hd,dok,fun v H' F' b' p' k nw t' D' rn=>?_,fun C' wd H' sm rn cw C'' e=>?_⟩
    ·exact kk v (.inl v) H' F' b' p' k nw t' D' rn rfl
    ·cases e
     exact⟨wd,cw,rfl,sm,rn⟩
   ·rintro C' σ' H' ⟨wd,cw,rfl,sm,rn⟩
    have f2:=fin wd C' H' sm rn cw
    rcases cw with ⟨rfl,rfl⟩|⟨rfl,rfl⟩|⟨rfl,rfl⟩
    ·exact⟨true,X.nn,iteT ⟨(by show 2<=sizeLine;decide),f2⟩⟩
    ·exact⟨false,X.bn,iteF ⟨true,X.bb,iteT ⟨(by show 2<=sizeLine;decide),f2⟩⟩⟩
    ·exact⟨false,X.tn',iteF ⟨false,X.tb',iteF ⟨true,X.tt',iteT ⟨(by show 2<=sizeLine;decide),f2⟩⟩⟩⟩
end
end K10
namespace K10
open PySem L2 L3
def TV (H:Hp):Sum V Str->V->Prop
 | .inl v,r=>r=v
 | .inr wd,r=>∃ z,r=.ref z/\H z=some (.tup [.str "refused",.str wd])
end K10
namespace L3
open PySem PySem.Spec PyProof.Rows L2
end L3
namespace L3
open PySem PySem.Spec PyProof.Rows L2
def DctK (P:Program) (w:World) (K:PySem.W.Frag) (a:Addr) (kvs:List (Key × V)):Prop:=(a == sysModules)=false/\∀ h:Heap,K.In h->∃ vs,KV kvs vs/\h.DictOf (Yp P w) a vs
def entS (w:World) (q:Str × Tok × Int × Tok):DictEntry:=⟨hashStr w q.1,.str q.1 q.2.1,.int q.2.2.1 q.2.2.2⟩
theorem Zsl {P:Program}{w:World}{K:PySem.W.Frag}{a:Addr}{l:List (Str × Tok × Int × Tok)}{ep:Nat}(hs:(a == sysModules)=false) (lk:K.lookup a=some ⟨.type "dict",none,.dict (l.map (entS w)).toArray ep,#[]⟩) (nd:(l.map (·.1)).Nodup) :
  DctK P w K a (l.map fun q=>(Sum.inr q.1,V.int q.2.2.1)):=by
 refine⟨hs,fun h X=>⟨l.map fun q=>(Sum.inr q.1,Value.int q.2.2.1 q.2.2.2),?_,_,_,_,X _ _ lk,⟨rfl,rfl,rfl⟩,rfl,?_,?_,?_⟩⟩
 ·clear lk nd
  induction l with
  | nil=>exact .nil
  | cons q r ih=>exact .cons ⟨rfl,_,rfl⟩ ih
 ·intro e he
  rw[List.mem_toArray] at he
  obtain⟨q,_,rfl⟩:=List.mem_map.mp he
  exact⟨Sum.inr q.1,Zav P w q.1 q.2.1,rfl⟩
 ·clear lk nd
  induction l with
  | nil=>exact .nil
  | cons q r ih=>exact .cons (Zav P w q.1 q.2.1) rfl ih
 ·rw[List.map_map]
  have:(l.map ((fun x:Key × Value=>x.1) ∘ fun q=>(Sum.inr q.1,Value.int q.2.2.1 q.2.2.2)))=(l.map (·.1)).map Sum.inr:=by rw[List.map_map];rfl
  rw[this]
  exact List.pairwise_map.mpr (nd.imp fun h e=>h (Sum.inr.inj e))
def Zqf (kvs:List (Key × V)) (ty:TE):TE:=fun σ H Q=>ty σ H fun y H1=>∃ k,y=kV k/\Q ((valV kvs k).getD .non) H1
theorem Zgf {X:Cx}{x:Str}{a:Addr}{kvs:List (Key × V)}{e:Expr}{ty:TE}{p apos cpos:Pos}(D:DctK X.prog X.w X.K a kvs) (hm:X.mg x=some (.ref a)) (hg:Gl X x) (he:PE X e ty) (m:M1 X (.Name x p) "get" apos e cpos) (hdb:(x == ("__debug__" : Str))=false:=by decide) :
  PE X (.Call (.Attribute (.Name x p) "get" apos) [e] [] cpos) (Zqf kvs ty):=by
 intro pins s σ H Q I h
 refine wpAny_Call_method m.base m.few m.line PySem.F.plainAttrs_dict PySem.F.slot_dict_get PySem.F.type_dict_get (thn (Zbl (v:=.ref a) hg hm rfl hdb pins s σ H (fun v H1=>v=.ref a/\H1=H) I ⟨rfl,rfl⟩) fun u s1 ⟨y,H1,I1,rx,e1,e2⟩=>?_)
 subst e1
 subst e2
 obtain rfl:u=Value.ref a:=rx
 obtain⟨vs,rel,dd⟩:=D.2 _ I1.kIn
 refine⟨dd.typeIs,dd.mapOf.noDict,?_⟩
 rw[m.trees]
 refine Calls.callWith_builtin rfl (Calls.evalArgs_plain (Calls.spliced_cons (thn (he pins s1 σ _ _ I1 h) fun iv s2 ⟨y,H2,I2,ry,k,ey,q2⟩=>Calls.spliced_nil ?_)))
 subst ey
 obtain⟨vs2,rel2,dd2⟩:=D.2 _ I2.kIn
 exact call_meetsIn PySem.F.slot_dict_get dd2.typeIs PySem.F.entry_dict_get (PySem.F.args_dict_get_2 _ _) (meets_dict_get (Yp X.prog X.w) a (Zlr ry) D.1) ⟨_,dd2.mapOf,⟨(valV kvs k).getD .non,H2,I2.tok _,(rel2.val k).getD (show RelV .non Value.none from rfl),q2⟩⟩
end L3
namespace L3
open PySem L2
theorem Ze9:bootBuiltins "str" = some (.type "str"):=by decide+kernel
theorem Zgs {K:PySem.W.Frag}{a:Addr}{xs:List V}{g:TG}{tb:TS}{D:Ends}{σ:L2.St}{H:Hp}(Pv:Nat->L2.St->Hp->Prop) (h0:Pv 0 σ H) (hl:∀ i σ H,i<=xs.length->Pv i σ H->SqL K H a xs)
  (hs:∀ i x σ H T,xs[i]?=some x->Pv i σ H->H T=none->g (.ref T) σ (upd H T (.tup [.int i,x])) fun σ2 H2=>tb { D with nx:=Pv (i+1),ct:=Pv (i+1),bk:=D.nx } σ2 H2) (hd:∀ σ H,Pv xs.length σ H->D.nx σ H) :
  ∃ W:Nat->Nat->L2.St->Hp->Prop,(∃ m,W 0 m σ H)/\∀ i m σ H,W i m σ H ->
   ((Ite K a).stop i H/\D.nx σ H)\/((Ite K a).go i H/\∃ N:L2.St->Hp->Prop,(∀ σ' H',N σ' H'->∃ m',m'<m/\W (i+1) m' σ' H')/\∀ x H',(Ite K a).yld i H x H'->g x σ H' fun σ2 H2=>tb { D with nx:=N,ct:=N,bk:=D.nx } σ2 H2):=by
 refine⟨fun i m σ H=>m=xs.length - i/\i<=xs.length/\Pv i σ H,⟨xs.length,by simp,Nat.zero_le _,h0⟩,?_⟩
 rintro i m σ H ⟨rfl,hi,p⟩
 have q:=hl i σ H hi p
 by_cases hlt:i<xs.length
 ·refine .inr ⟨⟨xs,xs[i],q,by simp[hlt]⟩,Pv (i+1),fun σ' H' p'=>⟨xs.length - (i+1),by omega,rfl,hlt,p'⟩,fun x H' y=>?_⟩
  obtain⟨T,v,nT,rfl,rfl,hv⟩:=y
  exact hs i v σ H T (hv xs q) p nT
 ·have e:i=xs.length:=by omega
  subst e
  exact .inl ⟨⟨xs,q,Nat.le_refl _⟩,hd σ H p⟩
end L3
namespace K10
open PySem L2 L3
abbrev partsK:List (Key × V):=[(Sum.inr "ring",.int 2),(Sum.inr "calm",.int 2),(Sum.inr "mute",.int 2),(Sum.inr "free",.int 2),(Sum.inr "bar",.int 2),(Sum.inr "best",.int 1),(Sum.inr "take",.int 1),(Sum.inr "end",.int 2)]
theorem Zb0 {K:PySem.W.Frag}{H:Hp}{p:Addr}{xs:List V}(h:H p=some (.tup xs)):TruV K (.ref p) H (!xs.isEmpty):=.inr (.inl ⟨_,SqT.of h,by cases xs<;>rfl⟩)
theorem Y5 {K:PySem.W.Frag}:PySem.W.kitOne K (.type "str") (.type "str")=some true:=by unfold PySem.W.kitOne;rw[if_pos (by simp)]
def Tld (r:Sum V Str):Prop:=(∃ v,r=.inl v/\((v=.non)\/(∃ c,v=.bl c)\/∃ i,v=.int i))\/∃ wd,r=.inr wd/\SeqAt.shaped (.tuple [.str "refused",.str wd])=true
inductive Chain (K:PySem.W.Frag) (b:BS):List Dd->List (Sum V Str)->BS->Prop
 | nil:Chain K b [] [] b
 | snoc {ds:List Dd} {rs:List (Sum V Str)} {b1 b2:BS} {d:Dd} {r:Sum V Str} (c:Chain K b ds rs b1) (h:∃ H fw p p',Ran K H fw b1 p d r b2 p') (tl:Tld r):Chain K b (ds++[d]) (rs++[r]) b2
theorem Ze5 {K:PySem.W.Frag}{b b1:BS}{ds:List Dd}{rs:List (Sum V Str)}(c:Chain K b ds rs b1):∀ {rs':List (Sum V Str)}{b2:BS},Chain K b ds rs' b2->rs=rs'/\b1=b2:=by
 induction c with
 | nil =>
  intro rs' b2 c2
  generalize e:([]:List Dd)=ds at c2
  cases c2 with
  | nil=>exact⟨rfl,rfl⟩
  | snoc c h tl=>simp at e
 | @snoc ds rs b1 b2 d r c h tl ih =>
  intro rs' b3 c2
  generalize e:ds++[d]=ds' at c2
  cases c2 with
  | nil=>simp at e
  | @snoc ds2 rs2 b4 _ d2 r2 c2 h2 tl2 =>
   obtain⟨e1,e2⟩:=List.append_inj' e rfl
   subst e1
   cases e2
   obtain⟨rfl,rfl⟩:=ih c2
   obtain⟨_,_,_,_,q1⟩:=h
   obtain⟨_,_,_,_,q2⟩:=h2
   obtain⟨rfl,rfl⟩:=Zos q1 q2
   exact⟨rfl,rfl⟩
theorem Zgy {K:PySem.W.Frag}{b b1:BS}{ds:List Dd}{rs:List (Sum V Str)}(c:Chain K b ds rs b1):b1.rk=b.rk:=by
 induction c with
 | nil=>rfl
 | snoc c h tl ih =>
  obtain⟨_,_,_,_,q⟩:=h
  rw[Zqz q,ih]
theorem Zch {K:PySem.W.Frag}{b b1:BS}{ds:List Dd}{rs:List (Sum V Str)}(c:Chain K b ds rs b1):rs.length=ds.length:=by
 induction c with
 | nil=>rfl
 | snoc c h tl ih=>simp[ih]
theorem Zkh {K:PySem.W.Frag}{b b1:BS}{ds:List Dd}{rs:List (Sum V Str)}(c:Chain K b ds rs b1):∀ r∈rs,Tld r:=by
 induction c with
 | nil=>intro r h;cases h
 | snoc c h tl ih =>
  intro r hr
  rcases List.mem_append.mp hr with hr|hr
  ·exact ih r hr
  ·rw[List.mem_singleton.mp hr];exact tl
theorem Zky {K:PySem.W.Frag}{H:Hp}{z:Addr}{t:Value}(h:TyOf K H (.ref z) t):H z≠none:=by
 cases h with
 | lst e=>rw[e];simp
 | frz e=>rw[e];simp
 | tup e=>rw[e];simp
 | dK e=>rw[e];simp
 | dT e=>rw[e];simp
 | ins e=>rw[e];simp
theorem Zap {K:PySem.W.Frag}{H:Hp}{z:Addr}{b:Bool}(h:WholeV K H (.ref z) b):H z≠none:=by
 obtain⟨t,_,_,ty,_⟩:=h
 exact Zky ty
theorem Zlj {K:PySem.W.Frag}{H:Hp}{n:Nat}{d:Dd}{z:Addr}(h:DeedOk K H n d) (hz:.ref z∈d.parts):H z≠none:=by
 cases d with
 | flag i w v =>
  simp[Dd.parts] at hz
  subst hz
  rcases h with ⟨i,e,_⟩|h
  ·cases e
  ·rcases h with ⟨i,e,_⟩|h
   ·cases e
   ·exact Zap h
 | fin v =>
  simp[Dd.parts] at hz
  subst hz
  rcases h with ⟨i,e,_⟩|h
  ·cases e
  ·rcases h with ⟨i,e,_⟩|h
   ·cases e
   ·exact Zap h
 | bar v =>
  simp[Dd.parts] at hz
  subst hz
  rcases h with h|h
  ·rcases h with e|⟨_,e,_⟩<;>cases e
  ·rcases h with ⟨i,e,_⟩|⟨h,_⟩
   ·cases e
   ·exact Zap h
 | take=>simp[Dd.parts] at hz
 | best=>simp[Dd.parts] at hz
structure Deeds (K:PySem.W.Frag) (n:Nat) (P4 P5:Addr) (F:List Addr) (H:Hp) (us:List Addr) (ds:List Dd):Prop where
 len:ds.length=us.length
 at_:∀ (i:Nat) (u:Addr) (d:Dd),us[i]?=some u->ds[i]?=some d->DeedAt H u d/\DeedOk K H n d/\∀ z,.ref z∈d.parts->z∉F/\z∉TL P4 P5
section
variable {P:Program}{w:World}{K:PySem.W.Frag}{mg:Str->Option Value}{base:Heap}{CC:Bool->Addr}{CP P4 P5:Addr}
def Zdg:Sp:=fun vs H Q _=>∃ (u:Addr) (d:Dd),vs=[.ref u]/\DeedAt H u d/\Q (.bl true) H
theorem Zgb:FnScope ["thing"] ["thing"] (Zg (top 12)):=⟨rfl,rfl,rfl,by decide+kernel,rfl,by decide+kernel,by decide+kernel⟩
set_option maxHeartbeats 2000000 in
theorem Zjy {aP:Addr}(D:Def K mg "is_deed" (top 12) ["thing"]) (T:Txt K mg) (hS:mg "str" = none) (hP:mg "PARTS" = some (.ref aP)) (DP:DctK P w K aP partsK):Fu P w K mg base CX0 1 "is_deed" ["thing"] Zdg:=by
 refine D.fu Zgb (fun vs H Q E h=>?_) (fun f cdv A outer s H vs Q E hr h=>?_)
 ·obtain⟨u,d,rfl,_⟩:=h
  rfl
 ·obtain⟨u,d,rfl,hd,kk⟩:=h
  refine⟨_,Zh (Zn (Yy (Yh (Zz (Yt T.isi T.tuple Zaj (pv 0)))) (Ja (Yh (Zfq (pv 0))))).pt (Zf (Zj Ye)) Zo)
   (Zf (Zj (Ys (Yt T.isi hS Ze9 (Zr Zx (pv 0) Zd (fun _ _=>rfl))) (Yk (Y1 Zy (Zgf DP hP rfl (Zr Zx (pv 0) Zd (fun _ _=>rfl)) ⟨rfl,rfl,rfl,rfl⟩) (Yc T.len (pv 0)) (Zs _)))))),?_⟩
  refine⟨_,rfl,_, "tuple",_,true,rfl,.tup hd,Zad,_,rfl,iteF ⟨_,rfl,_,Zb0 hd,Zm (by cases d<;>rfl) ?_⟩⟩
  cases d with
  | flag isA wish v =>
   refine⟨_,rfl,u,_,_,_,rfl,rfl,SqT.of hd,rfl,_, "str",_,true,rfl,.str _,Y5,_,rfl,iteT ?_⟩
   refine⟨_,rfl,u,_,_,_,rfl,rfl,SqT.of hd,rfl,Sum.inr (Zpi isA wish),rfl,_,rfl,u,_,rfl,.inr (SqT.of hd),?_⟩
   cases isA<;>cases wish<;>exact⟨rfl,kk⟩
  | bar v =>
   refine⟨_,rfl,u,_,_,_,rfl,rfl,SqT.of hd,rfl,_, "str",_,true,rfl,.str _,Y5,_,rfl,iteT ?_⟩
   exact⟨_,rfl,u,_,_,_,rfl,rfl,SqT.of hd,rfl,Sum.inr "bar",rfl,_,rfl,u,_,rfl,.inr (SqT.of hd),rfl,kk⟩
  | fin v =>
   refine⟨_,rfl,u,_,_,_,rfl,rfl,SqT.of hd,rfl,_, "str",_,true,rfl,.str _,Y5,_,rfl,iteT ?_⟩
   exact⟨_,rfl,u,_,_,_,rfl,rfl,SqT.of hd,rfl,Sum.inr "end",rfl,_,rfl,u,_,rfl,.inr (SqT.of hd),rfl,kk⟩
  | take =>
   refine⟨_,rfl,u,_,_,_,rfl,rfl,SqT.of hd,rfl,_, "str",_,true,rfl,.str _,Y5,_,rfl,iteT ?_⟩
   exact⟨_,rfl,u,_,_,_,rfl,rfl,SqT.of hd,rfl,Sum.inr "take",rfl,_,rfl,u,_,rfl,.inr (SqT.of hd),rfl,kk⟩
  | best =>
   refine⟨_,rfl,u,_,_,_,rfl,rfl,SqT.of hd,rfl,_, "str",_,true,rfl,.str _,Y5,_,rfl,iteT ?_⟩
   exact⟨_,rfl,u,_,_,_,rfl,rfl,SqT.of hd,rfl,Sum.inr "best",rfl,_,rfl,u,_,rfl,.inr (SqT.of hd),rfl,kk⟩
def Zmw (K:PySem.W.Frag) (CC:Bool->Addr) (CP P4 P5:Addr):Sp:=fun vs H Q _=>∃ (fw:Bool) (F:List Addr) (x q:Addr) (b:BS) (p:PG) (us:List Addr) (ds:List Dd),vs=[.ref x,.ref q]/\Bd fw (CC fw) CP F H x b p/\TT P4 P5 H/\H q=some (.lst (us.map V.ref))/\q∉F/\us.length<=64/\Deeds K b.rk.length P4 P5 F H us ds /\
 ∀ d rs ys H' F' b' p',KD P4 P5 F H H'->Nw H F F'->TT P4 P5 H'->Bd fw (CC fw) CP F' H' x b' p'->Chain K b ds rs b'->ys.length=rs.length->(∀ (j:Nat) r y,rs[j]?=some r->ys[j]?=some y->TV H' r y)->H d=none->d∉F'->H' d=some (.lst ys)->Q (.ref d) H'
theorem Zcv:FnScope ["board", "deeds", "place", "thing"] ["board", "deeds"] (Zg (top 15)):=⟨rfl,rfl,rfl,by decide+kernel,rfl,by decide+kernel,by decide+kernel⟩
set_option maxHeartbeats 8000000 in
theorem Zr3 (D:Def K mg "play" (top 15) ["board", "deeds"]) (T:Txt K mg) (GI:Fu P w K mg base CX0 1 "is_deed" ["thing"] Zdg) (GD:Fu P w K mg base CX0 13 "done_or_refused" ["board", "deed"] (spDo (fun _=>True) K CC CP P4 P5)):Fu P w K mg base CX0 14 "play" ["board", "deeds"] (Zmw K CC CP P4 P5):=by
 refine D.fu Zcv (fun vs H Q E h=>?_) (fun f cdv A outer s H vs Q E hr h=>?_)
 ·obtain⟨fw,F,x,q,b,p,us,ds,rfl,_⟩:=h
  rfl
 ·obtain⟨fw,F,x,q,b,p,us,ds,rfl,B0,tt,hq,qF,l64,dd0,kk⟩:=h
  refine' ⟨_,Zh (Zcx PassesOwn.never rfl (Zfn T.enum (Za (pv 1) Zc)) (Zdl (K:=K) (n:=2) rfl (Y0 (Ya (i:=2) Zcv.nd rfl (.inl rfl)) (Y0 (Ya (i:=3) Zcv.nd rfl (.inl rfl)) Zbk)))
    (Zf (Zn (Yh (Zz (pc GI hr Zk (Za (pv 3) Zc)))) (Zf Zai) Zo)))
   (Zf (Zj (Jp (ts:=["deed"]) (fvs:=["board"]) (js:=[0]) (cl:=[("board",s.heap.objs.size+1)]) rfl ?S (Zb7 (pv 1)) (fun _ _ _ _=>Ya (i:=0) (show List.Nodup (["deed", "board"]:List Str) from by decide+kernel) rfl (.inl rfl) (Or.inr rfl)) (fun _ _ _ _=>Zas)
     (fun _ _ _ _=>pc GD hr Zk (Za (pv 1) (Za (pv 0) Zc)))))),?main⟩
  case S=>exact Zg4 rfl rfl (by decide+kernel) (by decide+kernel) rfl (.inl rfl) rfl (.inl rfl) rfl
  case main =>
   refine⟨_,rfl,q,rfl,⟨_,SqL.of hq⟩,?_⟩
   refine Zgs (K:=K) (a:=q) (xs:=us.map V.ref) (fun i σ Hx=>∃ v2 v3,σ=[some (.ref x),some (.ref q),v2,v3]/\Same H Hx) ⟨none,none,rfl,Same.refl _⟩ (fun i σ Hx _ ⟨_,_,_,sm⟩=>SqL.of (sm _ _ hq)) ?turn ?done
   case turn =>
    rintro i xv σ Hx t hv ⟨v2,v3,rfl,sm⟩ nt
    rw[List.getElem?_map] at hv
    cases e:us[i]? with
    | none=>rw[e] at hv;cases hv
    | some u =>
     rw[e] at hv
     cases hv
     have hi:i<us.length:=(List.getElem?_eq_some_iff.mp e).1
     obtain⟨hd,_,_⟩:=dd0.at_ i u _ e (List.getElem?_eq_getElem (by rw[dd0.len];exact hi))
     have s1:=sm.trans (Same.new (o:=.tup [.int i,.ref u]) nt)
     refine⟨t,_,rfl,SqT.of Ze,rfl,_,_,rfl,_,_,rfl,rfl,?_⟩
     refine⟨_,rfl,u,_,rfl,s1 _ _ hd,_,rfl,iteF ?_⟩
     exact⟨_,_,rfl,s1⟩
   case done =>
    rintro σ Hx ⟨v2,v3,rfl,sm⟩
    have B1:=B0.same sm
    have t1:=tt.same sm
    have hq1:=sm _ _ hq
    refine⟨_,rfl,q,rfl,⟨_,SqL.of hq1⟩,[.ref x],rfl,fun d nd=>?_⟩
    have ndH:H d=none:=sm.free nd
    have qd:q≠d:=Zl hq1 nd
    have dT:d∉TL P4 P5:=fun z=>t1.has d z nd
    refine Jg us.length (by rw[sizeLine_eq];omega) (fun i ys H2=>∃ F2 b2 p2 rs,Bd fw (CC fw) CP F2 H2 x b2 p2/\TT P4 P5 H2/\Chain K b (ds.take i) rs b2/\i<=us.length/\ys.length=rs.length/\rs.length=i/\(∀ (j:Nat) r y,rs[j]?=some r->ys[j]?=some y->TV H2 r y)/\(∀ z o,H z=some o->z∉TL P4 P5->z∉F->H2 z=some o)/\(∀ z∈F2,z∈F\/H z=none)/\d∉F2/\H2 d=some (.lst ys))
     ⟨F,b,p,[],B1.to (fun z o hz e=>by rw[Zb (fun h=>B1.off nd (by rw[← h];exact hz))];exact e),t1.same (Same.new nd),by rw[List.take_zero];exact .nil,Nat.zero_le _,rfl,rfl,fun j r y h=>by simp at h,fun z o e _ _=>Same.new nd _ _ (sm _ _ e),fun z hz=>.inl hz,fun h=>B1.off nd h,Ze⟩
     (fun i ys H2 ⟨_,_,_,rs,_,_,_,_,e1,e2,_,_,_,_,e3⟩=>⟨e3,by omega⟩) ?_ ?_
    ·rintro i ys H2 N hi ⟨F2,b2,p2,rs,B2,t2,ch,_,ly,lr,tv,kp,nw,dF,hD⟩ rest
     have hq2:=kp q _ hq (tt.off hq fun _ z=>by cases z) qF
     have hu:(us.map V.ref)[i]?=some (.ref us[i]):=by rw[List.getElem?_map,List.getElem?_eq_getElem hi];rfl
     refine⟨⟨_,_,SqL.of hq2,hu⟩,?_⟩
     rintro xv H3 ⟨rfl,hx⟩
     have hx':=hx _ (SqL.of hq2)
     rw[hu] at hx'
     cases hx'
     have hi':i<ds.length:=by rw[dd0.len];exact hi
     obtain⟨hd,dok,dp⟩:=dd0.at_ i us[i] ds[i] (List.getElem?_eq_getElem hi) (List.getElem?_eq_getElem hi')
     have hd2:DeedAt H3 us[i] ds[i]:=kp _ _ hd (tt.off hd fun _ z=>by cases z) fun h=>by
      rcases B0.solid _ h with ⟨xs,e⟩|⟨_,_,_,e⟩<;>rw[hd] at e<;>cases e
     have er:b2.rk=b.rk:=Zgy ch
     have dok2:DeedOk K H3 b2.rk.length ds[i]:=by
      rw[er]
      exact dok.to fun z o hz e=>kp z o e (dp z hz).2 (dp z hz).1
     refine⟨rfl,rfl,iteT ⟨_,rfl,_,rfl,fw,F2,x,b2,p2,us[i],ds[i],trivial,rfl,B2,t2,hd2,dok2,fun r rr H4 F4 b4 p4 k4 nw4 t4 B4 rn ta=>?_⟩⟩
     have hD4:H4 d=some (.lst ys):=k4 _ _ hD fun h=>(List.mem_append.mp h).elim dT dF
     have dF4:d∉F4:=fun h=>by
      rcases nw4 d h with h|h
      ·exact dF h
      ·rw[hD] at h;cases h
     refine⟨hD4,rest _ _ ⟨F4,b4,p4,rs++[rr],B4.to (fun z o hz e=>by rw[Zb (fun h=>dF4 (by rw[← h];exact hz))];exact e),t4.kb ((KeepBut.refl _ _).upd (x:=d) (.inl (List.mem_singleton.mpr rfl))) (fun z hz=>by rw[List.mem_singleton.mp hz];exact .inl ⟨_,hD4⟩),?_,by omega,by simp[ly],by simp[lr],?_,?_,?_,dF4,Ze⟩⟩
     ·rw[List.take_succ_eq_append_getElem hi']
      exact .snoc ch ⟨H3,fw,p2,p4,rn⟩ (Zgd B2.ok rn)
     ·intro j r' y' h1 h2
      have tup4:∀ z xs,H3 z=some (.tup xs)->upd H4 d (.lst (ys++[r])) z=some (.tup xs):=fun z xs e=>by
       rw[Zb (Yl e hD (by intro z;cases z))]
       exact KD.at k4 t2 e (fun _ z=>by cases z) fun h=>by
        rcases B2.solid z h with ⟨ys,e'⟩|⟨_,_,_,e'⟩<;>rw[e] at e'<;>cases e'
      by_cases hj:j<rs.length
      ·rw[List.getElem?_append_left hj] at h1
       rw[List.getElem?_append_left (by omega)] at h2
       have q:=tv j r' y' h1 h2
       cases r' with
       | inl v=>exact q
       | inr wd =>
        obtain⟨z,e1,e2⟩:=q
        exact⟨z,e1,tup4 _ _ e2⟩
      ·have ej:j=rs.length:=by
        have:=(List.getElem?_eq_some_iff.mp h1).1
        simp at this
        omega
       subst ej
       rw[List.getElem?_append_right (Nat.le_refl _)] at h1
       rw[List.getElem?_append_right (by omega)] at h2
       simp[ly] at h1 h2
       subst h1 h2
       cases rr with
       | inl v=>exact ta
       | inr wd =>
        obtain⟨z,e1,e2,e3⟩:=ta
        exact⟨z,e1,by rw[Zb (Yl e3 hD4 (by intro z;cases z))];exact e3⟩
     ·intro z o e h1 h2
      have e2:=kp z o e h1 h2
      rw[Zb (Zl e ndH)]
      refine k4 _ _ e2 fun h=>(List.mem_append.mp h).elim h1 fun h=>?_
      rcases nw z h with h|h
      ·exact h2 h
      ·rw[e] at h;cases h
     ·intro z hz
      rcases nw4 z hz with h|h
      ·exact nw z h
      ·by_cases hzT:z∈TL P4 P5
       ·exact absurd h (t2.has z hzT)
       ·by_cases hzF:z∈F
        ·exact .inl hzF
        ·right
         cases e:H z with
         | none=>rfl
         | some o=>rw[kp z o e hzT hzF] at h;cases h
    ·rintro ys H2 ⟨F2,b2,p2,rs,B2,t2,ch,_,ly,lr,tv,kp,nw,dF,hD⟩
     have hq2:=kp q _ hq (tt.off hq fun _ z=>by cases z) qF
     refine⟨⟨_,SqL.of hq2,by rw[List.length_map];exact Nat.le_refl _⟩,?_⟩
     rw[List.take_of_length_le (by rw[dd0.len];exact Nat.le_refl _)] at ch
     exact kk d rs ys H2 F2 b2 p2 (fun z o e h=>kp z o e (fun q=>h (List.mem_append_left _ q)) fun q=>h (List.mem_append_right _ q)) nw t2 B2 ch ly tv ndH dF hD
end
end K10
namespace L3
open PySem PySem.Spec PyProof.Rows L2 PySem.W
section
variable {X:Cx}
def Zou (K:Frag):List V->Hp->VK->Prop:=fun xs H Q=>∃ (a C:Addr) (od:Option Addr) (c:V) (u:Value) (b:Bool),xs=[.ref a,c]/\H a=some (Ji a C od)/\ExcG K C/\(∀ v,RelV c v->v=u)/\kitOne K (.ref C) u=some b/\Q (.bl b) H
theorem Ze8:CallR X (.builtin "isinstance") (Zou X.K):=by
 intro pins s σ H xs us Q I r h
 obtain⟨a,C,od,c,u,b,rfl,ha,G,hu,e,q⟩:=h
 obtain⟨u1,u2,rfl,r1,r2⟩:=Zn2 r
 cases (show u1=Value.ref a from r1)
 cases hu u2 r2
 obtain⟨⟨ox,vs,i0,i1,_⟩,_,_⟩:=(show ObjOk X.prog X.w H s.heap a (Ji a C od) from I.hok a _ ha)
 exact kia_one (Zlq G) I.kIn ⟨ox,i0,i1⟩ e (fun z=>nomatch z) fun tk=>⟨.bl b,H,I.tok _,rfl,q⟩
end
section
variable {X:Cx}{p pos q:Pos}{T:Str}{e:Expr}{te:TE}
theorem Zat {c:Addr}{K:PySem.W.Frag}(hm:X.mg "isinstance" = none) (hmT:X.mg T=some (.ref c)) (he:PE X e te) (hg:Gl X "isinstance" := by rfl) (hgT:Gl X T:=by rfl) (hdb:(T == ("__debug__" : Str))=false:=by decide)
  (hst:starEach [e,.Name T q] X.env=(false,eval e X.env)::starEach [.Name T q] X.env:=by rfl) (hst2:starEach [.Name T q] X.env=(false,eval (.Name T q) X.env)::starEach [] X.env:=by rfl) (hK:X.K=K:=by rfl) :
  PE X (.Call (.Name "isinstance" p) [e,.Name T q] [] pos) (tCB (Zou K) (Yr te (Yr (tC (.ref c)) tNil))) :=
 hK▸Za8 Ze8 hg hm boot_isinstance (Za he (Za (Zbl (v:=.ref c) hgT hmT rfl hdb) Zc hst2) hst) (he:=hst) (hpl:=by rw[hst2];rfl)
theorem Zo6 {m:String}{K:PySem.W.Frag}(hm:X.mg "isinstance" = none) (hmT:X.mg T=none) (hv:bootBuiltins T=some (.type m)) (he:PE X e te) (hg:Gl X "isinstance" := by rfl) (hgT:Gl X T:=by rfl) (hn:T ≠ "__name__" := by decide) (hdb:(T == ("__debug__" : Str))=false:=by decide)
  (hst:starEach [e,.Name T q] X.env=(false,eval e X.env)::starEach [.Name T q] X.env:=by rfl) (hst2:starEach [.Name T q] X.env=(false,eval (.Name T q) X.env)::starEach [] X.env:=by rfl) (hK:X.K=K:=by rfl) :
  PE X (.Call (.Name "isinstance" p) [e,.Name T q] [] pos) (tCB (Zou K) (Yr te (Yr (tC (.ty m)) tNil))) :=
 hK▸Za8 Ze8 hg hm boot_isinstance (Za he (Za (Zjb (v:=.ty m) hgT hmT hv rfl hn hdb) Zc hst2) hst) (he:=hst) (hpl:=by rw[hst2];rfl)
end
end L3
namespace L3
open PySem PySem.Spec PyProof.Rows L2 PySem.W
def PlnV:V->Prop
 | .byt _=>False
 | .flt _=>False
 | _=>True
def rNeV (K:PySem.W.Frag):R2:=fun x y H Q=>∃ (a b:Addr) (xs:List V),x=.ref a/\y=.ref b/\SqL K H a xs/\SqL K H b xs/\(∀ v∈xs,PlnV v)/\Q (.bl false) H
theorem Zse {A:Around}{s:Shared}{v:V}{u u':Value}(p:PlnV v) (r:RelV v u) (r':RelV v u'):PySem.SeqAt.EqAt A s u u' true:=by
 cases v with
 | non=>cases r;cases r';exact .same _
 | bl b=>cases r;cases r';exact .same _
 | int i=>obtain⟨t,rfl⟩:=r;obtain⟨t',rfl⟩:=r';have:=PySem.SeqAt.EqAt.int_int (A:=A) (s:=s) i t i t';rwa [beq_self_eq_true] at this
 | str x=>obtain⟨t,rfl⟩:=r;obtain⟨t',rfl⟩:=r';have:=PySem.SeqAt.EqAt.str_str (A:=A) (s:=s) x t x t';rwa [beq_self_eq_true] at this
 | byt b=>exact p.elim
 | flt b=>exact p.elim
 | ref a=>cases r;cases r';exact .same _
 | ty n=>cases r;cases r';exact .same _
theorem Zre {X:Cx}(hu:X.A.units+64<cLine):OpR X (compareOp .NotEq) (rNeV X.K):=by
 intro pins s σ H x y v u Q I rx ry h
 obtain⟨a,b,xs,rfl,rfl,h1,h2,pl,q⟩:=h
 cases rx
 cases ry
 obtain⟨its,r1,l1,_⟩:=I.list h1
 obtain⟨its2,r2,l2,_⟩:=I.list h2
 have z1:=r1.length
 have z2:=r2.length
 have:=PySem.SeqAt.RcNeAt.lists (A:=X.A) (s:=s) (e:=fun _=>true) l1.isList l2.isList (by simp;omega) (by omega) (fun j h1 h2=>by
  have hj:j<xs.length:=by simp at h1;omega
  obtain⟨u1,e1,q1⟩:=r1.get (List.getElem?_eq_getElem hj)
  obtain⟨u2,e2,q2⟩:=r2.get (List.getElem?_eq_getElem hj)
  have g1:=(List.getElem?_eq_some_iff.mp e1).2
  have g2:=(List.getElem?_eq_some_iff.mp e2).2
  simp only [List.getElem_toArray]
  rw[g1,g2]
  exact Zse (pl _ (List.getElem_mem hj)) q1 q2)
 have e:(!(List.range its.toArray.size).all fun _=>true)=false:=by simp
 rw[e] at this
 exact this X.prog X.w X.xe _ ⟨.bl false,H,I,rfl,q⟩
theorem Ze2 (xs:List V) {n:Int}(h:0<=n):cutV xs none (some n)=xs.take n.toNat:=by
 obtain⟨m,rfl⟩:=Int.eq_ofNat_of_zero_le h
 unfold cutV
 rw[HT.sIx_none,HT.sIx_nat,Nat.sub_zero,List.drop_zero]
 show _=xs.take m
 by_cases h:m<=xs.length
 ·rw[Nat.min_eq_left h]
 ·rw[Nat.min_eq_right (by omega),List.take_of_length_le (Nat.le_refl _),List.take_of_length_le (by omega)]
theorem Ze3 (xs:List V) {n:Int}(h:0<=n):cutV xs (some n) none=xs.drop n.toNat:=by
 obtain⟨m,rfl⟩:=Int.eq_ofNat_of_zero_le h
 unfold cutV
 rw[HT.sIx_none,HT.sIx_nat]
 show _=xs.drop m
 by_cases h:m<=xs.length
 ·rw[Nat.min_eq_left h,List.take_of_length_le (by rw[List.length_drop];omega)]
 ·rw[Nat.min_eq_right (by omega),List.drop_of_length_le (Nat.le_refl _),List.drop_of_length_le (by omega)]
  simp
end L3
namespace K10
open PySem L2 L3
def OddAt (K:PySem.W.Frag) (H:Hp) (v:V):Prop:=(∃ t,TyOf K H v t/\PySem.W.kitOne K t (.type "tuple")=some false)\/(∃ u,v=.ref u/\H u=some (.tup [])) \/
 ∃ u x ys,v=.ref u/\H u=some (.tup (x::ys))/\((∃ t,TyOf K H x t/\PySem.W.kitOne K t (.type "str")=some false)\/∃ s,x=.str s/\scal ((valV partsK (Sum.inr s)).getD .non) (.int (ys.length+1))=true/\(valV partsK (Sum.inr s)).getD .non ≠ .int (ys.length+1))
theorem OddAt.same {K:PySem.W.Frag}{H H':Hp}{v:V}(h:OddAt K H v) (s:Same H H'):OddAt K H' v:=by
 rcases h with ⟨t,ty,k⟩|⟨u,e,h⟩|⟨u,x,ys,e,h,⟨t,ty,k⟩|⟨x,e1,k⟩⟩
 ·exact .inl ⟨t,ty.same s,k⟩
 ·exact .inr (.inl ⟨u,e,s _ _ h⟩)
 ·exact .inr (.inr ⟨u,x,ys,e,s _ _ h,.inl ⟨t,ty.same s,k⟩⟩)
 ·exact .inr (.inr ⟨u,_,ys,e,s _ _ h,.inr ⟨x,e1,k⟩⟩)
theorem at0 {x:V}{ys:List V}:atI (x::ys) 0=some x:=Zcj (j:=0) rfl
section
variable {P:Program}{w:World}{K:PySem.W.Frag}{mg:Str->Option Value}{base:Heap}{CC:Bool->Addr}{CP P4 P5 CD CE:Addr}
def Zd7 (K:PySem.W.Frag):Sp:=fun vs H Q E=>Zdg vs H Q E\/∃ v,vs=[v]/\OddAt K H v/\Q (.bl false) H
set_option maxHeartbeats 2000000 in
theorem Zhn {aP:Addr}(D:Def K mg "is_deed" (top 12) ["thing"]) (T:Txt K mg) (hS:mg "str" = none) (hP:mg "PARTS" = some (.ref aP)) (DP:DctK P w K aP partsK):Fu P w K mg base CX0 1 "is_deed" ["thing"] (Zd7 K):=by
 refine D.fu Zgb (fun vs H Q E h=>?_) (fun f cdv A outer s H vs Q E hr h=>?_)
 ·rcases h with ⟨u,d,rfl,_⟩|⟨v,rfl,_⟩<;>rfl
 ·refine⟨_,Zh (Zn (Yy (Yh (Zz (Yt T.isi T.tuple Zaj (pv 0)))) (Ja (Yh (Zfq (pv 0))))).pt (Zf (Zj Ye)) Zo)
   (Zf (Zj (Ys (Yt T.isi hS Ze9 (Zr Zx (pv 0) Zd (fun _ _=>rfl))) (Yk (Y1 Zy (Zgf DP hP rfl (Zr Zx (pv 0) Zd (fun _ _=>rfl)) ⟨rfl,rfl,rfl,rfl⟩) (Yc T.len (pv 0)) (Zs _)))))),?_⟩
  rcases h with ⟨u,d,rfl,hd,kk⟩|⟨v,rfl,odd,kk⟩
  ·refine⟨_,rfl,_, "tuple",_,true,rfl,.tup hd,Zad,_,rfl,iteF ⟨_,rfl,_,Zb0 hd,Zm (by cases d<;>rfl) ?_⟩⟩
   cases d with
   | flag isA wish v =>
    refine⟨_,rfl,u,_,_,_,rfl,rfl,SqT.of hd,rfl,_, "str",_,true,rfl,.str _,Y5,_,rfl,iteT ?_⟩
    refine⟨_,rfl,u,_,_,_,rfl,rfl,SqT.of hd,rfl,Sum.inr (Zpi isA wish),rfl,_,rfl,u,_,rfl,.inr (SqT.of hd),?_⟩
    cases isA<;>cases wish<;>exact⟨rfl,kk⟩
   | bar v =>
    refine⟨_,rfl,u,_,_,_,rfl,rfl,SqT.of hd,rfl,_, "str",_,true,rfl,.str _,Y5,_,rfl,iteT ?_⟩
    exact⟨_,rfl,u,_,_,_,rfl,rfl,SqT.of hd,rfl,Sum.inr "bar",rfl,_,rfl,u,_,rfl,.inr (SqT.of hd),rfl,kk⟩
   | fin v =>
    refine⟨_,rfl,u,_,_,_,rfl,rfl,SqT.of hd,rfl,_, "str",_,true,rfl,.str _,Y5,_,rfl,iteT ?_⟩
    exact⟨_,rfl,u,_,_,_,rfl,rfl,SqT.of hd,rfl,Sum.inr "end",rfl,_,rfl,u,_,rfl,.inr (SqT.of hd),rfl,kk⟩
   | take =>
    refine⟨_,rfl,u,_,_,_,rfl,rfl,SqT.of hd,rfl,_, "str",_,true,rfl,.str _,Y5,_,rfl,iteT ?_⟩
    exact⟨_,rfl,u,_,_,_,rfl,rfl,SqT.of hd,rfl,Sum.inr "take",rfl,_,rfl,u,_,rfl,.inr (SqT.of hd),rfl,kk⟩
   | best =>
    refine⟨_,rfl,u,_,_,_,rfl,rfl,SqT.of hd,rfl,_, "str",_,true,rfl,.str _,Y5,_,rfl,iteT ?_⟩
    exact⟨_,rfl,u,_,_,_,rfl,rfl,SqT.of hd,rfl,Sum.inr "best",rfl,_,rfl,u,_,rfl,.inr (SqT.of hd),rfl,kk⟩
  ·rcases odd with ⟨t,ty,k⟩|⟨u,rfl,h⟩|⟨u,x,ys,rfl,h,⟨t,ty,k⟩|⟨x,rfl,sc,ne⟩⟩
   ·exact⟨_,rfl,_, "tuple",t,false,rfl,ty,k,_,rfl,iteT kk⟩
   ·exact⟨_,rfl,_, "tuple",_,true,rfl,.tup h,Zad,_,rfl,iteF ⟨_,rfl,_,Zb0 h,Z2 rfl kk⟩⟩
   ·refine⟨_,rfl,_, "tuple",_,true,rfl,.tup h,Zad,_,rfl,iteF ⟨_,rfl,_,Zb0 h,Zm rfl ?_⟩⟩
    exact⟨_,rfl,u,_,_,_,rfl,rfl,SqT.of h,at0,_, "str",t,false,rfl,ty,k,_,rfl,iteF kk⟩
   ·refine⟨_,rfl,_, "tuple",_,true,rfl,.tup h,Zad,_,rfl,iteF ⟨_,rfl,_,Zb0 h,Zm rfl ?_⟩⟩
    refine⟨_,rfl,u,_,_,_,rfl,rfl,SqT.of h,at0,_, "str",_,true,rfl,.str _,Y5,_,rfl,iteT ?_⟩
    refine⟨_,rfl,u,_,_,_,rfl,rfl,SqT.of h,at0,Sum.inr x,rfl,_,rfl,u,_,rfl,.inr (SqT.of h),sc,?_⟩
    show Q (.bl (decide ((valV partsK (Sum.inr x)).getD .non=.int ((ys.length:Int)+1)))) H
    rw[decide_eq_false ne]
    exact kk
def nd (j:Nat):Stmt:=Zbm (top 9) j
def spND (C:Addr):Sp:=fun vs H Q _=>∃ (e:Addr) (l:V),vs=[.ref e,l]/\H e=some (Yb e C none)/\∀ dx H',H dx=none->H' dx=some (Y2 dx [("place",l)])->H' e=some (Yb e C (some dx))->(∀ z,z≠dx->z≠e->H' z=H z)->Q .non H'
theorem scND:FnScope ["self", "place"] ["self", "place"] (Zg (nd 0)):=⟨rfl,rfl,rfl,by decide+kernel,rfl,by decide+kernel,by decide+kernel⟩
theorem f_nd {DB:Addr}(D:DefX K mg "NoDeed" CD "NoDeed.__init__" (nd 0) ["self", "place"]) (hBE:mg "BoardError" = some (.ref DB)) (BI:BInit K DB) (XC:XCls K CD) (n1:PySem.W.findIn K (.ref CD) "place" = some none):FuX P w K mg base 1 "NoDeed" CD ["self", "place"] (spND CD):=by
 refine D.fu scND (fun vs H Q E h=>?_) (fun f cdv A outer s H vs Q E hr h=>?_)
 ·obtain⟨e,l,rfl,_⟩:=h
  rfl
 ·obtain⟨e,l,rfl,he,kk⟩:=h
  refine⟨_,Zh (Z8 (Zq6 BI hBE (Za (pv 0) (Za Zq Zc)))) (Zf (Zq2 (pv 0) (pv 1) rfl)),?_⟩
  refine⟨_,rfl,e,CD,none,_,rfl,he,XC,(by show 1<=sizeLine;decide),?_⟩
  refine⟨_,rfl,_,rfl,e,CD,rfl,he,XC,n1,fun dx hdx=>?_⟩
  have ne:e≠dx:=Zl he hdx
  refine kk dx _ hdx ?_ ?_ fun z h1 h2=>?_
  ·rw[Ze]
  ·rw[Zb ne];exact Ze
  ·rw[Zb h1,Zb h2]
def Zfi (K:PySem.W.Frag) (CD:Addr):Sp:=fun vs H Q E=>∃ (x:V) (q:Addr) (zs:List V) (i:Nat) (v:V),vs=[x,.ref q]/\H q=some (.lst zs)/\zs[i]?=some v/\OddAt K H v/\(∀ j,j<i->∃ u d,zs[j]?=some (.ref u)/\DeedAt H u d) /\
 ∀ dd H',Same H H'->H dd=none->H' dd=some (Y2 dd [("place",.int i)])->E (.ref CD) (some dd) H'
set_option maxHeartbeats 4000000 in
theorem Zpq (D:Def K mg "play" (top 15) ["board", "deeds"]) (T:Txt K mg) (GI:Fu P w K mg base CX0 1 "is_deed" ["thing"] (Zd7 K)) (GX:FuX P w K mg base 1 "NoDeed" CD ["self", "place"] (spND CD)):Fu P w K mg base (CX2 P w) 5 "play" ["board", "deeds"] (Zfi K CD):=by
 refine D.fuC Zcv (fun vs H Q E h=>?_) (fun f cdv A outer s H vs Q E hr h=>?_)
 ·obtain⟨x,q,zs,i,v,rfl,_⟩:=h
  rfl
 ·obtain⟨x,q,zs,n,v,rfl,hq,hz,odd,bef,hE⟩:=h
  refine' ⟨_,Zh (Zcx PassesOwn.leaving rfl (Zfn T.enum (Za (pv 1) Zc)) (Zdl (K:=K) (n:=2) rfl (Y0 (Ya (i:=2) Zcv.nd rfl (.inl rfl)) (Y0 (Ya (i:=3) Zcv.nd rfl (.inl rfl)) Zbk)))
    (Zf (Zn (Yh (Zz (pc GI hr Zk (Za (pv 3) Zc)))) (Zf (Zi0 (k:=3) GX hr (Za (pv 2) Zc))) Zo)))
   Ziw,?main⟩
  case main =>
   refine⟨_,rfl,q,rfl,⟨_,SqL.of hq⟩,?_⟩
   have hn:n<zs.length:=(List.getElem?_eq_some_iff.mp hz).1
   refine Zgs (K:=K) (a:=q) (xs:=zs) (fun i σ Hx=>i<=n/\∃ v2 v3,σ=[some x,some (.ref q),v2,v3]/\Same H Hx) ⟨Nat.zero_le _,none,none,rfl,Same.refl _⟩ (fun i σ Hx _ ⟨_,_,_,_,sm⟩=>SqL.of (sm _ _ hq)) ?turn ?done
   case turn =>
    rintro i xv σ Hx t hv ⟨hi,v2,v3,rfl,sm⟩ nt
    have s1:=sm.trans (Same.new (o:=.tup [.int i,xv]) nt)
    refine⟨t,_,rfl,SqT.of Ze,rfl,_,_,rfl,_,_,rfl,rfl,?_⟩
    by_cases hin:i<n
    ·obtain⟨u,d,e,hd⟩:=bef i hin
     rw[e] at hv
     cases hv
     refine⟨_,rfl,.inl ⟨u,d,rfl,s1 _ _ hd,_,rfl,iteF ?_⟩⟩
     exact⟨hin,_,_,rfl,s1⟩
    ·have ei:i=n:=by omega
     subst ei
     rw[hz] at hv
     cases hv
     refine⟨_,rfl,.inr ⟨v,rfl,odd.same s1,_,rfl,iteT ?_⟩⟩
     refine⟨_,rfl,(by show 1<=sizeLine;decide),fun ea hea=>?_⟩
     refine⟨ea,.int i,rfl,Ze,fun dd H2 hdd h1 h2 h3=>⟨rfl,some dd,h2,?_⟩⟩
     have zd:dd≠ea:=by
      intro z
      rw[z,Ze] at hdd
      cases hdd
     have hdd':upd Hx t (.tup [.int i,v]) dd=none:=by rwa [Zb zd] at hdd
     refine hE dd _ (fun z o ez=>?_) (s1.free hdd') (by rw[Zbg zd];exact h1)
     have ez':=s1 _ _ ez
     have z1:z≠ea:=Zl ez' hea
     have z2:z≠dd:=Zl ez' hdd'
     rw[Zbg z1,h3 z z2 z1,Zb z1]
     exact ez'
   case done =>
    rintro σ Hx ⟨hi,_⟩
    omega
structure XND (K:PySem.W.Frag) (mg:Str->Option Value) (C CE:Addr):Prop where
 g:ExcG K C
 k1:∃ c,mg "NoBoard" = some (.ref c)/\PySem.W.kitOne K (.ref C) (.ref c)=some false
 k2:∃ c,mg "NoPicture" = some (.ref c)/\PySem.W.kitOne K (.ref C) (.ref c)=some false
 k3:∃ c,mg "NoPegs" = some (.ref c)/\PySem.W.kitOne K (.ref C) (.ref c)=some false
 k4:∃ c,mg "NoLine" = some (.ref c)/\PySem.W.kitOne K (.ref C) (.ref c)=some false
 k5:∃ c,mg "NoBar" = some (.ref c)/\PySem.W.kitOne K (.ref C) (.ref c)=some false
 k6:∃ c,mg "NotTop" = some (.ref c)/\PySem.W.kitOne K (.ref C) (.ref c)=some false
 k7:mg "NoDeed" = some (.ref C)/\PySem.W.kitOne K (.ref C) (.ref C)=some true
 ve:mg "ValueError" = none/\PySem.W.kitOne K (.ref C) (.type "ValueError")=some true
 ty:PySem.W.typeIn K (.ref C)=some (.type "type")
 be:PySem.W.mroIn K C (.type "BaseException")=some true
 me:PySem.W.mroIn K C (.ref C)=some true
 hd:PySem.W.hasDictIn K C=true
 n1:PySem.W.findIn K (.ref C) "place" = some none
 tyE:PySem.W.typeIn K (.ref CE)=some (.type "type")
 beE:PySem.W.mroIn K CE (.type "BaseException")=some true
 meE:PySem.W.mroIn K C (.ref CE)=some true
 bE:mg "BoardError" = some (.ref CE)
def Zde (C:Addr):Sp:=fun vs H Q _=>∃ (a:Addr) (od:Option Addr),vs=[.ref a]/\H a=some (Ji a C od)/\∀ d H',Same H H'->H d=none->H' d=some (.lst [.str "row",.str "value"])->Q (.ref d) H'
theorem Zio:FnScope ["_law_e", "_law_some"] ["_law_e"] (Zg (top 56)):=⟨rfl,rfl,rfl,by decide+kernel,rfl,by decide+kernel,by decide+kernel⟩
theorem Zl2 (D:Def K mg "_law_names" (top 56) ["_law_e"]) (T:Txt K mg) (X:XND K mg CD CE):FuH P w K mg base 1 "_law_names" ["_law_e"] (Zde CD):=by
 refine D.fuH Zio (fun vs H Q E h=>?_) (fun a0 f cdv A outer s H vs Q E hr h=>?_)
 ·obtain⟨a,od,rfl,_⟩:=h
  rfl
 ·obtain⟨a,od,rfl,ha,kk⟩:=h
  obtain⟨d1,m1,o1⟩:=X.k1
  obtain⟨d2,m2,o2⟩:=X.k2
  obtain⟨d3,m3,o3⟩:=X.k3
  obtain⟨d4,m4,o4⟩:=X.k4
  obtain⟨d5,m5,o5⟩:=X.k5
  obtain⟨d6,m6,o6⟩:=X.k6
  obtain⟨m7,o7⟩:=X.k7
  obtain⟨m8,o8⟩:=X.ve
  refine⟨_,Zh (Zp (i:=1) Zio.nd rfl (.inl rfl) (Z0 Zc))
   (Zh (Zn (Zz (Zat (K:=K) T.isi m1 (pv 0))) (Zf Zai) Zo)
   (Zh (Zn (Zz (Zat (K:=K) T.isi m2 (pv 0))) (Zf Zai) Zo)
   (Zh (Zn (Zz (Zat (K:=K) T.isi m3 (pv 0))) (Zf Zai) Zo)
   (Zh (Zn (Yy (Zz (Zat (K:=K) T.isi m4 (pv 0))) (Yy (Zz (Zat (K:=K) T.isi m5 (pv 0))) (Ja (Zz (Zat (K:=K) T.isi m6 (pv 0)))))).pt (Zf Zai) Zo)
   (Zh (Zn (Zz (Zat (K:=K) T.isi m7 (pv 0))) (Zf (Z8 (Jc PySem.F.plainAttrs_list PySem.F.slot_list_append PySem.F.type_list_append Zac (pv 1) (Za Zq Zc)))) Zo)
   (Zh (Zn (Zz (Zo6 (K:=K) T.isi m8 Zp4 (pv 0))) (Zf (Z8 (Jc PySem.F.plainAttrs_list PySem.F.slot_list_append PySem.F.type_list_append Zac (pv 1) (Za Zq Zc)))) Zo)
   (Zf (Zj (pv 1))))))))),?_⟩
  refine⟨(by show 0<=sizeLine;decide),fun d nd=>?_⟩
  have s1:=Same.new (o:=.lst []) nd
  have hl:upd H d (.lst []) d=some (.lst []):=Ze
  have ha1:=s1 _ _ ha
  have kd:∀ xs:List V,Same H (upd (upd H d (.lst [])) d (.lst xs)):=fun xs b o e=>by rw[Zb (Zl e nd)];exact s1 b o e
  have kd2:∀ xs ys:List V,Same H (upd (upd (upd H d (.lst [])) d (.lst xs)) d (.lst ys)):=fun xs ys b o e=>by rw[Zb (Zl e nd)];exact kd xs b o e
  refine⟨_,rfl,a,CD,od,_,.ref d1,false,rfl,ha1,X.g,fun _ r=>r,o1,_,rfl,iteF ?_⟩
  refine⟨_,rfl,a,CD,od,_,.ref d2,false,rfl,ha1,X.g,fun _ r=>r,o2,_,rfl,iteF ?_⟩
  refine⟨_,rfl,a,CD,od,_,.ref d3,false,rfl,ha1,X.g,fun _ r=>r,o3,_,rfl,iteF ?_⟩
  refine⟨_,rfl,a,CD,od,_,.ref d4,false,rfl,ha1,X.g,fun _ r=>r,o4,_,rfl,iteF ⟨_,rfl,a,CD,od,_,.ref d5,false,rfl,ha1,X.g,fun _ r=>r,o5,_,rfl,iteF ⟨_,rfl,a,CD,od,_,.ref d6,false,rfl,ha1,X.g,fun _ r=>r,o6,_,rfl,iteF ?_⟩⟩⟩
  refine⟨_,rfl,a,CD,od,_,.ref CD,true,rfl,ha1,X.g,fun _ r=>r,o7,_,rfl,iteT ?_⟩
  refine⟨_,rfl,.inl ⟨rfl,_,SqL.of hl⟩,d,_,_,rfl,rfl,hl,(by show 0<sizeLine;decide),?_⟩
  have h2:=kd [.str "row"] _ _ ha
  refine⟨_,rfl,a,CD,od,_,.type "ValueError",true,rfl,h2,X.g,fun _ r=>r,o8,_,rfl,iteT ?_⟩
  refine⟨_,rfl,.inl ⟨rfl,_,SqL.of Ze⟩,d,_,_,rfl,rfl,Ze,(by show 1<sizeLine;decide),?_⟩
  exact⟨_,rfl,kk d _ (kd2 _ _) nd Ze⟩
def Bad (K:PySem.W.Frag) (H:Hp) (q:Addr) (zs:List V) (i:Nat):Prop:=H q=some (.lst zs)/\∃ v,zs[i]?=some v/\OddAt K H v/\∀ j,j<i->∃ u d,zs[j]?=some (.ref u)/\DeedAt H u d
theorem Bad.same {H H':Hp}{q:Addr}{zs:List V}{i:Nat}(h:Bad K H q zs i) (s:Same H H'):Bad K H' q zs i:=by
 obtain⟨h0,v,h1,h2,h3⟩:=h
 refine⟨s _ _ h0,v,h1,h2.same s,fun j hj=>?_⟩
 obtain⟨u,d,e,hd⟩:=h3 j hj
 exact⟨u,d,e,s _ _ hd⟩
def Zmu (K:PySem.W.Frag):Sp:=fun vs H Q _=>∃ (x:V) (q:Addr) (zs:List V) (i:Nat),vs=[x,.ref q]/\Bad K H q zs i/\∀ z l H',Same H H'->H z=none->H l=none->H' l=some (.lst [.str "row",.str "value"])->H' z=some (.tup [.ref l,.int i])->Q (.ref z) H'
theorem Zcu:FnScope ["_law_board_here", "_law_row", "_law_found", "_law_place", "_law_e"] ["_law_board_here", "_law_row"] (Zg (top 60)):=⟨rfl,rfl,rfl,by decide+kernel,rfl,by decide+kernel,by decide+kernel⟩
set_option maxHeartbeats 2000000 in
theorem Zr1 (D:Def K mg "_law_refused" (top 60) ["_law_board_here", "_law_row"]) (X:XND K mg CD CE) (GP:Fu P w K mg base (CX2 P w) 5 "play" ["board", "deeds"] (Zfi K CD)) (GN:FuH P w K mg base 1 "_law_names" ["_law_e"] (Zde CD)):Fu P w K mg base CX0 6 "_law_refused" ["_law_board_here", "_law_row"] (Zmu K):=by
 refine D.fu Zcu (fun vs H Q E h=>?_) (fun f cdv A outer s H vs Q E hr h=>?_)
 ·obtain⟨x,q,zs,i,rfl,_⟩:=h
  rfl
 ·obtain⟨x,q,zs,i,rfl,bad,kk⟩:=h
  refine' ⟨_,Zh (Zp (i:=2) Zcu.nd rfl (.inl rfl) (Z0 Zc)) (Zh (Zp (i:=3) Zcu.nd rfl (.inl rfl) Y4)
   (Zh (Zix Zhw ?B ?HH) (Zf (Zj (Z5 (Za (pv 2) (Za (pv 3) Zc))))))),?main⟩
  case B =>
   intro pins Ex
   exact Zf (Z8 (pcS GP hr (Zng Zhw) (Za (pv 0) (Za (pv 1) Zc))))
  case HH =>
   exact Znb (i:=4) Zhw Zcu.nd rfl rfl rfl X.k7.1 X.ty X.be (fun a'=>Zh (Zp (i:=2) Zcu.nd rfl (.inl rfl) (pcH GN hr (Za (pv 4) Zc))) (Zf (Zp (i:=3) Zcu.nd rfl (.inl rfl) (Zo2 (K:=K) (pv 4) rfl)))) Zi4
  case main =>
   refine⟨(by show 0<=sizeLine;decide),fun t0 n0=>?_⟩
   have s0:=Same.new (o:=.lst []) n0
   have bad1:=bad.same s0
   refine⟨fun C' od σ' H'=>C'=CD/\σ'=[some x,some (.ref q),some (.ref t0),some .non,none]/\∃ dd,od=some dd/\Same (upd H t0 (.lst [])) H'/\H' dd=some (Y2 dd [("place",.int i)]),?_,?_⟩
   ·obtain⟨h0,v,h1,h2,h3⟩:=bad1
    refine⟨_,rfl,_,rfl,x,q,zs,i,v,rfl,h0,h1,h2,h3,fun dd H' s' ndd hd C' e=>?_⟩
    cases e
    exact⟨rfl,rfl,dd,rfl,s',hd⟩
   ·rintro C' od σ' H' ⟨rfl,rfl,dd,rfl,s',hd⟩
    refine⟨true,X.me,iteT (fun ae nae=>?_)⟩
    have ne:dd≠ae:=Zl hd nae
    have ed:upd H' ae (Ji ae C' (some dd)) dd=some (Y2 dd [("place",.int i)]):=by rw[Zb ne];exact hd
    have sm:=(s0.trans s').trans (Same.new (o:=Ji ae C' (some dd)) nae)
    refine⟨_,rfl,ae,some dd,rfl,Ze,fun l H2 s2 nl hl=>?_⟩
    refine⟨_,rfl,ae,C',dd,_,.int i,rfl,s2 _ _ Ze,s2 _ _ ed,X.g,X.hd,X.n1,rfl,?_⟩
    refine⟨_,rfl,_,rfl,(by show 2<=sizeLine;decide),fun z nz=>?_⟩
    have sm2:=sm.trans s2
    exact kk z l _ (sm2.trans (Same.new nz)) (sm2.free nz) (sm.free nl) (Same.new nz _ _ hl) Ze
def Zqn (K:PySem.W.Frag):Sp:=fun vs H Q _=>∃ (x:V) (q:Addr) (zs:List V) (i:Nat),vs=[x,.ref q]/\Bad K H q zs i/\∀ l H',Same H H'->H l=none->H' l=some (.lst [.str "row",.str "value"])->Q (.ref l) H'
theorem Zk7:FnScope ["_law_board_here", "_law_row", "_law_found", "_law_e"] ["_law_board_here", "_law_row"] (Zg (top 61)):=⟨rfl,rfl,rfl,by decide+kernel,rfl,by decide+kernel,by decide+kernel⟩
set_option maxHeartbeats 2000000 in
theorem Ztq (D:Def K mg "_law_caught" (top 61) ["_law_board_here", "_law_row"]) (X:XND K mg CD CE) (GP:Fu P w K mg base (CX2 P w) 5 "play" ["board", "deeds"] (Zfi K CD)) (GN:FuH P w K mg base 1 "_law_names" ["_law_e"] (Zde CD)):Fu P w K mg base CX0 6 "_law_caught" ["_law_board_here", "_law_row"] (Zqn K):=by
 refine D.fu Zk7 (fun vs H Q E h=>?_) (fun f cdv A outer s H vs Q E hr h=>?_)
 ·obtain⟨x,q,zs,i,rfl,_⟩:=h
  rfl
 ·obtain⟨x,q,zs,i,rfl,bad,kk⟩:=h
  refine' ⟨_,Zh (Zp (i:=2) Zk7.nd rfl (.inl rfl) (Z0 Zc))
   (Zh (Zix Zhw ?B ?HH) (Zf (Zj (pv 2)))),?main⟩
  case B =>
   intro pins Ex
   exact Zf (Z8 (pcS GP hr (Zng Zhw) (Za (pv 0) (Za (pv 1) Zc))))
  case HH =>
   exact Znb (i:=3) Zhw Zk7.nd rfl rfl rfl X.bE X.tyE X.beE (fun a'=>Zf (Zp (i:=2) Zk7.nd rfl (.inl rfl) (pcH GN hr (Za (pv 3) Zc)))) Zi4
  case main =>
   refine⟨(by show 0<=sizeLine;decide),fun t0 n0=>?_⟩
   have s0:=Same.new (o:=.lst []) n0
   have bad1:=bad.same s0
   refine⟨fun C' od σ' H'=>C'=CD/\σ'=[some x,some (.ref q),some (.ref t0),none]/\∃ dd,od=some dd/\Same (upd H t0 (.lst [])) H',?_,?_⟩
   ·obtain⟨h0,v,h1,h2,h3⟩:=bad1
    refine⟨_,rfl,_,rfl,x,q,zs,i,v,rfl,h0,h1,h2,h3,fun dd H' s' ndd hd C' e=>?_⟩
    cases e
    exact⟨rfl,rfl,dd,rfl,s'⟩
   ·rintro C' od σ' H' ⟨rfl,rfl,dd,rfl,s'⟩
    refine⟨true,X.meE,iteT (fun ae nae=>?_)⟩
    have sm:=(s0.trans s').trans (Same.new (o:=Ji ae C' (some dd)) nae)
    refine⟨_,rfl,ae,some dd,rfl,Ze,fun l H2 s2 nl hl=>?_⟩
    exact⟨_,rfl,kk l _ (sm.trans s2) (sm.free nl) hl⟩
end
end K10
namespace K10
open PySem L2 L3
theorem Ztb {K:PySem.W.Frag}{H:Hp}{a1 a2 a3 a4 a5 a6 a7 a8 a10 a11 a12 a13 a14 a15 a16 a17 a18:Addr}{i:Int}(h0:0<=i) (h1:i<18) (e1:H a1=some (.tup [.str "best",.int 1])) (e2:H a2=some (.tup [.str "ring"])) (e3:H a3=some (.tup [.str "ring",.int 0,.int 0])) (e4:H a4=some (.lst [.str "best"])) (e5:H a5=some (.tup [])) (e6:H a6=some (.tup [.str "Ring",.int 0])) (e7:H a7=some (.tup [.str "bar"])) (e8:H a8=some (.tup [.str "end"])) (e10:H a10=some (.tup [.int 1,.int 0])) (e11:H a11=some (.tup [.str "take",.non])) (e12:H a12=some (.tup [.str "rings",.int 0])) (e13:H a13=some (.lst [])) (e14:H a14=some (.tup [.ref a13])) (e15:H a15=some (.tup [.str "best"])) (e16:H a16=some (.tup [.ref a15])) (e17:H a17=some (.dK [])) (e18:H a18=some (.tup [.str "told"])) :
  ∃ v,atI (([.non,.str "best",.ref a1,.ref a2,.ref a3,.ref a4,.ref a5,.ref a6,.ref a7,.ref a8]:List V)++[.ref a10,.ref a11,.ref a12,.ref a14,.ref a16,.bl true,.ref a17,.ref a18]) i=some v/\PlnV v/\OddAt K H v:=by
 have hi:i=0\/i=1\/i=2\/i=3\/i=4\/i=5\/i=6\/i=7\/i=8\/i=9\/i=10\/i=11\/i=12\/i=13\/i=14\/i=15\/i=16\/i=17:=by omega
 rcases hi with rfl|rfl|rfl|rfl|rfl|rfl|rfl|rfl|rfl|rfl|rfl|rfl|rfl|rfl|rfl|rfl|rfl|rfl
 ·exact⟨_,rfl,trivial,.inl ⟨_,.non,rfl⟩⟩
 ·exact⟨_,rfl,trivial,.inl ⟨_,.str _,rfl⟩⟩
 ·exact⟨_,rfl,trivial,.inr (.inr ⟨_,_,_,rfl,e1,.inr ⟨_,rfl,by decide+kernel,by decide+kernel⟩⟩)⟩
 ·exact⟨_,rfl,trivial,.inr (.inr ⟨_,_,_,rfl,e2,.inr ⟨_,rfl,by decide+kernel,by decide+kernel⟩⟩)⟩
 ·exact⟨_,rfl,trivial,.inr (.inr ⟨_,_,_,rfl,e3,.inr ⟨_,rfl,by decide+kernel,by decide+kernel⟩⟩)⟩
 ·exact⟨_,rfl,trivial,.inl ⟨_,.lst e4,rfl⟩⟩
 ·exact⟨_,rfl,trivial,.inr (.inl ⟨_,rfl,e5⟩)⟩
 ·exact⟨_,rfl,trivial,.inr (.inr ⟨_,_,_,rfl,e6,.inr ⟨_,rfl,by decide+kernel,by decide+kernel⟩⟩)⟩
 ·exact⟨_,rfl,trivial,.inr (.inr ⟨_,_,_,rfl,e7,.inr ⟨_,rfl,by decide+kernel,by decide+kernel⟩⟩)⟩
 ·exact⟨_,rfl,trivial,.inr (.inr ⟨_,_,_,rfl,e8,.inr ⟨_,rfl,by decide+kernel,by decide+kernel⟩⟩)⟩
 ·exact⟨_,rfl,trivial,.inr (.inr ⟨_,_,_,rfl,e10,.inl ⟨_,.int _,rfl⟩⟩)⟩
 ·exact⟨_,rfl,trivial,.inr (.inr ⟨_,_,_,rfl,e11,.inr ⟨_,rfl,by decide+kernel,by decide+kernel⟩⟩)⟩
 ·exact⟨_,rfl,trivial,.inr (.inr ⟨_,_,_,rfl,e12,.inr ⟨_,rfl,by decide+kernel,by decide+kernel⟩⟩)⟩
 ·exact⟨_,rfl,trivial,.inr (.inr ⟨_,_,_,rfl,e14,.inl ⟨_,.lst e13,rfl⟩⟩)⟩
 ·exact⟨_,rfl,trivial,.inr (.inr ⟨_,_,_,rfl,e16,.inl ⟨_,.tup e15,rfl⟩⟩)⟩
 ·exact⟨_,rfl,trivial,.inl ⟨_,.bl true,rfl⟩⟩
 ·exact⟨_,rfl,trivial,.inl ⟨_,.dK e17,rfl⟩⟩
 ·exact⟨_,rfl,trivial,.inr (.inr ⟨_,_,_,rfl,e18,.inr ⟨_,rfl,by decide+kernel,by decide+kernel⟩⟩)⟩
def Zmx (K:PySem.W.Frag):Sp:=fun vs H Q _=>∃ c:Int,vs=[.int c]/\∀ v H',Same H H'->PlnV v->OddAt K H' v->Q v H'
end K10
namespace L3
open PySem PySem.Spec PyProof.Rows L2
end L3
namespace L3
open PySem
end L3
namespace L3
open PySem PySem.Spec PyProof.Rows L2
theorem Zs1 {e:Expr}{es:List Expr}{env:Env}(h:∀ a p,e ≠ .Starred a p):starEach (e::es) env=(false,eval e env)::starEach es env:=by
 rw[starEach]
 exact h
theorem pa_n {X:Cx}{e:Expr}{es:List Expr}{te:TE}{t:TA}(ha:PE X e te) (hr:PA X es t) (h:∀ a p,e ≠ .Starred a p:=by intro _ _ h;cases h):PA X (e::es) (Yr te t):=Za ha hr (Zs1 h)
theorem Zjc {X:Cx}{e:Expr}{ι:Type}{t:ι->TE}(h:∀ i,PE X e (t i)):PE X e (fun σ H Q=>∃ i,t i σ H Q):=fun pins s σ H Q I ⟨i,q⟩=>h i pins s σ H Q I q
end L3
namespace K10
open PySem L2 L3
section
variable {P:Program}{w:World}{K:PySem.W.Frag}{mg:Str->Option Value}{base:Heap}{CC:Bool->Addr}{CP P4 P5:Addr}
theorem Zon:FnScope ["_law_cell", "_law_some"] ["_law_cell"] (Zg (top 59)):=⟨rfl,rfl,rfl,by decide+kernel,rfl,by decide+kernel,by decide+kernel⟩
set_option maxHeartbeats 8000000 in
theorem Ztl (D:Def K mg "_law_odd" (top 59) ["_law_cell"]):Fu P w K mg base CX0 1 "_law_odd" ["_law_cell"] (Zmx K):=by
 refine D.fu Zon (fun vs H Q E h=>?_) (fun f cdv A outer s H vs Q E hr h=>?_)
 ·obtain⟨c,rfl,_⟩:=h
  rfl
 ·obtain⟨c,rfl,kk⟩:=h
  refine⟨_,@Zh _ _ _ _ _ (@Zp _ _ 1 _ _ _ _ Zon.nd rfl (.inl rfl) (@Z0 _ _ _ _ (@pa_n _ _ _ _ _ Y4 (@pa_n _ _ _ _ _ Zq (@pa_n _ _ _ _ _ (Z5 (Za Zq (Za Zd Zc))) (@pa_n _ _ _ _ _ (Z5 (Za Zq Zc)) (@pa_n _ _ _ _ _ (Z5 (Za Zq (Za Zd (Za Zd Zc)))) (@pa_n _ _ _ _ _ (Z0 (Za Zq Zc)) (@pa_n _ _ _ _ _ (Z5 Zc) (@pa_n _ _ _ _ _ (Z5 (Za Zq (Za Zd Zc))) (@pa_n _ _ _ _ _ (Z5 (Za Zq Zc)) (@pa_n _ _ _ _ _ (Z5 (Za Zq Zc)) Zc (by intro _ _ h;cases h)) (by intro _ _ h;cases h)) (by intro _ _ h;cases h)) (by intro _ _ h;cases h)) (by intro _ _ h;cases h)) (by intro _ _ h;cases h)) (by intro _ _ h;cases h)) (by intro _ _ h;cases h)) (by intro _ _ h;cases h)) (by intro _ _ h;cases h))) (by rfl) (by first|exact .inl rfl|exact .inr rfl))
   (@Zh _ _ _ _ _ (@Zp _ _ 1 _ _ _ _ Zon.nd rfl (.inl rfl) (@Zi _ _ _ _ _ _ _ _ Zbr (pv 1) (@Z0 _ _ _ _ (@pa_n _ _ _ _ _ (Z5 (Za Zd (Za Zd Zc))) (@pa_n _ _ _ _ _ (Z5 (Za Zq (Za Y4 Zc))) (@pa_n _ _ _ _ _ (Z5 (Za Zq (Za Zd Zc))) (@pa_n _ _ _ _ _ (Z5 (Za (Z0 Zc) Zc)) (@pa_n _ _ _ _ _ (Z5 (Za (Z5 (Za Zq Zc)) Zc)) (@pa_n _ _ _ _ _ Ye (@pa_n _ _ _ _ _ Zli (@pa_n _ _ _ _ _ (Z5 (Za Zq Zc)) Zc (by intro _ _ h;cases h)) (by intro _ _ h;cases h)) (by intro _ _ h;cases h)) (by intro _ _ h;cases h)) (by intro _ _ h;cases h)) (by intro _ _ h;cases h)) (by intro _ _ h;cases h)) (by intro _ _ h;cases h)))) (by rfl) (by first|exact .inl rfl|exact .inr rfl))
   (Zf (Zj (Zr Z9 (pv 1) (Zi Zv (Zi Zv (Zi Yo (pv 0) Zd) Zd) Zd) (fun _ _=>rfl))))),?_⟩
  refine⟨(by show 2<=sizeLine;decide),fun a1 n1=>?_⟩
  have s1:=Same.new (o:=.tup [.str "best",.int 1]) n1
  have e1:=Ze (H:=H) (a:=a1) (o:=.tup [.str "best",.int 1])
  generalize upd H a1 (.tup [.str "best",.int 1])=H1 at s1 e1 ⊢
  refine⟨(by show 1<=sizeLine;decide),fun a2 n2=>?_⟩
  have s2:=Same.new (o:=.tup [.str "ring"]) n2
  have e2:=Ze (H:=H1) (a:=a2) (o:=.tup [.str "ring"])
  generalize upd H1 a2 (.tup [.str "ring"])=H2 at s2 e2 ⊢
  refine⟨(by show 3<=sizeLine;decide),fun a3 n3=>?_⟩
  have s3:=Same.new (o:=.tup [.str "ring",.int 0,.int 0]) n3
  have e3:=Ze (H:=H2) (a:=a3) (o:=.tup [.str "ring",.int 0,.int 0])
  generalize upd H2 a3 (.tup [.str "ring",.int 0,.int 0])=H3 at s3 e3 ⊢
  refine⟨(by show 1<=sizeLine;decide),fun a4 n4=>?_⟩
  have s4:=Same.new (o:=.lst [.str "best"]) n4
  have e4:=Ze (H:=H3) (a:=a4) (o:=.lst [.str "best"])
  generalize upd H3 a4 (.lst [.str "best"])=H4 at s4 e4 ⊢
  refine⟨(by show 0<=sizeLine;decide),fun a5 n5=>?_⟩
  have s5:=Same.new (o:=.tup []) n5
  have e5:=Ze (H:=H4) (a:=a5) (o:=.tup [])
  generalize upd H4 a5 (.tup [])=H5 at s5 e5 ⊢
  refine⟨(by show 2<=sizeLine;decide),fun a6 n6=>?_⟩
  have s6:=Same.new (o:=.tup [.str "Ring",.int 0]) n6
  have e6:=Ze (H:=H5) (a:=a6) (o:=.tup [.str "Ring",.int 0])
  generalize upd H5 a6 (.tup [.str "Ring",.int 0])=H6 at s6 e6 ⊢
  refine⟨(by show 1<=sizeLine;decide),fun a7 n7=>?_⟩
  have s7:=Same.new (o:=.tup [.str "bar"]) n7
  have e7:=Ze (H:=H6) (a:=a7) (o:=.tup [.str "bar"])
  generalize upd H6 a7 (.tup [.str "bar"])=H7 at s7 e7 ⊢
  refine⟨(by show 1<=sizeLine;decide),fun a8 n8=>?_⟩
  have s8:=Same.new (o:=.tup [.str "end"]) n8
  have e8:=Ze (H:=H7) (a:=a8) (o:=.tup [.str "end"])
  generalize upd H7 a8 (.tup [.str "end"])=H8 at s8 e8 ⊢
  refine⟨(by show 10<=sizeLine;decide),fun a9 n9=>?_⟩
  have s9:=Same.new (o:=.lst [.non,.str "best",.ref a1,.ref a2,.ref a3,.ref a4,.ref a5,.ref a6,.ref a7,.ref a8]) n9
  have e9:=Ze (H:=H8) (a:=a9) (o:=.lst [.non,.str "best",.ref a1,.ref a2,.ref a3,.ref a4,.ref a5,.ref a6,.ref a7,.ref a8])
  generalize upd H8 a9 (.lst [.non,.str "best",.ref a1,.ref a2,.ref a3,.ref a4,.ref a5,.ref a6,.ref a7,.ref a8])=H9 at s9 e9 ⊢
  refine⟨_,rfl,?_⟩
  refine⟨(by show 2<=sizeLine;decide),fun a10 n10=>?_⟩
  have s10:=Same.new (o:=.tup [.int 1,.int 0]) n10
  have e10:=Ze (H:=H9) (a:=a10) (o:=.tup [.int 1,.int 0])
  generalize upd H9 a10 (.tup [.int 1,.int 0])=H10 at s10 e10 ⊢
  refine⟨(by show 2<=sizeLine;decide),fun a11 n11=>?_⟩
  have s11:=Same.new (o:=.tup [.str "take",.non]) n11
  have e11:=Ze (H:=H10) (a:=a11) (o:=.tup [.str "take",.non])
  generalize upd H10 a11 (.tup [.str "take",.non])=H11 at s11 e11 ⊢
  refine⟨(by show 2<=sizeLine;decide),fun a12 n12=>?_⟩
  have s12:=Same.new (o:=.tup [.str "rings",.int 0]) n12
  have e12:=Ze (H:=H11) (a:=a12) (o:=.tup [.str "rings",.int 0])
  generalize upd H11 a12 (.tup [.str "rings",.int 0])=H12 at s12 e12 ⊢
  refine⟨(by show 0<=sizeLine;decide),fun a13 n13=>?_⟩
  have s13:=Same.new (o:=.lst []) n13
  have e13:=Ze (H:=H12) (a:=a13) (o:=.lst [])
  generalize upd H12 a13 (.lst [])=H13 at s13 e13 ⊢
  refine⟨(by show 1<=sizeLine;decide),fun a14 n14=>?_⟩
  have s14:=Same.new (o:=.tup [.ref a13]) n14
  have e14:=Ze (H:=H13) (a:=a14) (o:=.tup [.ref a13])
  generalize upd H13 a14 (.tup [.ref a13])=H14 at s14 e14 ⊢
  refine⟨(by show 1<=sizeLine;decide),fun a15 n15=>?_⟩
  have s15:=Same.new (o:=.tup [.str "best"]) n15
  have e15:=Ze (H:=H14) (a:=a15) (o:=.tup [.str "best"])
  generalize upd H14 a15 (.tup [.str "best"])=H15 at s15 e15 ⊢
  refine⟨(by show 1<=sizeLine;decide),fun a16 n16=>?_⟩
  have s16:=Same.new (o:=.tup [.ref a15]) n16
  have e16:=Ze (H:=H15) (a:=a16) (o:=.tup [.ref a15])
  generalize upd H15 a16 (.tup [.ref a15])=H16 at s16 e16 ⊢
  intro a17 n17
  have s17:=Same.new (o:=.dK []) n17
  have e17:=Ze (H:=H16) (a:=a17) (o:=.dK [])
  generalize upd H16 a17 (.dK [])=H17 at s17 e17 ⊢
  refine⟨(by show 1<=sizeLine;decide),fun a18 n18=>?_⟩
  have s18:=Same.new (o:=.tup [.str "told"]) n18
  have e18:=Ze (H:=H17) (a:=a18) (o:=.tup [.str "told"])
  generalize upd H17 a18 (.tup [.str "told"])=H18 at s18 e18 ⊢
  refine⟨(by show 8<=sizeLine;decide),fun a19 n19=>?_⟩
  have s19:=Same.new (o:=.lst [.ref a10,.ref a11,.ref a12,.ref a14,.ref a16,.bl true,.ref a17,.ref a18]) n19
  have e19:=Ze (H:=H18) (a:=a19) (o:=.lst [.ref a10,.ref a11,.ref a12,.ref a14,.ref a16,.bl true,.ref a17,.ref a18])
  generalize upd H18 a19 (.lst [.ref a10,.ref a11,.ref a12,.ref a14,.ref a16,.bl true,.ref a17,.ref a18])=H19 at s19 e19 ⊢
  have T19:=Same.refl H19
  have T18:=s19.trans T19
  have T17:=s18.trans T18
  have T16:=s17.trans T17
  have T15:=s16.trans T16
  have T14:=s15.trans T15
  have T13:=s14.trans T14
  have T12:=s13.trans T13
  have T11:=s12.trans T12
  have T10:=s11.trans T11
  have T9:=s10.trans T10
  have T8:=s9.trans T9
  have T7:=s8.trans T8
  have T6:=s7.trans T7
  have T5:=s6.trans T6
  have T4:=s5.trans T5
  have T3:=s4.trans T4
  have T2:=s3.trans T3
  have T1:=s2.trans T2
  have T0:=s1.trans T1
  refine⟨a9,a19,_,_,rfl,rfl,T9 _ _ e9,e19,(by show 18<=sizeLine;decide),fun a20 n20=>?_⟩
  have sz:=Same.new (o:=.lst ([.non,.str "best",.ref a1,.ref a2,.ref a3,.ref a4,.ref a5,.ref a6,.ref a7,.ref a8]++[.ref a10,.ref a11,.ref a12,.ref a14,.ref a16,.bl true,.ref a17,.ref a18])) n20
  have ez:=Ze (H:=H19) (a:=a20) (o:=.lst ([.non,.str "best",.ref a1,.ref a2,.ref a3,.ref a4,.ref a5,.ref a6,.ref a7,.ref a8]++[.ref a10,.ref a11,.ref a12,.ref a14,.ref a16,.bl true,.ref a17,.ref a18]))
  refine⟨_,rfl,_,rfl,_,_,rfl,rfl,.inr (by constructor<;>decide),_,_,rfl,rfl,(by show (0:Int)<2147483647;decide),_,_,rfl,rfl,(by show (0:Int)<18;decide),?_⟩
  have i0:=Int.emod_nonneg (c * 950706376 % 2147483647) (show (18:Int)≠0 by decide)
  have i1:=Int.emod_lt_of_pos (c * 950706376 % 2147483647) (show (0:Int)<18 by decide)
  obtain⟨v,ev,pv,ov⟩:=Ztb (K:=K) (H:=H19) i0 i1 (T1 _ _ e1) (T2 _ _ e2) (T3 _ _ e3) (T4 _ _ e4) (T5 _ _ e5) (T6 _ _ e6) (T7 _ _ e7) (T8 _ _ e8) (T10 _ _ e10) (T11 _ _ e11) (T12 _ _ e12) (T13 _ _ e13) (T14 _ _ e14) (T15 _ _ e15) (T16 _ _ e16) (T17 _ _ e17) (T18 _ _ e18)
  exact⟨a20,_,_,v,rfl,rfl,SqL.of ez,ev,kk v _ (T0.trans sz) pv (ov.same sz)⟩
end
end K10
namespace K10
open PySem L2 L3
section
variable {P:Program}{w:World}{K:PySem.W.Frag}{mg:Str->Option Value}{base:Heap}{CC:Bool->Addr}{CP P4 P5:Addr}
def Zh9 (K:PySem.W.Frag):Sp:=fun vs H Q _=>∃ (rw a:Addr) (us:List Addr) (ns:List Int),vs=[.ref rw,.ref a]/\H rw=some (.lst (us.map V.ref))/\us.length<=64/\LI K H a ns/\(∀ (j:Nat) (u:Addr),us[j]?=some u->∃ d,DeedAt H u d) /\
 ∀ t bd zs (i:Nat) H',Same H H'->H t=none->H' t=some (.tup [.int i,.ref bd])->Bad K H' bd zs i->zs.length<=66->(∀ v∈zs,PlnV v)->Q (.ref t) H'
theorem Zbj:FnScope ["_law_row", "_law_script", "_law_cell", "_law_at", "_law_bad", "_law_other"] ["_law_row", "_law_script"] (Zg (top 63)):=⟨rfl,rfl,rfl,by decide+kernel,rfl,by decide+kernel,by decide+kernel⟩
set_option maxHeartbeats 8000000 in
theorem Zpn (D:Def K mg "_law_spoiled" (top 63) ["_law_row", "_law_script"]) (T:Txt K mg) (GC:Fu P w K mg base CX0 1 "_law_cell_at" ["_law_script", "_law_k"] (Zd9 K)) (GO:Fu P w K mg base CX0 1 "_law_odd" ["_law_cell"] (Zmx K)):Fu P w K mg base CX0 2 "_law_spoiled" ["_law_row", "_law_script"] (Zh9 K):=by
 refine D.fu Zbj (fun vs H Q E h=>?_) (fun f cdv A outer s H vs Q E hr h=>?_)
 ·obtain⟨rw,a,us,ns,rfl,_⟩:=h
  rfl
 ·obtain⟨rw,a,us,ns,rfl,hw,l30,hq,hd,kk⟩:=h
  refine⟨_,Zh (Zp (i:=2) Zbj.nd rfl (.inl rfl) (pc GC hr Zk (Za (pv 1) (Za Zd Zc))))
   (Zh (Zp (i:=3) Zbj.nd rfl (.inl rfl) (Zi Zv (Zi Zv (Zi Yo (pv 2) Zd) Zd) (Zi Yi (Yc T.len (pv 0)) Zd)))
   (Zh (Zp (i:=4) Zbj.nd rfl (.inl rfl) (Zi Zbr (Zi Zbr (Jo Jm (pv 0) Zak (Jb (pv 3))) (Z0 (Za (pc GO hr Zk (Za (pv 2) Zc)) Zc))) (Jo Jm (pv 0) (Jb (pv 3)) Zak)))
   (Zh (Zn (Zu Zy (Zi Zv (pv 2) Zd) Zd (Zs _))
     (Zh (Zp (i:=5) Zbj.nd rfl (.inl rfl) (Zi Yi (Zi Yi (pv 3) Zd) (Zi Zv (Zi Zv (Zi Yo (pv 2) Zd) Zd) (Zi Zcy (Yc T.len (pv 4)) (pv 3)))))
    (Zf (Zp (i:=4) Zbj.nd rfl (.inl rfl) (Zi Zbr (Zi Zbr (Jo Jm (pv 4) Zak (Jb (pv 5))) (Z0 (Za (pc GO hr Zk (Za (pc GC hr Zk (Za (pv 1) (Za Zd Zc))) Zc)) Zc))) (Jo Jm (pv 4) (Jb (pv 5)) Zak))))) Zo)
   (Zf (Zj (Z5 (Za (pv 3) (Za (pv 4) Zc)))))))),?_⟩
  refine⟨_,rfl,a,ns,3,rfl,hq,by omega,fun c=>?_⟩
  refine⟨_,rfl,_,_,rfl,rfl,.inr (by constructor<;>decide),_,_,rfl,rfl,(by show (0:Int)<2147483647;decide),_,rfl,rw,_,rfl,.inl (SqL.of hw),_,_,rfl,rfl,_,_,rfl,rfl,(by rw[List.length_map];omega),?_⟩
  dsimp only
  rw[List.length_map]
  have at0':=Int.emod_nonneg (c * 742938285 % 2147483647) (show ((us.length:Int)+1)≠0 by omega)
  have at1:=Int.emod_lt_of_pos (c * 742938285 % 2147483647) (show (0:Int)<(us.length:Int)+1 by omega)
  generalize c * 742938285 % 2147483647 % ((us.length:Int)+1)=at_ at at0' at1 ⊢
  obtain⟨n,rfl⟩:=Int.eq_ofNat_of_zero_le at0'
  have hn:n<=us.length:=by omega
  refine⟨_,rfl,_,rfl,_,rfl,rw,_,rfl,SqL.of hw,fun l1 n1=>?_⟩
  rw[Ze2 _ at0']
  have s1:=Same.new (o:=.lst ((us.map V.ref).take (n:Int).toNat)) n1
  have e1:=Ze (H:=H) (a:=l1) (o:=.lst ((us.map V.ref).take (n:Int).toNat))
  generalize upd H l1 (.lst ((us.map V.ref).take (n:Int).toNat))=H1 at s1 e1 ⊢
  refine⟨_,rfl,c,rfl,fun v1 H2 s2 pl1 od1=>?_⟩
  refine⟨(by show 1<=sizeLine;decide),fun l2 n2=>?_⟩
  have s3:=Same.new (o:=.lst [v1]) n2
  have e2:=Ze (H:=H2) (a:=l2) (o:=.lst [v1])
  generalize upd H2 l2 (.lst [v1])=H3 at s3 e2 ⊢
  have hl1:((us.map V.ref).take (n:Int).toNat).length=n:=by simp;omega
  refine⟨l1,l2,_,_,rfl,rfl,s3 _ _ (s2 _ _ e1),e2,(by rw[hl1,sizeLine_eq];simp;omega),fun l3 n3=>?_⟩
  have s4:=Same.new (o:=.lst ((us.map V.ref).take (n:Int).toNat++[v1])) n3
  have e3:=Ze (H:=H3) (a:=l3) (o:=.lst ((us.map V.ref).take (n:Int).toNat++[v1]))
  generalize upd H3 l3 (.lst ((us.map V.ref).take (n:Int).toNat++[v1]))=H4 at s4 e3 ⊢
  have s14:=((s1.trans s2).trans s3).trans s4
  refine⟨_,rfl,_,rfl,_,rfl,rw,_,rfl,SqL.of (s14 _ _ hw),fun l4 n4=>?_⟩
  rw[Ze3 _ at0']
  have s5:=Same.new (o:=.lst ((us.map V.ref).drop (n:Int).toNat)) n4
  have e4:=Ze (H:=H4) (a:=l4) (o:=.lst ((us.map V.ref).drop (n:Int).toNat))
  generalize upd H4 l4 (.lst ((us.map V.ref).drop (n:Int).toNat))=H5 at s5 e4 ⊢
  have hl4:((us.map V.ref).drop (n:Int).toNat).length=us.length - n:=by simp
  refine⟨l3,l4,_,_,rfl,rfl,s5 _ _ e3,e4,(by rw[List.length_append,hl1,hl4,sizeLine_eq];simp;omega),fun bd nbd=>?_⟩
  have exs:∃ xs,(us.map V.ref).take (n:Int).toNat++[v1]++(us.map V.ref).drop (n:Int).toNat=xs:=⟨_,rfl⟩
  obtain⟨xs,hxs⟩:=exs
  rw[hxs]
  have lx:xs.length=us.length+1:=by rw[← hxs,List.length_append,List.length_append,hl1,hl4];simp;omega
  have gx:xs[n]?=some v1:=by
   rw[← hxs,List.append_assoc,List.getElem?_append_right (by omega),hl1];simp
  have gb:∀ j,j<n->∃ u,us[j]?=some u/\xs[j]?=some (.ref u):=fun j hj=>by
   have hj':j<us.length:=Nat.lt_of_lt_of_le hj hn
   refine⟨us[j]'hj',List.getElem?_eq_getElem hj',?_⟩
   rw[← hxs,List.append_assoc,List.getElem?_append_left (by omega),List.getElem?_take_of_lt (by omega),List.getElem?_map,List.getElem?_eq_getElem hj']
   rfl
  have plx:∀ v∈xs,PlnV v:=fun v hv=>by
   rw[← hxs] at hv
   rcases List.mem_append.mp hv with hv|hv
   ·rcases List.mem_append.mp hv with hv|hv
    ·obtain⟨_,_,rfl⟩:=List.mem_map.mp (List.mem_of_mem_take hv);trivial
    ·rw[List.mem_singleton.mp hv];exact pl1
   ·obtain⟨_,_,rfl⟩:=List.mem_map.mp (List.mem_of_mem_drop hv);trivial
  have s6:=Same.new (o:=.lst xs) nbd
  have e5:=Ze (H:=H5) (a:=bd) (o:=.lst xs)
  generalize upd H5 bd (.lst xs)=H6 at s6 e5 ⊢
  have s16:=(s14.trans s5).trans s6
  have bad6:Bad K H6 bd xs n:=⟨e5,v1,gx,((((od1.same s3).same s4).same s5).same s6),fun j hj=>by
   obtain⟨u,q1,q2⟩:=gb j hj
   obtain⟨d,q3⟩:=hd j u q1
   exact⟨u,d,q2,s16 _ _ q3⟩⟩
  refine Yg fun M0 hM0=>hM0 _ _ (Yg fun M hM=>?_)
  have fin:∀ v5 bd' zs H7,Same H H7->Bad K H7 bd' zs n->zs.length<=66->(∀ v∈zs,PlnV v)->M [some (.ref rw),some (.ref a),some (.int c),some (.int n),some (.ref bd'),v5] H7:=by
   intro v5 bd' zs H7 s7 bad lz pz
   apply hM
   refine⟨_,rfl,_,rfl,(by show 2<=sizeLine;decide),fun t nt=>?_⟩
   have s8:=Same.new (o:=.tup [.int n,.ref bd']) nt
   exact kk t bd' zs n _ (s7.trans s8) (s7.free nt) Ze (bad.same s8) lz pz
  refine⟨_,rfl,_,_,rfl,rfl,(by show (0:Int)<2;decide),rfl,_,rfl,ite2 (fun _=>?_) (fun _=>fin _ bd xs H6 s16 bad6 (by omega) plx)⟩
  refine⟨_,rfl,_,_,rfl,rfl,_,rfl,_,_,rfl,rfl,.inr (by constructor<;>decide),_,_,rfl,rfl,(by show (0:Int)<2147483647;decide),_,rfl,bd,_,rfl,.inl (SqL.of e5),_,rfl,_,_,rfl,rfl,_,_,rfl,rfl,(by omega),_,_,rfl,rfl,?_⟩
  dsimp only
  have o0:=Int.emod_nonneg (c * 1226874159 % 2147483647) (show ((xs.length:Int) - n)≠0 by omega)
  have o1:=Int.emod_lt_of_pos (c * 1226874159 % 2147483647) (show (0:Int)<(xs.length:Int) - n by omega)
  generalize c * 1226874159 % 2147483647 % ((xs.length:Int) - n)=r at o0 o1 ⊢
  have om:∃ m:Nat,(n:Int)+1+r=m/\n<m/\m<=xs.length:=⟨(n+1+r).toNat,by omega,by omega,by omega⟩
  obtain⟨m,em,nm,ml⟩:=om
  rw[em]
  have m0:(0:Int)<=m:=by omega
  refine⟨_,rfl,_,rfl,_,rfl,bd,_,rfl,SqL.of e5,fun k1 w1=>?_⟩
  rw[Ze2 _ m0]
  have y1:=Same.new (o:=.lst (xs.take (m:Int).toNat)) w1
  have f1:=Ze (H:=H6) (a:=k1) (o:=.lst (xs.take (m:Int).toNat))
  generalize upd H6 k1 (.lst (xs.take (m:Int).toNat))=G1 at y1 f1 ⊢
  refine⟨_,rfl,a,ns,4,rfl,(s16.trans y1).seq hq,by omega,fun c2=>⟨c2,rfl,fun v2 G2 y2 pl2 od2=>?_⟩⟩
  refine⟨(by show 1<=sizeLine;decide),fun k2 w2=>?_⟩
  have y3:=Same.new (o:=.lst [v2]) w2
  have f2:=Ze (H:=G2) (a:=k2) (o:=.lst [v2])
  generalize upd G2 k2 (.lst [v2])=G3 at y3 f2 ⊢
  have hk1:(xs.take (m:Int).toNat).length=m:=by simp;omega
  refine⟨k1,k2,_,_,rfl,rfl,y3 _ _ (y2 _ _ f1),f2,(by rw[hk1,sizeLine_eq];simp;omega),fun k3 w3=>?_⟩
  have y4:=Same.new (o:=.lst (xs.take (m:Int).toNat++[v2])) w3
  have f3:=Ze (H:=G3) (a:=k3) (o:=.lst (xs.take (m:Int).toNat++[v2]))
  generalize upd G3 k3 (.lst (xs.take (m:Int).toNat++[v2]))=G4 at y4 f3 ⊢
  have y14:=((y1.trans y2).trans y3).trans y4
  refine⟨_,rfl,_,rfl,_,rfl,bd,_,rfl,SqL.of (y14 _ _ e5),fun k4 w4=>?_⟩
  rw[Ze3 _ m0]
  have y5:=Same.new (o:=.lst (xs.drop (m:Int).toNat)) w4
  have f4:=Ze (H:=G4) (a:=k4) (o:=.lst (xs.drop (m:Int).toNat))
  generalize upd G4 k4 (.lst (xs.drop (m:Int).toNat))=G5 at y5 f4 ⊢
  have hk4:(xs.drop (m:Int).toNat).length=xs.length - m:=by simp
  refine⟨k3,k4,_,_,rfl,rfl,y5 _ _ f3,f4,(by rw[List.length_append,hk1,hk4,sizeLine_eq];simp;omega),fun b2 wb=>?_⟩
  have y6:=Same.new (o:=.lst (xs.take (m:Int).toNat++[v2]++xs.drop (m:Int).toNat)) wb
  have y16:=(y14.trans y5).trans y6
  have bad7:=bad6.same y16
  refine fin _ b2 _ _ (s16.trans y16) ⟨Ze,?_⟩ (by rw[List.length_append,List.length_append,hk1,hk4];simp;omega) fun v hv=>?_
  ·obtain⟨_,v,g1,g2,g3⟩:=bad7
   have key:∀ j,j<m->(xs.take (m:Int).toNat++[v2]++xs.drop (m:Int).toNat)[j]?=xs[j]?:=fun j hj=>by
    rw[List.append_assoc,List.getElem?_append_left (by omega),List.getElem?_take_of_lt (by omega)]
   exact⟨v,by rw[key n nm];exact g1,g2,fun j hj=>by
    obtain⟨u,d,q1,q2⟩:=g3 j hj
    exact⟨u,d,by rw[key j (by omega)];exact q1,q2⟩⟩
  ·rcases List.mem_append.mp hv with hv|hv
   ·rcases List.mem_append.mp hv with hv|hv
    ·exact plx _ (List.mem_of_mem_take hv)
    ·rw[List.mem_singleton.mp hv];exact pl2
   ·exact plx _ (List.mem_of_mem_drop hv)
def Zig (K:PySem.W.Frag) (CC:Bool->Addr) (CP P4 P5:Addr):Sp:=fun vs H Q _=>∃ (a ra sc p0 p1 p2:Addr) (ns rk l0 l1 pl:List Int) (v:V),vs=[.ref a,.ref ra,.ref sc]/\LI K H a ns/\H ra=some (.lst (rk.map V.int))/\1<=rk.length/\rk.length<=60/\(∀ y∈rk,0<=y/\y<M60)/\ScAt H sc p0 p1 p2 l0 l1 pl v/\PicOk rk l0 l1 pl v/\TT P4 P5 H /\
 ∀ fw x F p H',KB P4 P5 H H'->TT P4 P5 H'->(∀ z∈F,H z=none)->Bd fw (CC fw) CP F H' x (mkBS rk l0 l1 pl v) p->Q (.ref x) H'
theorem Zir:FnScope ["_law_script", "_law_ranks_here", "_law_picture", "_law_pegs"] ["_law_script", "_law_ranks_here", "_law_picture"] (Zg (top 62)):=⟨rfl,rfl,rfl,by decide+kernel,rfl,by decide+kernel,by decide+kernel⟩
set_option maxHeartbeats 4000000 in
theorem Zpv (D:Def K mg "_law_board" (top 62) ["_law_script", "_law_ranks_here", "_law_picture"]) (T:Txt K mg) (hW:mg "Wide" = some (.ref (CC false))) (hF:mg "Few" = some (.ref (CC true))) (GC:Fu P w K mg base CX0 1 "_law_cell_at" ["_law_script", "_law_k"] (Zd9 K)) (GCp:Fu P w K mg base CX0 1 "_law_copy" ["_law_picture"] Zm0)
  (GWI:FuKD P w K mg base CX0 7 (CC false) ["self", "ranks", "picture"] [] (Zcs (CC false))) (GFI:FuKD P w K mg base CX0 8 (CC true) ["self", "ranks", "pegs", "picture"] [] (Za5 (CC true) CP P4)):Fu P w K mg base CX0 10 "_law_board" ["_law_script", "_law_ranks_here", "_law_picture"] (Zig K CC CP P4 P5):=by
 refine D.fu Zir (fun vs H Q E h=>?_) (fun f cdv A outer s H vs Q E hr h=>?_)
 ·obtain⟨a,ra,sc,p0,p1,p2,ns,rk,l0,l1,pl,v,rfl,_⟩:=h
  rfl
 ·obtain⟨a,ra,sc,p0,p1,p2,ns,rk,l0,l1,pl,v,rfl,hq,hra,h1,h60,hrk,S,ok,tt,kk⟩:=h
  refine⟨_,Zh (Zp (i:=3) Zir.nd rfl (.inl rfl) (Zi Yi Zd (Zi Zv (Zi Zv (Zi Yo (pc GC hr Zk (Za (pv 0) (Za Zd Zc))) Zd) Zd) Zd)))
   (Zh (Zn (Zu Zy (Zi Zv (pc GC hr Zk (Za (pv 0) (Za Zd Zc))) Zd) Zd (Zs _)) (Zf (Zj (pmkD (k:=8) (dvs:=[]) GFI hr hF .nil Zk (Za (Jd T.list (pv 1)) (Za (pv 3) (Za (pc GCp hr Zk (Za (pv 2) Zc)) Zc)))))) Zo)
   (Zf (Zj (pmkD (k:=8) (dvs:=[]) GWI hr hW .nil Zk (Za (Jd T.list (pv 1)) (Za (pc GCp hr Zk (Za (pv 2) Zc)) Zc)))))),?_⟩
  refine⟨_,rfl,a,ns,2,rfl,hq,by omega,fun c=>⟨_,_,rfl,rfl,.inr (by constructor<;>decide),_,_,rfl,rfl,(by show (0:Int)<2147483647;decide),_,_,rfl,rfl,(by show (0:Int)<16;decide),_,_,rfl,rfl,?_⟩⟩
  refine⟨_,rfl,a,ns,2,rfl,hq,by omega,fun c2=>⟨_,_,rfl,rfl,(by show (0:Int)<2;decide),rfl,_,rfl,ite2 (fun _=>?_) (fun _=>?_)⟩⟩
  ·refine⟨_,rfl,ra,_,rfl,.inl (SqL.of hra),fun rl2 nrl2=>?_⟩
   have y2:=Same.new (o:=.lst (rk.map V.int)) nrl2
   refine⟨_,rfl,_,rfl,sc,p0,p1,p2,l0,l1,pl,v,rfl,S.same y2,fun ct2 c3 c4 c5 H5 s5 _ _ _ _ _ _ _ S5 xf dx2 nx2 ndx2 ne2=>?_⟩
   have s45:=y2.trans s5
   have i0:=Int.emod_nonneg (c * 764261123 % 2147483647) (show (16:Int)≠0 by decide)
   have i1:=Int.emod_lt_of_pos (c * 764261123 % 2147483647) (show (0:Int)<16 by decide)
   refine Zro (P5:=P5) rfl nx2 ndx2 ne2 (s5 _ _ Ze) h1 h60 hrk (.inr ⟨ct2,c3,c4,c5,rfl,S5⟩) ok (by omega) (by omega) (tt.same s45) fun Ff H6 ys0 k6 t6 frf so BF6=>⟨rfl,?_⟩
   exact kk true xf Ff _ H6 ((Zcb s45).trans k6) t6 (fun z hz=>s45.free (frf z hz)) BF6
  ·refine⟨_,rfl,ra,_,rfl,.inl (SqL.of hra),fun rl nrl=>?_⟩
   have y1:=Same.new (o:=.lst (rk.map V.int)) nrl
   refine⟨_,rfl,sc,p0,p1,p2,l0,l1,pl,v,rfl,S.same y1,fun ct c0 c1 c2 H3 s3 _ _ _ _ _ _ _ S3 xw dx nx ndx ne=>?_⟩
   have s23:=y1.trans s3
   refine Zrn (CP:=CP) (p:=mkPG 1 []) rfl nx ndx ne (s3 _ _ Ze) h1 h60 hrk (.inr ⟨ct,c0,c1,c2,rfl,S3⟩) ok (tt.same s23) fun Fw H4 k4 t4 frw BW4=>⟨rfl,?_⟩
   exact kk false xw Fw _ H4 ((Zcb s23).trans k4) t4 (fun z hz=>s23.free (frw z hz)) BW4
end
end K10
namespace K10
open PySem L2 L3
theorem Zh6 {H:Hp}{r:Sum V Str}{y y':V}(t:Tld r) (h:TV H r y) (h':TV H r y'):AlikeV H y y':=by
 rcases t with ⟨v,rfl,hv⟩|⟨wd,rfl,sh⟩
 ·have e1:y=v:=h
  have e2:y'=v:=h'
  rw[e1,e2]
  rcases hv with rfl|⟨c,rfl⟩|⟨i,rfl⟩
  ·exact .non
  ·exact .bl c
  ·exact .int i
 ·obtain⟨z,rfl,e⟩:=h
  obtain⟨z',rfl,e'⟩:=h'
  exact .tup e e' sh
theorem Deeds.to {K:PySem.W.Frag}{n:Nat}{P4 P5:Addr}{F F':List Addr}{H H':Hp}{us:List Addr}{ds:List Dd}(h:Deeds K n P4 P5 F H us ds) (kt:∀ z xs,H z=some (.tup xs)->H' z=some (.tup xs)) (kp:∀ z o,H z=some o->z∉TL P4 P5->z∉F->H' z=some o) (nf:∀ z,z∉F->H z≠none->z∉F'):Deeds K n P4 P5 F' H' us ds:=by
 refine⟨h.len,fun i u d h1 h2=>?_⟩
 obtain⟨a,b,c⟩:=h.at_ i u d h1 h2
 exact⟨kt _ _ a,b.to fun z o hz e=>kp z o e (c z hz).2 (c z hz).1,fun z hz=>⟨nf z (c z hz).1 (Zlj b hz),(c z hz).2⟩⟩
theorem Deeds.same {K:PySem.W.Frag}{n:Nat}{P4 P5:Addr}{F:List Addr}{H H':Hp}{us:List Addr}{ds:List Dd}(h:Deeds K n P4 P5 F H us ds) (s:Same H H'):Deeds K n P4 P5 F H' us ds:=h.to (fun z xs e=>s _ _ e) (fun z o e _ _=>s _ _ e) fun z h _=>h
theorem Deeds.snoc {K:PySem.W.Frag}{n:Nat}{P4 P5:Addr}{F:List Addr}{H:Hp}{us:List Addr}{ds:List Dd}{u:Addr}{d:Dd}(h:Deeds K n P4 P5 F H us ds) (hd:DeedAt H u d) (dok:DeedOk K H n d) (hz:∀ z,.ref z∈d.parts->z∉F/\z∉TL P4 P5):Deeds K n P4 P5 F H (us++[u]) (ds++[d]):=by
 refine⟨by simp[h.len],fun i u' d' g1 g2=>?_⟩
 by_cases hi:i<us.length
 ·rw[List.getElem?_append_left hi] at g1
  rw[List.getElem?_append_left (by rw[h.len];exact hi)] at g2
  exact h.at_ i u' d' g1 g2
 ·have ei:i=us.length:=by
   have:=(List.getElem?_eq_some_iff.mp g1).1
   simp at this
   omega
  subst ei
  rw[List.getElem?_append_right (Nat.le_refl _)] at g1
  rw[List.getElem?_append_right (by rw[h.len];exact Nat.le_refl _)] at g2
  simp[h.len] at g1 g2
  subst g1 g2
  exact⟨hd,dok,hz⟩
theorem Zrq {fw:Bool}{C CP P4 P5:Addr}{F:List Addr}{H H':Hp}{x:Addr}{b:BS}{p:PG}(B:Bd fw C CP F H x b p) (t:TT P4 P5 H) (k:KD P4 P5 F H H'):∀ z xs,H z=some (.tup xs)->H' z=some (.tup xs):=fun z xs e=>KD.at k t e (fun _ z=>by cases z) fun q=>by
 rcases B.solid z q with ⟨ys,e'⟩|⟨_,_,_,e'⟩<;>rw[e] at e'<;>cases e'
theorem Zhu {K:PySem.W.Frag}{b b1:BS}{ds:List Dd}{rs:List (Sum V Str)}(c:Chain K b ds rs b1):∀ k,k<=ds.length->∃ b2,Chain K b (ds.take k) (rs.take k) b2:=by
 induction c with
 | nil=>intro k hk;exact⟨b,by rw[List.take_nil,List.take_nil];exact .nil⟩
 | @snoc ds rs b1 b2 d r c h tl ih =>
  intro k hk
  have hl:=Zch c
  by_cases hk':k<=ds.length
  ·obtain⟨b3,c3⟩:=ih k hk'
   exact⟨b3,by rw[List.take_append_of_le_length hk',List.take_append_of_le_length (by omega)];exact c3⟩
  ·have ek:k=ds.length+1:=by simp at hk;omega
   exact⟨b2,by rw[List.take_of_length_le (by simp;omega),List.take_of_length_le (by simp;omega)];exact .snoc c h tl⟩
theorem Zq1 {l:List Int}(h:l.Pairwise (· < ·)):l.Nodup:=h.imp fun a e=>by omega
theorem Zq0 {l m:List Int}(h1:l.Pairwise (· < ·)) (h2:m.Pairwise (· < ·)) (h:∀ x,x∈l ↔ x∈m):l=m:=by
 have p:l.Perm m:=(List.perm_ext_iff_of_nodup (Zq1 h1) (Zq1 h2)).mpr h
 exact List.Perm.eq_of_pairwise (fun a b _ _ x y=>by omega) h1 h2 p
theorem Zeq {l:List Int}{n:Nat}(u:Up l) (h:∀ x∈l,0<=x/\x<(n:Int)):idxL (Z6 n l) n=l:=by
 unfold idxL
 rw[List.filter_congr (q:=fun i:Nat=>decide ((i:Int)∈l)) fun i hi=>Zha n l i (List.mem_range.mp hi)]
 refine Zq0 (List.pairwise_map.mpr ((List.pairwise_lt_range.filter _).imp fun h=>by omega)) (Zp9 u) fun x=>?_
 simp only [List.mem_map,List.mem_filter,List.mem_range,decide_eq_true_eq]
 constructor
 ·rintro⟨i,⟨_,h2⟩,rfl⟩;exact h2
 ·intro hx
  have:=h x hx
  exact⟨x.toNat,⟨by omega,by rw[Int.toNat_of_nonneg this.1];exact hx⟩,Int.toNat_of_nonneg this.1⟩
theorem Zn8 {fw:Bool}{C CP:Addr}{F:List Addr}{σ:L2.St}{H:Hp}{x:Addr}{rk l0 l1 pl:List Int}{v:V}{p:PG}{Q:VK}{E:XK}(D:Bd fw C CP F H x (mkBS rk l0 l1 pl v) p) (ok:PicOk rk l0 l1 pl v)
  (kk:∀ t d0 d1 d2 H',Same H H'->ScAt H' t d0 d1 d2 l0 l1 pl v->Q (.ref t) H'):tNil σ H (fun vs H2=>Zd6 C (V.ref x::(vs++[])) H2 Q E):=by
 obtain⟨e,S,r,a,m,q,rfl,B,_⟩:=D.ex
 have I:=D.ok
 refine⟨e,x,r,a,m,q,rk,_,_,pl,v,rfl,B,by rw[I.la];exact I.l60,by rw[I.lm];exact I.l60,fun t d0 d1 d2 H' sm nt n0 n1 n2 e01 e02 e12 ht h0 h1 h2=>kk t d0 d1 d2 H' sm ⟨ht,?_,?_,h2⟩⟩
 ·have e:idxL (Z6 rk.length l0) (Z6 rk.length l0).length=l0:=by rw[Zba,Zeq ok.u0 ok.i0]
  rw[h0]
  show some (HO.lst ((idxL (Z6 rk.length l0) (Z6 rk.length l0).length).map V.int))=_
  rw[e]
 ·have e:idxL (Z6 rk.length l1) (Z6 rk.length l1).length=l1:=by rw[Zba,Zeq ok.u1 ok.i1]
  rw[h1]
  show some (HO.lst ((idxL (Z6 rk.length l1) (Z6 rk.length l1).length).map V.int))=_
  rw[e]
section
variable {P:Program}{w:World}{K:PySem.W.Frag}{mg:Str->Option Value}{base:Heap}{CC:Bool->Addr}{CP P4 P5:Addr}
def Zof (K:PySem.W.Frag) (P4 P5:Addr):Sp:=fun vs H Q _=>∃ (a:Addr) (ns:List Int),vs=[.ref a]/\LI K H a ns/\ns.length<=63/\TT P4 P5 H/\∀ H',Q (.bl true) H'
theorem Yw:FnScope ["_law_script", "_law_ranks_here", "_law_picture", "_law_board_here", "_law_beside", "_law_row", "_law_at", "_law_bad", "_law_handed", "_law_k", "_law_names_here", "_law_place", "_law_found"] ["_law_script"] (Zg (top 64)):=⟨rfl,rfl,rfl,by decide+kernel,rfl,by decide+kernel,by decide+kernel⟩
set_option maxHeartbeats 16000000 in
theorem Zto (D:Def K mg "law" (top 64) ["_law_script"]) (T:Txt K mg) (TB:∀ fw,BTxt K (CC fw)) (GR:Fu P w K mg base CX0 2 "_law_ranks" ["_law_script"] (Zia K)) (GP:Fu P w K mg base CX0 2 "_law_picture_by" ["_law_script", "_law_ranks_here"] (Zib K)) (GB:Fu P w K mg base CX0 10 "_law_board" ["_law_script", "_law_ranks_here", "_law_picture"] (Zig K CC CP P4 P5))
  (GD:Fu P w K mg base CX0 2 "_law_deed" ["_law_cell", "_law_ranks_here", "_law_picture"] (Zmz K)) (GSp:Fu P w K mg base CX0 2 "_law_spoiled" ["_law_row", "_law_script"] (Zh9 K)) (GRf:Fu P w K mg base CX0 6 "_law_refused" ["_law_board_here", "_law_row"] (Zmu K)) (GCa:Fu P w K mg base CX0 6 "_law_caught" ["_law_board_here", "_law_row"] (Zqn K)) (GLW:Fu P w K mg base CX0 1 "_law_whole" ["_law_found"] (Zb1 K))
  (GT:∀ fw,FuM P w K mg base CX0 2 (CC fw) "told" ["self"] (Zd6 (CC fw))) (GPl:Fu P w K mg base CX0 14 "play" ["board", "deeds"] (Zmw K CC CP P4 P5)) (GA:Fu P w K mg base CX0 2 "_law_alike" ["_law_found", "_law_due"] Zih) (GDo:Fu P w K mg base CX0 13 "_law_do" ["_law_board_here", "_law_deed_here"] (spDo (fun _=>True) K CC CP P4 P5)):Fu P w K mg base CX0 15 "law" ["_law_script"] (Zof K P4 P5):=by
 refine D.fu Yw (fun vs H Q E h=>?_) (fun f cdv A outer s H vs Q E hr h=>?_)
 ·obtain⟨a,ns,rfl,_⟩:=h
  rfl
 ·obtain⟨a,ns,rfl,hq,h63,tt,kk⟩:=h
  refine' ⟨_,Zh (Zp (i:=1) Yw.nd rfl (Or.inr rfl) (pc GR hr Zk (Za (pv 0) Zc)))
   (Zh (Zp (i:=2) Yw.nd rfl (Or.inr rfl) (pc GP hr Zk (Za (pv 0) (Za (pv 1) Zc))))
   (Zh (Zp (i:=3) Yw.nd rfl (.inl rfl) (pc GB hr Zk (Za (pv 0) (Za (pv 1) (Za (pv 2) Zc)))))
   (Zh (Zp (i:=4) Yw.nd rfl (.inl rfl) (pc GB hr Zk (Za (pv 0) (Za (pv 1) (Za (pv 2) Zc)))))
   (Zh (Zg5 (i:=5) (ts:=["_law_cell"]) (fvs:=["_law_ranks_here", "_law_picture"]) (js:=[1,2]) (cl:=[("_law_ranks_here",s.heap.objs.size+1),("_law_picture",s.heap.objs.size+1+1)]) rfl Yw.nd rfl rfl ?S (Zb7 (Jo Jm (pv 0) (Jb Zd) (Jb Zd)))
     (fun _ _ _ _=>Ya (i:=0) (show List.Nodup (["_law_cell", "_law_ranks_here", "_law_picture"]:List Str) from by decide+kernel) rfl (.inl rfl) (Or.inr rfl)) (fun _ _ _ _=>Zas) (fun _ _ _ _=>pc GD hr Zk (Za (pv 0) (Za (pv 1) (Za (pv 2) Zc)))))
   (Zh (Zi2 (pc GSp hr Zk (Za (pv 5) (Za (pv 0) Zc))) (Zi5 rfl (Y0 (Ya (i:=6) Yw.nd rfl (.inl rfl)) (Y0 (Ya (i:=7) Yw.nd rfl (.inl rfl)) Zbk))))
   (Zh (Zp (i:=8) Yw.nd rfl (.inl rfl) (Jd T.list (pv 7)))
   (Zh (Zcx PassesOwn.never rfl (Zaf rfl T.range (Za Zd Zc)) (Ya (i:=9) Yw.nd rfl (.inl rfl))
     (Zh (Zi2 (pc GRf hr Zk (Za (pv 3) (Za (pv 8) Zc))) (Zi5 rfl (Y0 (Ya (i:=10) Yw.nd rfl (.inl rfl)) (Y0 (Ya (i:=11) Yw.nd rfl (.inl rfl)) Zbk))))
    (Zh (Zn (Yy (Zu (Zgh hr.units) (pv 10) (Z0 (Za Zq (Za Zq Zc))) (Zs _)) (Yy (Yh (Zz (pc GLW hr Zk (Za (pv 11) Zc)))) (Ja (Zu Zje (pv 11) (pv 6) (Zs _))))).pt (Zf (Zj Ye)) Zo)
    (Zf (Zn (Yy (Zu (Zre hr.units) (pv 8) (pv 7) (Zs _)) (Yy (Zu (Zgh hr.units) (Zjc fun fw=>pm0 (GT fw) (TB fw).cl hr Zk (pv 3)) (pv 2) (Zs _)) (Ja (Zu (Zgh hr.units) (pc GCa hr Zk (Za (pv 3) (Za (pv 8) Zc))) (Z0 (Za Zq (Za Zq Zc))) (Zs _))))).pt (Zf (Zj Ye)) Zo)))))
   (Zh (Zp (i:=12) Yw.nd rfl (.inl rfl) (pc GPl hr Zk (Za (pv 3) (Za (pv 5) Zc))))
   (Zh (Zn (Yy (Yh (Zz (Yt T.isi T.list Zao (pv 12)))) (Ja (Zu Zje (Yc T.len (pv 12)) (Yc T.len (pv 5)) (Zs _)))).pt (Zf (Zj Ye)) Zo)
   (Zh (Zcx PassesOwn.never rfl (Zaf rfl T.range (Za (Yc T.len (pv 5)) Zc)) (Ya (i:=9) Yw.nd rfl (.inl rfl))
     (Zf (Zn (Yh (Zz (pc GA hr Zk (Za (Zr Z9 (pv 12) (pv 9) (fun _ _=>rfl)) (Za (pc GDo hr Zk (Za (pv 4) (Za (Zr Z9 (pv 5) (pv 9) (fun _ _=>rfl)) Zc))) Zc))))) (Zf (Zj Ye)) Zo)))
   (Zf (Zj (Ys (Y1 (Zgi hr.units) (Zjc fun fw=>pm0 (GT fw) (TB fw).cl hr Zk (pv 3)) (Zjc fun fw=>pm0 (GT fw) (TB fw).cl hr Zk (pv 4)) (Zs _)) (Yk (Y1 (Zgi hr.units) (pc GPl hr Zk (Za (pv 3) (Za (Z0 Zc) Zc))) (Z0 Zc) (Zs _)))))))))))))))),?main⟩
  case S=>exact Zs2 (Nat.ne_of_lt (Nat.lt_succ_self _)) (by decide) rfl rfl (by decide+kernel) (by decide+kernel) rfl (.inl rfl) (.inl rfl) rfl rfl (.inl rfl) (.inl rfl) rfl rfl
  case main =>
   refine⟨_,rfl,a,ns,rfl,hq,fun ra H1 rk s1 nra hra h1 h60 hrk=>?_⟩
   refine⟨_,rfl,_,rfl,a,ra,ns,rk,rfl,s1.seq hq,hra,h1,h60,hrk,fun sc p0 p1 p2 H2 l0 l1 pl v s2 _ _ _ _ S ok=>?_⟩
   have s12:=s1.trans s2
   have ra2:=s2 _ _ hra
   have t2:=tt.same s12
   have hq2:LI K H2 a ns:=s12.seq hq
   refine⟨_,rfl,_,rfl,_,rfl,a,ra,sc,p0,p1,p2,ns,rk,l0,l1,pl,v,rfl,hq2,ra2,h1,h60,hrk,S,ok,t2,fun fh xh Fh ph H3 k3 t3 frh BH3=>?_⟩
   have ra3:=t2.lst k3 ra2
   have S3:=t2.sc k3 S
   have hq3:LI K H3 a ns:=Zqk hq2 k3 fun o e nt=>t2.off e nt
   refine⟨_,rfl,_,rfl,_,rfl,a,ra,sc,p0,p1,p2,ns,rk,l0,l1,pl,v,rfl,hq3,ra3,h1,h60,hrk,S3,ok,t3,fun fb xb Fb pb H4 k4 t4 frb BB4=>?_⟩
   have ra4:=t3.lst k4 ra3
   have S4:=t3.sc k4 S3
   have hq4:LI K H4 a ns:=Zqk hq3 k4 fun o e nt=>t3.off e nt
   have BH4:=BH3.kb t3 k4
   have ap:Apart Fh Fb:=fun z hz hf=>BH3.has z hz (frb z hf)
   obtain⟨cs,ecs,lcs,_⟩:=Zkc ns (some 3) (some 33)
   refine⟨_,rfl,_,rfl,_,rfl,a,_,rfl,hq4,fun qs nqs=>⟨qs,rfl,⟨_,SqL.of Ze⟩,[.ref ra,.ref sc],rfl,fun rw nrw=>?_⟩⟩
   rw[ecs] at nrw ⊢
   have y5:=Same.new (o:=.lst (cs.map V.int)) nqs
   have eqs:=Ze (H:=H4) (a:=qs) (o:=.lst (cs.map V.int))
   generalize upd H4 qs (.lst (cs.map V.int))=H5 at nrw y5 eqs ⊢
   have ra5:=y5 _ _ ra4
   have S5:=S4.same y5
   have BH5:=BH4.same y5
   have BB5:=BB4.same y5
   have t5:=t4.same y5
   refine Jg cs.length (by rw[sizeLine_eq];omega) (fun i ys H2=>∃ us ds,ys=us.map V.ref/\us.length=i/\Same H5 H2/\H2 rw=some (.lst ys)/\Deeds K rk.length P4 P5 (rw::(Fh++Fb)) H2 us ds)
    ⟨[],[],rfl,rfl,Same.new nrw,Ze,rfl,fun i u d h=>by simp at h⟩ (fun i ys H2 ⟨us,ds,e1,e2,_,e3,_⟩=>⟨e3,by rw[e1,List.length_map];omega⟩) ?turn ?fin
   case turn =>
    rintro i ys H6 N hi ⟨us,ds,rfl,lu,s56,hD,dd⟩ rest
    have hu:(cs.map V.int)[i]?=some (.int cs[i]):=by rw[List.getElem?_map,List.getElem?_eq_getElem hi];rfl
    have eq6:=s56 _ _ eqs
    refine⟨⟨_,_,SqL.of eq6,hu⟩,?_⟩
    rintro xv H7 ⟨rfl,hx⟩
    have hx':=hx _ (SqL.of eq6)
    rw[hu] at hx'
    cases hx'
    refine⟨rfl,rfl,iteT ⟨_,rfl,_,rfl,_,rfl,cs[i],ra,sc,p0,p1,p2,rk,l0,l1,pl,v,rfl,s56 _ _ ra5,h1,h60,hrk,S5.same s56,ok,fun u d H8 s8 nu hd8 dok8 fresh=>?_⟩⟩
    have hD8:=s8 _ _ hD
    have s58:=s56.trans s8
    refine⟨hD8,rest _ _ ⟨us++[u],ds++[d],by simp,by simp[lu],fun z o e=>by rw[Zb (Zl e nrw)];exact s58 _ _ e,Ze,?_⟩⟩
    have zoff:∀ z,.ref z∈d.parts->z∉rw::(Fh++Fb)/\z∉TL P4 P5:=fun z hz=>by
     have n6:=fresh z hz
     have n5:H5 z=none:=s56.free n6
     refine⟨fun q=>?_,fun q=>t5.has _ q n5⟩
     rcases List.mem_cons.mp q with q|q
     ·rw[q,hD] at n6;cases n6
     ·rcases List.mem_append.mp q with q|q
      ·exact BH5.has _ q n5
      ·exact BB5.has _ q n5
    have kt:∀ z xs,H8 z=some (.tup xs)->upd H8 rw (.lst (us.map V.ref++[.ref u])) z=some (.tup xs):=fun z xs e=>by rw[Zb (Yl e hD8 (by intro z;cases z))];exact e
    have kp:∀ z o,H8 z=some o->z∉TL P4 P5->z∉rw::(Fh++Fb)->upd H8 rw (.lst (us.map V.ref++[.ref u])) z=some o:=fun z o e _ h=>by rw[Zb (fun q=>h (by rw[q];exact List.mem_cons_self))];exact e
    exact Deeds.snoc ((dd.same s8).to kt kp fun z h _=>h) (kt _ _ hd8) (dok8.to fun z o hz e=>kp z o e (zoff z hz).2 (zoff z hz).1) zoff
   case fin =>
    rintro ys H7 ⟨us,ds,rfl,lu,s57,hrow,dd⟩
    refine⟨⟨_,SqL.of (s57 _ _ eqs),by rw[List.length_map];exact Nat.le_refl _⟩,?_⟩
    have BH7:=BH5.same s57
    have BB7:=BB5.same s57
    have t7:=t5.same s57
    have S7:=S5.same s57
    have hq7:LI K H7 a ns:=(y5.trans s57).seq hq4
    have rwF:rw∉Fh++Fb:=fun q=>by
     rcases List.mem_append.mp q with q|q
     ·exact BH5.has _ q nrw
     ·exact BB5.has _ q nrw
    have lu64:us.length<=64:=by omega
    refine⟨_,rfl,_,rfl,rw,a,us,ns,rfl,hrow,lu64,hq7,fun j u hj=>?_,fun t bd zs i H8 s8 nt ht bad lz pz=>?_⟩
    ·have hjl:j<us.length:=(List.getElem?_eq_some_iff.mp hj).1
     exact⟨_,(dd.at_ j u _ hj (List.getElem?_eq_getElem (by rw[dd.len];exact hjl))).1⟩
    refine⟨t,_,rfl,SqT.of ht,rfl,_,_,rfl,_,_,rfl,rfl,?_⟩
    refine⟨_,rfl,bd,_,rfl,.inl (SqL.of bad.1),fun hd nh=>?_⟩
    have s9:=Same.new (o:=.lst zs) nh
    have ehd:=Ze (H:=H8) (a:=hd) (o:=.lst zs)
    generalize upd H8 hd (.lst zs)=H9 at s9 ehd ⊢
    have badb:=bad.same s9
    have badh:Bad K H9 hd zs i:=⟨ehd,badb.2⟩
    have s79:=s8.trans s9
    have BH9:=BH7.same s79
    have BB9:=BB7.same s79
    have t9:=t7.same s79
    have S9:=S7.same s79
    have row9:=s79 _ _ hrow
    have dd9:=dd.same s79
    refine⟨_,rfl,by omega,by omega,?_⟩
    refine Zbe (n:=(2:Int).toNat) (fun _ σ Hx=>∃ v9 v10 v11:Option V,σ=[some (.ref a),some (.ref ra),some (.ref sc),some (.ref xh),some (.ref xb),some (.ref rw),some (.int i),some (.ref bd),some (.ref hd),v9,v10,v11,none]/\Same H9 Hx) ⟨none,none,none,rfl,Same.refl _⟩ ?_ ?_
    ·rintro k σ Hx hk ⟨v9,v10,v11,rfl,sm⟩
     refine⟨_,rfl,_,rfl,.ref xh,hd,zs,i,rfl,badh.same sm,fun z l G1 u1 nz nl hl hz=>?_⟩
     refine⟨z,_,rfl,SqT.of hz,rfl,_,_,rfl,_,_,rfl,rfl,?_⟩
     refine⟨_,rfl,(by show 2<=sizeLine;decide),fun c1 nc1=>?_⟩
     have u2:=Same.new (o:=.lst [.str "row",.str "value"]) nc1
     refine⟨.list [.str "row",.str "value"],.list [.str "row",.str "value"],.lst (SqL.of (u2 _ _ hl)) (.cons (.str _) (.cons (.str _) .nil)),.lst (SqL.of Ze) (.cons (.str _) (.cons (.str _) .nil)),by decide+kernel,by decide+kernel,_,rfl,Zm (by decide+kernel) ?_⟩
     generalize upd G1 c1 (.lst [.str "row",.str "value"])=G2 at u2 ⊢
     refine⟨_,rfl,.int i,true,rfl,Zbw _,_,rfl,iteF ⟨_,rfl,_,rfl,rfl,_,rfl,Zm (by simp) ?_⟩⟩
     have u12:=(sm.trans u1).trans u2
     refine⟨_,rfl,_,rfl,hd,bd,zs,rfl,rfl,SqL.of (u12 _ _ ehd),SqL.of (u12 _ _ badb.1),pz,_,rfl,iteF ?_⟩
     have BHx:=BH9.same u12
     obtain⟨dx,fs,e0,no⟩:=BHx.inst
     refine⟨fh,_,rfl,xh,dx,fs,rfl,e0,no _ (by decide+kernel),?_⟩
     refine Zn8 BHx ok fun pt q0 q1 q2 G3 u3 Sp=>?_
     have u13:=u12.trans u3
     refine⟨_,rfl,_,_,Sp.sh ok.b,(S9.same u13).sh ok.b,Zb5 _ _ _ _,Zb5 _ _ _ _,_,rfl,Zm (by rw[eqvP];rfl) ?_⟩
     refine⟨_,rfl,_,rfl,.ref xh,hd,zs,i,rfl,badh.same u13,fun l2 G4 u4 nl2 hl2=>?_⟩
     refine⟨(by show 2<=sizeLine;decide),fun c2 nc2=>?_⟩
     have u5:=Same.new (o:=.lst [.str "row",.str "value"]) nc2
     refine⟨.list [.str "row",.str "value"],.list [.str "row",.str "value"],.lst (SqL.of (u5 _ _ hl2)) (.cons (.str _) (.cons (.str _) .nil)),.lst (SqL.of Ze) (.cons (.str _) (.cons (.str _) .nil)),by decide+kernel,by decide+kernel,_,rfl,Zm (by decide+kernel) ?_⟩
     exact⟨_,_,_,rfl,(u13.trans u4).trans u5⟩
    ·rintro σ Hx ⟨v9,v10,v11,rfl,sm⟩
     have BHx:=BH9.same sm
     have BBx:=BB9.same sm
     have tx:=t9.same sm
     have rowx:=sm _ _ row9
     have ddx:=dd9.same sm
     have ddh:Deeds K rk.length P4 P5 Fh Hx us ds:=ddx.to (fun z xs e=>e) (fun z o e _ _=>e) fun z h _ q=>h (List.mem_cons_of_mem _ (List.mem_append_left _ q))
     refine⟨_,rfl,_,rfl,fh,Fh,xh,rw,mkBS rk l0 l1 pl v,ph,us,ds,rfl,BHx,tx,rowx,fun q=>rwF (List.mem_append_left _ q),lu64,ddh,fun d rs ys G1 Fh1 b1 ph1 k1 nw1 tg1 BG1 ch ly tv nd dF hd1=>?_⟩
     have kt1:=Zrq BHx tx k1
     have kp1:∀ z o,Hx z=some o->z∉TL P4 P5->z∉Fh->G1 z=some o:=fun z o e h1 h2=>k1 z o e fun q=>(List.mem_append.mp q).elim h1 h2
     have BB1:Bd fb (CC fb) CP Fb G1 xb (mkBS rk l0 l1 pl v) pb:=BBx.to fun z o hz e=>kp1 z o e ((BBx.solid z hz).off tx) fun q=>ap z q hz
     have row1:=kp1 rw _ rowx (tx.off rowx fun _ z=>by cases z) fun q=>rwF (List.mem_append_left _ q)
     have ap1:Apart Fh1 Fb:=fun z hz hf=>by
      rcases nw1 z hz with h|h
      ·exact ap z h hf
      ·exact BBx.has z hf h
     have dFb:d∉Fb:=fun q=>BBx.has _ q nd
     have dd1:Deeds K rk.length P4 P5 Fb G1 us ds:=ddx.to kt1 (fun z o e h1 h2=>kp1 z o e h1 fun q=>h2 (List.mem_cons_of_mem _ (List.mem_append_left _ q))) fun z h _ q=>h (List.mem_cons_of_mem _ (List.mem_append_right _ q))
     have lrs:=Zch ch
     have lds:=dd.len
     have tlds:=Zkh ch
     refine⟨_,rfl,_, "list",_,true,rfl,.lst hd1,Zdt,_,rfl,iteF ⟨_,rfl,d,_,rfl,.inl (SqL.of hd1),_,rfl,rw,_,rfl,.inl (SqL.of row1),rfl,_,rfl,Zm (by simp;omega) ?_⟩⟩
     refine⟨_,rfl,rw,_,rfl,.inl (SqL.of row1),_,rfl,by rw[List.length_map];omega,by rw[List.length_map];omega,?_⟩
     rw[List.length_map]
     refine Zbe (n:=us.length) (fun k σ G=>∃ (v9:Option V) (Fb2:List Addr) (b2:BS) (pb2:PG),σ=[some (.ref a),some (.ref ra),some (.ref sc),some (.ref xh),some (.ref xb),some (.ref rw),some (.int i),some (.ref bd),some (.ref hd),v9,v10,v11,some (.ref d)]/\Bd fb (CC fb) CP Fb2 G xb b2 pb2/\TT P4 P5 G/\G rw=some (.lst (us.map V.ref))/\rw∉Fb2/\G d=some (.lst ys)/\d∉Fb2/\Deeds K rk.length P4 P5 Fb2 G us ds/\Chain K (mkBS rk l0 l1 pl v) (ds.take k) (rs.take k) b2/\(∀ (j:Nat) r y,rs[j]?=some r->ys[j]?=some y->TV G r y)/\Bd fh (CC fh) CP Fh1 G xh b1 ph1/\Apart Fh1 Fb2)
      ⟨v9,Fb,mkBS rk l0 l1 pl v,pb,rfl,BB1,tg1,row1,fun q=>rwF (List.mem_append_right _ q),hd1,dFb,dd1,by rw[List.take_zero,List.take_zero];exact .nil,tv,BG1,ap1⟩ ?_ ?_
     ·rintro k σ G hk ⟨v9,Fb2,b2,pb2,rfl,BB,tg,row,rwb,hdd,db,ddb,chk,tvk,BG,apk⟩
      have hkd:k<ds.length:=by omega
      have hkr:k<rs.length:=by omega
      have hky:k<ys.length:=by omega
      have g1:ys[k]?=some ys[k]:=List.getElem?_eq_getElem hky
      have g2:us[k]?=some us[k]:=List.getElem?_eq_getElem hk
      have g3:ds[k]?=some ds[k]:=List.getElem?_eq_getElem hkd
      have g4:rs[k]?=some rs[k]:=List.getElem?_eq_getElem hkr
      have a1:atI ys (0+(k:Int))=some ys[k]:=by rw[Int.zero_add];exact Zcj g1
      have a2:atI (us.map V.ref) (0+(k:Int))=some (.ref us[k]):=by rw[Int.zero_add];exact Zcj (by rw[List.getElem?_map,g2];rfl)
      obtain⟨hdk,dokk,zk⟩:=ddb.at_ k _ _ g2 g3
      have erk:b2.rk=rk:=Zgy chk
      refine⟨_,rfl,_,rfl,d,_,_,_,rfl,rfl,SqL.of hdd,a1,_,rfl,_,rfl,_,rfl,rw,_,_,_,rfl,rfl,SqL.of row,a2,fb,Fb2,xb,b2,pb2,us[k],ds[k],trivial,rfl,BB,tg,hdk,(by rw[erk];exact dokk),fun r rr G2 Fb3 b3 pb3 k2 nw2 tg2 BB2 rn ta=>?_⟩
      have kt2:=Zrq BB tg k2
      have kp2:∀ z o,G z=some o->z∉TL P4 P5->z∉Fb2->G2 z=some o:=fun z o e h1 h2=>k2 z o e fun q=>(List.mem_append.mp q).elim h1 h2
      have tl2:Tld rr:=Zgd BB.ok rn
      have ch2:Chain K (mkBS rk l0 l1 pl v) (ds.take k++[ds[k]]) (rs.take k++[rr]) b3:=.snoc chk ⟨_,_,_,_,rn⟩ tl2
      rw[← List.take_succ_eq_append_getElem hkd] at ch2
      obtain⟨b4,ch4⟩:=Zhu ch (k+1) hkd
      obtain⟨er,_⟩:=Ze5 ch2 ch4
      rw[List.take_succ_eq_append_getElem hkr] at er
      have err:rr=rs[k]:=by
       have:=List.append_cancel_left er
       injection this
      have tvk2:∀ (j:Nat) r y,rs[j]?=some r->ys[j]?=some y->TV G2 r y:=fun j r y h1 h2=>by
       have q:=tvk j r y h1 h2
       cases r with
       | inl v=>exact q
       | inr wd =>
        obtain⟨z,e1,e2⟩:=q
        exact⟨z,e1,kt2 _ _ e2⟩
      have tvr:TV G2 rr r:=by
       cases rr with
       | inl v=>exact ta
       | inr wd =>
        obtain⟨z,e1,_,e2⟩:=ta
        exact⟨z,e1,e2⟩
      have tvy:TV G2 rr ys[k]:=by rw[err];exact tvk2 k _ _ g4 g1
      refine⟨ys[k],r,rfl,Zh6 tl2 tvy tvr,_,rfl,iteF ?_⟩
      have nf2:∀ z,z∉Fb2->G z≠none->z∉Fb3:=fun z h1 h2 q=>(nw2 z q).elim h1 h2
      refine⟨_,Fb3,b3,pb3,rfl,BB2,tg2,kp2 _ _ row (tg.off row fun _ z=>by cases z) rwb,nf2 _ rwb (by rw[row];simp),kp2 _ _ hdd (tg.off hdd fun _ z=>by cases z) db,nf2 _ db (by rw[hdd];simp),ddb.to kt2 kp2 nf2,?_,tvk2,BG.to (fun z o hz e=>kp2 z o e ((BG.solid z hz).off tg) fun q=>apk z hz q),fun z hz hf=>?_⟩
      ·rw[List.take_succ_eq_append_getElem hkr,← err]
       exact ch2
      ·rcases nw2 z hf with h|h
       ·exact apk z hz h
       ·exact BG.has z hz h
     ·rintro σ G ⟨v9,Fb2,b2,pb2,rfl,BB,tg,row,rwb,hdd,db,ddb,chk,tvk,BG,apk⟩
      rw[List.take_of_length_le (by omega),List.take_of_length_le (by omega)] at chk
      obtain⟨_,eb⟩:=Ze5 ch chk
      subst eb
      obtain⟨dx,fs,e0,no⟩:=BG.inst
      refine⟨fh,_,rfl,xh,dx,fs,rfl,e0,no _ (by decide+kernel),?_⟩
      refine Zh5 BG fun pt q3 q4 q5 G3 u3 _ _ _ _ _ _ _ S3=>?_
      have BB3:=BB.same u3
      obtain⟨dx2,fs2,e2,no2⟩:=BB3.inst
      refine⟨fb,_,rfl,xb,dx2,fs2,rfl,e2,no2 _ (by decide+kernel),?_⟩
      refine Zh5 BB3 fun pt2 z3 z4 z5 G4 u4 _ _ _ _ _ _ _ S4=>?_
      refine⟨_,_,(S3.same u4).sh BG.ok.li,S4.sh BB.ok.li,Zb5 _ _ _ _,Zb5 _ _ _ _,true,by rw[eqvP],iteT ?_⟩
      have u34:=u3.trans u4
      refine⟨_,rfl,(by show 0<=sizeLine;decide),fun e1 ne1=>?_⟩
      have u5:=Same.new (o:=.lst []) ne1
      have BG5:=(BG.same u34).same u5
      have tg5:=(tg.same u34).same u5
      refine⟨fh,Fh1,xh,e1,b1,ph1,[],[],rfl,BG5,tg5,Ze,fun q=>(BG.same u34).has _ q ne1,by simp,⟨rfl,fun i u d h=>by simp at h⟩,fun d2 rs2 ys2 G6 F6 b6 p6 k6 nw6 tg6 B6 ch6 ly6 tv6 nd6 dF6 hd6=>?_⟩
      have l6:=Zch ch6
      have ey:ys2=[]:=List.length_eq_zero_iff.mp (by rw[ly6,l6];rfl)
      subst ey
      refine⟨(by show 0<=sizeLine;decide),fun e2 ne2=>?_⟩
      refine⟨.list [],.list [],.lst (SqL.of (Same.new ne2 _ _ hd6)) .nil,.lst (SqL.of Ze) .nil,by decide+kernel,by decide+kernel,?_⟩
      exact kk _
end
end K10
namespace K10
open PySem L2 L3
def bb (CW CF:Addr):Bool->Addr
 | false=>CW
 | true=>CF
structure Defs (K:PySem.W.Frag) (mg:Str->Option Value) (c4 c5 DB CP CF CW CT CD:Addr):Prop where
 d_is_deed:Def K mg "is_deed" (top 12) ["thing"]
 d_done:Def K mg "done" (top 13) ["board", "deed"]
 d_done_or_refused:Def K mg "done_or_refused" (top 14) ["board", "deed"]
 d_play:Def K mg "play" (top 15) ["board", "deeds"]
 d_is_whole:Def K mg "is_whole" (top 17) ["thing"]
 d_standing:Def K mg "standing" (top 18) ["ranks", "line"]
 d_before:Def K mg "before" (top 19) ["ranks", "one", "other"]
 d_is_up_to:Def K mg "is_up_to" (top 24) ["most", "thing"]
 d_is_rank:Def K mg "is_rank" (top 25) ["thing"]
 d_is_bar:Def K mg "is_bar" (top 26) ["thing"]
 d_is_line:Def K mg "is_line" (top 27) ["ranks", "thing"]
 d_are_ranks:Def K mg "are_ranks" (top 28) ["thing"]
 d_are_lines:Def K mg "are_lines" (top 29) ["ranks", "thing"]
 d_rises:Def K mg "rises" (top 30) ["numbers"]
 d_are_rising_lines:Def K mg "are_rising_lines" (top 31) ["ranks", "thing"]
 d_is_pile:Def K mg "is_pile" (top 32) ["ranks", "thing"]
 d_is_picture:Def K mg "is_picture" (top 33) ["ranks", "thing"]
 d_marks_of:Def K mg "marks_of" (top 34) ["ranks", "lines"]
 d_marked:Def K mg "marked" (top 35) ["marks"]
 d_top_of:Def K mg "top_of" (top 36) ["pile"]
 d_is_count_of_pegs:Def K mg "is_count_of_pegs" (top 40) ["thing"]
 d__law_cell_at:Def K mg "_law_cell_at" (top 47) ["_law_script", "_law_k"]
 d__law_whole:Def K mg "_law_whole" (top 48) ["_law_found"]
 d__law_ranks:Def K mg "_law_ranks" (top 49) ["_law_script"]
 d__law_picture_by:Def K mg "_law_picture_by" (top 50) ["_law_script", "_law_ranks_here"]
 d__law_copy:Def K mg "_law_copy" (top 51) ["_law_picture"]
 d__law_bar:Def K mg "_law_bar" (top 52) ["_law_cell", "_law_ranks_here"]
 d__law_deed:Def K mg "_law_deed" (top 53) ["_law_cell", "_law_ranks_here", "_law_picture"]
 d__law_call:Def K mg "_law_call" (top 54) ["_law_board_here", "_law_deed_here"]
 d__law_do:Def K mg "_law_do" (top 55) ["_law_board_here", "_law_deed_here"]
 d__law_names:Def K mg "_law_names" (top 56) ["_law_e"]
 d__law_kind:Def K mg "_law_kind" (top 57) ["_law_found"]
 d__law_alike:Def K mg "_law_alike" (top 58) ["_law_found", "_law_due"]
 d__law_odd:Def K mg "_law_odd" (top 59) ["_law_cell"]
 d__law_refused:Def K mg "_law_refused" (top 60) ["_law_board_here", "_law_row"]
 d__law_caught:Def K mg "_law_caught" (top 61) ["_law_board_here", "_law_row"]
 d__law_board:Def K mg "_law_board" (top 62) ["_law_script", "_law_ranks_here", "_law_picture"]
 d__law_spoiled:Def K mg "_law_spoiled" (top 63) ["_law_row", "_law_script"]
 d_law:Def K mg "law" (top 64) ["_law_script"]
 d_in_order:DefC K mg "in_order" (top 20) ["ranks", "lines"] c4
 d_first_of:DefC K mg "first_of" (top 21) ["ranks", "lines"] c5
 fb_ring:MDef K CF "ring" "Board.ring" (bm 1) ["self", "line"]
 fb_calm:MDef K CF "calm" "Board.calm" (bm 2) ["self", "line"]
 fb_mute:MDef K CF "mute" "Board.mute" (bm 3) ["self", "line"]
 fb_free:MDef K CF "free" "Board.free" (bm 4) ["self", "line"]
 fb_bar:MDef K CF "bar" "Board.bar" (bm 5) ["self", "rank"]
 fb_take:MDef K CF "take" "Board.take" (bm 6) ["self"]
 fb_end:MDef K CF "end" "Board.end" (bm 7) ["self", "line"]
 fb_told:MDef K CF "told" "Board.told" (bm 8) ["self"]
 fb_check_line:MDef K CF "check_line" "Board.check_line" (bm 9) ["self", "line"]
 fb_turn:MDef K CF "turn" "Board.turn" (bm 10) ["self", "marks", "line", "wish"]
 fb_wants:MDef K CF "wants" "Board.wants" (bm 11) ["self", "line"]
 fb_wanting:MDef K CF "wanting" "Board.wanting" (bm 12) ["self"]
 fb_is_open:MDef K CF "is_open" "Board.is_open" (bm 13) ["self", "line"]
 wb_ring:MDef K CW "ring" "Board.ring" (bm 1) ["self", "line"]
 wb_calm:MDef K CW "calm" "Board.calm" (bm 2) ["self", "line"]
 wb_mute:MDef K CW "mute" "Board.mute" (bm 3) ["self", "line"]
 wb_free:MDef K CW "free" "Board.free" (bm 4) ["self", "line"]
 wb_bar:MDef K CW "bar" "Board.bar" (bm 5) ["self", "rank"]
 wb_take:MDef K CW "take" "Board.take" (bm 6) ["self"]
 wb_end:MDef K CW "end" "Board.end" (bm 7) ["self", "line"]
 wb_told:MDef K CW "told" "Board.told" (bm 8) ["self"]
 wb_check_line:MDef K CW "check_line" "Board.check_line" (bm 9) ["self", "line"]
 wb_turn:MDef K CW "turn" "Board.turn" (bm 10) ["self", "marks", "line", "wish"]
 wb_wants:MDef K CW "wants" "Board.wants" (bm 11) ["self", "line"]
 wb_wanting:MDef K CW "wanting" "Board.wanting" (bm 12) ["self"]
 wb_is_open:MDef K CW "is_open" "Board.is_open" (bm 13) ["self", "line"]
 p_come:MDef K CP "come" "Pegs.come" (mt 1) ["self", "line"]
 p_go:MDef K CP "go" "Pegs.go" (mt 2) ["self", "line"]
 p_first:MDef K CP "first" "Pegs.first" (mt 5) ["self"]
 p_belongs_on_peg:MDef K CP "belongs_on_peg" "Pegs.belongs_on_peg" (mt 7) ["self", "line"]
 p_lay:MDef K CP "lay" "Pegs.lay" (mt 8) ["self", "line"]
 p_lay_from_book:MDef K CP "lay_from_book" "Pegs.lay_from_book" (mt 9) ["self"]
 f_best:MDef K CF "best" "Few.best" (fm 1) ["self"]
 f_line_comes:MDef K CF "line_comes" "Few.line_comes" (fm 5) ["self", "line"]
 f_line_goes:MDef K CF "line_goes" "Few.line_goes" (fm 6) ["self", "line"]
 w_best:MDef K CW "best" "Wide.best" (wm 0) ["self"]
 w_line_comes:MDef K CW "line_comes" "Wide.line_comes" (wm 1) ["self", "line"]
 w_line_goes:MDef K CW "line_goes" "Wide.line_goes" (wm 2) ["self", "line"]
 kp:KDef K CP "Pegs.__init__" (mt 0) ["self", "ranks", "many", "lines"]
 kf0:KDefD K CF "Few.__init__" (fm 0) ["self", "ranks", "pegs", "picture"] []
 kb:BDef K DB "__init__" "Board.__init__" (bm 0) ["self", "ranks", "picture"]
 x_nt:DefX K mg "NotTop" CT "NotTop.__init__" (nt 0) ["self", "line", "top"]
 x_nd:DefX K mg "NoDeed" CD "NoDeed.__init__" (nd 0) ["self", "place"]
 kw0:KDefD K CW "Board.__init__" (bm 0) ["self", "ranks", "picture"] []
theorem Zrp {P:Program}{w:World}{K:PySem.W.Frag}{mg:Str->Option Value}{base:Heap}{c4 P4 P5 DB CP CF CW DE CN CB CQ CT CD:Addr}(D:Defs K mg c4 c5 DB CP CF CW CT CD) (T:Txt K mg) (TP:PTxt K CP) (TW:BTxt K CW) (TF:BTxt K CF) (nK:NoAttr K CF "rack") (XN:ExcC K mg "NoLine" CN) (XB:ExcC K mg "NoBar" CB) (XQ:ExcC K mg "NoPegs" CQ) (XX:XW K mg CN CB CT) (BI:BInit K DE) (XC:XCls K CT) (n1:PySem.W.findIn K (.ref CT) "line" = some none) (n2:PySem.W.findIn K (.ref CT) "top" = some none) (XCd:XCls K CD) (XD:XND K mg CD DE) (hS:mg "str" = none) {aP:Addr}(hPa:mg "PARTS" = some (.ref aP)) (DP:DctK P w K aP partsK)
  (hBE:mg "BoardError" = some (.ref DE)) (hBo:mg "Board" = some (.ref DB)) (hP:mg "Pegs" = some (.ref CP)) (hF:mg "Few" = some (.ref CF)) (hW:mg "Wide" = some (.ref CW)) {u:Value} (hM:mg "MOST_PEGS" = some u) (hu:RelV (.int 16) u) {u2:Value} (hM2:mg "MOST_LINES" = some u2) (hu2:RelV (.int 60) u2) (h4:PySem.W.CodeHd base c4 P4) (h5:PySem.W.CodeHd base c5 P5) (hB:BMod mg base) :
  Fu P w K mg base CX0 15 "law" ["_law_script"] (Zof K P4 P5):=by
 have gS:=Zhk (P:=P) (w:=w) (mg:=mg) (base:=base) D.d_standing
 have gWh:=Zhm (P:=P) (w:=w) (mg:=mg) (base:=base) D.d_is_whole T
 have gO:=Zho (P:=P) (w:=w) (mg:=mg) (base:=base) D.d_in_order T gS h4 hB
 have gF:=Ztm (P:=P) (w:=w) (mg:=mg) (base:=base) D.p_lay_from_book T TP
 have gPI:=Zpr (P:=P) (w:=w) (mg:=mg) (base:=base) D.kp T TP XQ (Zpu D.d_is_count_of_pegs gWh hM hu) gO gF
 have gCo:=Zr9 (P:=P) (w:=w) (mg:=mg) (base:=base) D.p_come T TP gO (Ztr D.p_belongs_on_peg T TP (Zl5 D.d_before gS)) (Ztn D.p_lay T TP gO)
 have gGo:=f_go (P:=P) (w:=w) (mg:=mg) (base:=base) D.p_go TP gF
 have gU:=Zpm (P:=P) (w:=w) (mg:=mg) (base:=base) D.d_is_up_to gWh
 have gL:=Zjx (P:=P) (w:=w) (mg:=mg) (base:=base) D.d_is_line T gU
 have gBar:=Zts (P:=P) (w:=w) (mg:=mg) (base:=base) D.d_is_bar gU
 have gBar2:=Zsd (P:=P) (w:=w) (mg:=mg) (base:=base) D.d_is_bar gU
 have gAL:=Zfw (P:=P) (w:=w) (mg:=mg) (base:=base) D.d_are_lines T gL
 have gRi:=Zpo (P:=P) (w:=w) (mg:=mg) (base:=base) D.d_rises T
 have gPic:=Zey (P:=P) (w:=w) (mg:=mg) (base:=base) D.d_is_picture T (Zco D.d_are_rising_lines gAL gRi) (Zjw D.d_is_pile T gAL gRi) gBar
 have gAR:=Zfv (P:=P) (w:=w) (mg:=mg) (base:=base) D.d_are_ranks T (Zr2 D.d_is_rank gU) hM2 hu2
 have gMk:=Zhl (P:=P) (w:=w) (mg:=mg) (base:=base) D.d_marks_of T
 have gMd:=Zl3 (P:=P) (w:=w) (mg:=mg) (base:=base) D.d_marked T
 have gTo:=Zl0 (P:=P) (w:=w) (mg:=mg) (base:=base) D.d_top_of
 have wF:=Zex (P:=P) (w:=w) (mg:=mg) (base:=base) D.fb_wanting T TF (Zdy D.fb_wants TF)
 have bI:=Zpw (P:=P) (w:=w) (mg:=mg) (base:=base) D.kb T TF gAR gPic gMk
 have fb:=Zly (P:=P) (w:=w) (mg:=mg) (base:=base) TF nK hBo hP bI gPI wF
 have gFI:=D.kf0.fu Ziq Zpk fb
 have gNT:=f_nt (P:=P) (w:=w) (mg:=mg) (base:=base) D.x_nt hBE BI XC n1 n2
 have cF:=Zjz (P:=P) (w:=w) (mg:=mg) (base:=base) D.fb_check_line TF XN gL
 have tF:=Zno (P:=P) (w:=w) (mg:=mg) (base:=base) (fw:=true) (CP:=CP) (P4:=P4) D.fb_turn TF cF (Zdy D.fb_wants TF) (Zl4 D.f_line_comes TF nK TP gCo) (Zpt D.f_line_goes TF nK TP gGo)
 have caF:=Znv (P:=P) (w:=w) (mg:=mg) (base:=base) (P5:=P5) D.fb_calm TF tF
 have beF:=Zpy (P:=P) (w:=w) (mg:=mg) (base:=base) (P4:=P4) (P5:=P5) D.f_best TF nK TP (Zps D.p_first TP) (Zns D.fb_is_open TF gTo)
 have toF:=Znp (P:=P) (w:=w) (mg:=mg) (base:=base) D.fb_told T TF gMd
 have gLW:=Zfu (P:=P) (w:=w) (mg:=mg) (base:=base) D.d__law_whole T
 have gC:=Zsa (P:=P) (w:=w) (mg:=mg) (base:=base) D.d__law_cell_at T
 have gFi:=Zhp (P:=P) (w:=w) (mg:=mg) (base:=base) D.d_first_of T gS h5 hB
 have wW:=Zex (P:=P) (w:=w) (mg:=mg) (base:=base) D.wb_wanting T TW (Zdy D.wb_wants TW)
 have ib:=Zep (P:=P) (w:=w) (mg:=mg) (base:=base) (C:=CW) T TW gAR gPic gMk
 have gWI:=D.kw0.fu Zip Zgp ib
 have cW:=Zjz (P:=P) (w:=w) (mg:=mg) (base:=base) D.wb_check_line TW XN gL
 have tW:=Zno (P:=P) (w:=w) (mg:=mg) (base:=base) (fw:=false) (CP:=CP) (P4:=P4) D.wb_turn TW cW (Zdy D.wb_wants TW) ((Zlz D.w_line_comes).mono (by decide)) ((Zpl D.w_line_goes).mono (by decide))
 have caW:=Znv (P:=P) (w:=w) (mg:=mg) (base:=base) (P5:=P5) D.wb_calm TW tW
 have beW:=Zpx (P:=P) (w:=w) (mg:=mg) (base:=base) (CP:=CP) (P4:=P4) (P5:=P5) D.w_best TW gFi wW (Zns D.wb_is_open TW gTo)
 have G:MG P w K mg base (fun _=>True) (bb CW CF) CP P4 P5 CN CB CT:=by
  refine⟨fun fw _=>?_,fun fw _=>?_,fun fw _=>?_,fun fw _=>?_,fun fw _=>?_,fun fw _=>?_,fun fw _=>?_,fun fw _=>?_,fun fw _=>?_⟩<;>cases fw
  ·exact TW
  ·exact TF
  ·exact Znr D.wb_ring TW tW
  ·exact Znr D.fb_ring TF tF
  ·exact caW
  ·exact caF
  ·exact Znt D.wb_mute TW tW
  ·exact Znt D.fb_mute TF tF
  ·exact Znu D.wb_free TW tW
  ·exact Znu D.fb_free TF tF
  ·exact Znw D.wb_bar TW XB gBar2
  ·exact Znw D.fb_bar TF XB gBar2
  ·exact Zr5 D.wb_end TW cW gTo gNT
  ·exact Zr5 D.fb_end TF cF gTo gNT
  ·exact Znq D.wb_take TW beW caW
  ·exact Znq D.fb_take TF beF caF
  ·exact beW
  ·exact beF
 have TB:∀ fw,BTxt K (bb CW CF fw):=fun fw=>by cases fw;exact TW;exact TF
 have gT:∀ fw,FuM P w K mg base CX0 2 (bb CW CF fw) "told" ["self"] (Zd6 (bb CW CF fw)):=fun fw=>by
  cases fw
  ·exact Znp D.wb_told T TW gMd
  ·exact toF
 have gDo:=f_do (P:=P) (w:=w) (mg:=mg) (base:=base) D.d__law_do XX (Zsb D.d__law_call G)
 have gCp:=Zr8 (P:=P) (w:=w) (mg:=mg) (base:=base) D.d__law_copy T
 have gK:=Zr4 (P:=P) (w:=w) (mg:=mg) (base:=base) D.d__law_kind T
 have gA:=Zpz (P:=P) (w:=w) (mg:=mg) (base:=base) D.d__law_alike gK
 have gDn:=Zr6 (P:=P) (w:=w) (mg:=mg) (base:=base) D.d_done G
 have gDr:=Ztp (P:=P) (w:=w) (mg:=mg) (base:=base) D.d_done_or_refused XX gDn
 have gPy:=Zr3 (P:=P) (w:=w) (mg:=mg) (base:=base) (CC:=bb CW CF) D.d_play T (Zjy D.d_is_deed T hS hPa DP) gDr
 have gPX:=Zpq (P:=P) (w:=w) (mg:=mg) (base:=base) D.d_play T (Zhn D.d_is_deed T hS hPa DP) (f_nd D.x_nd hBE BI XCd XD.n1)
 have gNm:=Zl2 (P:=P) (w:=w) (mg:=mg) (base:=base) D.d__law_names T XD
 have gRf:=Zr1 (P:=P) (w:=w) (mg:=mg) (base:=base) D.d__law_refused XD gPX gNm
 have gCa:=Ztq (P:=P) (w:=w) (mg:=mg) (base:=base) D.d__law_caught XD gPX gNm
 have gOd:=Ztl (P:=P) (w:=w) (mg:=mg) (base:=base) D.d__law_odd
 have gSp:=Zpn (P:=P) (w:=w) (mg:=mg) (base:=base) D.d__law_spoiled T gC gOd
 have gBd:=Zpv (P:=P) (w:=w) (mg:=mg) (base:=base) (CC:=bb CW CF) (CP:=CP) (P4:=P4) (P5:=P5) D.d__law_board T hW hF gC gCp gWI gFI
 exact Zto (CC:=bb CW CF) (CP:=CP) D.d_law T TB (Zpp D.d__law_ranks T gC) (Zl1 D.d__law_picture_by T gC) gBd (Zr7 D.d__law_deed T (Zsc D.d__law_bar T)) gSp gRf gCa gLW gT gPy gA gDo
theorem Zqa {K:PySem.W.Frag}{mg:Str->Option Value}{h:Heap}(X:K.In h) (G:h.Ns mainGlobals mg) (z0:PySem.W.nsIn K mainGlobals "isinstance" = some none) (z1:PySem.W.nsIn K mainGlobals "int" = some none) (z2:PySem.W.nsIn K mainGlobals "bool" = some none) (z3:PySem.W.nsIn K mainGlobals "list" = some none) (z4:PySem.W.nsIn K mainGlobals "len" = some none) (z5:PySem.W.nsIn K mainGlobals "range" = some none) (z6:PySem.W.nsIn K mainGlobals "sorted" = some none) (z7:PySem.W.nsIn K mainGlobals "min" = some none) (z8:PySem.W.nsIn K mainGlobals "all" = some none) (z9:PySem.W.nsIn K mainGlobals "zip" = some none) (z10:PySem.W.nsIn K mainGlobals "reversed" = some none) (z11:PySem.W.nsIn K mainGlobals "enumerate" = some none) (z12:PySem.W.nsIn K mainGlobals "tuple" = some none):Txt K mg :=
 ⟨PySem.W.mg_none_of X G z0,PySem.W.mg_none_of X G z1,PySem.W.mg_none_of X G z2,PySem.W.mg_none_of X G z3,PySem.W.mg_none_of X G z4,PySem.W.mg_none_of X G z5,PySem.W.mg_none_of X G z6,PySem.W.mg_none_of X G z7,PySem.W.mg_none_of X G z8,PySem.W.mg_none_of X G z9,PySem.W.mg_none_of X G z10,PySem.W.mg_none_of X G z11,PySem.W.mg_none_of X G z12⟩
end K10
/- The proof's own weight: the quick twins of these names (the text,its parts,the heaps and their trees) are not laid;the names are taken. The kernel then reckons with the names themselves. -/
def PySem.W.Fast.tw2340078966031074082:Unit:=()
def PySem.W.Fast.tw3102446216291801621:Unit:=()
def PySem.W.Fast.tw471343635909655990:Unit:=()
def PySem.W.Fast.tw1370521330855684409:Unit:=()
def PySem.W.Fast.tw15310599691606396126:Unit:=()
def PySem.W.Fast.tw5933990305751512690:Unit:=()
def PySem.W.Fast.tw11445694551571760288:Unit:=()
def PySem.W.Fast.tw11576780059889618911:Unit:=()
def PySem.W.Fast.tw3632294323737814577:Unit:=()
def PySem.W.Fast.tw10868135239255090883:Unit:=()
def PySem.W.Fast.tw9892428550019040711:Unit:=()
def PySem.W.Fast.tw2184389812427453230:Unit:=()
def PySem.W.Fast.tw11113958741280850181:Unit:=()
def PySem.W.Fast.tw14408592721793606141:Unit:=()
def PySem.W.Fast.tw6386143139530493186:Unit:=()
def PySem.W.Fast.tw5031691579681088873:Unit:=()
def PySem.W.Fast.tw8986814009544205095:Unit:=()
def PySem.W.Fast.tw14963807212084010943:Unit:=()
def PySem.W.Fast.tw2040064268587677635:Unit:=()
def PySem.W.Fast.tw13627756853854463261:Unit:=()
def PySem.W.Fast.tw11253376656972047409:Unit:=()
def PySem.W.Fast.tw15067436474439814253:Unit:=()
def PySem.W.Fast.tw6143430342354469089:Unit:=()
def PySem.W.Fast.tw8656497687162856375:Unit:=()
def PySem.W.Fast.tw630100273159359657:Unit:=()
def PySem.W.Fast.tw1882126349260100408:Unit:=()
def PySem.W.Fast.tw15283451208694391249:Unit:=()
def PySem.W.Fast.tw7512537397365671049:Unit:=()
def PySem.W.Fast.tw5532093810790763026:Unit:=()
def PySem.W.Fast.tw1148793076530175060:Unit:=()
def PySem.W.Fast.tw13632823949503435249:Unit:=()
def PySem.W.Fast.tw4292387505899448339:Unit:=()
def PySem.W.Fast.tw15495492771103882432:Unit:=()
def PySem.W.Fast.tw7309074363026609443:Unit:=()
def PySem.W.Fast.tw1140998910287244978:Unit:=()
def PySem.W.Fast.tw13405778791575518208:Unit:=()
def PySem.W.Fast.tw2776622817218155396:Unit:=()
def PySem.W.Fast.tw17056310247501172227:Unit:=()
def PySem.W.Fast.tw3444663987917617509:Unit:=()
def PySem.W.Fast.tw14048194995381989381:Unit:=()
def PySem.W.Fast.tw12875226301331708411:Unit:=()
def PySem.W.Fast.tw3352977881622702111:Unit:=()
def PySem.W.Fast.tw6643347975831606340:Unit:=()
def PySem.W.Fast.tw17497295045745289268:Unit:=()
def PySem.W.Fast.tw8623364439293201198:Unit:=()
def PySem.W.Fast.tw4732751099273916042:Unit:=()
def PySem.W.Fast.tw10717627552365340974:Unit:=()
def PySem.W.Fast.tw15628172403337988997:Unit:=()
def PySem.W.Fast.tw3321211619266130476:Unit:=()
def PySem.W.Fast.tw5795852376671349079:Unit:=()
def PySem.W.Fast.tw16810852967460796188:Unit:=()
def PySem.W.Fast.tw5160518212786181959:Unit:=()
def PySem.W.Fast.tw90044152299790815:Unit:=()
def PySem.W.Fast.tw61199288942333351:Unit:=()
def PySem.W.Fast.tw964960884260491445:Unit:=()
def PySem.W.Fast.tw7459486467604215940:Unit:=()
def PySem.W.Fast.tw8044440144441284752:Unit:=()
def PySem.W.Fast.tw9608310631599049938:Unit:=()
def PySem.W.Fast.tw10921218161324926694:Unit:=()
def PySem.W.Fast.tw16801671195811726213:Unit:=()
def PySem.W.Fast.tw11344004851933194170:Unit:=()
def PySem.W.Fast.tw13834270001514814333:Unit:=()
def PySem.W.Fast.tw962290067733676838:Unit:=()
def PySem.W.Fast.tw13406557474725875654:Unit:=()
def PySem.W.Fast.tw10952017762081870560:Unit:=()
def PySem.W.Fast.tw10446980913506782168:Unit:=()
def PySem.W.Fast.tw3902077898560939155:Unit:=()
def PySem.W.Fast.tw11847936229537204338:Unit:=()
def PySem.W.Fast.tw4743189969211094996:Unit:=()
def PySem.W.Fast.tw1326100362159053440:Unit:=()
def PySem.W.Fast.tw14909984209449060798:Unit:=()
def PySem.W.Fast.tw12485811842260908729:Unit:=()
def PySem.W.Fast.tw13158035235589536445:Unit:=()
def PySem.W.Fast.tw8445926093263055349:Unit:=()
def PySem.W.Fast.tw6847787422386015951:Unit:=()
def PySem.W.Fast.tw3320507722097409098:Unit:=()
def PySem.W.Fast.tw1633563473647029310:Unit:=()
def PySem.W.Fast.tw11785169428612362989:Unit:=()
def PySem.W.Fast.tw11770655358671892818:Unit:=()
def PySem.W.Fast.tw14067022777271474851:Unit:=()
def PySem.W.Fast.tw9305169653118723995:Unit:=()
def PySem.W.Fast.tw7846581980192655654:Unit:=()
def PySem.W.Fast.tw15438544166363938768:Unit:=()
def PySem.W.Fast.tw9790367360474171041:Unit:=()
def PySem.W.Fast.tw5489574694951825747:Unit:=()
def PySem.W.Fast.tw3233145355934519391:Unit:=()
def PySem.W.Fast.tw8615928009605737553:Unit:=()
def PySem.W.Fast.tw14692807579118519859:Unit:=()
def PySem.W.Fast.tw10394579743172316751:Unit:=()
def PySem.W.Fast.tw15928594907062590503:Unit:=()
def PySem.W.Fast.tw10560967959186397901:Unit:=()
def PySem.W.Fast.tw3447871625915684745:Unit:=()
def PySem.W.Fast.tw3117242031857681560:Unit:=()
def PySem.W.Fast.tw668788058305668391:Unit:=()
def PySem.W.Fast.tw15741510590992276696:Unit:=()
def PySem.W.Fast.tw12111885636518820394:Unit:=()
def PySem.W.Fast.tw1784660738619743818:Unit:=()
def PySem.W.Fast.tw11143864606545241728:Unit:=()
def PySem.W.Fast.tw17713636465742946508:Unit:=()
def PySem.W.Fast.tw7646805416585659751:Unit:=()
def PySem.W.Fast.tw10860411254155481633:Unit:=()
def PySem.W.Fast.tw856354511081352880:Unit:=()
def PySem.W.Fast.tw4059953823154777259:Unit:=()
def PySem.W.Fast.tw17073375112390861511:Unit:=()
def PySem.W.Fast.tw3063918198027968759:Unit:=()
def PySem.W.Fast.tw5548791036234033976:Unit:=()
def PySem.W.Fast.tw7312690421507481782:Unit:=()
def PySem.W.Fast.tw11163976486135593039:Unit:=()
def PySem.W.Fast.tw4771198281042850235:Unit:=()
def PySem.W.Fast.tw396801232428012073:Unit:=()
def PySem.W.Fast.tw6799847112633028967:Unit:=()
def PySem.W.Fast.tw11716211818268502568:Unit:=()
def PySem.W.Fast.tw698949795467270922:Unit:=()
def PySem.W.Fast.tw4315076184157416689:Unit:=()
def PySem.W.Fast.tw9204787935128112423:Unit:=()
def PySem.W.Fast.tw6475131850333011809:Unit:=()
def PySem.W.Fast.tw12060036324806249970:Unit:=()
def PySem.W.Fast.tw3379285944504444554:Unit:=()
def PySem.W.Fast.tw15841489569370027236:Unit:=()
def PySem.W.Fast.tw2355958292146703108:Unit:=()
def PySem.W.Fast.tw13788213367626182140:Unit:=()
def PySem.W.Fast.tw8468285388416376760:Unit:=()
def PySem.W.Fast.tw13470624387296435947:Unit:=()
def PySem.W.Fast.tw14439106615485798167:Unit:=()
def PySem.W.Fast.tw5051990817493110168:Unit:=()
def PySem.W.Fast.tw3889861644146311032:Unit:=()
def PySem.W.Fast.tw6949032661334977487:Unit:=()
def PySem.W.Fast.tw9030570465681360394:Unit:=()
def PySem.W.Fast.tw8172255203143971835:Unit:=()
def PySem.W.Fast.tw14989178868873715742:Unit:=()
def PySem.W.Fast.tw18416184400788513111:Unit:=()
def PySem.W.Fast.tw876373187464381872:Unit:=()
def PySem.W.Fast.tw6381613778053648302:Unit:=()
def PySem.W.Fast.tw14801958414528681746:Unit:=()
def PySem.W.Fast.tw3159717938989314520:Unit:=()
def PySem.W.Fast.tw9584506906213906829:Unit:=()
def PySem.W.Fast.tw7785132351108885350:Unit:=()
def PySem.W.Fast.tw12413125966939662413:Unit:=()
def PySem.W.Fast.tw16752832668381821441:Unit:=()
def PySem.W.Fast.tw997542629065927086:Unit:=()
def PySem.W.Fast.tw6545840487942857662:Unit:=()
def PySem.W.Fast.tw4787197703338387895:Unit:=()
def PySem.W.Fast.tw400896375938785324:Unit:=()
def PySem.W.Fast.tw3039699402846528294:Unit:=()
def PySem.W.Fast.tw7176734190035162422:Unit:=()
def PySem.W.Fast.tw8995018238005795706:Unit:=()
def PySem.W.Fast.tw13288103837841874313:Unit:=()
def PySem.W.Fast.tw18381839334069550182:Unit:=()
def PySem.W.Fast.tw12212362757787158514:Unit:=()
def PySem.W.Fast.tw13195870550233635261:Unit:=()
def PySem.W.Fast.tw7994583763464851152:Unit:=()
def PySem.W.Fast.tw13260134545456903394:Unit:=()
def PySem.W.Fast.tw303664960941629113:Unit:=()
def PySem.W.Fast.tw4547773446006728855:Unit:=()
def PySem.W.Fast.tw6025626493396736708:Unit:=()
def PySem.W.Fast.tw15997609369080467915:Unit:=()
def PySem.W.Fast.tw3280109215432030474:Unit:=()
def PySem.W.Fast.tw965096491901295495:Unit:=()
def PySem.W.Fast.tw5933048439506104615:Unit:=()
def PySem.W.Fast.tw12936498564341951639:Unit:=()
def PySem.W.Fast.tw10733643207238101159:Unit:=()
def PySem.W.Fast.tw16416927918581172292:Unit:=()
def PySem.W.Fast.tw11318209406873002852:Unit:=()
def PySem.W.Fast.tw12156877019103296904:Unit:=()
def PySem.W.Fast.tw2087020980997297223:Unit:=()
def PySem.W.Fast.tw1017195721276623842:Unit:=()
def PySem.W.Fast.tw11415210364520450222:Unit:=()
def PySem.W.Fast.tw17952862192916589848:Unit:=()
def PySem.W.Fast.tw6182567509834931826:Unit:=()
def PySem.W.Fast.tw5738314318245733134:Unit:=()
def PySem.W.Fast.tw16800548093979129761:Unit:=()
def PySem.W.Fast.tw3326841106496814156:Unit:=()
def PySem.W.Fast.tw11269905292808269539:Unit:=()
def PySem.W.Fast.tw11982704607785366975:Unit:=()
def PySem.W.Fast.tw15781169849949349885:Unit:=()
def PySem.W.Fast.tw2838033195234087605:Unit:=()
def PySem.W.Fast.tw3035376829818845949:Unit:=()
def PySem.W.Fast.tw9235613283799232401:Unit:=()
def PySem.W.Fast.tw380902025859683688:Unit:=()
def PySem.W.Fast.tw15948768869733929424:Unit:=()
def PySem.W.Fast.tw3431575010258297217:Unit:=()
def PySem.W.Fast.tw18257449979563665619:Unit:=()
def PySem.W.Fast.tw5166831216374758546:Unit:=()
def PySem.W.Fast.tw11271232619491824695:Unit:=()
def PySem.W.Fast.tw2778096722688214620:Unit:=()
def PySem.W.Fast.tw7679024490970654977:Unit:=()
def PySem.W.Fast.tw11244121714798250995:Unit:=()
def PySem.W.Fast.tw15991616582311255215:Unit:=()
def PySem.W.Fast.tw10171264481173060375:Unit:=()
def PySem.W.Fast.tw15799636818395176594:Unit:=()
def PySem.W.Fast.tw2618566218007570886:Unit:=()
def PySem.W.Fast.tw13549832303538324718:Unit:=()
def PySem.W.Fast.tw5146446877638734339:Unit:=()
def PySem.W.Fast.tw9454147406902626942:Unit:=()
def PySem.W.Fast.tw5077734702976482853:Unit:=()
def PySem.W.Fast.tw6357295414932617385:Unit:=()
def PySem.W.Fast.tw12251217057699132518:Unit:=()
def PySem.W.Fast.tw12899840130362833038:Unit:=()
def PySem.W.Fast.tw5459323764804300739:Unit:=()
def PySem.W.Fast.tw13261914887211558504:Unit:=()
def PySem.W.Fast.tw13785946172970359904:Unit:=()
def PySem.W.Fast.tw17734109546460523268:Unit:=()
def PySem.W.Fast.tw6122997307836996601:Unit:=()
def PySem.W.Fast.tw7194716287680189159:Unit:=()
def PySem.W.Fast.tw16154046098451621282:Unit:=()
def PySem.W.Fast.tw17009799799140680547:Unit:=()
def PySem.W.Fast.tw18016505497542694973:Unit:=()
def PySem.W.Fast.tw2245384531172185530:Unit:=()
def PySem.W.Fast.tw9136119429724191608:Unit:=()
def PySem.W.Fast.tw11244917393925707835:Unit:=()
def PySem.W.Fast.tw16392188251976259378:Unit:=()
def PySem.W.Fast.tw3204218833881324678:Unit:=()
def PySem.W.Fast.tw8305071492079511470:Unit:=()
def PySem.W.Fast.tw10588224423832029528:Unit:=()
def PySem.W.Fast.tw11090299306080019323:Unit:=()
def PySem.W.Fast.tw10673895018823998361:Unit:=()
def PySem.W.Fast.tw6464314670726634607:Unit:=()
def PySem.W.Fast.tw8092588941277673978:Unit:=()
def PySem.W.Fast.tw8419457947069307171:Unit:=()
def PySem.W.Fast.tw5096385695930130966:Unit:=()
def PySem.W.Fast.tw9951112304978151138:Unit:=()
def PySem.W.Fast.tw15406425652031216933:Unit:=()
def PySem.W.Fast.tw1974094263382446152:Unit:=()
open PySem PySem.W PyProof.Rows
set_option maxRecDepth 100000 in
set_option maxHeartbeats 0 in
theorem PySem.Challenge.cw_fewpegs_k10_rows_refused_holds : PySem.Challenge.rw_fewpegs_k10_rows_refused.Holds := by
 w_on;o_law;k_head;(case hw=>w_witness2)
 k_fill
 refine L3.Zkx (l:=PySem.Challenge.rw_fewpegs_k10_rows_refused) (n:=63) (k:=15) (x := "_law_script") (CX:=fun _ _=>L2.CX0) (sp:=fun K=>K10.Zof K 182 189) (tabs:=[(186,182),(193,189)]) rfl (by decide) rfl ⟨rfl,by decide,by decide⟩ (fun w h Y=>km_in_of Y) ?T (fun p=>by kernel_rfl) ?F ?S ?C
 case T =>
  intro w h Y
  have KX:=km_in_of Y
  have hT8:=km_tabs_of Y
  exact List.forall_mem_cons.mpr ⟨⟨codeHd_of_K (c:=186) (P:=182) KX (by kernel_rfl),hT8 182 (by k_mem)⟩,List.forall_mem_cons.mpr ⟨⟨codeHd_of_K (c:=193) (P:=189) KX (by kernel_rfl),hT8 189 (by k_mem)⟩,fun _ h=>nomatch h⟩⟩
 case S=>exact fun K H a ns hl hS hT=>⟨a,ns,rfl,hS,hl,⟨.inl (hT (186,182) (by simp)),.inl (hT (193,189) (by simp)),by decide⟩,fun _=>rfl⟩
 case C=>exact fun _ _ _ _ _ _ z=>z
 case F =>
  intro w mg h KX G base kb nb hB hC
  have T:K10.Txt (L2.KOf KX) mg:=by
   dsimp only [L2.KOf]
   refine' K10.Zqa KX G ?z0 ?z1 ?z2 ?z3 ?z4 ?z5 ?z6 ?z7 ?z8 ?z9 ?z10 ?z11 ?z12
   (case z0=>k_is);(case z1=>k_is);(case z2=>k_is);(case z3=>k_is);(case z4=>k_is);(case z5=>k_is);(case z6=>k_is);(case z7=>k_is);(case z8=>k_is);(case z9=>k_is);(case z10=>k_is);(case z11=>k_is);(case z12=>k_is)
  have hBE:mg "BoardError" = some (.ref 31):=by
   refine PySem.W.mg_of KX G ?a
   (case a=>k_is)
  have hBo:mg "Board" = some (.ref 380):=by
   refine PySem.W.mg_of KX G ?a
   (case a=>k_is)
  have hP:mg "Pegs" = some (.ref 471):=by
   refine PySem.W.mg_of KX G ?a
   (case a=>k_is)
  have hF:mg "Few" = some (.ref 535):=by
   refine PySem.W.mg_of KX G ?a
   (case a=>k_is)
  have hN:mg "NoLine" = some (.ref 44):=by
   refine PySem.W.mg_of KX G ?a
   (case a=>k_is)
  have hNB:mg "NoBar" = some (.ref 92):=by
   refine PySem.W.mg_of KX G ?a
   (case a=>k_is)
  have hQ:mg "NoPegs" = some (.ref 68):=by
   refine PySem.W.mg_of KX G ?a
   (case a=>k_is)
  have hNT:mg "NotTop" = some (.ref 111):=by
   refine PySem.W.mg_of KX G ?a
   (case a=>k_is)
  have hND:mg "NoDeed" = some (.ref 130):=by
   refine PySem.W.mg_of KX G ?a
   (case a=>k_is)
  have hNBo:mg "NoBoard" = some (.ref 56):=by
   refine PySem.W.mg_of KX G ?a
   (case a=>k_is)
  have hNPi:mg "NoPicture" = some (.ref 80):=by
   refine PySem.W.mg_of KX G ?a
   (case a=>k_is)
  have hW:mg "Wide" = some (.ref 566):=by
   refine PySem.W.mg_of KX G ?a
   (case a=>k_is)
  have hMP:∃ u,mg "MOST_PEGS" = some u/\L2.RelV (.int 16) u:=by
   refine' L3.Znn KX G ?a
   (case a=>k_is)
  have hML:∃ u,mg "MOST_LINES" = some u/\L2.RelV (.int 60) u:=by
   refine' L3.Znn KX G ?a
   (case a=>k_is)
  have cc_pg:PySem.W.plainGet (L2.KOf KX) 471 Str.empty=true:=by
   dsimp only [L2.KOf]
   k_is
  have cc_hd:PySem.W.hasDictIn (L2.KOf KX) 471=true:=by
   dsimp only [L2.KOf]
   k_is
  have cc_po:PySem.W.plainOver (L2.KOf KX) 471=true:=by
   dsimp only [L2.KOf]
   k_is
  have cc_sa:PySem.W.findIn (L2.KOf KX) (.ref 471) "__setattr__" = some (some (.builtin "object.__setattr__")):=by
   dsimp only [L2.KOf]
   k_is
  have cc_n_ranks:PySem.W.findIn (L2.KOf KX) (.ref 471) "ranks" = some none:=by
   dsimp only [L2.KOf]
   k_is
  have cc_n_many:PySem.W.findIn (L2.KOf KX) (.ref 471) "many" = some none:=by
   dsimp only [L2.KOf]
   k_is
  have cc_n_hung:PySem.W.findIn (L2.KOf KX) (.ref 471) "hung" = some none:=by
   dsimp only [L2.KOf]
   k_is
  have cc_n_book:PySem.W.findIn (L2.KOf KX) (.ref 471) "book" = some none:=by
   dsimp only [L2.KOf]
   k_is
  have cc_n_came:PySem.W.findIn (L2.KOf KX) (.ref 471) "came" = some none:=by
   dsimp only [L2.KOf]
   k_is
  have cc_n_laid:PySem.W.findIn (L2.KOf KX) (.ref 471) "laid" = some none:=by
   dsimp only [L2.KOf]
   k_is
  have cc_n_calls:PySem.W.findIn (L2.KOf KX) (.ref 471) "calls" = some none:=by
   dsimp only [L2.KOf]
   k_is
  have cf_pg:PySem.W.plainGet (L2.KOf KX) 535 Str.empty=true:=by
   dsimp only [L2.KOf]
   k_is
  have cf_hd:PySem.W.hasDictIn (L2.KOf KX) 535=true:=by
   dsimp only [L2.KOf]
   k_is
  have cf_po:PySem.W.plainOver (L2.KOf KX) 535=true:=by
   dsimp only [L2.KOf]
   k_is
  have cf_sa:PySem.W.findIn (L2.KOf KX) (.ref 535) "__setattr__" = some (some (.builtin "object.__setattr__")):=by
   dsimp only [L2.KOf]
   k_is
  have cf_n_ranks:PySem.W.findIn (L2.KOf KX) (.ref 535) "ranks" = some none:=by
   dsimp only [L2.KOf]
   k_is
  have cf_n_asks:PySem.W.findIn (L2.KOf KX) (.ref 535) "asks" = some none:=by
   dsimp only [L2.KOf]
   k_is
  have cf_n_muted:PySem.W.findIn (L2.KOf KX) (.ref 535) "muted" = some none:=by
   dsimp only [L2.KOf]
   k_is
  have cf_n_pile:PySem.W.findIn (L2.KOf KX) (.ref 535) "pile" = some none:=by
   dsimp only [L2.KOf]
   k_is
  have cf_n_limit:PySem.W.findIn (L2.KOf KX) (.ref 535) "limit" = some none:=by
   dsimp only [L2.KOf]
   k_is
  have cf_n_rack:PySem.W.findIn (L2.KOf KX) (.ref 535) "rack" = some none:=by
   dsimp only [L2.KOf]
   k_is
  have cw_pg:PySem.W.plainGet (L2.KOf KX) 566 Str.empty=true:=by
   dsimp only [L2.KOf]
   k_is
  have cw_hd:PySem.W.hasDictIn (L2.KOf KX) 566=true:=by
   dsimp only [L2.KOf]
   k_is
  have cw_po:PySem.W.plainOver (L2.KOf KX) 566=true:=by
   dsimp only [L2.KOf]
   k_is
  have cw_sa:PySem.W.findIn (L2.KOf KX) (.ref 566) "__setattr__" = some (some (.builtin "object.__setattr__")):=by
   dsimp only [L2.KOf]
   k_is
  have cw_n_ranks:PySem.W.findIn (L2.KOf KX) (.ref 566) "ranks" = some none:=by
   dsimp only [L2.KOf]
   k_is
  have cw_n_asks:PySem.W.findIn (L2.KOf KX) (.ref 566) "asks" = some none:=by
   dsimp only [L2.KOf]
   k_is
  have cw_n_muted:PySem.W.findIn (L2.KOf KX) (.ref 566) "muted" = some none:=by
   dsimp only [L2.KOf]
   k_is
  have cw_n_pile:PySem.W.findIn (L2.KOf KX) (.ref 566) "pile" = some none:=by
   dsimp only [L2.KOf]
   k_is
  have cw_n_limit:PySem.W.findIn (L2.KOf KX) (.ref 566) "limit" = some none:=by
   dsimp only [L2.KOf]
   k_is
  have knN:PySem.W.keepIn (L2.KOf KX) (.ref 44)=true:=by
   dsimp only [L2.KOf]
   k_is
  have xnN:PySem.W.excIn (L2.KOf KX) 44 [.type "ValueError",.type "Exception",.type "BaseException",.type "object"] "ValueError.__new__" = true:=by
   dsimp only [L2.KOf]
   kernel_rfl
  have knB:PySem.W.keepIn (L2.KOf KX) (.ref 92)=true:=by
   dsimp only [L2.KOf]
   k_is
  have xnB:PySem.W.excIn (L2.KOf KX) 92 [.type "ValueError",.type "Exception",.type "BaseException",.type "object"] "ValueError.__new__" = true:=by
   dsimp only [L2.KOf]
   kernel_rfl
  have knQ:PySem.W.keepIn (L2.KOf KX) (.ref 68)=true:=by
   dsimp only [L2.KOf]
   k_is
  have xnQ:PySem.W.excIn (L2.KOf KX) 68 [.type "ValueError",.type "Exception",.type "BaseException",.type "object"] "ValueError.__new__" = true:=by
   dsimp only [L2.KOf]
   kernel_rfl
  have tyN:PySem.W.typeIn (L2.KOf KX) (.ref 44)=some (.type "type"):=by
   dsimp only [L2.KOf]
   k_is
  have beN:PySem.W.mroIn (L2.KOf KX) 44 (.type "BaseException")=some true:=by
   dsimp only [L2.KOf]
   k_is
  have tyB:PySem.W.typeIn (L2.KOf KX) (.ref 92)=some (.type "type"):=by
   dsimp only [L2.KOf]
   k_is
  have beB:PySem.W.mroIn (L2.KOf KX) 92 (.type "BaseException")=some true:=by
   dsimp only [L2.KOf]
   k_is
  have tyT:PySem.W.typeIn (L2.KOf KX) (.ref 111)=some (.type "type"):=by
   dsimp only [L2.KOf]
   k_is
  have beT:PySem.W.mroIn (L2.KOf KX) 111 (.type "BaseException")=some true:=by
   dsimp only [L2.KOf]
   k_is
  have mNN:PySem.W.mroIn (L2.KOf KX) 44 (.ref 44)=some true:=by
   dsimp only [L2.KOf]
   k_is
  have mBN:PySem.W.mroIn (L2.KOf KX) 92 (.ref 44)=some false:=by
   dsimp only [L2.KOf]
   k_is
  have mBB:PySem.W.mroIn (L2.KOf KX) 92 (.ref 92)=some true:=by
   dsimp only [L2.KOf]
   k_is
  have mTN:PySem.W.mroIn (L2.KOf KX) 111 (.ref 44)=some false:=by
   dsimp only [L2.KOf]
   k_is
  have mTB:PySem.W.mroIn (L2.KOf KX) 111 (.ref 92)=some false:=by
   dsimp only [L2.KOf]
   k_is
  have mTT:PySem.W.mroIn (L2.KOf KX) 111 (.ref 111)=some true:=by
   dsimp only [L2.KOf]
   k_is
  have bga:PySem.W.specialIn (L2.KOf KX) (.ref 31) "__getattribute__" = some (some (.builtin "type.__getattribute__")):=by
   dsimp only [L2.KOf]
   k_is
  have brd:PySem.W.readsIn (L2.KOf KX) 31 (.type "type")=true:=by
   dsimp only [L2.KOf]
   k_is
  have bfi:PySem.W.findCls (L2.KOf KX) (.ref 31) (.type "type") "__init__" = some (.val (.builtin "ValueError.__init__")):=by
   dsimp only [L2.KOf]
   k_is
  have xce:L3.Jf (L2.KOf KX) 111=true:=by
   dsimp only [L2.KOf]
   kernel_rfl
  have xsa:PySem.W.findIn (L2.KOf KX) (.ref 111) "__setattr__" = some (some (.builtin "object.__setattr__")):=by
   dsimp only [L2.KOf]
   k_is
  have xob:PySem.W.mroIn (L2.KOf KX) 111 (.type "object")=some true:=by
   dsimp only [L2.KOf]
   k_is
  have xhd:PySem.W.hasDictIn (L2.KOf KX) 111=true:=by
   dsimp only [L2.KOf]
   k_is
  have xkT:PySem.W.keepIn (L2.KOf KX) (.ref 111)=true:=by
   dsimp only [L2.KOf]
   k_is
  have xl:PySem.W.findIn (L2.KOf KX) (.ref 111) "line" = some none:=by
   dsimp only [L2.KOf]
   k_is
  have xt:PySem.W.findIn (L2.KOf KX) (.ref 111) "top" = some none:=by
   dsimp only [L2.KOf]
   k_is
  have hS:mg "str" = none:=by
   refine PySem.W.mg_none_of KX G ?a
   (case a=>k_is)
  have hPa:mg "PARTS" = some (.ref 133):=by
   refine PySem.W.mg_of KX G ?a
   (case a=>k_is)
  have lkP:(L2.KOf KX).lookup 133=some ⟨.type "dict",none,.dict (List.map (L3.entS w) [("ring",348,2,349),("calm",350,2,351),("mute",352,2,353),("free",354,2,355),("bar",356,2,357),("best",358,1,359),("take",360,1,361),("end",362,2,363)]).toArray 8,#[]⟩:=by
   dsimp only [L2.KOf]
   kernel_rfl
  have ga:PySem.W.findIn (L2.KOf KX) (.ref 130) "__getattribute__" = some (some (.builtin "BaseException.__getattribute__")):=by
   dsimp only [L2.KOf]
   k_is
  have gh:PySem.W.findIn (L2.KOf KX) (.ref 130) "__getattr__" = some none:=by
   dsimp only [L2.KOf]
   k_is
  have gc:PySem.W.findIn (L2.KOf KX) (.ref 130) "__class__" = some (some (.builtin "object.__class__")):=by
   dsimp only [L2.KOf]
   k_is
  have gcg:PySem.W.specialIn (L2.KOf KX) (.builtin "object.__class__") "__get__" = some (some (.builtin "getset_descriptor.__get__")):=by
   dsimp only [L2.KOf]
   k_is
  have gct:PySem.W.takesIn (L2.KOf KX) (.builtin "object.__class__")=some true:=by
   dsimp only [L2.KOf]
   k_is
  have dce:L3.Jf (L2.KOf KX) 130=true:=by
   dsimp only [L2.KOf]
   kernel_rfl
  have dsa:PySem.W.findIn (L2.KOf KX) (.ref 130) "__setattr__" = some (some (.builtin "object.__setattr__")):=by
   dsimp only [L2.KOf]
   k_is
  have dob:PySem.W.mroIn (L2.KOf KX) 130 (.type "object")=some true:=by
   dsimp only [L2.KOf]
   k_is
  have dhd:PySem.W.hasDictIn (L2.KOf KX) 130=true:=by
   dsimp only [L2.KOf]
   k_is
  have dkD:PySem.W.keepIn (L2.KOf KX) (.ref 130)=true:=by
   dsimp only [L2.KOf]
   k_is
  have dpl:PySem.W.findIn (L2.KOf KX) (.ref 130) "place" = some none:=by
   dsimp only [L2.KOf]
   k_is
  have dty:PySem.W.typeIn (L2.KOf KX) (.ref 130)=some (.type "type"):=by
   dsimp only [L2.KOf]
   k_is
  have dbe:PySem.W.mroIn (L2.KOf KX) 130 (.type "BaseException")=some true:=by
   dsimp only [L2.KOf]
   k_is
  have dme:PySem.W.mroIn (L2.KOf KX) 130 (.ref 130)=some true:=by
   dsimp only [L2.KOf]
   k_is
  have dmE:PySem.W.mroIn (L2.KOf KX) 130 (.ref 31)=some true:=by
   dsimp only [L2.KOf]
   k_is
  have tyE:PySem.W.typeIn (L2.KOf KX) (.ref 31)=some (.type "type"):=by
   dsimp only [L2.KOf]
   k_is
  have beE:PySem.W.mroIn (L2.KOf KX) 31 (.type "BaseException")=some true:=by
   dsimp only [L2.KOf]
   k_is
  have dk1:PySem.W.kitOne (L2.KOf KX) (.ref 130) (.ref 56)=some false:=by
   dsimp only [L2.KOf]
   kernel_rfl
  have dk2:PySem.W.kitOne (L2.KOf KX) (.ref 130) (.ref 80)=some false:=by
   dsimp only [L2.KOf]
   kernel_rfl
  have dk3:PySem.W.kitOne (L2.KOf KX) (.ref 130) (.ref 68)=some false:=by
   dsimp only [L2.KOf]
   kernel_rfl
  have dk4:PySem.W.kitOne (L2.KOf KX) (.ref 130) (.ref 44)=some false:=by
   dsimp only [L2.KOf]
   kernel_rfl
  have dk5:PySem.W.kitOne (L2.KOf KX) (.ref 130) (.ref 92)=some false:=by
   dsimp only [L2.KOf]
   kernel_rfl
  have dk6:PySem.W.kitOne (L2.KOf KX) (.ref 130) (.ref 111)=some false:=by
   dsimp only [L2.KOf]
   kernel_rfl
  have dk7:PySem.W.kitOne (L2.KOf KX) (.ref 130) (.ref 130)=some true:=by
   dsimp only [L2.KOf]
   kernel_rfl
  have dve:PySem.W.kitOne (L2.KOf KX) (.ref 130) (.type "ValueError")=some true:=by
   dsimp only [L2.KOf]
   kernel_rfl
  have hVE:mg "ValueError" = none:=by
   refine PySem.W.mg_none_of KX G ?a
   (case a=>k_is)
  have XD:K10.XND (L2.KOf KX) mg 130 31:=⟨⟨ga,gh,dbe,dob,gc,gcg,gct⟩,⟨_,hNBo,dk1⟩,⟨_,hNPi,dk2⟩,⟨_,hQ,dk3⟩,⟨_,hN,dk4⟩,⟨_,hNB,dk5⟩,⟨_,hNT,dk6⟩,⟨hND,dk7⟩,⟨hVE,dve⟩,dty,dbe,dme,dhd,dpl,tyE,beE,dmE,hBE⟩
  have XCd:L3.XCls (L2.KOf KX) 130:=⟨dce,dsa,dob,dbe,dhd⟩
  have x_nd:L3.DefX (L2.KOf KX) mg "NoDeed" 130 "NoDeed.__init__" (K10.nd 0) ["self", "place"]:=by
   dsimp only [L2.KOf] at dkD XCd dty ⊢
   refine' L3.DefX.of ⟨hND,dkD,XCd,dty,?i,?fn⟩ (fun _ _ _ _ _ _ us hl=>match us,hl with | [_,_],_=>rfl) ?l ?c ?k
   (case i=>k_is);(case fn=>k_is);(case l=>k_is);(case c=>k_is);(case k=>k_is)
  have XC:L3.XCls (L2.KOf KX) 111:=⟨xce,xsa,xob,beT,xhd⟩
  have x_nt:L3.DefX (L2.KOf KX) mg "NotTop" 111 "NotTop.__init__" (K10.nt 0) ["self", "line", "top"]:=by
   dsimp only [L2.KOf] at xkT XC tyT ⊢
   refine' L3.DefX.of ⟨hNT,xkT,XC,tyT,?i,?fn⟩ (fun _ _ _ _ _ _ us hl=>match us,hl with | [_,_,_],_=>rfl) ?l ?c ?k
   (case i=>k_is);(case fn=>k_is);(case l=>k_is);(case c=>k_is);(case k=>k_is)
  have d_is_deed:L3.Def (L2.KOf KX) mg "is_deed" (K10.top 12) ["thing"]:=by
   dsimp only [L2.KOf]
   refine' L3.Def.of KX G (fun _ _ _ _ _ _ us hl=>match us,hl with | [_],_=>rfl) ?a ?l ?c ?k
   (case a=>k_is);(case l=>k_is);(case c=>k_is);(case k=>k_is)
  have d_done:L3.Def (L2.KOf KX) mg "done" (K10.top 13) ["board", "deed"]:=by
   dsimp only [L2.KOf]
   refine' L3.Def.of KX G (fun _ _ _ _ _ _ us hl=>match us,hl with | [_,_],_=>rfl) ?a ?l ?c ?k
   (case a=>k_is);(case l=>k_is);(case c=>k_is);(case k=>k_is)
  have d_done_or_refused:L3.Def (L2.KOf KX) mg "done_or_refused" (K10.top 14) ["board", "deed"]:=by
   dsimp only [L2.KOf]
   refine' L3.Def.of KX G (fun _ _ _ _ _ _ us hl=>match us,hl with | [_,_],_=>rfl) ?a ?l ?c ?k
   (case a=>k_is);(case l=>k_is);(case c=>k_is);(case k=>k_is)
  have d_play:L3.Def (L2.KOf KX) mg "play" (K10.top 15) ["board", "deeds"]:=by
   dsimp only [L2.KOf]
   refine' L3.Def.of KX G (fun _ _ _ _ _ _ us hl=>match us,hl with | [_,_],_=>rfl) ?a ?l ?c ?k
   (case a=>k_is);(case l=>k_is);(case c=>k_is);(case k=>k_is)
  have d_is_whole:L3.Def (L2.KOf KX) mg "is_whole" (K10.top 17) ["thing"]:=by
   dsimp only [L2.KOf]
   refine' L3.Def.of KX G (fun _ _ _ _ _ _ us hl=>match us,hl with | [_],_=>rfl) ?a ?l ?c ?k
   (case a=>k_is);(case l=>k_is);(case c=>k_is);(case k=>k_is)
  have d_standing:L3.Def (L2.KOf KX) mg "standing" (K10.top 18) ["ranks", "line"]:=by
   dsimp only [L2.KOf]
   refine' L3.Def.of KX G (fun _ _ _ _ _ _ us hl=>match us,hl with | [_,_],_=>rfl) ?a ?l ?c ?k
   (case a=>k_is);(case l=>k_is);(case c=>k_is);(case k=>k_is)
  have d_before:L3.Def (L2.KOf KX) mg "before" (K10.top 19) ["ranks", "one", "other"]:=by
   dsimp only [L2.KOf]
   refine' L3.Def.of KX G (fun _ _ _ _ _ _ us hl=>match us,hl with | [_,_,_],_=>rfl) ?a ?l ?c ?k
   (case a=>k_is);(case l=>k_is);(case c=>k_is);(case k=>k_is)
  have d_is_up_to:L3.Def (L2.KOf KX) mg "is_up_to" (K10.top 24) ["most", "thing"]:=by
   dsimp only [L2.KOf]
   refine' L3.Def.of KX G (fun _ _ _ _ _ _ us hl=>match us,hl with | [_,_],_=>rfl) ?a ?l ?c ?k
   (case a=>k_is);(case l=>k_is);(case c=>k_is);(case k=>k_is)
  have d_is_rank:L3.Def (L2.KOf KX) mg "is_rank" (K10.top 25) ["thing"]:=by
   dsimp only [L2.KOf]
   refine' L3.Def.of KX G (fun _ _ _ _ _ _ us hl=>match us,hl with | [_],_=>rfl) ?a ?l ?c ?k
   (case a=>k_is);(case l=>k_is);(case c=>k_is);(case k=>k_is)
  have d_is_bar:L3.Def (L2.KOf KX) mg "is_bar" (K10.top 26) ["thing"]:=by
   dsimp only [L2.KOf]
   refine' L3.Def.of KX G (fun _ _ _ _ _ _ us hl=>match us,hl with | [_],_=>rfl) ?a ?l ?c ?k
   (case a=>k_is);(case l=>k_is);(case c=>k_is);(case k=>k_is)
  have d_is_line:L3.Def (L2.KOf KX) mg "is_line" (K10.top 27) ["ranks", "thing"]:=by
   dsimp only [L2.KOf]
   refine' L3.Def.of KX G (fun _ _ _ _ _ _ us hl=>match us,hl with | [_,_],_=>rfl) ?a ?l ?c ?k
   (case a=>k_is);(case l=>k_is);(case c=>k_is);(case k=>k_is)
  have d_are_ranks:L3.Def (L2.KOf KX) mg "are_ranks" (K10.top 28) ["thing"]:=by
   dsimp only [L2.KOf]
   refine' L3.Def.of KX G (fun _ _ _ _ _ _ us hl=>match us,hl with | [_],_=>rfl) ?a ?l ?c ?k
   (case a=>k_is);(case l=>k_is);(case c=>k_is);(case k=>k_is)
  have d_are_lines:L3.Def (L2.KOf KX) mg "are_lines" (K10.top 29) ["ranks", "thing"]:=by
   dsimp only [L2.KOf]
   refine' L3.Def.of KX G (fun _ _ _ _ _ _ us hl=>match us,hl with | [_,_],_=>rfl) ?a ?l ?c ?k
   (case a=>k_is);(case l=>k_is);(case c=>k_is);(case k=>k_is)
  have d_rises:L3.Def (L2.KOf KX) mg "rises" (K10.top 30) ["numbers"]:=by
   dsimp only [L2.KOf]
   refine' L3.Def.of KX G (fun _ _ _ _ _ _ us hl=>match us,hl with | [_],_=>rfl) ?a ?l ?c ?k
   (case a=>k_is);(case l=>k_is);(case c=>k_is);(case k=>k_is)
  have d_are_rising_lines:L3.Def (L2.KOf KX) mg "are_rising_lines" (K10.top 31) ["ranks", "thing"]:=by
   dsimp only [L2.KOf]
   refine' L3.Def.of KX G (fun _ _ _ _ _ _ us hl=>match us,hl with | [_,_],_=>rfl) ?a ?l ?c ?k
   (case a=>k_is);(case l=>k_is);(case c=>k_is);(case k=>k_is)
  have d_is_pile:L3.Def (L2.KOf KX) mg "is_pile" (K10.top 32) ["ranks", "thing"]:=by
   dsimp only [L2.KOf]
   refine' L3.Def.of KX G (fun _ _ _ _ _ _ us hl=>match us,hl with | [_,_],_=>rfl) ?a ?l ?c ?k
   (case a=>k_is);(case l=>k_is);(case c=>k_is);(case k=>k_is)
  have d_is_picture:L3.Def (L2.KOf KX) mg "is_picture" (K10.top 33) ["ranks", "thing"]:=by
   dsimp only [L2.KOf]
   refine' L3.Def.of KX G (fun _ _ _ _ _ _ us hl=>match us,hl with | [_,_],_=>rfl) ?a ?l ?c ?k
   (case a=>k_is);(case l=>k_is);(case c=>k_is);(case k=>k_is)
  have d_marks_of:L3.Def (L2.KOf KX) mg "marks_of" (K10.top 34) ["ranks", "lines"]:=by
   dsimp only [L2.KOf]
   refine' L3.Def.of KX G (fun _ _ _ _ _ _ us hl=>match us,hl with | [_,_],_=>rfl) ?a ?l ?c ?k
   (case a=>k_is);(case l=>k_is);(case c=>k_is);(case k=>k_is)
  have d_marked:L3.Def (L2.KOf KX) mg "marked" (K10.top 35) ["marks"]:=by
   dsimp only [L2.KOf]
   refine' L3.Def.of KX G (fun _ _ _ _ _ _ us hl=>match us,hl with | [_],_=>rfl) ?a ?l ?c ?k
   (case a=>k_is);(case l=>k_is);(case c=>k_is);(case k=>k_is)
  have d_top_of:L3.Def (L2.KOf KX) mg "top_of" (K10.top 36) ["pile"]:=by
   dsimp only [L2.KOf]
   refine' L3.Def.of KX G (fun _ _ _ _ _ _ us hl=>match us,hl with | [_],_=>rfl) ?a ?l ?c ?k
   (case a=>k_is);(case l=>k_is);(case c=>k_is);(case k=>k_is)
  have d_is_count_of_pegs:L3.Def (L2.KOf KX) mg "is_count_of_pegs" (K10.top 40) ["thing"]:=by
   dsimp only [L2.KOf]
   refine' L3.Def.of KX G (fun _ _ _ _ _ _ us hl=>match us,hl with | [_],_=>rfl) ?a ?l ?c ?k
   (case a=>k_is);(case l=>k_is);(case c=>k_is);(case k=>k_is)
  have d__law_cell_at:L3.Def (L2.KOf KX) mg "_law_cell_at" (K10.top 47) ["_law_script", "_law_k"]:=by
   dsimp only [L2.KOf]
   refine' L3.Def.of KX G (fun _ _ _ _ _ _ us hl=>match us,hl with | [_,_],_=>rfl) ?a ?l ?c ?k
   (case a=>k_is);(case l=>k_is);(case c=>k_is);(case k=>k_is)
  have d__law_whole:L3.Def (L2.KOf KX) mg "_law_whole" (K10.top 48) ["_law_found"]:=by
   dsimp only [L2.KOf]
   refine' L3.Def.of KX G (fun _ _ _ _ _ _ us hl=>match us,hl with | [_],_=>rfl) ?a ?l ?c ?k
   (case a=>k_is);(case l=>k_is);(case c=>k_is);(case k=>k_is)
  have d__law_ranks:L3.Def (L2.KOf KX) mg "_law_ranks" (K10.top 49) ["_law_script"]:=by
   dsimp only [L2.KOf]
   refine' L3.Def.of KX G (fun _ _ _ _ _ _ us hl=>match us,hl with | [_],_=>rfl) ?a ?l ?c ?k
   (case a=>k_is);(case l=>k_is);(case c=>k_is);(case k=>k_is)
  have d__law_picture_by:L3.Def (L2.KOf KX) mg "_law_picture_by" (K10.top 50) ["_law_script", "_law_ranks_here"]:=by
   dsimp only [L2.KOf]
   refine' L3.Def.of KX G (fun _ _ _ _ _ _ us hl=>match us,hl with | [_,_],_=>rfl) ?a ?l ?c ?k
   (case a=>k_is);(case l=>k_is);(case c=>k_is);(case k=>k_is)
  have d__law_copy:L3.Def (L2.KOf KX) mg "_law_copy" (K10.top 51) ["_law_picture"]:=by
   dsimp only [L2.KOf]
   refine' L3.Def.of KX G (fun _ _ _ _ _ _ us hl=>match us,hl with | [_],_=>rfl) ?a ?l ?c ?k
   (case a=>k_is);(case l=>k_is);(case c=>k_is);(case k=>k_is)
  have d__law_bar:L3.Def (L2.KOf KX) mg "_law_bar" (K10.top 52) ["_law_cell", "_law_ranks_here"]:=by
   dsimp only [L2.KOf]
   refine' L3.Def.of KX G (fun _ _ _ _ _ _ us hl=>match us,hl with | [_,_],_=>rfl) ?a ?l ?c ?k
   (case a=>k_is);(case l=>k_is);(case c=>k_is);(case k=>k_is)
  have d__law_deed:L3.Def (L2.KOf KX) mg "_law_deed" (K10.top 53) ["_law_cell", "_law_ranks_here", "_law_picture"]:=by
   dsimp only [L2.KOf]
   refine' L3.Def.of KX G (fun _ _ _ _ _ _ us hl=>match us,hl with | [_,_,_],_=>rfl) ?a ?l ?c ?k
   (case a=>k_is);(case l=>k_is);(case c=>k_is);(case k=>k_is)
  have d__law_call:L3.Def (L2.KOf KX) mg "_law_call" (K10.top 54) ["_law_board_here", "_law_deed_here"]:=by
   dsimp only [L2.KOf]
   refine' L3.Def.of KX G (fun _ _ _ _ _ _ us hl=>match us,hl with | [_,_],_=>rfl) ?a ?l ?c ?k
   (case a=>k_is);(case l=>k_is);(case c=>k_is);(case k=>k_is)
  have d__law_do:L3.Def (L2.KOf KX) mg "_law_do" (K10.top 55) ["_law_board_here", "_law_deed_here"]:=by
   dsimp only [L2.KOf]
   refine' L3.Def.of KX G (fun _ _ _ _ _ _ us hl=>match us,hl with | [_,_],_=>rfl) ?a ?l ?c ?k
   (case a=>k_is);(case l=>k_is);(case c=>k_is);(case k=>k_is)
  have d__law_names:L3.Def (L2.KOf KX) mg "_law_names" (K10.top 56) ["_law_e"]:=by
   dsimp only [L2.KOf]
   refine' L3.Def.of KX G (fun _ _ _ _ _ _ us hl=>match us,hl with | [_],_=>rfl) ?a ?l ?c ?k
   (case a=>k_is);(case l=>k_is);(case c=>k_is);(case k=>k_is)
  have d__law_kind:L3.Def (L2.KOf KX) mg "_law_kind" (K10.top 57) ["_law_found"]:=by
   dsimp only [L2.KOf]
   refine' L3.Def.of KX G (fun _ _ _ _ _ _ us hl=>match us,hl with | [_],_=>rfl) ?a ?l ?c ?k
   (case a=>k_is);(case l=>k_is);(case c=>k_is);(case k=>k_is)
  have d__law_alike:L3.Def (L2.KOf KX) mg "_law_alike" (K10.top 58) ["_law_found", "_law_due"]:=by
   dsimp only [L2.KOf]
   refine' L3.Def.of KX G (fun _ _ _ _ _ _ us hl=>match us,hl with | [_,_],_=>rfl) ?a ?l ?c ?k
   (case a=>k_is);(case l=>k_is);(case c=>k_is);(case k=>k_is)
  have d__law_odd:L3.Def (L2.KOf KX) mg "_law_odd" (K10.top 59) ["_law_cell"]:=by
   dsimp only [L2.KOf]
   refine' L3.Def.of KX G (fun _ _ _ _ _ _ us hl=>match us,hl with | [_],_=>rfl) ?a ?l ?c ?k
   (case a=>k_is);(case l=>k_is);(case c=>k_is);(case k=>k_is)
  have d__law_refused:L3.Def (L2.KOf KX) mg "_law_refused" (K10.top 60) ["_law_board_here", "_law_row"]:=by
   dsimp only [L2.KOf]
   refine' L3.Def.of KX G (fun _ _ _ _ _ _ us hl=>match us,hl with | [_,_],_=>rfl) ?a ?l ?c ?k
   (case a=>k_is);(case l=>k_is);(case c=>k_is);(case k=>k_is)
  have d__law_caught:L3.Def (L2.KOf KX) mg "_law_caught" (K10.top 61) ["_law_board_here", "_law_row"]:=by
   dsimp only [L2.KOf]
   refine' L3.Def.of KX G (fun _ _ _ _ _ _ us hl=>match us,hl with | [_,_],_=>rfl) ?a ?l ?c ?k
   (case a=>k_is);(case l=>k_is);(case c=>k_is);(case k=>k_is)
  have d__law_board:L3.Def (L2.KOf KX) mg "_law_board" (K10.top 62) ["_law_script", "_law_ranks_here", "_law_picture"]:=by
   dsimp only [L2.KOf]
   refine' L3.Def.of KX G (fun _ _ _ _ _ _ us hl=>match us,hl with | [_,_,_],_=>rfl) ?a ?l ?c ?k
   (case a=>k_is);(case l=>k_is);(case c=>k_is);(case k=>k_is)
  have d__law_spoiled:L3.Def (L2.KOf KX) mg "_law_spoiled" (K10.top 63) ["_law_row", "_law_script"]:=by
   dsimp only [L2.KOf]
   refine' L3.Def.of KX G (fun _ _ _ _ _ _ us hl=>match us,hl with | [_,_],_=>rfl) ?a ?l ?c ?k
   (case a=>k_is);(case l=>k_is);(case c=>k_is);(case k=>k_is)
  have d_law:L3.Def (L2.KOf KX) mg "law" (K10.top 64) ["_law_script"]:=by
   dsimp only [L2.KOf]
   refine' L3.Def.of KX G (fun _ _ _ _ _ _ us hl=>match us,hl with | [_],_=>rfl) ?a ?l ?c ?k
   (case a=>k_is);(case l=>k_is);(case c=>k_is);(case k=>k_is)
  have d_in_order:L3.DefC (L2.KOf KX) mg "in_order" (K10.top 20) ["ranks", "lines"] 186:=by
   dsimp only [L2.KOf]
   refine' L3.DefC.of KX G (fun _ _ _ _ _ _ us hl=>match us,hl with | [_,_],_=>rfl) ?a ?l ?c ?k
   (case a=>k_is);(case l=>k_is);(case c=>k_is);(case k=>k_is)
  have d_first_of:L3.DefC (L2.KOf KX) mg "first_of" (K10.top 21) ["ranks", "lines"] 193:=by
   dsimp only [L2.KOf]
   refine' L3.DefC.of KX G (fun _ _ _ _ _ _ us hl=>match us,hl with | [_,_],_=>rfl) ?a ?l ?c ?k
   (case a=>k_is);(case l=>k_is);(case c=>k_is);(case k=>k_is)
  have fb_ring:L3.MDef (L2.KOf KX) 535 "ring" "Board.ring" (K10.bm 1) ["self", "line"]:=by
   dsimp only [L2.KOf]
   refine' L3.MDef.of (fun _ _ _ _ _ _ us hl=>match us,hl with | [_,_],_=>rfl) ?a ?i ?l ?c ?k
   (case a=>k_is);(case i=>k_is);(case l=>k_is);(case c=>k_is);(case k=>k_is)
  have fb_calm:L3.MDef (L2.KOf KX) 535 "calm" "Board.calm" (K10.bm 2) ["self", "line"]:=by
   dsimp only [L2.KOf]
   refine' L3.MDef.of (fun _ _ _ _ _ _ us hl=>match us,hl with | [_,_],_=>rfl) ?a ?i ?l ?c ?k
   (case a=>k_is);(case i=>k_is);(case l=>k_is);(case c=>k_is);(case k=>k_is)
  have fb_mute:L3.MDef (L2.KOf KX) 535 "mute" "Board.mute" (K10.bm 3) ["self", "line"]:=by
   dsimp only [L2.KOf]
   refine' L3.MDef.of (fun _ _ _ _ _ _ us hl=>match us,hl with | [_,_],_=>rfl) ?a ?i ?l ?c ?k
   (case a=>k_is);(case i=>k_is);(case l=>k_is);(case c=>k_is);(case k=>k_is)
  have fb_free:L3.MDef (L2.KOf KX) 535 "free" "Board.free" (K10.bm 4) ["self", "line"]:=by
   dsimp only [L2.KOf]
   refine' L3.MDef.of (fun _ _ _ _ _ _ us hl=>match us,hl with | [_,_],_=>rfl) ?a ?i ?l ?c ?k
   (case a=>k_is);(case i=>k_is);(case l=>k_is);(case c=>k_is);(case k=>k_is)
  have fb_bar:L3.MDef (L2.KOf KX) 535 "bar" "Board.bar" (K10.bm 5) ["self", "rank"]:=by
   dsimp only [L2.KOf]
   refine' L3.MDef.of (fun _ _ _ _ _ _ us hl=>match us,hl with | [_,_],_=>rfl) ?a ?i ?l ?c ?k
   (case a=>k_is);(case i=>k_is);(case l=>k_is);(case c=>k_is);(case k=>k_is)
  have fb_take:L3.MDef (L2.KOf KX) 535 "take" "Board.take" (K10.bm 6) ["self"]:=by
   dsimp only [L2.KOf]
   refine' L3.MDef.of (fun _ _ _ _ _ _ us hl=>match us,hl with | [_],_=>rfl) ?a ?i ?l ?c ?k
   (case a=>k_is);(case i=>k_is);(case l=>k_is);(case c=>k_is);(case k=>k_is)
  have fb_end:L3.MDef (L2.KOf KX) 535 "end" "Board.end" (K10.bm 7) ["self", "line"]:=by
   dsimp only [L2.KOf]
   refine' L3.MDef.of (fun _ _ _ _ _ _ us hl=>match us,hl with | [_,_],_=>rfl) ?a ?i ?l ?c ?k
   (case a=>k_is);(case i=>k_is);(case l=>k_is);(case c=>k_is);(case k=>k_is)
  have fb_told:L3.MDef (L2.KOf KX) 535 "told" "Board.told" (K10.bm 8) ["self"]:=by
   dsimp only [L2.KOf]
   refine' L3.MDef.of (fun _ _ _ _ _ _ us hl=>match us,hl with | [_],_=>rfl) ?a ?i ?l ?c ?k
   (case a=>k_is);(case i=>k_is);(case l=>k_is);(case c=>k_is);(case k=>k_is)
  have fb_check_line:L3.MDef (L2.KOf KX) 535 "check_line" "Board.check_line" (K10.bm 9) ["self", "line"]:=by
   dsimp only [L2.KOf]
   refine' L3.MDef.of (fun _ _ _ _ _ _ us hl=>match us,hl with | [_,_],_=>rfl) ?a ?i ?l ?c ?k
   (case a=>k_is);(case i=>k_is);(case l=>k_is);(case c=>k_is);(case k=>k_is)
  have fb_turn:L3.MDef (L2.KOf KX) 535 "turn" "Board.turn" (K10.bm 10) ["self", "marks", "line", "wish"]:=by
   dsimp only [L2.KOf]
   refine' L3.MDef.of (fun _ _ _ _ _ _ us hl=>match us,hl with | [_,_,_,_],_=>rfl) ?a ?i ?l ?c ?k
   (case a=>k_is);(case i=>k_is);(case l=>k_is);(case c=>k_is);(case k=>k_is)
  have fb_wants:L3.MDef (L2.KOf KX) 535 "wants" "Board.wants" (K10.bm 11) ["self", "line"]:=by
   dsimp only [L2.KOf]
   refine' L3.MDef.of (fun _ _ _ _ _ _ us hl=>match us,hl with | [_,_],_=>rfl) ?a ?i ?l ?c ?k
   (case a=>k_is);(case i=>k_is);(case l=>k_is);(case c=>k_is);(case k=>k_is)
  have fb_wanting:L3.MDef (L2.KOf KX) 535 "wanting" "Board.wanting" (K10.bm 12) ["self"]:=by
   dsimp only [L2.KOf]
   refine' L3.MDef.of (fun _ _ _ _ _ _ us hl=>match us,hl with | [_],_=>rfl) ?a ?i ?l ?c ?k
   (case a=>k_is);(case i=>k_is);(case l=>k_is);(case c=>k_is);(case k=>k_is)
  have fb_is_open:L3.MDef (L2.KOf KX) 535 "is_open" "Board.is_open" (K10.bm 13) ["self", "line"]:=by
   dsimp only [L2.KOf]
   refine' L3.MDef.of (fun _ _ _ _ _ _ us hl=>match us,hl with | [_,_],_=>rfl) ?a ?i ?l ?c ?k
   (case a=>k_is);(case i=>k_is);(case l=>k_is);(case c=>k_is);(case k=>k_is)
  have wb_ring:L3.MDef (L2.KOf KX) 566 "ring" "Board.ring" (K10.bm 1) ["self", "line"]:=by
   dsimp only [L2.KOf]
   refine' L3.MDef.of (fun _ _ _ _ _ _ us hl=>match us,hl with | [_,_],_=>rfl) ?a ?i ?l ?c ?k
   (case a=>k_is);(case i=>k_is);(case l=>k_is);(case c=>k_is);(case k=>k_is)
  have wb_calm:L3.MDef (L2.KOf KX) 566 "calm" "Board.calm" (K10.bm 2) ["self", "line"]:=by
   dsimp only [L2.KOf]
   refine' L3.MDef.of (fun _ _ _ _ _ _ us hl=>match us,hl with | [_,_],_=>rfl) ?a ?i ?l ?c ?k
   (case a=>k_is);(case i=>k_is);(case l=>k_is);(case c=>k_is);(case k=>k_is)
  have wb_mute:L3.MDef (L2.KOf KX) 566 "mute" "Board.mute" (K10.bm 3) ["self", "line"]:=by
   dsimp only [L2.KOf]
   refine' L3.MDef.of (fun _ _ _ _ _ _ us hl=>match us,hl with | [_,_],_=>rfl) ?a ?i ?l ?c ?k
   (case a=>k_is);(case i=>k_is);(case l=>k_is);(case c=>k_is);(case k=>k_is)
  have wb_free:L3.MDef (L2.KOf KX) 566 "free" "Board.free" (K10.bm 4) ["self", "line"]:=by
   dsimp only [L2.KOf]
   refine' L3.MDef.of (fun _ _ _ _ _ _ us hl=>match us,hl with | [_,_],_=>rfl) ?a ?i ?l ?c ?k
   (case a=>k_is);(case i=>k_is);(case l=>k_is);(case c=>k_is);(case k=>k_is)
  have wb_bar:L3.MDef (L2.KOf KX) 566 "bar" "Board.bar" (K10.bm 5) ["self", "rank"]:=by
   dsimp only [L2.KOf]
   refine' L3.MDef.of (fun _ _ _ _ _ _ us hl=>match us,hl with | [_,_],_=>rfl) ?a ?i ?l ?c ?k
   (case a=>k_is);(case i=>k_is);(case l=>k_is);(case c=>k_is);(case k=>k_is)
  have wb_take:L3.MDef (L2.KOf KX) 566 "take" "Board.take" (K10.bm 6) ["self"]:=by
   dsimp only [L2.KOf]
   refine' L3.MDef.of (fun _ _ _ _ _ _ us hl=>match us,hl with | [_],_=>rfl) ?a ?i ?l ?c ?k
   (case a=>k_is);(case i=>k_is);(case l=>k_is);(case c=>k_is);(case k=>k_is)
  have wb_end:L3.MDef (L2.KOf KX) 566 "end" "Board.end" (K10.bm 7) ["self", "line"]:=by
   dsimp only [L2.KOf]
   refine' L3.MDef.of (fun _ _ _ _ _ _ us hl=>match us,hl with | [_,_],_=>rfl) ?a ?i ?l ?c ?k
   (case a=>k_is);(case i=>k_is);(case l=>k_is);(case c=>k_is);(case k=>k_is)
  have wb_told:L3.MDef (L2.KOf KX) 566 "told" "Board.told" (K10.bm 8) ["self"]:=by
   dsimp only [L2.KOf]
   refine' L3.MDef.of (fun _ _ _ _ _ _ us hl=>match us,hl with | [_],_=>rfl) ?a ?i ?l ?c ?k
   (case a=>k_is);(case i=>k_is);(case l=>k_is);(case c=>k_is);(case k=>k_is)
  have wb_check_line:L3.MDef (L2.KOf KX) 566 "check_line" "Board.check_line" (K10.bm 9) ["self", "line"]:=by
   dsimp only [L2.KOf]
   refine' L3.MDef.of (fun _ _ _ _ _ _ us hl=>match us,hl with | [_,_],_=>rfl) ?a ?i ?l ?c ?k
   (case a=>k_is);(case i=>k_is);(case l=>k_is);(case c=>k_is);(case k=>k_is)
  have wb_turn:L3.MDef (L2.KOf KX) 566 "turn" "Board.turn" (K10.bm 10) ["self", "marks", "line", "wish"]:=by
   dsimp only [L2.KOf]
   refine' L3.MDef.of (fun _ _ _ _ _ _ us hl=>match us,hl with | [_,_,_,_],_=>rfl) ?a ?i ?l ?c ?k
   (case a=>k_is);(case i=>k_is);(case l=>k_is);(case c=>k_is);(case k=>k_is)
  have wb_wants:L3.MDef (L2.KOf KX) 566 "wants" "Board.wants" (K10.bm 11) ["self", "line"]:=by
   dsimp only [L2.KOf]
   refine' L3.MDef.of (fun _ _ _ _ _ _ us hl=>match us,hl with | [_,_],_=>rfl) ?a ?i ?l ?c ?k
   (case a=>k_is);(case i=>k_is);(case l=>k_is);(case c=>k_is);(case k=>k_is)
  have wb_wanting:L3.MDef (L2.KOf KX) 566 "wanting" "Board.wanting" (K10.bm 12) ["self"]:=by
   dsimp only [L2.KOf]
   refine' L3.MDef.of (fun _ _ _ _ _ _ us hl=>match us,hl with | [_],_=>rfl) ?a ?i ?l ?c ?k
   (case a=>k_is);(case i=>k_is);(case l=>k_is);(case c=>k_is);(case k=>k_is)
  have wb_is_open:L3.MDef (L2.KOf KX) 566 "is_open" "Board.is_open" (K10.bm 13) ["self", "line"]:=by
   dsimp only [L2.KOf]
   refine' L3.MDef.of (fun _ _ _ _ _ _ us hl=>match us,hl with | [_,_],_=>rfl) ?a ?i ?l ?c ?k
   (case a=>k_is);(case i=>k_is);(case l=>k_is);(case c=>k_is);(case k=>k_is)
  have p_come:L3.MDef (L2.KOf KX) 471 "come" "Pegs.come" (K10.mt 1) ["self", "line"]:=by
   dsimp only [L2.KOf]
   refine' L3.MDef.of (fun _ _ _ _ _ _ us hl=>match us,hl with | [_,_],_=>rfl) ?a ?i ?l ?c ?k
   (case a=>k_is);(case i=>k_is);(case l=>k_is);(case c=>k_is);(case k=>k_is)
  have p_go:L3.MDef (L2.KOf KX) 471 "go" "Pegs.go" (K10.mt 2) ["self", "line"]:=by
   dsimp only [L2.KOf]
   refine' L3.MDef.of (fun _ _ _ _ _ _ us hl=>match us,hl with | [_,_],_=>rfl) ?a ?i ?l ?c ?k
   (case a=>k_is);(case i=>k_is);(case l=>k_is);(case c=>k_is);(case k=>k_is)
  have p_first:L3.MDef (L2.KOf KX) 471 "first" "Pegs.first" (K10.mt 5) ["self"]:=by
   dsimp only [L2.KOf]
   refine' L3.MDef.of (fun _ _ _ _ _ _ us hl=>match us,hl with | [_],_=>rfl) ?a ?i ?l ?c ?k
   (case a=>k_is);(case i=>k_is);(case l=>k_is);(case c=>k_is);(case k=>k_is)
  have p_belongs_on_peg:L3.MDef (L2.KOf KX) 471 "belongs_on_peg" "Pegs.belongs_on_peg" (K10.mt 7) ["self", "line"]:=by
   dsimp only [L2.KOf]
   refine' L3.MDef.of (fun _ _ _ _ _ _ us hl=>match us,hl with | [_,_],_=>rfl) ?a ?i ?l ?c ?k
   (case a=>k_is);(case i=>k_is);(case l=>k_is);(case c=>k_is);(case k=>k_is)
  have p_lay:L3.MDef (L2.KOf KX) 471 "lay" "Pegs.lay" (K10.mt 8) ["self", "line"]:=by
   dsimp only [L2.KOf]
   refine' L3.MDef.of (fun _ _ _ _ _ _ us hl=>match us,hl with | [_,_],_=>rfl) ?a ?i ?l ?c ?k
   (case a=>k_is);(case i=>k_is);(case l=>k_is);(case c=>k_is);(case k=>k_is)
  have p_lay_from_book:L3.MDef (L2.KOf KX) 471 "lay_from_book" "Pegs.lay_from_book" (K10.mt 9) ["self"]:=by
   dsimp only [L2.KOf]
   refine' L3.MDef.of (fun _ _ _ _ _ _ us hl=>match us,hl with | [_],_=>rfl) ?a ?i ?l ?c ?k
   (case a=>k_is);(case i=>k_is);(case l=>k_is);(case c=>k_is);(case k=>k_is)
  have f_best:L3.MDef (L2.KOf KX) 535 "best" "Few.best" (K10.fm 1) ["self"]:=by
   dsimp only [L2.KOf]
   refine' L3.MDef.of (fun _ _ _ _ _ _ us hl=>match us,hl with | [_],_=>rfl) ?a ?i ?l ?c ?k
   (case a=>k_is);(case i=>k_is);(case l=>k_is);(case c=>k_is);(case k=>k_is)
  have f_line_comes:L3.MDef (L2.KOf KX) 535 "line_comes" "Few.line_comes" (K10.fm 5) ["self", "line"]:=by
   dsimp only [L2.KOf]
   refine' L3.MDef.of (fun _ _ _ _ _ _ us hl=>match us,hl with | [_,_],_=>rfl) ?a ?i ?l ?c ?k
   (case a=>k_is);(case i=>k_is);(case l=>k_is);(case c=>k_is);(case k=>k_is)
  have f_line_goes:L3.MDef (L2.KOf KX) 535 "line_goes" "Few.line_goes" (K10.fm 6) ["self", "line"]:=by
   dsimp only [L2.KOf]
   refine' L3.MDef.of (fun _ _ _ _ _ _ us hl=>match us,hl with | [_,_],_=>rfl) ?a ?i ?l ?c ?k
   (case a=>k_is);(case i=>k_is);(case l=>k_is);(case c=>k_is);(case k=>k_is)
  have w_best:L3.MDef (L2.KOf KX) 566 "best" "Wide.best" (K10.wm 0) ["self"]:=by
   dsimp only [L2.KOf]
   refine' L3.MDef.of (fun _ _ _ _ _ _ us hl=>match us,hl with | [_],_=>rfl) ?a ?i ?l ?c ?k
   (case a=>k_is);(case i=>k_is);(case l=>k_is);(case c=>k_is);(case k=>k_is)
  have w_line_comes:L3.MDef (L2.KOf KX) 566 "line_comes" "Wide.line_comes" (K10.wm 1) ["self", "line"]:=by
   dsimp only [L2.KOf]
   refine' L3.MDef.of (fun _ _ _ _ _ _ us hl=>match us,hl with | [_,_],_=>rfl) ?a ?i ?l ?c ?k
   (case a=>k_is);(case i=>k_is);(case l=>k_is);(case c=>k_is);(case k=>k_is)
  have w_line_goes:L3.MDef (L2.KOf KX) 566 "line_goes" "Wide.line_goes" (K10.wm 2) ["self", "line"]:=by
   dsimp only [L2.KOf]
   refine' L3.MDef.of (fun _ _ _ _ _ _ us hl=>match us,hl with | [_,_],_=>rfl) ?a ?i ?l ?c ?k
   (case a=>k_is);(case i=>k_is);(case l=>k_is);(case c=>k_is);(case k=>k_is)
  have kp:L3.KDef (L2.KOf KX) 471 "Pegs.__init__" (K10.mt 0) ["self", "ranks", "many", "lines"]:=by
   dsimp only [L2.KOf]
   refine' L3.KDef.of (fun _ _ _ _ _ _ us hl=>match us,hl with | [_,_,_,_],_=>rfl) ?mk ?kc ?a ?i ?l ?c ?k
   (case mk=>k_is);(case kc=>k_is);(case a=>k_is);(case i=>k_is);(case l=>k_is);(case c=>k_is);(case k=>k_is)
  have kf0:L3.KDefD (L2.KOf KX) 535 "Few.__init__" (K10.fm 0) ["self", "ranks", "pegs", "picture"] []:=by
   dsimp only [L2.KOf]
   refine' L3.KDefD.of (items:=#[.none]) (fun _ _ _ _ _ _ s us ob ho hd hl=>match us,hl with | [_,_,_,_],_=>BindsTo.of_defaults rfl ho hd rfl rfl) ?mk ?kc ?a ?i ?l ?c ?l2
   (case mk=>k_is);(case kc=>k_is);(case a=>k_is);(case i=>k_is);(case l=>k_is);(case c=>k_is);(case l2=>k_is)
  have kw0:L3.KDefD (L2.KOf KX) 566 "Board.__init__" (K10.bm 0) ["self", "ranks", "picture"] []:=by
   dsimp only [L2.KOf]
   refine' L3.KDefD.of (items:=#[.none]) (fun _ _ _ _ _ _ s us ob ho hd hl=>match us,hl with | [_,_,_],_=>BindsTo.of_defaults rfl ho hd rfl rfl) ?mk ?kc ?a ?i ?l ?c ?l2
   (case mk=>k_is);(case kc=>k_is);(case a=>k_is);(case i=>k_is);(case l=>k_is);(case c=>k_is);(case l2=>k_is)
  have kb:L3.BDef (L2.KOf KX) 380 "__init__" "Board.__init__" (K10.bm 0) ["self", "ranks", "picture"]:=by
   dsimp only [L2.KOf]
   refine' L3.BDef.of (items:=#[.none]) (fun _ _ _ _ _ _ s us ob ho hd hl=>match us,hl with | [_,_,_],_=>BindsTo.of_defaults rfl ho hd rfl rfl) ?ga ?rd ?fi ?kp ?l ?c ?l2
   (case ga=>k_is);(case rd=>k_is);(case fi=>k_is);(case kp=>k_is);(case l=>k_is);(case c=>k_is);(case l2=>k_is)
  obtain⟨u,hM,hu⟩:=hMP
  obtain⟨u2,hM2,hu2⟩:=hML
  have D:K10.Defs (L2.KOf KX) mg 186 193 380 471 535 566 111 130:=⟨d_is_deed,d_done,d_done_or_refused,d_play,d_is_whole,d_standing,d_before,d_is_up_to,d_is_rank,d_is_bar,d_is_line,d_are_ranks,d_are_lines,d_rises,d_are_rising_lines,d_is_pile,d_is_picture,d_marks_of,d_marked,d_top_of,d_is_count_of_pegs,d__law_cell_at,d__law_whole,d__law_ranks,d__law_picture_by,d__law_copy,d__law_bar,d__law_deed,d__law_call,d__law_do,d__law_names,d__law_kind,d__law_alike,d__law_odd,d__law_refused,d__law_caught,d__law_board,d__law_spoiled,d_law,d_in_order,d_first_of,fb_ring,fb_calm,fb_mute,fb_free,fb_bar,fb_take,fb_end,fb_told,fb_check_line,fb_turn,fb_wants,fb_wanting,fb_is_open,wb_ring,wb_calm,wb_mute,wb_free,wb_bar,wb_take,wb_end,wb_told,wb_check_line,wb_turn,wb_wants,wb_wanting,wb_is_open,p_come,p_go,p_first,p_belongs_on_peg,p_lay,p_lay_from_book,f_best,f_line_comes,f_line_goes,w_best,w_line_comes,w_line_goes,kp,kf0,kb,x_nt,x_nd,kw0⟩
  exact K10.Zrp (P5:=189) D T ⟨⟨cc_pg,cc_hd,cc_po,cc_sa⟩,cc_n_ranks,cc_n_many,cc_n_hung,cc_n_book,cc_n_came,cc_n_laid,cc_n_calls⟩ ⟨⟨cw_pg,cw_hd,cw_po,cw_sa⟩,cw_n_ranks,cw_n_asks,cw_n_muted,cw_n_pile,cw_n_limit⟩ ⟨⟨cf_pg,cf_hd,cf_po,cf_sa⟩,cf_n_ranks,cf_n_asks,cf_n_muted,cf_n_pile,cf_n_limit⟩ cf_n_rack ⟨hN,knN,xnN⟩ ⟨hNB,knB,xnB⟩ ⟨hQ,knQ,xnQ⟩ ⟨hN,hNB,hNT,tyN,tyB,tyT,beN,beB,beT,mNN,mBN,mBB,mTN,mTB,mTT⟩ ⟨bga,brd,bfi⟩ XC xl xt XCd XD hS hPa (L3.Zsl (by decide) lkP (by decide)) hBE hBo hP hF hW hM hu hM2 hu2 (hC (186,182) (by simp)) (hC (193,189) (by simp)) hB
