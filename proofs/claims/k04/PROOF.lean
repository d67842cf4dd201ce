import PyProof.Rows.All
import Wide.All
import OpenK.AllK
import Wide.FinOn
import Lean
import PyProof.EqAt
import PyProof.EqKinds
import PyProof.TupleCall
import PyProof.NeKinds
import PyProof.AutoListH
import PyProof.Rows.Range3
import PyProof.ZipIter
import KE.KEqDict
import KE.KDictList
import PyProof.WalksEnum
import PyProof.EnumMake
import KE.KPairComp
import PyProof.SetKind
import KE.KRevIter
import KE.KDictSum
import PyProof.ListRange
import PyProof.PureStr
import PyProof.Conv_int
import KE.KSuperObj
import PyProof.InstStoreFacts
import KE.KSuper
import PySem.Challenge.RW_numbersay_k04_tongues_made
set_option Elab.async false
set_option linter.all false
set_option maxRecDepth 100000
namespace L2
open PySem PySem.Spec PyProof.Rows
abbrev Key:=Sum Int Str
def fX:Key->Value->Bool
 | .inl k,v=>Value.isInt k v
 | .inr x,v=>Value.isStrOf x v
def Fy (w:World):Key->Int
 | .inl k=>hashInt k
 | .inr x=>hashStr w x
theorem bg:∀ {k:Key} {v:Value},fX k v=true->(∃ i t,k=Sum.inl i/\v=Value.int i t)∨(∃ x t,k=Sum.inr x/\v=Value.str x t)
 | .inl i,v,h=>by
  obtain ⟨t,e⟩:=Value.isInt_shape (k:=i) (v:=v) h
  exact .inl ⟨i,t,rfl,e⟩
 | .inr x,v,h=>by
  obtain ⟨t,e⟩:=Value.isStrOf_shape (x:=x) (v:=v) h
  exact .inr ⟨x,t,rfl,e⟩
theorem vK (i:Int) (t:Tok):fX (.inl i) (.int i t)=true:=by simp [fX,Value.isInt]
theorem vI (x:Str) (t:Tok):fX (.inr x) (.str x t)=true:=by simp [fX,Value.isStrOf]
theorem C5 (a b:Int):decide ((Sum.inl a:Key)=Sum.inl b)=(a==b):=by
 by_cases e:a=b
 ·subst e;simp
 ·have h:¬ (Sum.inl a:Key)=Sum.inl b:=λ q=>e (Sum.inl.inj q)
  rw [decide_eq_false h]
  exact (beq_eq_false_iff_ne.mpr e).symm
theorem CF (a b:Str):decide ((Sum.inr a:Key)=Sum.inr b)=decide (a=b):=by
 by_cases e:a=b
 ·subst e;simp
 ·have h:¬ (Sum.inr a:Key)=Sum.inr b:=λ q=>e (Sum.inr.inj q)
  rw [decide_eq_false h,decide_eq_false e]
theorem Bh (a:Int) (b:Str):decide ((Sum.inl a:Key)=Sum.inr b)=false:=decide_eq_false (λ q=>nomatch q)
theorem CW (a:Str) (b:Int):decide ((Sum.inr a:Key)=Sum.inl b)=false:=decide_eq_false (λ q=>nomatch q)
def cE (prog:Program) (w:World):PySem.KeyKind prog w Key where
 is:=fX
 hash:=Fy w
 inj:=λ v a b ha hb=>by
  rcases bg ha with ⟨i,t,rfl,rfl⟩ | ⟨x,t,rfl,rfl⟩
  ·rcases bg hb with ⟨j,u,rfl,e⟩ | ⟨y,u,rfl,e⟩
   ·injection e with e1 _;rw [e1]
   ·exact nomatch e
  ·rcases bg hb with ⟨j,u,rfl,e⟩ | ⟨y,u,rfl,e⟩
   ·exact nomatch e
   ·injection e with e1 _;rw [e1]
 byValue:=λ k v h=>by
  rcases bg h with ⟨i,t,rfl,rfl⟩ | ⟨x,t,rfl,rfl⟩ <;> rfl
 pyHash:=λ hv h=>by
  rcases bg hv with ⟨i,t,rfl,rfl⟩ | ⟨x,t,rfl,rfl⟩
  ·exact wpAny_pyHash_int h
  ·exact wpAny_pyHash_str h
 eqBool:=λ hu hv h=>by
  rcases bg hu with ⟨i,t,rfl,rfl⟩ | ⟨x,t,rfl,rfl⟩
  ·rcases bg hv with ⟨j,u,rfl,rfl⟩ | ⟨y,u,rfl,rfl⟩
   ·rw [C5] at h;exact wpAny_eqBool_int h
   ·rw [Bh] at h;exact SeqAt.EqAt.int_str i t y u _ _ _ _ h
  ·rcases bg hv with ⟨j,u,rfl,rfl⟩ | ⟨y,u,rfl,rfl⟩
   ·rw [CW] at h;exact SeqAt.EqAt.str_int x t j u _ _ _ _ h
   ·rw [CF] at h;exact wpAny_eqBool_str h
 «strs»:=λ k x t v h=>by
  rcases bg h with ⟨i,u,rfl,e⟩ | ⟨y,u,rfl,e⟩
  ·exact nomatch e
  ·injection e with e1 _
   subst e1
   cases v <;> rfl
theorem rV (prog:Program) (w:World) (i:Int) (t:Tok):(cE prog w).is (.inl i) (.int i t)=true:=vK i t
theorem rj (prog:Program) (w:World) (x:Str) (t:Tok):(cE prog w).is (.inr x) (.str x t)=true:=vI x t
inductive V where
 | non | bl (b:Bool) | int (i:Int) | str (x:Str) | byt (b:Array UInt8) | flt (b:UInt64) | ref (a:Addr) | ty (n:String)
 deriving DecidableEq
def RelV:V->Value->Prop
 | .non,u=>u=Value.none
 | .bl b,u=>u=Value.bool b
 | .int i,u=>∃ t,u=Value.int i t
 | .str x,u=>∃ t,u=Value.str x t
 | .byt b,u=>∃ t,u=Value.bytes b t
 | .flt b,u=>∃ t,u=Value.float b t
 | .ref a,u=>u=Value.ref a
 | .ty n,u=>u=Value.type n
abbrev Vals:List V->List Value->Prop:=Paired RelV
theorem Vals.length {xs:List V} {us:List Value} (r:Vals xs us):xs.length=us.length:=Paired.length r
theorem Vals.get:∀ {xs:List V} {us:List Value} {i:Nat} {x:V},Vals xs us->xs[i]?=some x->∃ u,us[i]?=some u/\RelV x u
 | _,_,_,_,.nil,e=>by simp at e
 | _,_,0,_,.cons r _,e=>by simp at e;subst e;exact ⟨_,rfl,r⟩
 | _,_,i+1,x,.cons _ t,e=>by
  obtain ⟨u,h1,h2⟩:=Vals.get (i:=i) (x:=x) t (by simpa using e)
  exact ⟨u,by simpa using h1,h2⟩
theorem Vals.set {x:V} {u:Value} (r:RelV x u):∀ {xs:List V} {us:List Value} (i:Nat),Vals xs us->Vals (xs.set i x) (us.set i u)
 | _,_,_,.nil=>.nil
 | _,_,0,.cons _ t=>.cons r t
 | _,_,i+1,.cons q t=>.cons q (Vals.set r i t)
theorem Vals.append:∀ {xs ys:List V} {us ws:List Value},Vals xs us->Vals ys ws->Vals (xs++ys) (us++ws)
 | _,_,_,_,.nil,s=>s
 | _,_,_,_,.cons r t,s=>.cons r (Vals.append t s)
theorem Vals.take:∀ {xs:List V} {us:List Value} (n:Nat),Vals xs us->Vals (xs.take n) (us.take n)
 | _,_,0,_=>.nil
 | _,_,_+1,.nil=>.nil
 | _,_,n+1,.cons r t=>.cons r (Vals.take n t)
theorem Vals.drop:∀ {xs:List V} {us:List Value} (n:Nat),Vals xs us->Vals (xs.drop n) (us.drop n)
 | _,_,0,r=>r
 | _,_,_+1,.nil=>.nil
 | _,_,n+1,.cons _ t=>Vals.drop n t
def uF:Option V->Option Value->Prop
 | some v,some u=>RelV v u
 | none,none=>True
 | _,_=>False
def KV {κ:Type}:List (κ×V)->List (κ×Value)->Prop:=Paired λ (p:κ×V) (q:κ×Value)=>p.1=q.1/\RelV p.2 q.2
def kV:Key->V
 | .inl i=>.int i
 | .inr x=>.str x
inductive HO where
  | lst (xs:List V)
  | tup (xs:List V)
  | dK (kvs:List (Key×V)) | dT (kvs:List (List Key×V))
  | set (S:Int->Bool) (n:Nat)
  | ins (C dx:Addr) (fs:List (Str×V))
  | own (x:Addr)
  | xd (fs:List (Str×V))
  | met (f x:Addr)
  | rng (lo hi:Int)
  | frz (o:Obj) (u:HO)
  | tbl (ps:Array Value)
  | ext (φ:Heap->Prop)
abbrev Hp:=Addr->Option HO
def upd (H:Hp) (a:Addr) (o:HO):Hp:=λ b=>if b=a then some o else H b
theorem ae {H:Hp} {a:Addr} {o:HO}:upd H a o a=some o:=by unfold upd;rw [if_pos rfl]
theorem aq {H:Hp} {a b:Addr} {o:HO} (h:b≠a):upd H a o b=H b:=by unfold upd;rw [if_neg h]
theorem vc {H:Hp} {a:Addr} {o u:HO}:upd (upd H a o) a u=upd H a u:=by
 funext b;unfold upd;split <;> rfl
theorem nG {H:Hp} {a b:Addr} {o u:HO} (h:H a=some o) (h':H b=some u) (d:o≠u):a≠b:=by
 intro e;subst e;rw [h] at h';exact d (Option.some.inj h')
theorem ao {H:Hp} {a b:Addr} {o:HO} (h:H a=some o) (h':H b=none):a≠b:=by
 intro e;subst e;rw [h] at h';cases h'
section
variable (P:Program) (w:World)
def b5 (H:Hp) (h:Heap) (a:Addr):HO->Prop
 | .lst xs=>xs.length<=sizeLine/\∃ (its:List Value) (n:Nat),Vals xs its/\h.get? a=some { cls:=.type "list",data:=.seq its.toArray n }
 | .tup xs=>xs.length<=sizeLine/\∃ its:List Value,Vals xs its/\IsTup h a its.toArray
 | .dK kvs=>kvs.length<=sizeLine/\(a==sysModules)=false/\∃ vs,KV kvs vs/\h.DictOf (cE P w) a vs
 | .dT kvs=>kvs.length<=sizeLine/\(a==sysModules)=false/\∃ xs:List (List Key×Addr×Value),
   Paired (λ (p:List Key×V) (q:List Key×Addr×Value)=>p.1=q.1/\H q.2.1=some (.tup (p.1.map kV))/\RelV p.2 q.2.2) kvs xs /\
   ∃ o es ep,h.get? a=some o/\o.ExactDict/\o.data=.dict es ep/\es.toList=xs.map (entryOfKey (tupleKind (cE P w)))/\(xs.map (·.1)).Nodup
 | .set S n=>h.SetOf (intKind P w) a S n
 | .ins C dx fs=>H dx=some (.own a)/\fs.length<=1000/\dx≠a/\h.get? a=some (PySem.W.instObj C dx) /\
   ∃ mA,h.Ns1 dx mA/\(∀ f,uF (fs.lookup f) (mA f))/\PySem.Within mA (fs.map (·.1))
 | .own _=>∃ o,h.get? a=some o
 | .xd fs=>∃ mA,h.Ns1 a mA/\∀ f,uF (fs.lookup f) (mA f)
 | .rng lo hi=>∃ t u v,h.get? a=some { cls:=.type "range",data:=.fields #[.int lo t,.int hi u,.int 1 v] }
 | .frz o u=>h.get? a=some o/\b5 H h a u
 | .tbl ps=>h.get? a=some { cls:=.none,data:=.fields ps }
 | .met f x=>h.get? a=some (PySem.W.methodObj (.ref f) (.ref x))
 | .ext φ=>φ h/\(∃ o,h.get? a=some o)/\∀ h1 h2:Heap,φ h1->(∀ o,h1.get? a=some o->h2.get? a=some o)->φ h2
def HOk (H:Hp) (h:Heap):Prop:=∀ a o,H a=some o->b5 P w H h a o
end
section
variable {P:Program} {w:World} {H H':Hp} {h h':Heap} {a:Addr} {o:HO}
theorem b5.lt (x:b5 P w H h a o):a<h.objs.size:=by
 cases o with
 | lst xs=>obtain ⟨_,_,_,_,e⟩:=x;exact Heap.lt_size e
 | tup xs=>obtain ⟨_,_,_,p⟩:=x;exact p.lt
 | dK kvs=>obtain ⟨_,_,_,_,o,_,_,e,_⟩:=x;exact Heap.lt_size e
 | dT kvs=>obtain ⟨_,_,_,_,o,_,_,e,_⟩:=x;exact Heap.lt_size e
 | set S n=>obtain ⟨o,_,_,_,e,_⟩:=x;exact Heap.lt_size e
 | ins C dx fs=>obtain ⟨_,_,_,e,_⟩:=x;exact Heap.lt_size e
 | own y=>obtain ⟨_,e⟩:=x;exact Heap.lt_size e
 | xd fs=>obtain ⟨_,⟨_,_,_,e,_⟩,_⟩:=x;exact Heap.lt_size e
 | rng lo hi=>obtain ⟨_,_,_,e⟩:=x;exact Heap.lt_size e
 | frz ob u=>obtain ⟨e,_⟩:=x;exact Heap.lt_size e
 | tbl ps=>exact Heap.lt_size (show h.get? a=some _ from x)
 | met f y=>exact Heap.lt_size (show h.get? a=some _ from x)
 | ext φ=>obtain ⟨_,⟨_,e⟩,_⟩:=x;exact Heap.lt_size e
theorem Paired.Ej {α β:Type} {F G:α->β->Prop}:∀ {l₁:List α} {l₂:List β},Paired F l₁ l₂->(∀ a b,F a b->G a b)->Paired G l₁ l₂
 | _,_,.nil,_=>.nil
 | _,_,.cons r t,f=>.cons (f _ _ r) (Paired.Ej t f)
theorem b5.cK (x:b5 P w H h a o) (k:∀ b u,(b=a∨H b=some (.own a))->h.get? b=some u->h'.get? b=some u)
  (ho:∀ b,H b=some (.own a)->H' b=some (.own a)) (ht:∀ b xs,H b=some (.tup xs)->H' b=some (.tup xs)):b5 P w H' h' a o:=by
 induction o with
 | lst xs=>obtain ⟨z,its,n,r,e⟩:=x;exact ⟨z,its,n,r,k _ _ (.inl rfl) e⟩
 | tup xs=>obtain ⟨z,its,r,ob,e,c⟩:=x;exact ⟨z,its,r,ob,k _ _ (.inl rfl) e,c⟩
 | dK kvs=>obtain ⟨z,y,vs,r,ob,es,ep,e,c⟩:=x;exact ⟨z,y,vs,r,ob,es,ep,k _ _ (.inl rfl) e,c⟩
 | dT kvs=>
  obtain ⟨z,y,xs,r,ob,es,ep,e,c⟩:=x
  exact ⟨z,y,xs,Paired.Ej r λ p q z=>⟨z.1,ht _ _ z.2.1,z.2.2⟩,ob,es,ep,k _ _ (.inl rfl) e,c⟩
 | set S n=>obtain ⟨ob,es,ep,t,e,c⟩:=x;exact ⟨ob,es,ep,t,k _ _ (.inl rfl) e,c⟩
 | ins C dx fs=>
  obtain ⟨d,z,ne,e,mA,⟨od,es,ep,e2,c⟩,r⟩:=x
  exact ⟨ho _ d,z,ne,k _ _ (.inl rfl) e,mA,⟨od,es,ep,k _ _ (.inr d) e2,c⟩,r⟩
 | own y=>obtain ⟨ob,e⟩:=x;exact ⟨ob,k _ _ (.inl rfl) e⟩
 | xd fs=>obtain ⟨mA,⟨od,es,ep,e,c⟩,r⟩:=x;exact ⟨mA,⟨od,es,ep,k _ _ (.inl rfl) e,c⟩,r⟩
 | rng lo hi=>obtain ⟨t,u,v,e⟩:=x;exact ⟨t,u,v,k _ _ (.inl rfl) e⟩
 | frz ob u ih=>obtain ⟨e,q⟩:=x;exact ⟨k _ _ (.inl rfl) e,ih q⟩
 | tbl ps=>
  have e:h.get? a=some { cls:=.none,data:=.fields ps }:=x
  show h'.get? a=some { cls:=.none,data:=.fields ps }
  exact k a _ (.inl rfl) e
 | met f y=>
  have e:h.get? a=some (PySem.W.methodObj (.ref f) (.ref y)):=x
  show h'.get? a=some (PySem.W.methodObj (.ref f) (.ref y))
  exact k a _ (.inl rfl) e
 | ext φ=>obtain ⟨p,⟨o,e⟩,st⟩:=x;exact ⟨st _ _ p λ o q=>k _ _ (.inl rfl) q,⟨o,k _ _ (.inl rfl) e⟩,st⟩
theorem HOk.lt (x:HOk P w H h) (e:H a=some o):a<h.objs.size:=(x a o e).lt
theorem HOk.fresh (x:HOk P w H h) (e:h.objs.size<=a):H a=none:=by
 cases q:H a with
 | none=>rfl
 | some u=>exact absurd (Nat.lt_of_lt_of_le (x.lt q) e) (Nat.lt_irrefl _)
theorem HOk.kept (x:HOk P w H h) (k:∀ b u,h.get? b=some u->h'.get? b=some u):HOk P w H h':=λ a o e=>
 (x a o e).cK (λ b u _ q=>k b u q) (λ _ q=>q) λ _ _ q=>q
theorem HOk.laid (x:HOk P w H h) (k:∀ b u,h.get? b=some u->h'.get? b=some u) (hp:h.objs.size<=a) (new:b5 P w (upd H a o) h' a o):HOk P w (upd H a o) h':=λ b u e=>by
 have hn:=x.fresh hp
 by_cases hb:b=a
 ·subst hb;rw [ae] at e;cases e;exact new
 ·rw [aq hb] at e
  exact (x b u e).cK (λ c v _ q=>k c v q) (λ c q=>by rw [aq (ao q hn)];exact q) λ c xs q=>by rw [aq (ao q hn)];exact q
end
def Rd (H:Hp) (a:Addr) (u:HO):Prop:=H a=some u∨∃ o,H a=some (.frz o u)
theorem Rd.ok {P:Program} {w:World} {H:Hp} {h:Heap} {a:Addr} {u:HO} (r:Rd H a u) (x:HOk P w H h):b5 P w H h a u:=by
 rcases r with r | ⟨o,r⟩
 ·exact x a u r
 ·obtain ⟨_,q⟩:=x a _ r
  exact q
def Mut:Option HO->Prop
 | some (.lst _)=>True
 | some (.dK _)=>True
 | some (.dT _)=>True
 | some (.set _ _)=>True
 | some (.ins _ _ _)=>True
 | some (.ext _)=>True
 | _=>False
section
variable {P:Program} {w:World} {H:Hp} {h h':Heap} {x e:Addr} {o':HO}
theorem HOk.write (ok:HOk P w H h) (mu:Mut (H x)) (he:e=x∨H e=some (.own x)) (k:∀ b u,b≠e->h.get? b=some u->h'.get? b=some u) (heo:∃ u,h'.get? e=some u)
  (new:b5 P w (upd H x o') h' x o'):HOk P w (upd H x o') h':=λ b u q=>by
 have nown:∀ c y,H c=some (.own y)->c≠x:=λ c y r z=>by subst z;rw [r] at mu;exact mu
 have ntup:∀ c xs,H c=some (.tup xs)->c≠x:=λ c xs r z=>by subst z;rw [r] at mu;exact mu
 by_cases hb:b=x
 ·subst hb;rw [ae] at q;cases q;exact new
 ·rw [aq hb] at q
  by_cases hbe:b=e
  ·have q':H b=some (.own x):=by
    rcases he with z | z
    ·exact absurd (hbe.trans z) hb
    ·rw [hbe];exact z
   rw [q] at q';cases q'
   obtain ⟨v,hv⟩:=heo
   exact ⟨v,by rw [hbe];exact hv⟩
  ·refine (ok b u q).cK (λ c v hc r=>k c v ?_ r) (λ c r=>by rw [aq (nown c b r)];exact r) λ c xs r=>by rw [aq (ntup c xs r)];exact r
   rcases hc with rfl | hc
   ·exact hbe
   ·rintro rfl
    rcases he with z | z
    ·exact nown c b hc z
    ·rw [hc] at z;cases z;exact hb rfl
end
structure Un (fs ex:List Addr) (H H':Hp) (h h':Heap):Prop where
 keep:∀ b o,h.get? b=some o->H b=none->b ∉ fs->b ∉ ex->h'.get? b=some o
 slot:∀ b o,h.get? b=some o->H b=none->b∈fs->b ∉ ex->∃ sl,h'.get? b=some { o with slots:=sl }
 free:∀ b o,h.get? b=some o->H b=none->b ∉ ex->H' b=none
 there:∀ b o,h.get? b=some o->b ∉ ex->∃ o',h'.get? b=some o'
 jB:∀ b xs,H b=some (.tup xs)->H' b=some (.tup xs)
 je:∀ b o u,H b=some (.frz o u)->H' b=some (.frz o u)
 jH:∀ b ps,H b=some (.tbl ps)->∃ more,H' b=some (.tbl (ps++more))
section
variable {fs fs' ex ex':List Addr} {H H1 H2:Hp} {h h1 h2 h':Heap} {a x e:Addr} {o:HO}
theorem Un.any (u:Un fs ex H H1 h h1) {b:Addr} {ob:Obj} (q:h.get? b=some ob) (n:H b=none) (hx:b ∉ ex):∃ sl,h1.get? b=some { ob with slots:=sl }:=by
 by_cases hb:b∈fs
 ·exact u.slot b ob q n hb hx
 ·exact ⟨ob.slots,u.keep b ob q n hb hx⟩
theorem Un.kept (k:∀ b u,h.get? b=some u->h'.get? b=some u):Un fs ex H H h h':=
 ⟨λ b ob q _ _ _=>k b ob q,λ b ob q _ _ _=>⟨ob.slots,k b ob q⟩,λ _ _ _ n _=>n,λ b ob q _=>⟨ob,k b ob q⟩,λ _ _ q=>q,λ _ _ _ q=>q,λ _ ps q=>⟨#[],by rw [q];simp⟩⟩
theorem Un.refl:Un fs ex H H h h:=Un.kept λ _ _ q=>q
theorem Un.laid (k:∀ b u,h.get? b=some u->h'.get? b=some u) (hp:h.objs.size<=a) (hn:H a=none):Un fs ex H (upd H a o) h h' where
 keep:=λ b u q _ _ _=>k b u q
 slot:=λ b u q _ _ _=>⟨u.slots,k b u q⟩
 free:=λ b u q n _=>by rw [aq (Nat.ne_of_lt (Nat.lt_of_lt_of_le (Heap.lt_size q) hp))];exact n
 there:=λ b u q _=>⟨u,k b u q⟩
 jB:=λ b xs q=>by rw [aq (ao q hn)];exact q
 je:=λ b u xs q=>by rw [aq (ao q hn)];exact q
 jH:=λ b ps q=>⟨#[],by rw [aq (ao q hn),q];simp⟩
theorem Un.write (mu:Mut (H x)) (he:e=x∨H e=some (.own x)) (k:∀ b u,b≠e->h.get? b=some u->h'.get? b=some u) (heo:∃ u,h'.get? e=some u):Un fs ex H (upd H x o) h h':=by
 have hx:∀ b,H b=none->b≠x:=λ b n z=>by subst z;rw [n] at mu;exact mu
 have hb:∀ b,H b=none->b≠e:=λ b n z=>by
  subst z
  rcases he with r | r
  ·exact hx b n r
  ·rw [n] at r;cases r
 have hm:∀ b u,H b=some u->¬ Mut (some u)->b≠x:=λ b u q nm z=>by subst z;rw [q] at mu;exact nm mu
 refine ⟨λ b u q n _ _=>k b u (hb b n) q,λ b u q n _ _=>⟨u.slots,k b u (hb b n) q⟩,λ b u q n _=>by rw [aq (hx b n)];exact n,λ b u q _=>?_,
  λ b xs q=>by rw [aq (hm b _ q λ z=>z)];exact q,λ b u xs q=>by rw [aq (hm b _ q λ z=>z)];exact q,λ b ps q=>⟨#[],by rw [aq (hm b _ q λ z=>z),q];simp⟩⟩
 by_cases hbe:b=e
 ·subst hbe;exact heo
 ·exact ⟨u,k b u hbe q⟩
end
def trk (h:Heap) (H:Hp):List Addr:=(List.range h.objs.size).filter λ a=>(H a).isSome
def qL (h:Heap) (H:Hp):Heap:=PySem.W.hideAll h (trk h H)
theorem vO (h:Heap) (H:Hp):(qL h H).objs.size=h.objs.size:=PySem.W.hideAll_size _ _
theorem nI {h:Heap} {H:Hp} {b:Addr} {o:Obj} (e:h.get? b=some o) (n:H b=none):(qL h H).get? b=some o:=
 PySem.W.hideAll_get _ e λ hm=>by
  have q:(H b).isSome=true:=(List.mem_filter.mp hm).2
  rw [n] at q;simp at q
theorem zQ {h:Heap} {H:Hp} {b:Addr} {o:Obj} (e:(qL h H).get? b=some o):h.get? b=some o/\H b=none:=by
 have e':h.get? b=some o:=PySem.W.of_hideAll (trk h H) e
 refine ⟨e',?_⟩
 cases q:H b with
 | none=>rfl
 | some x=>
  have hm:b∈trk h H:=List.mem_filter.mpr ⟨List.mem_range.mpr (Heap.lt_size e'),by simp [q]⟩
  have z:(qL h H).get? b=none:=PySem.W.hideAll_none (trk h H) hm
  rw [z] at e;cases e
def zf (g h:Heap) (L:Addr):List (Addr×Obj):=(List.range h.objs.size).filterMap λ a=>if a=L∨(g.get? a).isSome=true then none else (h.get? a).map λ o=>(a,o)
def rest (g h:Heap) (L d:Addr):List (Addr×Obj):=(zf g h L).filter λ p=>decide (p.1≠d)
structure Mod (K:PySem.W.Frag) (mg:Str->Option Value) (base:Heap):Prop where
 kin:K.In base
 glob:base.Ns mainGlobals mg
 blt:∃ mb,base.Ns builtinsNs mb/\∀ x:Str,x≠"__name__"->mb x=bootBuiltins x
 nolimit:base.NoLimit
structure Cx where
 prog:Program
 w:World
 K:PySem.W.Frag
 mg:Str->Option Value
 base:Heap
 A:Around
 N:List Str
 s₀:Shared
 H₀:Hp
 env:Env
 outer:List Env
 stack:List Env
 ex:List Addr
 fn:Str->Bool
 calm:Bool
 pn:List (Addr×Obj)
 xe:Value->Shared->Prop
def frs (l:List Env):List Addr:=l.filterMap (·.frame)
abbrev Cx.fs (X:Cx):List Addr:=frs X.outer
def Vis (sc:Scope) (x:Str):Prop:=sc.names.lookup x=some .local∨sc.names.lookup x=some .cell∨sc.names.lookup x=some .free
def Loc (sc:Scope) (x:Str):Prop:=sc.names.lookup x=some .local∨sc.names.lookup x=some .cell
def Look (env:Env) (h:Heap) (m:Str->Option Value) (x:Str) (u:Value):Prop:=
 (env.kindOf x=some .local/\m x=some u)∨((env.kindOf x=some .cell∨env.kindOf x=some .free)/\∃ c,env.cells.lookup x=some c/\h.IsCell c (some u))
structure Cx.Ok (X:Cx):Prop where
 mod:Mod X.K X.mg X.base
 kind:X.env.scope.kind=.function
 glob:X.env.globals=mainGlobals
 blt:X.env.builtins=builtinsNs
 above:X.s₀.heap.objs.size<=X.env.locals
 inj:∀ x y c,X.env.cells.lookup x=some c->X.env.cells.lookup y=some c->x=y
 has:∀ x,(X.env.kindOf x=some .cell∨X.env.kindOf x=some .free)->∃ c,X.env.cells.lookup x=some c
 cab:∀ x c,X.fn x=true->X.env.cells.lookup x=some c->X.s₀.heap.objs.size<=c
 hd:X.calm=true->X.A.handled=none
 frames:X.A.frames=some X.stack
 stk:X.stack=X.outer∨(X.stack=X.env::X.outer/\X.env.frame=some X.env.locals)
 exf:∀ b∈X.ex,b≠X.env.locals/\∀ x c,X.env.cells.lookup x=some c->c≠b
 bs:∀ b o,X.base.get? b=some o->X.s₀.heap.get? b=some o/\X.H₀ b=none
 bsz:X.base.objs.size<=X.s₀.heap.objs.size
 mQ:∀ b o,X.base.get? b=some o->b ∉ X.ex
 uf:∀ b∈X.ex,b ∉ X.fs
 jx:X.s₀.heap.FunFrames X.base X.outer
 frf:∀ b∈X.fs,X.H₀ b=none
structure Inv (X:Cx) (pins:List (Addr×Obj)) (σ:List (Option V)) (H:Hp) (s:Shared):Prop where
 ok:X.Ok
 os:s.os=X.s₀.os
 bare:AllBare s.gens
 base:Un X.fs X.ex X.H₀ H X.s₀.heap s.heap
 loc:∃ m,s.heap.Ns X.env.locals m/\∀ (i:Nat) (x:Str) (v:V),X.N[i]?=some x->σ[i]?=some (some v)->Vis X.env.scope x->∃ u,RelV v u/\Look X.env s.heap m x u
 cell:∀ x c,X.env.cells.lookup x=some c->∃ v,s.heap.IsCell c v
 free:H X.env.locals=none
 cH:∀ x c,X.env.cells.lookup x=some c->H c=none
 pin:∀ p∈X.pn++pins,s.heap.get? p.1=some p.2/\H p.1=none/\p.1≠X.env.locals/\p.1 ∉ X.fs/\∀ v,p.2.data≠.cell v
 hok:HOk X.prog X.w H s.heap
 len:σ.length=X.N.length
section
variable {X:Cx} {pins:List (Addr×Obj)} {σ:List (Option V)} {H H':Hp} {s:Shared} {h':Heap}
theorem Cx.Ok.Fx (ok:X.Ok) {b:Addr} {o:Obj} (e:X.base.get? b=some o):b ∉ X.fs:=λ hb=>by
 have:=(ok.jx.mem hb).1
 rw [e] at this;cases this
theorem Inv.bs (I:Inv X pins σ H s):∀ b o,X.base.get? b=some o->s.heap.get? b=some o/\H b=none:=λ b o e=>
 ⟨I.base.keep b o (I.ok.bs b o e).1 (I.ok.bs b o e).2 (I.ok.Fx e) (I.ok.mQ b o e),I.base.free b o (I.ok.bs b o e).1 (I.ok.bs b o e).2 (I.ok.mQ b o e)⟩
theorem Inv.bk (I:Inv X pins σ H s):∀ b o,X.base.get? b=some o->s.heap.get? b=some o:=λ b o e=>(I.bs b o e).1
theorem Inv.mod (I:Inv X pins σ H s):Mod X.K X.mg X.base:=I.ok.mod
theorem Inv.kIn (I:Inv X pins σ H s):X.K.In s.heap:=I.ok.mod.kin.keeps I.bk
theorem Inv.nolimit (I:Inv X pins σ H s):s.heap.NoLimit:=I.ok.mod.nolimit.keeps I.bk
theorem Inv.fr (I:Inv X pins σ H s):∃ m,Fr X.base X.env.locals s.heap m:=
 let ⟨m,hn,_⟩:=I.loc
 ⟨m,hn,I.bk,Nat.le_trans I.ok.bsz I.ok.above⟩
theorem Inv.lt (I:Inv X pins σ H s):X.env.locals<s.heap.objs.size:=let ⟨_,hn,_⟩:=I.loc;hn.lt
theorem Inv.sz (I:Inv X pins σ H s):X.s₀.heap.objs.size<=s.heap.objs.size:=Nat.le_trans I.ok.above (Nat.le_of_lt I.lt)
theorem Inv.FL (I:Inv X pins σ H s) {a:Addr} (h:s.heap.objs.size<=a):a ∉ X.fs:=λ hb=>by
 obtain ⟨_,o,ho,_⟩:=I.ok.jx.mem hb
 exact absurd (Nat.lt_of_lt_of_le (Heap.lt_size ho) (Nat.le_trans I.sz h)) (Nat.lt_irrefl _)
theorem Inv.cne (I:Inv X pins σ H s):∀ x c,X.env.cells.lookup x=some c->c≠X.env.locals:=λ x c e z=>by
 obtain ⟨v,o,ho,hd⟩:=I.cell x c e
 obtain ⟨m,⟨o',es,ep,ho',hd',_⟩,_⟩:=I.loc
 rw [z,ho'] at ho;cases ho;rw [hd'] at hd;cases hd
theorem Inv.jx (I:Inv X pins σ H s):s.heap.FunFrames X.base X.outer:=by
 have all:∀ (l:List Env),(∀ b∈frs l,b∈X.fs)->X.s₀.heap.FunFrames X.base l->s.heap.FunFrames X.base l:=by
  intro l
  induction l with
  | nil=>intro _ _;trivial
  | cons env r ih=>
   intro hs hl
   obtain ⟨hk,⟨L,o,hf,hn,ho,hd⟩,hr⟩:=hl
   have hL:L∈X.fs:=hs L (by unfold frs;rw [List.filterMap_cons,hf];exact List.mem_cons_self)
   obtain ⟨sl,e⟩:=I.base.slot L o ho (I.ok.frf L hL) hL λ z=>I.ok.uf L z hL
   exact ⟨hk,⟨L,_,hf,hn,e,hd⟩,ih (λ b hb=>hs b (by unfold frs;rw [List.filterMap_cons,hf];exact List.mem_cons_of_mem _ hb)) hr⟩
 exact all X.outer (λ _ hb=>hb) I.ok.jx
theorem Inv.stack (I:Inv X pins σ H s):s.heap.FunFrames X.base X.stack:=by
 rcases I.ok.stk with e | ⟨e,hf⟩
 ·rw [e];exact I.jx
 ·rw [e]
  obtain ⟨m,hn,_⟩:=I.loc
  refine .cons (by rw [I.ok.kind];decide) hf hn ?_ I.jx
  exact Heap.get?_none_of_le (Nat.le_trans I.ok.bsz I.ok.above)
theorem Inv.hW (I:Inv X pins σ H s):∀ b∈frs X.stack,b∈X.env.locals::X.fs:=λ b hb=>by
 rcases I.ok.stk with e | ⟨e,hf⟩
 ·rw [e] at hb;exact List.mem_cons_of_mem _ hb
 ·rw [e] at hb
  unfold frs at hb
  rw [List.filterMap_cons,hf] at hb
  exact hb
theorem Inv.gh (I:Inv X pins σ H s):∀ b∈frs X.stack,H b=none:=λ b hb=>by
 rcases List.mem_cons.mp (I.hW b hb) with e | hb
 ·rw [e];exact I.free
 ·obtain ⟨_,o,ho,_⟩:=I.ok.jx.mem hb
  exact I.base.free b o ho (I.ok.frf b hb) λ z=>I.ok.uf b z hb
theorem Inv.step {g':Array GenState} {t':Nat} {d':Drawn} {ch:List Addr} (I:Inv X pins σ H s)
  (hch:∀ b∈ch,(b∈X.ex∨X.s₀.heap.objs.size<=b)/\b≠X.env.locals/\(∀ x c,X.env.cells.lookup x=some c->c≠b)/\∀ p∈X.pn++pins,p.1≠b)
  (keep:∀ b o,b≠X.env.locals->b ∉ X.fs->b ∉ ch->s.heap.get? b=some o->H b=none->h'.get? b=some o)
  (slot:∀ b o,b≠X.env.locals->b∈X.fs->b ∉ ch->s.heap.get? b=some o->H b=none->∃ sl,h'.get? b=some { o with slots:=sl }) (free:∀ b o,b ∉ ch->s.heap.get? b=some o->H b=none->H' b=none)
  (there:∀ b o,b ∉ ch->s.heap.get? b=some o->∃ o',h'.get? b=some o')
  (jB:∀ b xs,H b=some (.tup xs)->H' b=some (.tup xs)) (je:∀ b o u,H b=some (.frz o u)->H' b=some (.frz o u)) (jH:∀ b ps,H b=some (.tbl ps)->∃ more,H' b=some (.tbl (ps++more)))
  (ns:∀ m,s.heap.Ns X.env.locals m->h'.Ns X.env.locals m) (hok:HOk X.prog X.w H' h') (hg:AllBare g'):
  Inv X pins σ H' { s with heap:=h',gens:=g',drawn:=d',toks:=t' }:=by
 have neL:∀ b o,X.s₀.heap.get? b=some o->b≠X.env.locals:=λ b o e=>Nat.ne_of_lt (Nat.lt_of_lt_of_le (Heap.lt_size e) I.ok.above)
 have neC:∀ b o,X.s₀.heap.get? b=some o->b ∉ X.ex->b ∉ ch:=λ b o e hx hb=>by
  rcases (hch b hb).1 with z | z
  ·exact hx z
  ·exact absurd (Nat.lt_of_lt_of_le (Heap.lt_size e) z) (Nat.lt_irrefl _)
 have cellK:∀ x c,X.env.cells.lookup x=some c->∀ v,s.heap.IsCell c v->h'.IsCell c v:=λ x c e v ⟨o,ho,hd⟩=>by
  have nch:c ∉ ch:=λ z=>(hch c z).2.2.1 x c e rfl
  by_cases hc:c∈X.fs
  ·obtain ⟨sl,q⟩:=slot c o (I.cne x c e) hc nch ho (I.cH x c e)
   exact ⟨_,q,hd⟩
  ·exact ⟨o,keep c o (I.cne x c e) hc nch ho (I.cH x c e),hd⟩
 refine ⟨I.ok,I.os,hg,⟨λ b o e n hb hx=>?_,λ b o e n hb hx=>?_,λ b o e n hx=>?_,λ b o e hx=>?_,λ b xs e=>jB b xs (I.base.jB b xs e),λ b o xs e=>je b o xs (I.base.je b o xs e),λ b ps e=>?_⟩,?_,λ x c e=>?_,?_,λ x c e=>?_,λ p hp=>?_,hok,I.len⟩
 ·exact keep b o (neL b o e) hb (neC b o e hx) (I.base.keep b o e n hb hx) (I.base.free b o e n hx)
 ·obtain ⟨sl,e1⟩:=I.base.slot b o e n hb hx
  obtain ⟨sl',e2⟩:=slot b _ (neL b o e) hb (neC b o e hx) e1 (I.base.free b o e n hx)
  exact ⟨sl',e2⟩
 ·obtain ⟨o',e1⟩:=I.base.there b o e hx
  exact free b o' (neC b o e hx) e1 (I.base.free b o e n hx)
 ·obtain ⟨o',e1⟩:=I.base.there b o e hx
  exact there b o' (neC b o e hx) e1
 ·obtain ⟨m1,e1⟩:=I.base.jH b ps e
  obtain ⟨m2,e2⟩:=jH b _ e1
  exact ⟨m1++m2,by rw [e2,Array.append_assoc]⟩
 ·obtain ⟨m,hn,hl⟩:=I.loc
  refine ⟨m,ns m hn,λ i x v e1 e2 e3=>?_⟩
  obtain ⟨u,r,l⟩:=hl i x v e1 e2 e3
  refine ⟨u,r,?_⟩
  rcases l with l | ⟨k,c,e,z⟩
  ·exact .inl l
  ·exact .inr ⟨k,c,e,cellK x c e _ z⟩
 ·obtain ⟨v,z⟩:=I.cell x c e
  exact ⟨v,cellK x c e v z⟩
 ·obtain ⟨m,⟨o,_,_,ho,_⟩,_⟩:=I.loc
  exact free _ o (λ z=>(hch _ z).2.1 rfl) ho I.free
 ·obtain ⟨v,o,ho,hd⟩:=I.cell x c e
  exact free c o (λ z=>(hch c z).2.2.1 x c e rfl) ho (I.cH x c e)
 ·obtain ⟨e,n,ne,nf,d⟩:=I.pin p hp
  have nch:p.1 ∉ ch:=λ z=>(hch p.1 z).2.2.2 p hp rfl
  exact ⟨keep p.1 p.2 ne nf nch e n,free p.1 p.2 nch e n,ne,nf,d⟩
theorem Inv.un {t':Nat} (I:Inv X pins σ H s) (u:Un X.fs [] H H' s.heap h') (hok:HOk X.prog X.w H' h'):Inv X pins σ H' { s with heap:=h',toks:=t' }:=by
 obtain ⟨m,⟨o,es,ep,ho,r⟩,_⟩:=id I.loc
 obtain ⟨sl,hL⟩:=u.any ho I.free (by simp)
 exact I.step (g':=s.gens) (d':=s.drawn) (ch:=[]) (λ _ z=>nomatch z) (λ b o _ hb _ e n=>u.keep b o e n hb (by simp)) (λ b o _ hb _ e n=>u.slot b o e n hb (by simp)) (λ b o _ e n=>u.free b o e n (by simp)) (λ b o _ e=>u.there b o e (by simp)) u.jB u.je u.jH (λ m' hm=>by
  obtain ⟨o',es',ep',ho',r'⟩:=hm
  rw [ho] at ho';cases ho'
  exact ⟨_,es',ep',hL,r'⟩) hok I.bare
theorem Inv.call {g':Array GenState} {t':Nat} {d':Drawn} {ch:List Addr} (I:Inv X pins σ H s) (u:Un (frs X.stack) ch H H' s.heap h') (hok:HOk X.prog X.w H' h') (hg:AllBare g')
  (hch:∀ b∈ch,(b∈X.ex∨X.s₀.heap.objs.size<=b)/\b≠X.env.locals/\(∀ x c,X.env.cells.lookup x=some c->c≠b)/\∀ p∈X.pn++pins,p.1≠b):
  Inv X pins σ H' { s with heap:=h',gens:=g',drawn:=d',toks:=t' }:=by
 obtain ⟨m,⟨o,es,ep,ho,r⟩,_⟩:=id I.loc
 obtain ⟨sl,hL⟩:=u.any ho I.free λ z=>(hch _ z).2.1 rfl
 exact I.step (ch:=ch) hch (λ b o hL hb hc e n=>u.keep b o e n (λ z=>(List.mem_cons.mp (I.hW b z)).elim hL hb) hc) (λ b o _ _ hc e n=>u.any e n hc) (λ b o hc e n=>u.free b o e n hc) (λ b o hc e=>u.there b o e hc) u.jB u.je u.jH (λ m' hm=>by
  obtain ⟨o',es',ep',ho',r'⟩:=hm
  rw [ho] at ho';cases ho'
  exact ⟨_,es',ep',hL,r'⟩) hok hg
theorem Inv.turned {t':Nat} {it:Addr} (I:Inv X pins σ H s) (k:∀ b o,b≠it->s.heap.get? b=some o->h'.get? b=some o) (hn:H it=none) (hL:it≠X.env.locals)
  (h1:it∈X.ex∨X.s₀.heap.objs.size<=it) (h2:∀ x c,X.env.cells.lookup x=some c->c≠it) (h3:∀ p∈X.pn++pins,p.1≠it):Inv X pins σ H { s with heap:=h',toks:=t' }:=by
 have nit:∀ b u,H b=some u->b≠it:=λ b u e z=>by rw [z,hn] at e;cases e
 refine I.step (g':=s.gens) (d':=s.drawn) (ch:=[it]) (λ b hb=>?_) (λ b o _ _ hc e _=>k b o (λ z=>hc (by simp [z])) e) (λ b o _ _ hc e _=>⟨o.slots,k b o (λ z=>hc (by simp [z])) e⟩) (λ _ _ _ _ n=>n)
  (λ b o hc e=>⟨o,k b o (λ z=>hc (by simp [z])) e⟩) (λ _ _ e=>e) (λ _ _ _ e=>e) (λ b ps e=>⟨#[],by rw [e];simp⟩) (λ m hm=>?_) (λ b u e=>?_) I.bare
 ·have e:b=it:=by simpa using hb
  subst e
  exact ⟨h1,hL,h2,h3⟩
 ·obtain ⟨o,es,ep,ho,r⟩:=hm
  exact ⟨o,es,ep,k _ o (Ne.symm hL) ho,r⟩
 ·refine (I.hok b u e).cK (λ c v hc q=>k c v ?_ q) (λ _ q=>q) λ _ _ q=>q
  rcases hc with z | z
  ·rw [z];exact nit b u e
  ·exact nit c _ z
theorem Inv.tok (I:Inv X pins σ H s) (t:Nat):Inv X pins σ H { s with toks:=t }:=I.un (h':=s.heap) (t':=t) Un.refl I.hok
theorem Inv.kept {t':Nat} (I:Inv X pins σ H s) (k:∀ b u,s.heap.get? b=some u->h'.get? b=some u):Inv X pins σ H { s with heap:=h',toks:=t' }:=I.un (Un.kept k) (I.hok.kept k)
theorem Inv.laid {a:Addr} {o:HO} {t':Nat} (I:Inv X pins σ H s) (k:∀ b u,s.heap.get? b=some u->h'.get? b=some u) (hp:s.heap.objs.size<=a) (new:b5 X.prog X.w (upd H a o) h' a o):
  Inv X pins σ (upd H a o) { s with heap:=h',toks:=t' }:=I.un (Un.laid k hp (I.hok.fresh hp)) (I.hok.laid k hp new)
theorem Inv.write {x e:Addr} {o:HO} {t':Nat} (I:Inv X pins σ H s) (mu:Mut (H x)) (he:e=x∨H e=some (.own x)) (k:∀ b u,b≠e->s.heap.get? b=some u->h'.get? b=some u) (heo:∃ u,h'.get? e=some u)
  (new:b5 X.prog X.w (upd H x o) h' x o):Inv X pins σ (upd H x o) { s with heap:=h',toks:=t' }:=I.un (Un.write mu he k heo) (I.hok.write mu he k heo new)
theorem Inv.weak {σ':List (Option V)} (I:Inv X pins σ H s) (hl:σ'.length=σ.length) (w:∀ (i:Nat) v,σ'[i]?=some (some v)->σ[i]?=some (some v)):Inv X pins σ' H s:=
 ⟨I.ok,I.os,I.bare,I.base,let ⟨m,hn,hl'⟩:=I.loc;⟨m,hn,λ i x v e1 e2 e3=>hl' i x v e1 (w i v e2) e3⟩,I.cell,I.free,I.cH,I.pin,I.hok,hl.trans I.len⟩
theorem Inv.uZ {pins':List (Addr×Obj)} (I:Inv X pins σ H s) (h:∀ p∈pins',s.heap.get? p.1=some p.2/\H p.1=none/\p.1≠X.env.locals/\p.1 ∉ X.fs/\∀ v,p.2.data≠.cell v):Inv X pins' σ H s:=
 ⟨I.ok,I.os,I.bare,I.base,I.loc,I.cell,I.free,I.cH,λ p hp=>(List.mem_append.mp hp).elim (λ z=>I.pin p (List.mem_append_left _ z)) (h p),I.hok,I.len⟩
theorem oh {N:List Str} (hN:N.Nodup) {i j:Nat} {x:Str} (a:N[i]?=some x) (b:N[j]?=some x):i=j:=by
 obtain ⟨h1,e1⟩:=List.getElem?_eq_some_iff.mp a
 obtain ⟨h2,e2⟩:=List.getElem?_eq_some_iff.mp b
 exact (List.getElem_inj hN).mp (e1.trans e2.symm)
theorem o9 {M:Model} {A:Around} {E:Value->Shared->Prop} {i:Nat} {x:Str} {v:V} {u:Value} {Q:Unit->Shared->Prop} (I:Inv X pins σ H s) (hN:X.N.Nodup) (hi:X.N[i]?=some x) (hx:Loc X.env.scope x) (r:RelV v u)
  (h:∀ s',Inv X pins (σ.set i (some v)) H s'->(∃ a,Heap.SameBut a s.heap s'.heap/\(a=X.env.locals∨X.env.cells.lookup x=some a))->Q () s') (hf:X.fn x=true∨X.env.scope.names.lookup x=some .local:=by first | exact .inl rfl | exact .inr rfl | assumption):wpAny M A (storeName X.env x u) Q E s:=by
 obtain ⟨m,hn,hl⟩:=id I.loc
 have hcls:(X.env.scope.kind==.class||(X.env.scope.kind==.module&&X.env.locals != X.env.globals))=false:=by rw [I.ok.kind];rfl
 have hiσ:i<σ.length:=by rw [I.len];exact (List.getElem?_eq_some_iff.mp hi).1
 have cne:=I.cne
 have tracked:∀ {a:Addr} {h':Heap},(∃ o,s.heap.get? a=some o/\H a=none)->Heap.SameBut a s.heap h'->HOk X.prog X.w H h':=λ {a h'} ha hs b ob e=>by
  obtain ⟨_,_,hfree⟩:=ha
  refine (I.hok b ob e).cK (λ c w' hc q=>(hs.2 c ?_).trans q) (λ _ q=>q) λ _ _ q=>q
  rintro rfl
  rcases hc with rfl | hc
  ·rw [hfree] at e;cases e
  ·rw [hfree] at hc;cases hc
 rcases hx with hk | hk
 ·refine wpAny_storeName_local hk hn (λ h' hn' hs=>?_) hcls
  obtain ⟨oL,_,_,hoL,_⟩:=id hn
  refine h _ ⟨I.ok,I.os,I.bare,⟨λ b o e n hb hx=>?_,λ b o e n hb hx=>?_,I.base.free,λ b o e hx=>?_,I.base.jB,I.base.je,I.base.jH⟩,⟨_,hn',λ j y v' e1 e2 e3=>?_⟩,λ y c e=>?_,I.free,I.cH,λ p hp=>?_,tracked ⟨oL,hoL,I.free⟩ hs,by simpa using I.len⟩ ⟨_,hs,.inl rfl⟩
  ·exact (hs.2 b (Nat.ne_of_lt (Nat.lt_of_lt_of_le (Heap.lt_size e) I.ok.above))).trans (I.base.keep b o e n hb hx)
  ·obtain ⟨sl,e1⟩:=I.base.slot b o e n hb hx
   exact ⟨sl,(hs.2 b (Nat.ne_of_lt (Nat.lt_of_lt_of_le (Heap.lt_size e) I.ok.above))).trans e1⟩
  ·obtain ⟨o',e1⟩:=I.base.there b o e hx
   exact ⟨o',(hs.2 b (Nat.ne_of_lt (Nat.lt_of_lt_of_le (Heap.lt_size e) I.ok.above))).trans e1⟩
  ·by_cases hj:j=i
   ·subst hj
    rw [hi] at e1;cases e1
    rw [List.getElem?_set_self hiσ] at e2
    cases e2
    exact ⟨u,r,.inl ⟨hk,by simp⟩⟩
   ·rw [List.getElem?_set_ne (Ne.symm hj)] at e2
    obtain ⟨u',r',q⟩:=hl j y v' e1 e2 e3
    refine ⟨u',r',?_⟩
    rcases q with ⟨k,e⟩ | ⟨k,c,e,z⟩
    ·refine .inl ⟨k,?_⟩
     have:y≠x:=λ e=>hj (oh hN e1 (e ▸ hi))
     simp [this,e]
    ·exact .inr ⟨k,c,e,z.sameBut hs (cne y c e)⟩
  ·obtain ⟨w',z⟩:=I.cell y c e
   exact ⟨w',z.sameBut hs (cne y c e)⟩
  ·obtain ⟨e,n,ne,nf,d⟩:=I.pin p hp
   exact ⟨(hs.2 p.1 ne).trans e,n,ne,nf,d⟩
 ·have hfn:X.fn x=true:=by
   rcases hf with z | z
   ·exact z
   ·rw [z] at hk;cases hk
  obtain ⟨c,hc⟩:=I.ok.has x (.inl hk)
  obtain ⟨w',z⟩:=I.cell x c hc
  refine wpAny_storeName_cell I.ok.kind hk hc z (λ h' hc' hs=>?_)
  obtain ⟨oc,hoc,hocd⟩:=id z
  refine h { s with heap:=h' } ⟨I.ok,I.os,I.bare,⟨λ b o e n hb hx=>?_,λ b o e n hb hx=>?_,I.base.free,λ b o e hx=>?_,I.base.jB,I.base.je,I.base.jH⟩,⟨m,hn.sameBut hs (Ne.symm (cne x c hc)),λ j y v' e1 e2 e3=>?_⟩,λ y c' e=>?_,I.free,I.cH,λ p hp=>?_,tracked ⟨oc,hoc,I.cH x c hc⟩ hs,by simpa using I.len⟩ ⟨c,hs,.inr hc⟩
  ·exact (hs.2 b (Nat.ne_of_lt (Nat.lt_of_lt_of_le (Heap.lt_size e) (I.ok.cab x c hfn hc)))).trans (I.base.keep b o e n hb hx)
  ·obtain ⟨sl,e1⟩:=I.base.slot b o e n hb hx
   exact ⟨sl,(hs.2 b (Nat.ne_of_lt (Nat.lt_of_lt_of_le (Heap.lt_size e) (I.ok.cab x c hfn hc)))).trans e1⟩
  ·obtain ⟨o',e1⟩:=I.base.there b o e hx
   exact ⟨o',(hs.2 b (Nat.ne_of_lt (Nat.lt_of_lt_of_le (Heap.lt_size e) (I.ok.cab x c hfn hc)))).trans e1⟩
  ·by_cases hj:j=i
   ·subst hj
    rw [hi] at e1;cases e1
    rw [List.getElem?_set_self hiσ] at e2
    cases e2
    exact ⟨u,r,.inr ⟨.inl hk,c,hc,hc'⟩⟩
   ·rw [List.getElem?_set_ne (Ne.symm hj)] at e2
    obtain ⟨u',r',q⟩:=hl j y v' e1 e2 e3
    refine ⟨u',r',?_⟩
    rcases q with q | ⟨k,c',e,z'⟩
    ·exact .inl q
    ·refine .inr ⟨k,c',e,z'.sameBut hs ?_⟩
     rintro rfl
     exact hj (oh hN e1 (I.ok.inj _ _ _ e hc ▸ hi))
  ·by_cases hcc:c'=c
   ·subst hcc;exact ⟨_,hc'⟩
   ·obtain ⟨w2,z2⟩:=I.cell y c' e
    exact ⟨w2,z2.sameBut hs hcc⟩
  ·obtain ⟨e,n,ne,nf,d⟩:=I.pin p hp
   refine ⟨(hs.2 p.1 ?_).trans e,n,ne,nf,d⟩
   intro q
   rw [q,hoc] at e
   have q':oc=p.2:=Option.some.inj e
   exact d w' (by rw [<- q'];exact hocd)
theorem ni {M:Model} {A:Around} {E:Value->Shared->Prop} {i:Nat} {x:Str} {v:V} {u:Value} {Q:Unit->Shared->Prop} (I:Inv X pins σ H s) (hN:X.N.Nodup) (hi:X.N[i]?=some x) (hx:Loc X.env.scope x) (r:RelV v u)
  (h:∀ s',Inv X pins (σ.set i (some v)) H s'->Q () s') (hf:X.fn x=true∨X.env.scope.names.lookup x=some .local:=by first | exact .inl rfl | exact .inr rfl | assumption):wpAny M A (storeName X.env x u) Q E s:=
 o9 I hN hi hx r (λ s' I' _=>h s' I') hf
theorem Inv.rG {s':Shared} {ch:List Addr} (I:Inv X pins σ H s) (ho:s'.os=s.os) (u:Un (frs X.stack) ch H H' s.heap s'.heap) (hok:HOk X.prog X.w H' s'.heap) (hg:AllBare s'.gens)
  (hch:∀ b∈ch,(b∈X.ex∨X.s₀.heap.objs.size<=b)/\b≠X.env.locals/\(∀ x c,X.env.cells.lookup x=some c->c≠b)/\∀ p∈X.pn++pins,p.1≠b):Inv X pins σ H' s':=by
 obtain ⟨h',g',d',t',o'⟩:=s'
 have e:o'=s.os:=ho
 subst e
 exact I.call (g':=g') (t':=t') (d':=d') u hok hg hch
end
abbrev XK:=Value->Option Addr->Hp->Prop
abbrev St:=List (Option V)
abbrev VK:=V->Hp->Prop
abbrev TE:=St->Hp->VK->Prop
abbrev TT:=St->Hp->(Bool->Hp->Prop)->Prop
abbrev TA:=St->Hp->(List V->Hp->Prop)->Prop
structure Ends where
 nx:St->Hp->Prop
 rt:VK
 bk:St->Hp->Prop:=λ _ _=>False
 ct:St->Hp->Prop:=λ _ _=>False
abbrev TS:=Ends->St->Hp->Prop
def EP (X:Cx) (pins:List (Addr×Obj)) (σ:St) (Q:VK) (u:Value) (s':Shared):Prop:=∃ v H',Inv X pins σ H' s'/\RelV v u/\Q v H'
def TP (X:Cx) (pins:List (Addr×Obj)) (σ:St) (Q:Bool->Hp->Prop) (b:Bool) (s':Shared):Prop:=∃ H',Inv X pins σ H' s'/\Q b H'
def AP (X:Cx) (pins:List (Addr×Obj)) (σ:St) (Q:List V->Hp->Prop) (us:List Value) (s':Shared):Prop:=∃ vs H',Inv X pins σ H' s'/\Vals vs us/\Q vs H'
def SP (X:Cx) (pins:List (Addr×Obj)) (D:Ends) (f:Flow) (s':Shared):Prop:=
 match f with
 | .next=>∃ σ' H',Inv X pins σ' H' s'/\D.nx σ' H'
 | .brk=>∃ σ' H',Inv X pins σ' H' s'/\D.bk σ' H'
 | .cont=>∃ σ' H',Inv X pins σ' H' s'/\D.ct σ' H'
 | .ret u=>∃ v σ' H',Inv X pins σ' H' s'/\RelV v u/\D.rt v H'
def PE (X:Cx) (e:Expr) (t:TE):Prop:=
 ∀ (pins:List (Addr×Obj)) (s:Shared) (σ:St) (H:Hp) (Q:VK),Inv X pins σ H s->t σ H Q->wpAny (model X.prog X.w) X.A (eval e X.env) (EP X pins σ Q) X.xe s
def PT (X:Cx) (e:Expr) (t:TT):Prop:=
 ∀ (pins:List (Addr×Obj)) (s:Shared) (σ:St) (H:Hp) (Q:Bool->Hp->Prop),Inv X pins σ H s->t σ H Q->wpAny (model X.prog X.w) X.A (isTrue e X.env (eval e X.env)) (TP X pins σ Q) X.xe s
def PW (X:Cx) (e:Expr) (t:TT):Prop:=
 ∀ (whole:Sem Value) (pins:List (Addr×Obj)) (s:Shared) (σ:St) (H:Hp) (Q:Bool->Hp->Prop),Inv X pins σ H s->t σ H Q->wpAny (model X.prog X.w) X.A (isTrue e X.env whole) (TP X pins σ Q) X.xe s
theorem PW.pt {X:Cx} {e:Expr} {t:TT} (h:PW X e t):PT X e t:=h _
def PA (X:Cx) (es:List Expr) (t:TA):Prop:=
 ∀ (pos:Pos) (pins:List (Addr×Obj)) (s:Shared) (σ:St) (H:Hp) (Q:List V->Hp->Prop),Inv X pins σ H s->t σ H Q->wpAny (model X.prog X.w) X.A (spliced (backTo pos (starEach es X.env))) (AP X pins σ Q) X.xe s
def PS (X:Cx) (st:Stmt) (t:TS):Prop:=
 ∀ (pins:List (Addr×Obj)) (s:Shared) (σ:St) (H:Hp) (D:Ends),Inv X pins σ H s->t D σ H->wpAny (model X.prog X.w) X.A (exec st X.env) (SP X pins D) X.xe s
def PSs (X:Cx) (st:List Stmt) (t:TS):Prop:=
 ∀ (pins:List (Addr×Obj)) (s:Shared) (σ:St) (H:Hp) (D:Ends),Inv X pins σ H s->t D σ H->wpAny (model X.prog X.w) X.A (execs st X.env) (SP X pins D) X.xe s
theorem thn {α:Type} {t:Sem α} {Q Q':α->Shared->Prop} {M:Model} {A:Around} {E:Value->Shared->Prop} {s:Shared} (h:wpAny M A t Q E s) (hQ:∀ a s,Q a s->Q' a s):wpAny M A t Q' E s:=wpAny_mono h hQ λ _ _ x=>x
section
variable {X:Cx}
def xM (i:Nat):TE:=λ σ H Q=>∃ v,σ[i]?=some (some v)/\Q v H
def tC (v:V):TE:=λ _ H Q=>Q v H
theorem yA {i:Nat} {x:Str} {pos:Pos} (hN:X.N[i]?=some x) (hv:Vis X.env.scope x) (hd:(x==("__debug__":Str))=false:=by decide) (hcd:(x==("__classdict__":Str))=false:=by decide):PE X (.Name x pos) (xM i):=by
 intro pins s σ H Q I h
 obtain ⟨v,e,h⟩:=h
 obtain ⟨m,hn,hl⟩:=I.loc
 obtain ⟨u,r,l⟩:=hl i x v hN e hv
 have fin:EP X pins σ Q u s:=⟨v,H,I,r,h⟩
 rcases l with ⟨hk,hm⟩ | ⟨hk,c,hc,hcell⟩
 ·exact wpAny_Name (wpAny_loadName_local I.ok.kind hk hn hm fin) hd
 ·rcases hk with hk | hk
  ·exact wpAny_Name (wpAny_loadName_cell I.ok.kind hk hc hcell fin) hd
  ·exact wpAny_Name (wpAny_loadName_free I.ok.kind hk hc hcell fin hcd) hd
theorem af {i j pos}:PE X (.Constant (.int i) j pos) (tC (.int i)):=λ _ _ _ H _ I h=>wpAny_Constant_int ⟨.int i,H,I.tok _,⟨_,rfl⟩,h⟩
theorem iQ {b j pos}:PE X (.Constant (.bool b) j pos) (tC (.bl b)):=λ _ _ _ H _ I h=>Constant_bool ⟨.bl b,H,I,rfl,h⟩
theorem fN {j pos}:PE X (.Constant .none j pos) (tC .non):=λ _ _ _ H _ I h=>Constant_none ⟨.non,H,I,rfl,h⟩
theorem aD {x j pos}:PE X (.Constant (.str x) j pos) (tC (.str x)):=λ _ _ _ H _ I h=>Calls.Constant_str ⟨.str x,H,I.tok _,⟨_,rfl⟩,h⟩
def Gl (X:Cx) (x:Str):Prop:=X.env.kindOf x=some .globalImplicit
theorem gI {E:Value->Shared->Prop} {pins:List (Addr×Obj)} {s:Shared} {σ:St} {H:Hp} {x:Str} {u:Value} {pos:Pos} {Q:Value->Shared->Prop} (I:Inv X pins σ H s) (hg:Gl X x) (hm:X.mg x=some u) (h:Q u s)
  (hd:(x==("__debug__":Str))=false:=by decide):wpAny (model X.prog X.w) X.A (eval (.Name x pos) X.env) Q E s:=
 Calls.Name_function_global I.ok.kind hg (Calls.loadGlobal_global (by rw [I.ok.glob];exact I.mod.glob.keeps I.bk) hm h) hd
theorem iE {E:Value->Shared->Prop} {pins:List (Addr×Obj)} {s:Shared} {σ:St} {H:Hp} {x:Str} {u:Value} {pos:Pos} {Q:Value->Shared->Prop} (I:Inv X pins σ H s) (hg:Gl X x) (hm:X.mg x=none) (hv:bootBuiltins x=some u) (h:Q u s)
  (hn:x≠"__name__":=by decide) (hd:(x==("__debug__":Str))=false:=by decide):wpAny (model X.prog X.w) X.A (eval (.Name x pos) X.env) Q E s:=by
 obtain ⟨mb,h1,h2⟩:=I.mod.blt
 exact Calls.Name_function_global I.ok.kind hg (Calls.loadGlobal_builtin (by rw [I.ok.glob];exact I.mod.glob.keeps I.bk) hm (by rw [I.ok.blt];exact h1.keeps I.bk) ((h2 x hn).trans hv) h) hd
theorem a9 {x:Str} {v:V} {u:Value} {pos:Pos} (hg:Gl X x) (hm:X.mg x=some u) (r:RelV v u) (hd:(x==("__debug__":Str))=false:=by decide):PE X (.Name x pos) (tC v):=
 λ _ _ _ H _ I h=>gI I hg hm ⟨v,H,I,r,h⟩ hd
theorem fB {x:Str} {v:V} {u:Value} {pos:Pos} (hg:Gl X x) (hm:X.mg x=none) (hv:bootBuiltins x=some u) (r:RelV v u) (hn:x≠"__name__":=by decide) (hd:(x==("__debug__":Str))=false:=by decide):PE X (.Name x pos) (tC v):=
 λ _ _ _ H _ I h=>iE I hg hm hv ⟨v,H,I,r,h⟩ hn hd
variable {a b:Expr} {ta tb:TE} {pos:Pos}
def tB (t:TE):TT:=λ σ H Q=>t σ H λ x H1=>∃ c,x=.bl c/\Q c H1
theorem bu {e:Expr} {t:TE} (h:PE X e t) (he:∀ whole,isTrue e X.env whole=(do let v <- whole;standAt e.pos;holding [v] (truthy v)):=by intro _;rfl):PT X e (tB t):=by
 intro pins s σ H Q I hw
 refine isTrue_plain (thn (h pins s σ H _ I hw) λ v s1 ⟨x,H1,I1,r1,q1⟩=>?_) (he _)
 obtain ⟨d,rfl,q⟩:=q1
 cases r1
 exact wpAny_truthy_bool ⟨H1,I1,q⟩
variable {tA tB':TT} {rest:List Expr}
def Ee (t u:TT):TT:=λ σ H Q=>t σ H λ c H1=>if c=true then u σ H1 Q else Q false H1
def tOr (t u:TT):TT:=λ σ H Q=>t σ H λ c H1=>if c=true then Q true H1 else u σ H1 Q
def Ei (t:TT):TT:=λ σ H Q=>t σ H λ c H1=>Q (!c) H1
theorem pw_and1 (ha:PT X a tA):PW X (.BoolOp .And [a] pos) tA:=by
 intro wh pins s σ H Q I h
 refine isTrue_and (thn (ha pins s σ H Q I h) λ c s1 e=>?_)
 cases c with
 | true=>exact isTrue_and_nil e
 | false=>exact e
theorem pw_or1 (ha:PT X a tA):PW X (.BoolOp .Or [a] pos) tA:=by
 intro wh pins s σ H Q I h
 refine isTrue_or (thn (ha pins s σ H Q I h) λ c s1 e=>?_)
 cases c with
 | false=>exact isTrue_or_nil e
 | true=>exact e
theorem pw_and (ha:PT X a tA) (hb:PW X (.BoolOp .And (b::rest) pos) tB'):PW X (.BoolOp .And (a::b::rest) pos) (Ee tA tB'):=by
 intro wh pins s σ H Q I h
 refine isTrue_and (thn (ha pins s σ H _ I h) λ c s1 ⟨H1,I1,q1⟩=>?_)
 cases c with
 | true=>exact hb wh pins s1 σ H1 Q I1 q1
 | false=>exact ⟨H1,I1,q1⟩
theorem pw_or (ha:PT X a tA) (hb:PW X (.BoolOp .Or (b::rest) pos) tB'):PW X (.BoolOp .Or (a::b::rest) pos) (tOr tA tB'):=by
 intro wh pins s σ H Q I h
 refine isTrue_or (thn (ha pins s σ H _ I h) λ c s1 ⟨H1,I1,q1⟩=>?_)
 cases c with
 | true=>exact ⟨H1,I1,q1⟩
 | false=>exact hb wh pins s1 σ H1 Q I1 q1
theorem bK (ha:PT X a tA):PT X (.UnaryOp .Not a pos) (Ei tA):=by
 intro pins s σ H Q I h
 exact isTrue_not (ha pins s σ H (λ c H1=>Q (!c) H1) I h)
def xA (ta tb:TE):TE:=λ σ H Q=>ta σ H λ x H1=>∃ c,x=.bl c/\if c=true then tb σ H1 Q else Q (.bl false) H1
def Er (ta tb:TE):TE:=λ σ H Q=>ta σ H λ x H1=>∃ c,x=.bl c/\if c=true then Q (.bl true) H1 else tb σ H1 Q
def AY (ta:TE):TE:=λ σ H Q=>ta σ H λ x H1=>∃ c,x=.bl c/\Q (.bl (!c)) H1
theorem kL {op} {t:TE} (h:PE X a t):PE X (.BoolOp op [a] pos) t:=λ pins s σ H Q I hw=>BoolOp_one (h pins s σ H Q I hw)
theorem jz (ha:PE X a ta) (hb:PE X (.BoolOp .And (b::rest) pos) tb):PE X (.BoolOp .And (a::b::rest) pos) (xA ta tb):=by
 intro pins s σ H Q I h
 refine BoolOp_and (thn (ha pins s σ H _ I h) λ v s1 ⟨x,H1,I1,r1,q1⟩=>?_)
 obtain ⟨c,rfl,q1⟩:=q1
 cases r1
 refine wpAny_truthy_bool ?_
 cases c with
 | true=>exact hb pins s1 σ H1 Q I1 q1
 | false=>exact ⟨.bl false,H1,I1,rfl,q1⟩
theorem AN (ha:PE X a ta) (hb:PE X (.BoolOp .Or (b::rest) pos) tb):PE X (.BoolOp .Or (a::b::rest) pos) (Er ta tb):=by
 intro pins s σ H Q I h
 refine BoolOp_or (thn (ha pins s σ H _ I h) λ v s1 ⟨x,H1,I1,r1,q1⟩=>?_)
 obtain ⟨c,rfl,q1⟩:=q1
 cases r1
 refine wpAny_truthy_bool ?_
 cases c with
 | false=>exact hb pins s1 σ H1 Q I1 q1
 | true=>exact ⟨.bl true,H1,I1,rfl,q1⟩
theorem wR (ha:PE X a ta):PE X (.UnaryOp .Not a pos) (AY ta):=by
 intro pins s σ H Q I h
 refine UnaryOp_ (thn (ha pins s σ H _ I h) λ v s1 ⟨x,H1,I1,r1,q1⟩=>?_)
 obtain ⟨c,rfl,q1⟩:=q1
 cases r1
 exact not_of (wpAny_truthy_bool ⟨.bl (!c),H1,I1,rfl,q1⟩)
def tIf (t:TT) (ta tb:TE):TE:=λ σ H Q=>t σ H λ c H1=>if c=true then ta σ H1 Q else tb σ H1 Q
theorem xj {c:Expr} (hc:PT X c tA) (ha:PE X a ta) (hb:PE X b tb):PE X (.IfExp c a b pos) (tIf tA ta tb):=by
 intro pins s σ H Q I h
 refine wpAny_IfExp (thn (hc pins s σ H _ I h) λ d s1 ⟨H1,I1,q1⟩=>?_)
 cases d with
 | true=>exact ha pins s1 σ H1 Q I1 q1
 | false=>exact hb pins s1 σ H1 Q I1 q1
end
def SqL (K:PySem.W.Frag) (H:Hp) (a:Addr) (xs:List V):Prop:=
 Rd H a (.lst xs) ∨
  ∃ (o:Obj) (its:Array Value) (n:Nat),K.lookup a=some o/\o.cls=.type "list"/\o.dict=none/\o.data=.seq its n/\its.size<=sizeLine/\Vals xs its.toList
def SqT (K:PySem.W.Frag) (H:Hp) (a:Addr) (xs:List V):Prop:=
 Rd H a (.tup xs) ∨
  ∃ (o:Obj) (its:Array Value) (n:Nat),K.lookup a=some o/\o.cls=.type "tuple"/\o.data=.seq its n/\its.size<=sizeLine/\Vals xs its.toList
def Fi:Value->Option V
 | .none=>some .non
 | .bool b=>some (.bl b)
 | .int i _=>some (.int i)
 | .str x _=>some (.str x)
 | .bytes b _=>some (.byt b)
 | .float b _=>some (.flt b)
 | .ref a=>some (.ref a)
 | .type n=>some (.ty n)
 | _=>none
theorem RelV.abs {x:V} {u:Value} (r:RelV x u):Fi u=some x:=by
 cases x with
 | non=>cases r;rfl
 | bl _=>cases r;rfl
 | int _=>obtain ⟨t,rfl⟩:=r;rfl
 | str _=>obtain ⟨t,rfl⟩:=r;rfl
 | byt _=>obtain ⟨t,rfl⟩:=r;rfl
 | flt _=>obtain ⟨t,rfl⟩:=r;rfl
 | ref _=>cases r;rfl
 | ty _=>cases r;rfl
theorem RelV.inj {x y:V} {u:Value} (r:RelV x u) (q:RelV y u):x=y:=Option.some.inj (r.abs.symm.trans q.abs)
theorem Vals.inj:∀ {xs ys:List V} {us:List Value},Vals xs us->Vals ys us->xs=ys
 | _,_,_,.nil,.nil=>rfl
 | _,_,_,.cons r t,.cons r' t'=>by rw [r.inj r',Vals.inj t t']
section
variable {X:Cx} {pins:List (Addr×Obj)} {σ:St} {H:Hp} {s:Shared} {a:Addr} {xs ys:List V}
theorem SqL.of {K:PySem.W.Frag} (h:H a=some (.lst xs)):SqL K H a xs:=.inl (.inl h)
theorem SqT.of {K:PySem.W.Frag} (h:H a=some (.tup xs)):SqT K H a xs:=.inl (.inl h)
theorem Inv.list (I:Inv X pins σ H s) (h:SqL X.K H a xs):∃ its:List Value,Vals xs its/\PlainL s.heap a its.toArray/\xs.length<=sizeLine:=by
 rcases h with h | ⟨o,its,n,hk,hc,hd,hs,hz,r⟩
 ·obtain ⟨z,its,n,r,e⟩:=h.ok I.hok
  exact ⟨its,r,⟨_,n,e,rfl,rfl,rfl⟩,z⟩
 ·refine ⟨its.toList,r,⟨o,n,I.kIn a o hk,hc,hd,by simpa using hs⟩,?_⟩
  have e:=r.length
  simp only [Array.length_toList] at e
  omega
theorem Inv.tuple (I:Inv X pins σ H s) (h:SqT X.K H a xs):∃ its:List Value,Vals xs its/\IsTup s.heap a its.toArray/\xs.length<=sizeLine:=by
 rcases h with h | ⟨o,its,n,hk,hc,hs,hz,r⟩
 ·obtain ⟨z,its,r,p⟩:=h.ok I.hok
  exact ⟨its,r,p,z⟩
 ·refine ⟨its.toList,r,⟨o,I.kIn a o hk,hc,n,by simpa using hs⟩,?_⟩
  have e:=r.length
  simp only [Array.length_toList] at e
  omega
theorem Inv.jX (I:Inv X pins σ H s) (h:SqL X.K H a xs) (h':SqL X.K H a ys):xs=ys:=by
 obtain ⟨its,r,⟨o,n,e,_,_,d⟩,_⟩:=I.list h
 obtain ⟨its',r',⟨o',n',e',_,_,d'⟩,_⟩:=I.list h'
 rw [e] at e';cases e'
 rw [d] at d'
 injection d' with d1 _
 have:its=its':=by simpa using congrArg Array.toList d1
 subst this
 exact r.inj r'
theorem Inv.vQ (I:Inv X pins σ H s) (h:SqT X.K H a xs) (h':SqT X.K H a ys):xs=ys:=by
 obtain ⟨its,r,⟨o,e,_,n,d⟩,_⟩:=I.tuple h
 obtain ⟨its',r',⟨o',e',_,n',d'⟩,_⟩:=I.tuple h'
 rw [e] at e';cases e'
 rw [d] at d'
 injection d' with d1 _
 have:its=its':=by simpa using congrArg Array.toList d1
 subst this
 exact r.inj r'
end
abbrev Cx.oB (X:Cx) (E:Value->Shared->Prop):Cx:={ X with xe:=E }
abbrev Cx.nox (X:Cx):Cx:=X.oB λ _ _=>False
theorem Cx.Ok.oB {X:Cx} (ok:X.Ok) (E:Value->Shared->Prop):(X.oB E).Ok:=
 ⟨ok.mod,ok.kind,ok.glob,ok.blt,ok.above,ok.inj,ok.has,ok.cab,ok.hd,ok.frames,ok.stk,ok.exf,ok.bs,ok.bsz,ok.mQ,ok.uf,ok.jx,ok.frf⟩
theorem Cx.Ok.iM {X:Cx} {E:Value->Shared->Prop} (ok:(X.oB E).Ok):X.Ok:=
 ⟨ok.mod,ok.kind,ok.glob,ok.blt,ok.above,ok.inj,ok.has,ok.cab,ok.hd,ok.frames,ok.stk,ok.exf,ok.bs,ok.bsz,ok.mQ,ok.uf,ok.jx,ok.frf⟩
section
variable {X:Cx} {pins:List (Addr×Obj)} {σ:St} {H:Hp} {s:Shared} {E:Value->Shared->Prop}
theorem Inv.oB (I:Inv X pins σ H s) (E:Value->Shared->Prop):Inv (X.oB E) pins σ H s:=⟨I.ok.oB E,I.os,I.bare,I.base,I.loc,I.cell,I.free,I.cH,I.pin,I.hok,I.len⟩
theorem Inv.iM (I:Inv (X.oB E) pins σ H s):Inv X pins σ H s:=⟨I.ok.iM,I.os,I.bare,I.base,I.loc,I.cell,I.free,I.cH,I.pin,I.hok,I.len⟩
theorem SP.iM {D:Ends} {f:Flow} {s':Shared} (h:SP (X.oB E) pins D f s'):SP X pins D f s':=by
 cases f with
 | next=>obtain ⟨σ',H',I,q⟩:=h;exact ⟨σ',H',I.iM,q⟩
 | brk=>obtain ⟨σ',H',I,q⟩:=h;exact ⟨σ',H',I.iM,q⟩
 | cont=>obtain ⟨σ',H',I,q⟩:=h;exact ⟨σ',H',I.iM,q⟩
 | ret u=>obtain ⟨v,σ',H',I,r,q⟩:=h;exact ⟨v,σ',H',I.iM,r,q⟩
theorem PSs.nox {st:List Stmt} {t:TS} (h:PSs X.nox st t):PSs X st t:=λ pins s σ H D I hw=>
 wpAny_mono (h pins s σ H D (I.oB _) hw) (λ _ _ q=>q.iM) λ _ _ z=>False.elim z
end
section
variable {X:Cx} {st:Stmt} {rest:List Stmt} {t u:TS} {e:Expr} {te:TE} {pos:Pos}
def AU:TS:=λ D σ H=>D.nx σ H
def wG (t u:TS):TS:=λ D σ H=>t { D with nx:=u D } σ H
theorem aE:PSs X [] AU:=λ _ _ σ H _ I h=>wpAny_execs_nil ⟨σ,H,I,h⟩
theorem ah (h1:PS X st t) (h2:PSs X rest u):PSs X (st::rest) (wG t u):=by
 intro pins s σ H D I h
 refine wpAny_execs_cons (thn (h1 pins s σ H { D with nx:=u D } I h) λ f s1 q=>?_)
 cases f with
 | next=>
  obtain ⟨σ',H',I',q⟩:=q
  exact h2 pins s1 σ' H' D I' q
 | ret v=>exact q
 | brk=>exact q
 | cont=>exact q
theorem aj (h1:PS X st t):PSs X [st] t:=by
 intro pins s σ H D I h
 refine wpAny_execs_cons (thn (h1 pins s σ H D I h) λ f s1 q=>?_)
 cases f with
 | next=>exact wpAny_execs_nil q
 | ret v=>exact q
 | brk=>exact q
 | cont=>exact q
theorem Inv.quiet {pins:List (Addr×Obj)} {σ:St} {H:Hp} {s:Shared} (I:Inv X pins σ H s):interactive X.env=false:=by simp [interactive,I.ok.kind]
def AX (te:TE):TS:=λ D σ H=>te σ H λ _ H1=>D.nx σ H1
theorem bj (he:PE X e te) (hs:swapsWith e none pos.line X.env=pure false:=by rfl):PS X (.Expr e pos) (AX te):=by
 intro pins s σ H D I h
 exact wpAny_Expr_any (thn (he pins s σ H _ I h) λ v s1 ⟨x,H1,I1,r1,q1⟩=>⟨σ,H1,I1,q1⟩) I.quiet hs
def zA (te:TE):TS:=λ D σ H=>te σ H D.rt
theorem aN (he:PE X e te):PS X (.Return (some e) pos) (zA te):=by
 intro pins s σ H D I h
 exact wpAny_Return_some (thn (he pins s σ H _ I h) λ v s1 ⟨x,H1,I1,r1,q1⟩=>⟨x,σ,H1,I1,r1,q1⟩)
def CL (c:TT) (t u:TS):TS:=λ D σ H=>c σ H λ b H1=>if b=true then t D σ H1 else u D σ H1
theorem aY {c:Expr} {a b:List Stmt} {tc:TT} (hc:PT X c tc) (ha:PSs X a t) (hb:PSs X b u):PS X (.If c a b pos) (CL tc t u):=by
 intro pins s σ H D I h
 refine wpAny_If (thn (hc pins s σ H _ I h) λ d s1 ⟨H1,I1,q1⟩=>?_)
 cases d with
 | true=>exact ha pins s1 σ H1 D I1 q1
 | false=>exact hb pins s1 σ H1 D I1 q1
end
abbrev TG:=V->St->Hp->(St->Hp->Prop)->Prop
abbrev TGs:=List V->St->Hp->(St->Hp->Prop)->Prop
def PG (X:Cx) (target:Expr) (t:TG):Prop:=
 ∀ (pins:List (Addr×Obj)) (s:Shared) (σ:St) (H:Hp) (v:V) (u:Value) (Q:St->Hp->Prop),Inv X pins σ H s->RelV v u->t v σ H Q ->
  wpAny (model X.prog X.w) X.A (assign target X.env u) (λ _ s'=>∃ σ' H',Inv X pins σ' H' s'/\Q σ' H') X.xe s
def PGs (X:Cx) (ts:List Expr) (t:TGs):Prop:=
 ∀ (pins:List (Addr×Obj)) (s:Shared) (σ:St) (H:Hp) (vs:List V) (us:List Value) (Q:St->Hp->Prop),Inv X pins σ H s->Vals vs us->t vs σ H Q ->
  wpAny (model X.prog X.w) X.A (assignInOrder ((assignEach ts X.env).map (·.2)) us) (λ _ s'=>∃ σ' H',Inv X pins σ' H' s'/\Q σ' H') X.xe s
abbrev zq:=V->V->V->Hp->(Hp->Prop)->Prop
def DQ (X:Cx) (t:zq):Prop:=
 ∀ (pins:List (Addr×Obj)) (s:Shared) (σ:St) (H:Hp) (o i v:V) (ov iv u:Value) (Q:Hp->Prop),Inv X pins σ H s->RelV o ov->RelV i iv->RelV v u->t o i v H Q ->
  wpAny (model X.prog X.w) X.A (setItem ov iv u) (λ _ s'=>∃ H',Inv X pins σ H' s'/\Q H') X.xe s
section
variable {X:Cx} {pos:Pos}
def dD (i:Nat):TG:=λ v σ H Q=>Q (σ.set i (some v)) H
theorem aA {i:Nat} {x:Str} (hN:X.N.Nodup) (hi:X.N[i]?=some x) (hx:Loc X.env.scope x) (hf:X.fn x=true∨X.env.scope.names.lookup x=some .local:=by first | exact .inl rfl | exact .inr rfl | assumption):PG X (.Name x pos) (dD i):=by
 intro pins s σ H v u Q I r h
 exact wpAny_assign_Name (ni I hN hi hx r (λ s' I'=>⟨_,H,I',h⟩) hf)
def Ff:TGs:=λ vs σ H Q=>vs=[]/\Q σ H
def yg (t:TG) (u:TGs):TGs:=λ vs σ H Q=>∃ v r,vs=v::r/\t v σ H λ σ' H'=>u r σ' H' Q
theorem fE:PGs X [] Ff:=by
 intro pins s σ H vs us Q I r h
 obtain ⟨e,h⟩:=h
 subst e
 cases r
 exact assignInOrder_nil ⟨σ,H,I,h⟩
theorem bf {e:Expr} {es:List Expr} {t:TG} {u:TGs} (h1:PG X e t) (h2:PGs X es u)
  (hs:(assignEach (e::es) X.env).map (·.2)=assign e X.env::(assignEach es X.env).map (·.2):=by rfl):PGs X (e::es) (yg t u):=by
 intro pins s σ H vs us Q I r h
 obtain ⟨v,vr,e1,h⟩:=h
 subst e1
 cases r with
 | cons r rr=>
  rw [hs]
  refine assignInOrder_cons (thn (h1 pins s σ H _ _ _ I r h) λ _ s1 ⟨σ1,H1,I1,q1⟩=>?_)
  exact h2 pins s1 σ1 H1 _ _ Q I1 rr q1
def zI (K:PySem.W.Frag) (n:Nat) (t:TGs):TG:=λ v σ H Q=>∃ a xs,v=.ref a/\SqT K H a xs/\xs.length=n/\t xs σ H Q
theorem lg {es:List Expr} {k:Nat} {t:TGs} {n:Nat} (hc:X.calm=true) (h:PGs X es t)
  (hn:(assignEach es X.env).length=n:=by rfl) (hst:(assignEach es X.env).findIdx? (·.1)=none:=by rfl):PG X (.Tuple es k pos) (zI X.K n t):=by
 intro pins s σ H v u Q I r hw
 obtain ⟨a,xs,e1,hq,hl,hw⟩:=hw
 subst e1
 cases r
 obtain ⟨its,rv,ht,hz⟩:=I.tuple hq
 refine assign_Tuple_tuple (I.ok.hd hc) ht (by simp [hn,<- hl,rv.length]) hst λ h' hx=>?_
 have I1:Inv X pins σ H { s with heap:=h' }:=I.kept (t':=s.toks) λ b o e=>hx b o (Nat.ne_of_lt (Heap.lt_size e)) e
 exact h pins _ σ H xs _ Q I1 (by simpa using rv) hw
def DS (to ti:TE) (t:zq):TG:=λ v σ H Q=>to σ H λ o H1=>ti σ H1 λ i H2=>t o i v H2 λ H3=>Q σ H3
theorem Dj {o i:Expr} {to ti:TE} {t:zq} (ho:PE X o to) (hi:PE X i ti) (hs:DQ X t)
  (ha:∀ v,assign (.Subscript o i pos) X.env v=(do
   let ov <- holding [v] (eval o X.env)
   let iv <- holding [v,ov] (eval i X.env)
   standAt pos
   holding [v,ov,iv] (setItem ov iv v)
   release [v,ov,iv] []):=by intro _;rfl):PG X (.Subscript o i pos) (DS to ti t):=by
 intro pins s σ H v u Q I r h
 rw [ha]
 refine wpAny_bind (wpAny_holding (thn (ho pins s σ H _ I h) λ ov s1 ⟨x,H1,I1,r1,q1⟩=>?_))
 refine wpAny_bind (wpAny_holding (thn (hi pins s1 σ H1 _ I1 q1) λ iv s2 ⟨y,H2,I2,r2,q2⟩=>?_))
 refine wpAny_bind (wpAny_standAt (wpAny_bind (wpAny_holding (thn (hs pins s2 σ H2 x y v ov iv u _ I2 r1 r2 r q2) λ _ s3 ⟨H3,I3,q3⟩=>?_))))
 exact wpAny_release ⟨σ,H3,I3,q3⟩
def wX (te:TE) (g:TG):TS:=λ D σ H=>te σ H λ x H1=>g x σ H1 D.nx
theorem uc {tg e:Expr} {te:TE} {g:TG} (he:PE X e te) (hg:PG X tg g) (hs:swapsWithSole [tg] e pos.line X.env=pure false:=by rfl) (hw:swappedStores [tg] e X.env=pure none:=by rfl)
  (h1:(assignEach [tg] X.env).map (·.2)=[assign tg X.env]:=by rfl):PS X (.Assign [tg] e pos) (wX te g):=by
 intro pins s σ H D I h
 refine wpAny_Assign_stores (thn (he pins s σ H _ I h) λ v s1 ⟨x,H1,I1,r1,q1⟩=>?_) hs hw
 rw [h1]
 exact thn (hg pins s1 σ H1 x v _ I1 r1 q1) λ _ s2 q=>q
theorem ay {i:Nat} {x:Str} {e:Expr} {te:TE} {pos':Pos} (hN:X.N.Nodup) (hi:X.N[i]?=some x) (hx:Loc X.env.scope x) (he:PE X e te) (hs:swapsWith e (some (.Name x pos')) pos.line X.env=pure false:=by rfl) (hf:X.fn x=true∨X.env.scope.names.lookup x=some .local:=by first | exact .inl rfl | exact .inr rfl | assumption):
  PS X (.Assign [.Name x pos'] e pos) (wX te (dD i)):=by
 intro pins s σ H D I h
 refine wpAny_Assign_Name (thn (he pins s σ H _ I h) λ v s1 ⟨y,H1,I1,r1,q1⟩=>?_) hs
 exact ni I1 hN hi hx r1 (λ s2 I2=>⟨_,H1,I2,q1⟩) hf
end
section
variable {X:Cx} {pos:Pos}
end
structure It where
 go:Nat->Hp->Prop
 yld:Nat->Hp->V->Hp->Prop
 stop:Nat->Hp->Prop
def iA (X:Cx) (pins:List (Addr×Obj)) (H:Hp) (b:Addr):Prop:=
 H b=none/\b≠X.env.locals/\b ∉ X.fs/\(b∈X.ex∨X.s₀.heap.objs.size<=b)/\(∀ x c,X.env.cells.lookup x=some c->c≠b)/\∀ p∈X.pn++pins,p.1≠b
theorem Inv.oH {X:Cx} {pins:List (Addr×Obj)} {σ:St} {H H':Hp} {s:Shared} {b:Addr} (I:Inv X pins σ H s) (hb:s.heap.objs.size<=b) (hn:H' b=none):iA X pins H' b:=by
 refine ⟨hn,Nat.ne_of_gt (Nat.lt_of_lt_of_le I.lt hb),I.FL hb,.inr (Nat.le_trans I.sz hb),λ x c e z=>?_,λ p hp z=>?_⟩
 ·obtain ⟨v,q⟩:=I.cell x c e
  exact absurd (Nat.lt_of_lt_of_le q.lt (by rw [z];exact hb)) (Nat.lt_irrefl _)
 ·exact absurd (Nat.lt_of_lt_of_le (Heap.lt_size (I.pin p hp).1) (by rw [z];exact hb)) (Nat.lt_irrefl _)
structure Turn (P:Program) (w:World) (K:PySem.W.Frag) (tg:Expr) (J:It) (fp:List Addr) (it:Addr) (tn:Nat->Heap->Prop):Prop where
 mem:it∈fp
 obj:∀ i h,tn i h->∀ b∈fp,∃ o,h.get? b=some o/\∀ v,o.data≠.cell v
 keep:∀ i h h',tn i h->(∀ b∈fp,∀ o,h.get? b=some o->h'.get? b=some o)->tn i h'
 item:∀ (X:Cx),X.prog=P->X.w=w->X.K=K->X.calm=true->∀ (i:Nat) (pins:List (Addr×Obj)) (s:Shared) (σ:St) (H:Hp) (E:Value->Shared->Prop),Inv X pins σ H s->(∀ b∈fp,iA X pins H b)->tn i s.heap->J.go i H ->
  wpAny (model P w) X.A (pyNext (.ref it)) (λ r s1=>∃ u,r=some u /\
   wpAny (model P w) X.A (letOwnedTupleGo tg (.ref it) u) (λ _ s2=>∃ x H',Inv X pins σ H' s2/\RelV x u/\J.yld i H x H'/\tn (i+1) s2.heap/\∀ b∈fp,H' b=none) E s1) E s
 done:∀ (X:Cx),X.prog=P->X.w=w->X.K=K->X.calm=true->∀ (i:Nat) (pins:List (Addr×Obj)) (s:Shared) (σ:St) (H:Hp) (E:Value->Shared->Prop),Inv X pins σ H s->(∀ b∈fp,iA X pins H b)->tn i s.heap->J.stop i H ->
  wpAny (model P w) X.A (pyNext (.ref it)) (λ r s1=>r=none/\Inv X pins σ H s1) E s
 self:∀ (A:Around) (i:Nat) (s:Shared) (Q:Value->Shared->Prop) (E:Value->Shared->Prop),tn i s.heap->Q (.ref it) s->wpAny (model P w) A (pyIter (.ref it)) Q E s
abbrev TI:=St->Hp->(It->Hp->Prop)->Prop
def PIE (X:Cx) (pins:List (Addr×Obj)) (σ:St) (tg:Expr) (R:It->Hp->Prop) (itv:Value) (s2:Shared):Prop:=
 ∃ (it:Addr) (fp:List Addr) (tn:Nat->Heap->Prop) (J:It) (H':Hp),itv=.ref it/\Inv X pins σ H' s2/\Turn X.prog X.w X.K tg J fp it tn/\tn 0 s2.heap/\(∀ b∈fp,iA X pins H' b)/\R J H'
def PI (X:Cx) (tg iter:Expr) (wi:TI):Prop:=
 ∀ (pins:List (Addr×Obj)) (s:Shared) (σ:St) (H:Hp) (R:It->Hp->Prop),Inv X pins σ H s->wi σ H R ->
  wpAny (model X.prog X.w) X.A (eval iter X.env) (λ v s1=>wpAny (model X.prog X.w) X.A (pyIter v) (PIE X pins σ tg R) X.xe s1) X.xe s
theorem rh {M:Model} {A:Around} {E:Value->Shared->Prop} {s:Shared} {tg:Expr} {it:Addr} {u:Value} {o:Obj} {n:String} {vs:Array Value} {Q:Unit->Shared->Prop} (ho:s.heap.get? it=some o) (hc:o.cls=.type n) (hd:o.data=.fields vs)
  (hn:["enumerate","zip","dict_itemiterator","dict_reverseitemiterator","odict_iterator","itertools.zip_longest","itertools.pairwise"].contains n=false) (hQ:Q () s):wpAny M A (letOwnedTupleGo tg (.ref it) u) Q E s:=by
 unfold letOwnedTupleGo
 cases tg <;> first
  | exact wpAny_pure hQ
  | (cases u <;> first
    | exact wpAny_pure hQ
    | (refine wpAny_bind (wpAny_load ho ?_);rw [hc,hd];show wpAny M A (if (["enumerate","zip","dict_itemiterator","dict_reverseitemiterator","odict_iterator","itertools.zip_longest","itertools.pairwise"].contains n&&vs[0]? == some (rawInt _))=true then _ else _) Q E s;rw [if_neg (by intro h;rw [hn,Bool.false_and] at h;cases h)];exact wpAny_pure hQ))
def Itl (K:PySem.W.Frag) (a:Addr):It:=
 ⟨λ i H=>∃ xs x,SqL K H a xs/\xs[i]?=some x,λ i H x H'=>H'=H/\∀ xs,SqL K H a xs->xs[i]?=some x,λ i H=>∃ xs,SqL K H a xs/\xs.length<=i⟩
def Itt (K:PySem.W.Frag) (a:Addr):It:=
 ⟨λ i H=>∃ xs x,SqT K H a xs/\xs[i]?=some x,λ i H x H'=>H'=H/\∀ xs,SqT K H a xs->xs[i]?=some x,λ i H=>∃ xs,SqT K H a xs/\xs.length<=i⟩
def Itr (lo:Int) (n:Nat):It:=⟨λ i _=>i<n,λ i H x H'=>H'=H/\x=.int (lo+i),λ i _=>n<=i⟩
theorem vL {P:Program} {w:World} {K:PySem.W.Frag} {tg:Expr} (a it:Addr):Turn P w K tg (Itl K a) [it] it (λ i h=>h.IsListIter it a i) where
 mem:=by simp
 obj:=λ i h st b hb=>by
  have e:b=it:=by simpa using hb
  subst e
  obtain ⟨o,e,c,d⟩:=st
  exact ⟨o,e,λ v z=>by rw [d] at z;cases z⟩
 keep:=λ i h h' st k=>st.at λ o e=>k it (by simp) o e
 item:=by
  intro X hP hw hK hc i pins s σ H E I hf st hg
  subst hP hw hK
  obtain ⟨xs,x,hq,hx⟩:=hg
  obtain ⟨its,rv,p,hz⟩:=I.list hq
  obtain ⟨u,hu,ru⟩:=rv.get hx
  obtain ⟨f0,f1,f2,f3,f4,f5⟩:=hf it (by simp)
  refine wpAny_pyNext_list_item st p.isList (x:=u) (by simpa using hu) λ h' st' sb=>?_
  have I1:Inv X pins σ H { s with heap:=h' }:=I.turned (t':=s.toks) (λ b o hb e=>(sb.2 b hb).trans e) f0 f1 f3 f4 f5
  obtain ⟨o,e,c,d⟩:=id st'
  exact ⟨u,rfl,rh (s:={ s with heap:=h' }) e c d (by decide) ⟨x,H,I1,ru,⟨rfl,λ ys hy=>by rw [I.jX hy hq];exact hx⟩,st',λ b hb=>(hf b hb).1⟩⟩
 done:=by
  intro X hP hw hK hc i pins s σ H E I hf st hg
  subst hP hw hK
  obtain ⟨xs,hq,hx⟩:=hg
  obtain ⟨its,rv,p,hz⟩:=I.list hq
  obtain ⟨f0,f1,f2,f3,f4,f5⟩:=hf it (by simp)
  have hl:=rv.length
  exact wpAny_pyNext_list_end (I.ok.hd hc) st p.isList (by simp;omega) λ h' eb=>⟨rfl,I.turned (t':=s.toks) (λ b o hb e=>eb b o hb e) f0 f1 f3 f4 f5⟩
 self:=λ _ _ _ _ _ st h=>wpAny_pyIter_listiter st h
theorem ux {P:Program} {w:World} {K:PySem.W.Frag} {tg:Expr} (a it:Addr):Turn P w K tg (Itt K a) [it] it (λ i h=>h.IsTupleIter it a i) where
 mem:=by simp
 obj:=λ i h st b hb=>by
  have e:b=it:=by simpa using hb
  subst e
  obtain ⟨o,e,c,d⟩:=st
  exact ⟨o,e,λ v z=>by rw [d] at z;cases z⟩
 keep:=λ i h h' st k=>st.at λ o e=>k it (by simp) o e
 item:=by
  intro X hP hw hK hc i pins s σ H E I hf st hg
  subst hP hw hK
  obtain ⟨xs,x,hq,hx⟩:=hg
  obtain ⟨its,rv,p,hz⟩:=I.tuple hq
  obtain ⟨u,hu,ru⟩:=rv.get hx
  obtain ⟨f0,f1,f2,f3,f4,f5⟩:=hf it (by simp)
  refine wpAny_pyNext_tuple_item st (show s.heap.IsTuple a its.toArray from p) (x:=u) (by simpa using hu) λ h' st' sb=>?_
  have I1:Inv X pins σ H { s with heap:=h' }:=I.turned (t':=s.toks) (λ b o hb e=>(sb.2 b hb).trans e) f0 f1 f3 f4 f5
  obtain ⟨o,e,c,d⟩:=id st'
  exact ⟨u,rfl,rh (s:={ s with heap:=h' }) e c d (by decide) ⟨x,H,I1,ru,⟨rfl,λ ys hy=>by rw [I.vQ hy hq];exact hx⟩,st',λ b hb=>(hf b hb).1⟩⟩
 done:=by
  intro X hP hw hK hc i pins s σ H E I hf st hg
  subst hP hw hK
  obtain ⟨xs,hq,hx⟩:=hg
  obtain ⟨its,rv,p,hz⟩:=I.tuple hq
  obtain ⟨f0,f1,f2,f3,f4,f5⟩:=hf it (by simp)
  have hl:=rv.length
  exact wpAny_pyNext_tuple_end (I.ok.hd hc) st (show s.heap.IsTuple a its.toArray from p) (by simp;omega) λ h' eb=>⟨rfl,I.turned (t':=s.toks) (λ b o hb e=>eb b o hb e) f0 f1 f3 f4 f5⟩
 self:=λ _ _ _ _ _ st h=>wpAny_pyIter_tupleiter st h
theorem ud {P:Program} {w:World} {K:PySem.W.Frag} {tg:Expr} (it:Addr) (lo:Int) (n:Nat):Turn P w K tg (Itr lo n) [it] it (λ i h=>IsRangeIter h it (lo+(i:Nat) * 1) ((n:Int) - (i:Nat)) 1) where
 mem:=by simp
 obj:=λ i h st b hb=>by
  have e:b=it:=by simpa using hb
  subst e
  exact ⟨_,st,λ v z=>by
   have z':Data.fields _=Data.cell v:=z
   cases z'⟩
 keep:=λ i h h' st k=>k it (by simp) _ st
 item:=by
  intro X hP hw hK hc i pins s σ H E I hf st hg
  subst hP hw hK
  obtain ⟨f0,f1,f2,f3,f4,f5⟩:=hf it (by simp)
  have W:=Walks.range (prog:=X.prog) (w:=X.w) (I.ok.hd hc) it lo 1 n
  refine W.item i s _ _ hg st λ v h' tk hv st' kk=>?_
  obtain ⟨t,rfl⟩:=hv
  have I1:Inv X pins σ H { s with heap:=h',toks:=tk }:=I.turned (λ b o hb e=>kk b o (by simpa using hb) e) f0 f1 f3 f4 f5
  refine ⟨_,rfl,rh (s:={ s with heap:=h',toks:=tk }) (n:="range_iterator") st' rfl rfl (by decide) ⟨.int (lo+i),H,I1,⟨t,?_⟩,⟨rfl,rfl⟩,st',λ b hb=>(hf b hb).1⟩⟩
  rw [Int.mul_one]
 done:=by
  intro X hP hw hK hc i pins s σ H E I hf st hg
  subst hP hw hK
  obtain ⟨f0,f1,f2,f3,f4,f5⟩:=hf it (by simp)
  exact wpAny_pyNext_range_end (I.ok.hd hc) st (by have:n<=i:=hg;omega) λ h' eb=>⟨rfl,I.turned (t':=s.toks) (λ b o hb e=>eb b o hb e) f0 f1 f3 f4 f5⟩
 self:=λ _ _ _ _ _ st h=>wpAny_pyIter_rangeiter st h
section
variable {X:Cx} {tg:Expr}
def xB (K:PySem.W.Frag) (tl:TE):TI:=λ σ H R=>tl σ H λ x H1=>∃ a,x=.ref a/\(∃ xs,SqL K H1 a xs)/\R (Itl K a) H1
def Ed (K:PySem.W.Frag) (tl:TE):TI:=λ σ H R=>tl σ H λ x H1=>∃ a,x=.ref a/\(∃ xs,SqT K H1 a xs)/\R (Itt K a) H1
theorem bx {l:Expr} {tl:TE} (hl:PE X l tl):PI X tg l (xB X.K tl):=by
 intro pins s σ H R I h
 refine thn (hl pins s σ H _ I h) λ v s1 ⟨x,H1,I1,r1,q1⟩=>?_
 obtain ⟨a,e,⟨xs,hq⟩,q⟩:=q1
 subst e
 cases r1
 obtain ⟨its,rv,p,hz⟩:=I1.list hq
 refine wpAny_pyIter_list p.isList ?_
 refine ⟨s1.heap.objs.size,[s1.heap.objs.size],_,_,H1,rfl,I1.kept (t':=s1.toks) λ b o e=>Heap.get?_push_of_some _ e,vL a _,⟨_,Heap.get?_push_size _ rfl,rfl,rfl⟩,λ b hb=>?_,q⟩
 have e:b=s1.heap.objs.size:=by simpa using hb
 subst e
 exact I1.oH (Nat.le_refl _) (I1.hok.fresh (Nat.le_refl _))
theorem tR {l:Expr} {tl:TE} (hl:PE X l tl):PI X tg l (Ed X.K tl):=by
 intro pins s σ H R I h
 refine thn (hl pins s σ H _ I h) λ v s1 ⟨x,H1,I1,r1,q1⟩=>?_
 obtain ⟨a,e,⟨xs,hq⟩,q⟩:=q1
 subst e
 cases r1
 obtain ⟨its,rv,p,hz⟩:=I1.tuple hq
 refine wpAny_pyIter_tuple (show s1.heap.IsTuple a its.toArray from p) ?_
 refine ⟨s1.heap.objs.size,[s1.heap.objs.size],_,_,H1,rfl,I1.kept (t':=s1.toks) λ b o e=>Heap.get?_push_of_some _ e,ux a _,⟨_,Heap.get?_push_size _ rfl,rfl,rfl⟩,λ b hb=>?_,q⟩
 have e:b=s1.heap.objs.size:=by simpa using hb
 subst e
 exact I1.oH (Nat.le_refl _) (I1.hok.fresh (Nat.le_refl _))
theorem yC {pins:List (Addr×Obj)} {σ:St} {H:Hp} {s:Shared} {R:It->Hp->Prop} {E:Value->Shared->Prop} {lo hi:Int} {t u v:Tok} {tk:Nat} (I:Inv X pins σ H s) (h1:-(2 ^ 62)<=lo) (h2:lo<2 ^ 62) (h3:-(2 ^ 62)<=hi) (h4:hi<2 ^ 62)
  (q:R (Itr lo (hi - lo).toNat) H):wpAny (model X.prog X.w) X.A (pyIter (.ref s.heap.objs.size)) (PIE X pins σ tg R) E { s with heap:=s.heap.push { cls:=.type "range",data:=.fields #[.int lo t,.int hi u,.int 1 v] },toks:=tk }:=by
 refine wpAny_pyIter_range (IsRange.new ..) (small_one h1 h2 h3 h4) ?_
 have I1:Inv X pins σ H { s with heap:=s.heap.push { cls:=.type "range",data:=.fields #[.int lo t,.int hi u,.int 1 v] },toks:=tk }:=I.kept λ b o e=>Heap.get?_push_of_some _ e
 refine ⟨(s.heap.push { cls:=.type "range",data:=.fields #[.int lo t,.int hi u,.int 1 v] }).objs.size,[(s.heap.push { cls:=.type "range",data:=.fields #[.int lo t,.int hi u,.int 1 v] }).objs.size],_,_,H,rfl,
  I1.kept (t':=tk) λ b o e=>Heap.get?_push_of_some _ e,ud _ lo (hi - lo).toNat,?_,λ b hb=>?_,q⟩
 ·have e1:lo+((0:Nat):Int) * 1=lo:=by simp
  have e2:(((hi - lo).toNat:Nat):Int) - ((0:Nat):Int)=Builtin.Range.rangeSize lo hi 1:=by rw [rangeSize_one];split <;> omega
  show IsRangeIter _ _ (lo+((0:Nat):Int) * 1) ((((hi - lo).toNat:Nat):Int) - ((0:Nat):Int)) 1
  rw [e1,e2]
  exact Heap.get?_push_size _ rfl
 ·have e:b=(s.heap.push { cls:=.type "range",data:=.fields #[.int lo t,.int hi u,.int 1 v] }).objs.size:=by simpa using hb
  subst e
  exact I1.oH (Nat.le_refl _) (I1.hok.fresh (Nat.le_refl _))
def AK (ta:TA):TI:=λ σ H R=>ta σ H λ vs H1=>∃ j:Int,vs=[.int j]/\-(2 ^ 62)<=j/\j<2 ^ 62/\R (Itr 0 j.toNat) H1
theorem gg {a:Expr} {ta:TA} {p pos:Pos} (hg:Gl X "range") (hm:X.mg "range"=none) (ha:PA X [a] ta) (hs:starEach [a] X.env=[(false,eval a X.env)]:=by rfl):PI X tg (.Call (.Name "range" p) [a] [] pos) (AK ta):=by
 intro pins s σ H R I h
 refine Call_ (iE I hg hm boot_range (PyProof.Rows.callWith_type1 (thn (ha pos pins s σ H _ I h) λ us s1 ⟨vs,H1,I1,r1,q1⟩=>?_) hs rfl))
 obtain ⟨j,e,q1,q2,q⟩:=q1
 subst e
 cases r1 with
 | cons r rr=>
  cases rr
  obtain ⟨t,rfl⟩:=r
  exact call_range_1 (yC I1 (by omega) (by omega) q1 q2 (by simpa using q))
def Fg (wi:TI) (g:TG) (tb:TS):TS:=λ D σ H=>wi σ H λ J H1=>∃ W:Nat->Nat->St->Hp->Prop,(∃ m,W 0 m σ H1)/\∀ i m σ H,W i m σ H ->
 (J.stop i H/\D.nx σ H)∨(J.go i H/\∃ N:St->Hp->Prop,(∀ σ' H',N σ' H'->∃ m',m'<m/\W (i+1) m' σ' H')/\∀ x H',J.yld i H x H'->g x σ H' λ σ2 H2=>tb { D with nx:=N,ct:=N,bk:=D.nx } σ2 H2)
def iF (fp:List Addr) (h:Heap):List (Addr×Obj):=fp.filterMap λ b=>(h.get? b).map λ o=>(b,o)
theorem bE {fp:List Addr} {h:Heap} {b:Addr} {o:Obj} (hb:b∈fp) (e:h.get? b=some o):(b,o)∈iF fp h:=List.mem_filterMap.mpr ⟨b,hb,by rw [e];rfl⟩
theorem vV {fp:List Addr} {h:Heap} {p:Addr×Obj} (hp:p∈iF fp h):p.1∈fp/\h.get? p.1=some p.2:=by
 obtain ⟨b,hb,e⟩:=List.mem_filterMap.mp hp
 cases q:h.get? b with
 | none=>rw [q] at e;cases e
 | some o=>
  rw [q] at e
  have e':(b,o)=p:=Option.some.inj e
  subst e'
  exact ⟨hb,q⟩
theorem Inv.pinned {pins:List (Addr×Obj)} {σ:St} {H:Hp} {s:Shared} {fp:List Addr} (I:Inv X pins σ H s) (hf:∀ b∈fp,iA X pins H b) (ho:∀ b∈fp,∃ o,s.heap.get? b=some o/\∀ v,o.data≠.cell v):Inv X (pins++iF fp s.heap) σ H s:=
 I.uZ λ p hp=>(List.mem_append.mp hp).elim (λ z=>I.pin p (List.mem_append_right _ z)) λ z=>by
  obtain ⟨hb,e⟩:=vV z
  obtain ⟨f0,f1,f2,_⟩:=hf p.1 hb
  obtain ⟨o,e',d⟩:=ho p.1 hb
  rw [e] at e';cases e'
  exact ⟨e,f0,f1,f2,d⟩
theorem Inv.dY {pins pl:List (Addr×Obj)} {σ:St} {H:Hp} {s:Shared} (I:Inv X (pins++pl) σ H s):Inv X pins σ H s:=I.uZ λ p hp=>I.pin p (List.mem_append_right _ (List.mem_append_left _ hp))
theorem dH {iter:Expr} {body:List Stmt} {wi:TI} {g:TG} {tb:TS} {pos:Pos} (hp:PassesOwn (model X.prog X.w) X.A X.env X.xe) (hc:X.calm=true) (hi:PI X tg iter wi) (hg:PG X tg g) (hb:PSs X body tb)
  (hs:∀ x,foldedSetIterable iter X.env x=pure x:=by intro _;rfl):PS X (.For tg iter body [] pos) (Fg wi g tb):=by
 intro pins s σ H D I h
 refine wpAny_For (thn (hi pins s σ H _ I h) λ v s1 h1=>thn h1 λ itv s2 h2=>?_) hs
 obtain ⟨it,fp,tn,J,H2,e,I2,T,st2,f2,W,⟨m0,w0⟩,turn⟩:=h2
 subst e
 -- what stays true of the iterator's objects through the loop
 have stat:∀ {H':Hp},(∀ b∈fp,H' b=none)->∀ b∈fp,iA X pins H' b:=λ hn b hb=>⟨hn b hb,(f2 b hb).2⟩
 refine codeAny_forLoop_any (λ n s'=>∃ i σ' H',Inv X pins σ' H' s'/\tn i s'.heap/\(∀ b∈fp,H' b=none)/\W i n σ' H') ?_ m0 ⟨0,σ,H2,I2,st2,λ b hb=>(f2 b hb).1,w0⟩
 rintro n s3 ⟨i,σ3,H3,I3,st3,fr3,w3⟩
 rcases turn i n σ3 H3 w3 with ⟨stop,qn⟩ | ⟨go,N,hN,step⟩
 ·refine wpAny_passesOwn hp (thn (T.done X rfl rfl rfl hc i pins s3 σ3 H3 X.xe I3 (stat fr3) st3 stop) λ r s4 ⟨hr,I4⟩=>?_)
  subst hr
  exact wpAny_execs_nil ⟨σ3,H3,I4,qn⟩
 ·refine wpAny_passesOwn hp (thn (T.item X rfl rfl rfl hc i pins s3 σ3 H3 X.xe I3 (stat fr3) st3 go) λ r s4 ⟨u,hr,h4⟩=>?_)
  subst hr
  refine wpAny_passesOwn hp (thn h4 λ _ s5 ⟨x,H5,I5,r5,y5,st5,fr5⟩=>?_)
  have I5':=I5.pinned (stat fr5) (T.obj _ _ st5)
  refine wpAny_passesOwn hp (thn (hg _ s5 σ3 H5 x u _ I5' r5 (step x H5 y5)) λ _ s6 ⟨σ6,H6,I6,q6⟩=>?_)
  refine wpAny_passesOwn hp (thn (hb _ s6 σ6 H6 _ I6 q6) λ f s7 q7=>?_)
  have again:∀ {σ7:St} {H7:Hp},Inv X (pins++iF fp s5.heap) σ7 H7 s7->N σ7 H7->∃ m,m<n/\∃ i σ' H',Inv X pins σ' H' s7/\tn i s7.heap/\(∀ b∈fp,H' b=none)/\W i m σ' H':=λ {σ7 H7} I7 n7=>by
   obtain ⟨m',hm,w7⟩:=hN σ7 H7 n7
   refine ⟨m',hm,i+1,σ7,H7,I7.dY,T.keep _ _ _ st5 λ b hb o e=>(I7.pin (b,o) (List.mem_append_right _ (List.mem_append_right _ (bE hb e)))).1,λ b hb=>?_,w7⟩
   obtain ⟨o,e,d⟩:=T.obj _ _ st5 b hb
   exact (I7.pin (b,o) (List.mem_append_right _ (List.mem_append_right _ (bE hb e)))).2.1
  cases f with
  | next=>obtain ⟨σ7,H7,I7,n7⟩:=q7;exact again I7 n7
  | cont=>obtain ⟨σ7,H7,I7,n7⟩:=q7;exact again I7 n7
  | brk=>obtain ⟨σ7,H7,I7,q7⟩:=q7;exact ⟨σ7,H7,I7.dY,q7⟩
  | ret v=>obtain ⟨x7,σ7,H7,I7,r7,q7⟩:=q7;exact ⟨x7,σ7,H7,I7.dY,r7,q7⟩
end
theorem yz {K:PySem.W.Frag} {a:Addr} {xs:List V} {g:TG} {tb:TS} {D:Ends} {σ:St} {H:Hp} (Pv:Nat->St->Hp->Prop) (h0:Pv 0 σ H) (hl:∀ i σ H,i<=xs.length->Pv i σ H->SqL K H a xs)
  (hs:∀ i x σ H,xs[i]?=some x->Pv i σ H->g x σ H λ σ2 H2=>tb { D with nx:=Pv (i+1),ct:=Pv (i+1),bk:=D.nx } σ2 H2) (hd:∀ σ H,Pv xs.length σ H->D.nx σ H):
  ∃ W:Nat->Nat->St->Hp->Prop,(∃ m,W 0 m σ H)/\∀ i m σ H,W i m σ H ->
   ((Itl K a).stop i H/\D.nx σ H)∨((Itl K a).go i H/\∃ N:St->Hp->Prop,(∀ σ' H',N σ' H'->∃ m',m'<m/\W (i+1) m' σ' H')/\∀ x H',(Itl K a).yld i H x H'->g x σ H' λ σ2 H2=>tb { D with nx:=N,ct:=N,bk:=D.nx } σ2 H2):=by
 refine ⟨λ i m σ H=>m=xs.length - i/\i<=xs.length/\Pv i σ H,⟨xs.length,by simp,Nat.zero_le _,h0⟩,?_⟩
 rintro i m σ H ⟨rfl,hi,p⟩
 have q:=hl i σ H hi p
 by_cases hlt:i<xs.length
 ·refine .inr ⟨⟨xs,xs[i],q,by simp [hlt]⟩,Pv (i+1),λ σ' H' p'=>⟨xs.length - (i+1),by omega,rfl,hlt,p'⟩,λ x H' y=>?_⟩
  obtain ⟨e,y⟩:=y
  subst e
  exact hs i x σ _ (y xs q) p
 ·have e:i=xs.length:=by omega
  subst e
  exact .inl ⟨⟨xs,q,Nat.le_refl _⟩,hd σ H p⟩
theorem Ag {K:PySem.W.Frag} {a:Addr} {xs:List V} {g:TG} {tb:TS} {D:Ends} {σ:St} {H:Hp} (Pv:Nat->St->Hp->Prop) (h0:Pv 0 σ H) (hl:∀ i σ H,i<=xs.length->Pv i σ H->SqT K H a xs)
  (hs:∀ i x σ H,xs[i]?=some x->Pv i σ H->g x σ H λ σ2 H2=>tb { D with nx:=Pv (i+1),ct:=Pv (i+1),bk:=D.nx } σ2 H2) (hd:∀ σ H,Pv xs.length σ H->D.nx σ H):
  ∃ W:Nat->Nat->St->Hp->Prop,(∃ m,W 0 m σ H)/\∀ i m σ H,W i m σ H ->
   ((Itt K a).stop i H/\D.nx σ H)∨((Itt K a).go i H/\∃ N:St->Hp->Prop,(∀ σ' H',N σ' H'->∃ m',m'<m/\W (i+1) m' σ' H')/\∀ x H',(Itt K a).yld i H x H'->g x σ H' λ σ2 H2=>tb { D with nx:=N,ct:=N,bk:=D.nx } σ2 H2):=by
 refine ⟨λ i m σ H=>m=xs.length - i/\i<=xs.length/\Pv i σ H,⟨xs.length,by simp,Nat.zero_le _,h0⟩,?_⟩
 rintro i m σ H ⟨rfl,hi,p⟩
 have q:=hl i σ H hi p
 by_cases hlt:i<xs.length
 ·refine .inr ⟨⟨xs,xs[i],q,by simp [hlt]⟩,Pv (i+1),λ σ' H' p'=>⟨xs.length - (i+1),by omega,rfl,hlt,p'⟩,λ x H' y=>?_⟩
  obtain ⟨e,y⟩:=y
  subst e
  exact hs i x σ _ (y xs q) p
 ·have e:i=xs.length:=by omega
  subst e
  exact .inl ⟨⟨xs,q,Nat.le_refl _⟩,hd σ H p⟩
theorem vR {lo:Int} {n:Nat} {g:TG} {tb:TS} {D:Ends} {σ:St} {H:Hp} (Pv:Nat->St->Hp->Prop) (h0:Pv 0 σ H)
  (hs:∀ i σ H,i<n->Pv i σ H->g (.int (lo+i)) σ H λ σ2 H2=>tb { D with nx:=Pv (i+1),ct:=Pv (i+1),bk:=D.nx } σ2 H2) (hd:∀ σ H,Pv n σ H->D.nx σ H):
  ∃ W:Nat->Nat->St->Hp->Prop,(∃ m,W 0 m σ H)/\∀ i m σ H,W i m σ H ->
   ((Itr lo n).stop i H/\D.nx σ H)∨((Itr lo n).go i H/\∃ N:St->Hp->Prop,(∀ σ' H',N σ' H'->∃ m',m'<m/\W (i+1) m' σ' H')/\∀ x H',(Itr lo n).yld i H x H'->g x σ H' λ σ2 H2=>tb { D with nx:=N,ct:=N,bk:=D.nx } σ2 H2):=by
 refine ⟨λ i m σ H=>m=n - i/\i<=n/\Pv i σ H,⟨n,by simp,Nat.zero_le _,h0⟩,?_⟩
 rintro i m σ H ⟨rfl,hi,p⟩
 by_cases hlt:i<n
 ·refine .inr ⟨hlt,Pv (i+1),λ σ' H' p'=>⟨n - (i+1),by omega,rfl,hlt,p'⟩,λ x H' y=>?_⟩
  obtain ⟨e,y⟩:=y
  subst e y
  exact hs i σ _ hlt p
 ·have e:i=n:=by omega
  subst e
  exact .inl ⟨Nat.le_refl _,hd σ H p⟩
abbrev R2:=V->V->Hp->VK->Prop
def OpR (X:Cx) (f:Value->Value->Sem Value) (r:R2):Prop:=
 ∀ (pins:List (Addr×Obj)) (s:Shared) (σ:St) (H:Hp) (x y:V) (v u:Value) (Q:VK),Inv X pins σ H s->RelV x v->RelV y u->r x y H Q ->
  wpAny (model X.prog X.w) X.A (f v u) (EP X pins σ Q) X.xe s
def UnR (X:Cx) (f:Value->Sem Value) (r:V->Hp->VK->Prop):Prop:=
 ∀ (pins:List (Addr×Obj)) (s:Shared) (σ:St) (H:Hp) (x:V) (v:Value) (Q:VK),Inv X pins σ H s->RelV x v->r x H Q ->
  wpAny (model X.prog X.w) X.A (f v) (EP X pins σ Q) X.xe s
def eg (X:Cx) (f:Value) (r:List V->Hp->VK->Prop):Prop:=
 ∀ (pins:List (Addr×Obj)) (s:Shared) (σ:St) (H:Hp) (xs:List V) (us:List Value) (Q:VK),Inv X pins σ H s->Vals xs us->r xs H Q ->
  wpAny (model X.prog X.w) X.A (call f us) (EP X pins σ Q) X.xe s
def tOp (r:R2) (ta tb:TE):TE:=λ σ H Q=>ta σ H λ x H1=>tb σ H1 λ y H2=>r x y H2 Q
def tUn (r:V->Hp->VK->Prop) (ta:TE):TE:=λ σ H Q=>ta σ H λ x H1=>r x H1 Q
def rI (C:Int->Int->Prop) (g:Int->Int->V):R2:=λ x y H Q=>∃ i j,x=.int i/\y=.int j/\C i j/\Q (g i j) H
def rI0 (g:Int->Int->V):R2:=λ x y H Q=>∃ i j,x=.int i/\y=.int j/\Q (g i j) H
def rU (g:Int->V):V->Hp->VK->Prop:=λ x H Q=>∃ i,x=.int i/\Q (g i) H
section
variable {X:Cx} {a b c:Expr} {ta tb tc:TE} {pos:Pos}
theorem CB (ha:PE X a ta) (hb:PE X b tb) {pins:List (Addr×Obj)} {s:Shared} {σ:St} {H:Hp} {R:V->V->Hp->Prop} (I:Inv X pins σ H s)
  (h:ta σ H λ x H1=>tb σ H1 λ y H2=>R x y H2) {Q:Value->Shared->Prop} {f:Value->Value->Sem Value}
  (hf:∀ v u s2 x y H2,Inv X pins σ H2 s2->RelV x v->RelV y u->R x y H2->wpAny (model X.prog X.w) X.A (f v u) Q X.xe s2):
  wpAny (model X.prog X.w) X.A (eval a X.env) (λ v s₁=>wpAny (model X.prog X.w) X.A (eval b X.env) (λ u s₂=>wpAny (model X.prog X.w) X.A (f v u) Q X.xe s₂) X.xe s₁) X.xe s:=by
 refine thn (ha pins s σ H _ I h) λ v s1 ⟨x,H1,I1,r1,q1⟩=>?_
 refine thn (hb pins s1 σ H1 _ I1 q1) λ u s2 ⟨y,H2,I2,r2,q2⟩=>?_
 exact hf v u s2 x y H2 I2 r1 r2 q2
theorem ai {op:Operator} {r:R2} (ho:OpR X (binaryOp op) r) (ha:PE X a ta) (hb:PE X b tb):PE X (.BinOp a op b pos) (tOp r ta tb):=by
 intro pins s σ H Q I h
 exact wpAny_BinOp (CB ha hb I h λ v u s2 x y H2 I2 rx ry q=>ho pins s2 σ H2 x y v u Q I2 rx ry q)
theorem lZ {op:UnaryOp} {r:V->Hp->VK->Prop} (ho:UnR X (unaryOp op) r) (ha:PE X a ta):PE X (.UnaryOp op a pos) (tUn r ta):=by
 intro pins s σ H Q I h
 exact UnaryOp_ (thn (ha pins s σ H _ I h) λ v s1 ⟨x,H1,I1,r1,q1⟩=>ho pins s1 σ H1 x v Q I1 r1 q1)
theorem opI {f:Value->Value->Sem Value} {C:Int->Int->Prop} {g:Int->Int->Int}
  (rule:∀ (i j:Int) (t u:Tok) (s:Shared) (Q:Value->Shared->Prop) (E:Value->Shared->Prop),C i j->Q (.int (g i j) s.toks) { s with toks:=s.toks+1 }->wpAny (model X.prog X.w) X.A (f (.int i t) (.int j u)) Q E s):
  OpR X f (rI C λ i j=>.int (g i j)):=by
 intro pins s σ H x y v u Q I rx ry h
 obtain ⟨i,j,rfl,rfl,hc,q⟩:=h
 obtain ⟨t,rfl⟩:=rx
 obtain ⟨t',rfl⟩:=ry
 exact rule i j t t' s _ _ hc ⟨.int (g i j),H,I.tok _,⟨_,rfl⟩,q⟩
theorem B5 {f:Value->Value->Sem Value} {g:Int->Int->Int}
  (rule:∀ (i j:Int) (t u:Tok) (s:Shared) (Q:Value->Shared->Prop) (E:Value->Shared->Prop),Q (.int (g i j) s.toks) { s with toks:=s.toks+1 }->wpAny (model X.prog X.w) X.A (f (.int i t) (.int j u)) Q E s):
  OpR X f (rI0 λ i j=>.int (g i j)):=by
 intro pins s σ H x y v u Q I rx ry h
 obtain ⟨i,j,rfl,rfl,q⟩:=h
 obtain ⟨t,rfl⟩:=rx
 obtain ⟨t',rfl⟩:=ry
 exact rule i j t t' s _ _ ⟨.int (g i j),H,I.tok _,⟨_,rfl⟩,q⟩
theorem yW {f:Value->Value->Sem Value} {g:Int->Int->Bool}
  (rule:∀ (i j:Int) (t u:Tok) (s:Shared) (Q:Value->Shared->Prop) (E:Value->Shared->Prop),Q (.bool (g i j)) s->wpAny (model X.prog X.w) X.A (f (.int i t) (.int j u)) Q E s):
  OpR X f (rI0 λ i j=>.bl (g i j)):=by
 intro pins s σ H x y v u Q I rx ry h
 obtain ⟨i,j,rfl,rfl,q⟩:=h
 obtain ⟨t,rfl⟩:=rx
 obtain ⟨t',rfl⟩:=ry
 exact rule i j t t' s _ _ ⟨.bl (g i j),H,I,rfl,q⟩
def BI (i j:Int):Prop:=0<j/\j<1073741824
def BE (i j:Int):Prop:=0<=j/\j<=1000000/\i.natAbs<2 ^ 64
def Cc (i j:Int):Prop:=(-(2 ^ 64)<i/\i<2 ^ 64)∨(-(2 ^ 64)<j/\j<2 ^ 64)
theorem Cc.ok {i j:Int} (h:Cc i j):IntMulOk i j:=by
 rcases h with ⟨h1,h2⟩ | ⟨h1,h2⟩
 ·exact .of_left (intBits_le_64 h1 h2)
 ·exact .of_right (intBits_le_64 h1 h2)
theorem tj (k:Nat):(0:Int)<=2 ^ k:=by
 rw [two_pow_cast]
 exact Int.natCast_nonneg _
theorem aU:OpR X (binaryOp .Add) (rI0 λ i j=>.int (i+j)):=B5 λ _ _ _ _ _ _ _ q=>add_int q
theorem fc:OpR X (binaryOp .Sub) (rI0 λ i j=>.int (i - j)):=B5 λ _ _ _ _ _ _ _ q=>sub_int q
theorem iz:OpR X (binaryOp .Mult) (rI Cc λ i j=>.int (i * j)):=opI λ _ _ _ _ _ _ _ hc q=>mul_int q hc.ok
theorem aK:OpR X (binaryOp .FloorDiv) (rI BI λ i j=>.int (i / j)):=opI λ i j _ _ _ _ _ hc q=>by
 have h1:(0:Int)<j:=hc.1
 have h2:j<1073741824:=hc.2
 exact floordiv_int (by omega) (by rw [Int.fdiv_eq_ediv_of_nonneg i (by omega)];exact q) (.inl (PyProof.noPylong_small (by omega)))
theorem az:OpR X (binaryOp .Mod) (rI (λ _ j=>0<j) λ i j=>.int (i % j)):=opI λ i j _ _ _ _ _ hc q=>by
 have h1:(0:Int)<j:=hc
 exact mod_int' (by omega) (by rw [Int.fmod_eq_emod_of_nonneg i (by omega)];exact q)
theorem wV:OpR X (binaryOp .Pow) (rI BE λ i j=>.int (i ^ j.toNat)):=opI λ _ _ _ _ _ _ _ hc q=>pow_int_small hc.1 hc.2.1 hc.2.2 q
theorem By:OpR X (binaryOp .RShift) (rI (λ _ j=>0<=j) λ i j=>.int (i / 2 ^ j.toNat)):=opI λ i j _ _ _ _ _ hc q=>
 rshift_int hc (by rw [Int.fdiv_eq_ediv_of_nonneg i (tj _)];exact q)
theorem Bq:OpR X (binaryOp .BitAnd) (rI0 λ i j=>.int (Builtin.bitAnd i j)):=B5 λ _ _ _ _ _ _ _ q=>and_int q
theorem unI {f:Value->Sem Value} {g:Int->Int}
  (rule:∀ (i:Int) (t:Tok) (s:Shared) (Q:Value->Shared->Prop) (E:Value->Shared->Prop),Q (.int (g i) s.toks) { s with toks:=s.toks+1 }->wpAny (model X.prog X.w) X.A (f (.int i t)) Q E s):
  UnR X f (rU λ i=>.int (g i)):=by
 intro pins s σ H x v Q I rx h
 obtain ⟨i,rfl,q⟩:=h
 obtain ⟨t,rfl⟩:=rx
 exact rule i t s _ _ ⟨.int (g i),H,I.tok _,⟨_,rfl⟩,q⟩
theorem iB:UnR X (unaryOp .USub) (rU λ i=>.int (-i)):=unI λ _ _ _ _ _ q=>neg_int q
end
def DX:V->V->Bool
 | .non,.non=>true | .non,.int _=>true | .int _,.non=>true | .non,.bl _=>true | .bl _,.non=>true | .non,.str _=>true | .str _,.non=>true
 | .int _,.int _=>true | .bl _,.bl _=>true | .str _,.str _=>true | .byt _,.byt _=>true
 | .int _,.str _=>true | .str _,.int _=>true | .bl _,.str _=>true | .str _,.bl _=>true
 | _,_=>false
def rEq:R2:=λ x y H Q=>DX x y=true/\Q (.bl (decide (x=y))) H
def rNe:R2:=λ x y H Q=>DX x y=true/\Q (.bl (!decide (x=y))) H
theorem uV {i j:Int}:decide (V.int i=V.int j)=(i==j):=by
 rw [Bool.eq_iff_iff]
 simp
theorem yi {i j:Bool}:decide (V.bl i=V.bl j)=(i==j):=by
 rw [Bool.eq_iff_iff]
 simp
theorem u6 {i j:Str}:decide (V.str i=V.str j)=(i==j):=by
 rw [Bool.eq_iff_iff]
 simp
theorem u9 {i j:Array UInt8}:decide (V.byt i=V.byt j)=(i.toList==j.toList):=by
 rw [Bool.eq_iff_iff]
 cases i
 cases j
 simp
section
variable {X:Cx} {a b c:Expr} {ta tb tc:TE} {pos:Pos}
theorem aQ {pins:List (Addr×Obj)} {σ:St} {H:Hp} {s:Shared} {Q:VK} {k k':Bool} (I:Inv X pins σ H s) (q:Q (.bl k) H) (e:k=k'):EP X pins σ Q (.bool k') s:=by
 subst e
 exact ⟨.bl k,H,I,rfl,q⟩
theorem dg:OpR X (compareOp .Eq) rEq:=by
 intro pins s σ H x y v u Q I rx ry h
 obtain ⟨hs,q⟩:=h
 cases x with
 | non=>
  cases rx
  cases y with
  | non=>cases ry;exact PySem.EqNone.eq_none_none (aQ I q (by simp))
  | bl j=>cases ry;exact PySem.EqNone.eq_none_bool (aQ I q (by simp))
  | int j=>obtain ⟨t',rfl⟩:=ry;exact PySem.EqNone.eq_none_int (aQ I q (by simp))
  | str j=>obtain ⟨t',rfl⟩:=ry;exact PySem.EqNone.eq_none_str (aQ I q (by simp))
  | _=>exact absurd (show false=true from hs) Bool.false_ne_true
 | bl i=>
  cases rx
  cases y with
  | non=>cases ry;exact PySem.EqNone.eq_bool_none (aQ I q (by simp))
  | bl j=>cases ry;exact eq_bool (aQ I q yi)
  | str j=>obtain ⟨t',rfl⟩:=ry;exact PySem.EqMixed.eq_bool_str (aQ I q (by simp))
  | _=>exact absurd (show false=true from hs) Bool.false_ne_true
 | int i=>
  obtain ⟨t,rfl⟩:=rx
  cases y with
  | non=>cases ry;exact PySem.EqNone.eq_int_none (aQ I q (by simp))
  | int j=>obtain ⟨t',rfl⟩:=ry;exact eq_int (aQ I q uV)
  | str j=>obtain ⟨t',rfl⟩:=ry;exact PySem.EqMixed.eq_int_str (aQ I q (by simp))
  | _=>exact absurd (show false=true from hs) Bool.false_ne_true
 | str i=>
  obtain ⟨t,rfl⟩:=rx
  cases y with
  | non=>cases ry;exact PySem.EqNone.eq_str_none (aQ I q (by simp))
  | bl j=>cases ry;exact PySem.EqMixed.eq_str_bool (aQ I q (by simp))
  | int j=>obtain ⟨t',rfl⟩:=ry;exact PySem.EqMixed.eq_str_int (aQ I q (by simp))
  | str j=>obtain ⟨t',rfl⟩:=ry;exact eq_str (aQ I q u6)
  | _=>exact absurd (show false=true from hs) Bool.false_ne_true
 | byt i=>
  obtain ⟨t,rfl⟩:=rx
  cases y with
  | byt j=>obtain ⟨t',rfl⟩:=ry;exact PySem.W.eq_bytes (aQ I q u9)
  | _=>exact absurd (show false=true from hs) Bool.false_ne_true
 | _=>cases y <;> exact absurd (show false=true from hs) Bool.false_ne_true
theorem vb:OpR X (compareOp .NotEq) rNe:=by
 intro pins s σ H x y v u Q I rx ry h
 obtain ⟨hs,q⟩:=h
 cases x with
 | non=>
  cases rx
  cases y with
  | non=>cases ry;exact PySem.EqNone.ne_none_none (aQ I q (by simp))
  | bl j=>cases ry;exact PySem.EqNone.ne_none_bool (aQ I q (by simp))
  | int j=>obtain ⟨t',rfl⟩:=ry;exact PySem.EqNone.ne_none_int (aQ I q (by simp))
  | str j=>obtain ⟨t',rfl⟩:=ry;exact PySem.EqNone.ne_none_str (aQ I q (by simp))
  | _=>exact absurd (show false=true from hs) Bool.false_ne_true
 | bl i=>
  cases rx
  cases y with
  | non=>cases ry;exact PySem.EqNone.ne_bool_none (aQ I q (by simp))
  | bl j=>cases ry;exact ne_bool (aQ I q (congrArg not yi))
  | str j=>obtain ⟨t',rfl⟩:=ry;exact PySem.EqMixed.ne_bool_str (aQ I q (by simp))
  | _=>exact absurd (show false=true from hs) Bool.false_ne_true
 | int i=>
  obtain ⟨t,rfl⟩:=rx
  cases y with
  | non=>cases ry;exact PySem.EqNone.ne_int_none (aQ I q (by simp))
  | int j=>obtain ⟨t',rfl⟩:=ry;exact ne_int (aQ I q (congrArg not uV))
  | str j=>obtain ⟨t',rfl⟩:=ry;exact PySem.EqMixed.ne_int_str (aQ I q (by simp))
  | _=>exact absurd (show false=true from hs) Bool.false_ne_true
 | str i=>
  obtain ⟨t,rfl⟩:=rx
  cases y with
  | non=>cases ry;exact PySem.EqNone.ne_str_none (aQ I q (by simp))
  | bl j=>cases ry;exact PySem.EqMixed.ne_str_bool (aQ I q (by simp))
  | int j=>obtain ⟨t',rfl⟩:=ry;exact PySem.EqMixed.ne_str_int (aQ I q (by simp))
  | str j=>obtain ⟨t',rfl⟩:=ry;exact ne_str (aQ I q (congrArg not u6))
  | _=>exact absurd (show false=true from hs) Bool.false_ne_true
 | byt i=>
  obtain ⟨t,rfl⟩:=rx
  cases y with
  | byt j=>obtain ⟨t',rfl⟩:=ry;exact PySem.W.ne_bytes (aQ I q (congrArg not u9))
  | _=>exact absurd (show false=true from hs) Bool.false_ne_true
 | _=>cases y <;> exact absurd (show false=true from hs) Bool.false_ne_true
theorem iq:OpR X (compareOp .Lt) (rI0 λ i j=>.bl (decide (i<j))):=yW λ _ _ _ _ _ _ _ q=>lt_int q
theorem fK:OpR X (compareOp .LtE) (rI0 λ i j=>.bl (decide (i<=j))):=yW λ _ _ _ _ _ _ _ q=>le_int q
theorem yy:OpR X (compareOp .Gt) (rI0 λ i j=>.bl (decide (j<i))):=yW λ _ _ _ _ _ _ _ q=>gt_int q
theorem Aw:OpR X (compareOp .GtE) (rI0 λ i j=>.bl (decide (j<=i))):=yW λ _ _ _ _ _ _ _ q=>ge_int q
theorem Ci:OpR X (compareOp .Is) (λ x y H Q=>y=.non/\Q (.bl (decide (x=.non))) H):=by
 intro pins s σ H x y v u Q I rx ry h
 obtain ⟨rfl,q⟩:=h
 cases ry
 refine is_none_gen (aQ I q ?_)
 cases x <;> first
  | (cases rx;rfl)
  | (obtain ⟨t,rfl⟩:=rx;rfl)
theorem zD:OpR X (compareOp .IsNot) (λ x y H Q=>y=.non/\Q (.bl (!decide (x=.non))) H):=by
 intro pins s σ H x y v u Q I rx ry h
 obtain ⟨rfl,q⟩:=h
 cases ry
 refine isnot_none_gen (aQ I q ?_)
 cases x <;> first
  | (cases rx;rfl)
  | (obtain ⟨t,rfl⟩:=rx;rfl)
theorem aC (b:Expr) {op:CmpOp} (h:op≠.In:=by decide) (h2:op≠.NotIn:=by decide):behindInMarks op b=false:=by
 have e1:(op==CmpOp.In)=false:=by cases op <;> first | rfl | exact absurd rfl h
 have e2:(op==CmpOp.NotIn)=false:=by cases op <;> first | rfl | exact absurd rfl h2
 cases b <;> simp [behindInMarks,e1,e2]
theorem cx {op:CmpOp} {r:R2} (ho:OpR X (compareOp op) r) (ha:PE X a ta) (hb:PE X b tb) (hm:behindInMarks op b=false):PE X (.Compare a [op] [b] pos) (tOp r ta tb):=by
 intro pins s σ H Q I h
 exact wpAny_Compare1 (CB ha hb I h λ v u s2 x y H2 I2 rx ry q=>ho pins s2 σ H2 x y v u Q I2 rx ry q) hm
def yh (t:TE):TT:=λ σ H Q=>t σ H λ x H'=>∃ k,x=.bl k/\Q k H'
theorem aB {op:CmpOp} {r:R2} (ho:OpR X (compareOp op) r) (ha:PE X a ta) (hb:PE X b tb) (hm:behindInMarks op b=false):PT X (.Compare a [op] [b] pos) (yh (tOp r ta tb)):=by
 intro pins s σ H Q I h
 refine wpAny_isTrue_Compare1 (thn (ha pins s σ H _ I h) λ v s1 ⟨x,H1,I1,r1,q1⟩=>thn (hb pins s1 σ H1 _ I1 q1) λ u s2 ⟨y,H2,I2,r2,q2⟩=>
  thn (ho pins s2 σ H2 x y v u _ I2 r1 r2 q2) λ c s3 ⟨z,H3,I3,r3,k,e,q3⟩=>?_) hm
 subst e
 cases r3
 exact wpAny_truthy_bool ⟨H3,I3,q3⟩
def sZ (r r':R2) (ta tb tc:TE):TE:=λ σ H Q=>ta σ H λ x H1=>tb σ H1 λ y H2=>r x y H2 λ z H3=>∃ k,z=.bl k /\
 (if k=true then tc σ H3 λ w' H4=>r' y w' H4 Q else Q (.bl false) H3)
theorem oy {op op':CmpOp} {r r':R2} (ho:OpR X (compareOp op) r) (ho':OpR X (compareOp op') r') (ha:PE X a ta) (hb:PE X b tb) (hc:PE X c tc)
  (hm:lastMarks [op,op'] [b,c]=false:=by with_unfolding_all rfl):PE X (.Compare a [op,op'] [b,c] pos) (sZ r r' ta tb tc):=by
 intro pins s σ H Q I h
 refine Compare_chain (thn (ha pins s σ H _ I h) λ v s1 ⟨x,H1,I1,r1,q1⟩=>chain_link (thn (hb pins s1 σ H1 _ I1 q1) λ u s2 ⟨y,H2,I2,r2,q2⟩=>
  thn (ho pins s2 σ H2 x y v u _ I2 r1 r2 q2) λ d s3 ⟨z,H3,I3,r3,k,e,q3⟩=>?_)) hm
 subst e
 cases r3
 refine wpAny_truthy_bool ?_
 cases k with
 | false=>exact ite_ff ⟨.bl false,H3,I3,rfl,q3⟩
 | true=>exact ite_tt (chain_last (thn (hc pins s3 σ H3 _ I3 q3) λ w' s4 ⟨z',H4,I4,r4,q4⟩=>ho' pins s4 σ H4 y z' u w' Q I4 r2 r4 q4))
theorem iG {op op':CmpOp} {r r':R2} (ho:OpR X (compareOp op) r) (ho':OpR X (compareOp op') r') (ha:PE X a ta) (hb:PE X b tb) (hc:PE X c tc)
  (hm:lastMarks [op,op'] [b,c]=false:=by with_unfolding_all rfl):PT X (.Compare a [op,op'] [b,c] pos) (yh (sZ r r' ta tb tc)):=by
 intro pins s σ H Q I h
 refine isTrue_chain (thn (ha pins s σ H _ I h) λ v s1 ⟨x,H1,I1,r1,q1⟩=>test_link (thn (hb pins s1 σ H1 _ I1 q1) λ u s2 ⟨y,H2,I2,r2,q2⟩=>
  thn (ho pins s2 σ H2 x y v u _ I2 r1 r2 q2) λ d s3 ⟨z,H3,I3,r3,k,e,q3⟩=>?_)) hm
 subst e
 cases r3
 refine wpAny_truthy_bool ?_
 cases k with
 | false=>
  obtain ⟨k',e',q'⟩:=q3
  cases e'
  exact ite_ff ⟨H3,I3,q'⟩
 | true=>
  refine ite_tt (test_last (thn (hc pins s3 σ H3 _ I3 q3) λ w' s4 ⟨z',H4,I4,r4,q4⟩=>thn (ho' pins s4 σ H4 y z' u w' _ I4 r2 r4 q4) λ d' s5 ⟨z2,H5,I5,r5,k2,e2,q5⟩=>?_))
  subst e2
  cases r5
  exact wpAny_truthy_bool ⟨H5,I5,q5⟩
theorem k9:(sizeLine:Nat)<2 ^ 63:=by rw [sizeLine_eq];decide
theorem bY:OpR X (binaryOp .Add) (λ x y H Q=>∃ i j,x=.str i/\y=.str j/\i.length+j.length<=sizeLine/\Q (.str (i++j)) H):=by
 intro pins s σ H x y v u Q I rx ry h
 obtain ⟨i,j,rfl,rfl,hz,q⟩:=h
 obtain ⟨t,rfl⟩:=rx
 obtain ⟨t',rfl⟩:=ry
 exact add_str (λ t' tk=>⟨.str (i++j),H,I.tok _,⟨_,rfl⟩,q⟩) hz
theorem vals1 {x:V} {us:List Value} (r:Vals [x] us):∃ u,us=[u]/\RelV x u:=by
 cases r with
 | cons r1 r2=>cases r2;exact ⟨_,rfl,r1⟩
theorem vals2 {x y:V} {us:List Value} (r:Vals [x,y] us):∃ u w',us=[u,w']/\RelV x u/\RelV y w':=by
 cases r with
 | cons r1 r2=>
  cases r2 with
  | cons r3 r4=>cases r4;exact ⟨_,_,rfl,r1,r3⟩
theorem vE (hc:X.calm=true):eg X (.builtin "max") (λ xs H Q=>∃ i j,xs=[.int i,.int j]/\Q (.int (if j > i then j else i)) H):=by
 intro pins s σ H xs us Q I r h
 obtain ⟨i,j,rfl,q⟩:=h
 obtain ⟨u,w',rfl,⟨t,rfl⟩,⟨t',rfl⟩⟩:=vals2 r
 refine max_two_ints (I.ok.hd hc) λ h' tk k=>⟨_,H,I.kept k,?_,q⟩
 by_cases hj:j > i
 ·rw [if_pos hj,if_pos hj];exact ⟨_,rfl⟩
 ·rw [if_neg hj,if_neg hj];exact ⟨_,rfl⟩
theorem wk (hc:X.calm=true):eg X (.builtin "min") (λ xs H Q=>∃ i j,xs=[.int i,.int j]/\Q (.int (if j<i then j else i)) H):=by
 intro pins s σ H xs us Q I r h
 obtain ⟨i,j,rfl,q⟩:=h
 obtain ⟨u,w',rfl,⟨t,rfl⟩,⟨t',rfl⟩⟩:=vals2 r
 refine min_two_ints (I.ok.hd hc) λ h' tk k=>⟨_,H,I.kept k,?_,q⟩
 by_cases hj:j<i
 ·rw [if_pos hj,if_pos hj];exact ⟨_,rfl⟩
 ·rw [if_neg hj,if_neg hj];exact ⟨_,rfl⟩
end
structure vP (h:Heap) (x dx C:Addr) (mA:Str->Option Value):Prop where
 obj:h.get? x=some (PySem.W.instObj C dx)
 ns:h.Ns1 dx mA
 ne:dx≠x
theorem wq {h:Heap} {dx:Addr} {mA:Str->Option Value} (n:h.Ns1 dx mA):∃ od,h.get? dx=some od/\∀ name,PySem.W.lookIn name od=some (mA name):=by
 obtain ⟨o,es,ep,ho,hd,hk,_,hm⟩:=n
 refine ⟨o,ho,λ name=>?_⟩
 have e:=hm name
 unfold nsFind findBy at e
 rw [<- Array.find?_toList] at e
 unfold PySem.W.lookIn
 rw [hd]
 dsimp only
 split
 ·rename_i y q
  rw [q] at e
  exact congrArg some e
 ·rename_i q
  rw [q] at e
  have a:es.toList.any (·.refKey)=false:=by
   rw [List.any_eq_false]
   intro y hy
   obtain ⟨z,t,hkey⟩:=hk y (Array.mem_toList_iff.mp hy)
   simp [DictEntry.refKey,hkey]
  have a':¬ es.toList.any (·.refKey)=true:=by rw [a];exact Bool.false_ne_true
  rw [if_neg a']
  exact congrArg some e
theorem vP.look {h:Heap} {x dx C:Addr} {mA:Str->Option Value} (I:vP h x dx C mA):∃ od,PySem.W.InstAt h x (PySem.W.instObj C dx) C (some od)/\∀ name,PySem.W.lookIn name od=some (mA name):=
 let ⟨od,ho,hl⟩:=wq I.ns
 ⟨od,⟨I.obj,rfl,rfl,ho⟩,hl⟩
section
variable {prog:Program} {w:World} {A:Around} {E:Value->Shared->Prop} {s:Shared} {K:PySem.W.Frag} {x dx C f:Addr} {mA:Str->Option Value} {name:Str} {v:Value}
theorem get_map {expr:Bool} {Q:Value->Shared->Prop} (X:K.In s.heap) (I:vP s.heap x dx C mA) (hg:PySem.W.plainGet K C name=true) (hh:PySem.W.hasDictIn K C=true)
  (ha:PySem.W.findIn K (.ref C) name=some none) (hv:mA name=some v) (hv':PySem.W.handedIn v=true) (h:Q v { s with toks:=s.toks+1 }):
  wpAny (model prog w) A (getAttr (.ref x) name expr) Q E s:=by
 obtain ⟨od,J,hl⟩:=I.look
 exact PySem.W.get_value X J (PySem.W.plainGet_of hg).1 (PySem.W.findObj_own hh ha rfl (by rw [hl,hv])) hv' h
theorem y9 {ns:List Str} {Q:Unit->Shared->Prop} (X:K.In s.heap) (I:vP s.heap x dx C mA)
  (hs:PySem.W.findIn K (.ref C) "__setattr__"=some (some (.builtin "object.__setattr__"))) (hp:PySem.W.plainOver K C=true) (ht:PySem.W.takerIn K C name=some none) (hh:PySem.W.hasDictIn K C=true)
  (hw:PySem.Within mA ns) (hsz:ns.length<=sizeLine)
  (h:∀ h',vP h' x dx C (λ y=>if y=name then some v else mA y)->Heap.SameBut dx s.heap h'->Q () { s with heap:=h',toks:=s.toks+2 }):
  wpAny (model prog w) A (setAttr (.ref x) name v) Q E s:=by
 obtain ⟨od,J,hl⟩:=I.look
 refine PySem.W.set_plain X J hs (PySem.W.osa_open (s:={ s with toks:=s.toks+1 }) (r:=none) X J hp ht λ b=>?_)
 obtain ⟨cd,hc,hd'⟩:=PySem.W.any_some hh
 have hx:s.heap.get? x=some ⟨.ref C,some dx,.plain,#[]⟩:=I.obj
 refine wpAny_bind (wpAny_pure (wpAny_bind (wpAny_bind (wpAny_loadPart hx (wpAny_bind (PySem.W.Looks.here (s:={ s with toks:=s.toks+1 }) (PySem.W.looks_clsIn X hc) ?_))))))
 rw [hd']
 refine wpAny_pure (a:=some dx) (wpAny_bind (wpAny_pure (wpAny_bind ?_)))
 refine wpAny_nsSet1 (s:={ s with toks:=s.toks+1 }) I.ns λ h' hn2 hs2=>?_
 obtain ⟨oD,esD,epD,hoD,hdD,hcD⟩:=hn2.count (PySem.Within.cons name v hw)
 refine wpAny_bind (wpAny_lookBehind hoD (by rw [hdD];exact pastItsLine_dict (Nat.le_trans hcD (by rw [List.length_cons];omega))) ?_)
 exact wpAny_pure (h _ ⟨(hs2.2 _ (Ne.symm I.ne)).trans I.obj,hn2,I.ne⟩ hs2)
theorem sq {R:Result->Shared->Prop} {vs:List Value} {kw:List (Str×Value)} (X:K.In s.heap) (hm:PySem.W.makesIn K C=true)
  (hi:PySem.W.findIn K (.ref C) "__init__"=some (some (.ref f))) (hf:PySem.W.typeIn K (.ref f)=some (.type "function"))
  (h:codeAny (model prog w) (A.under (.builtin "type.__call__" ⟨.ref C::vs,kw⟩)) (.call (.ref f) ⟨.ref (s.heap.objs.size+1)::vs,kw⟩) (PySem.W.InitBack (s.heap.objs.size+1) R)
   { s with heap:=(s.heap.push PySem.W.emptyDict).push (PySem.W.instObj C s.heap.objs.size) }):
  codeAny (model prog w) A (.call (.ref C) ⟨vs,kw⟩) R s:=by
 obtain ⟨hh,g,d,t,os⟩:=s
 exact PySem.W.make_core (PySem.W.makes_of X hm) (PySem.W.looks_findIn X hi) (λ self=>PySem.W.bind_fn X self hf) (.inl rfl) h
end
def bQ (f:Str) (v:V):List (Str×V)->List (Str×V)
 | []=>[(f,v)]
 | (g,x)::r=>if g=f then (g,v)::r else (g,x)::bQ f v r
theorem l4 (f g:Str) (v:V):∀ fs:List (Str×V),(bQ f v fs).lookup g=if g=f then some v else fs.lookup g
 | []=>by
  show List.lookup g [(f,v)]=_
  by_cases h:g=f
  ·have hb:(g==f)=true:=beq_iff_eq.mpr h
   simp only [List.lookup,hb,if_pos h]
  ·have hb:(g==f)=false:=beq_eq_false_iff_ne.mpr h
   simp only [List.lookup,hb,if_neg h]
 | (k,x)::r=>by
  have ih:=l4 f g v r
  rw [show bQ f v ((k,x)::r)=(if k=f then (k,v)::r else (k,x)::bQ f v r) from rfl]
  by_cases hk:k=f
  ·rw [if_pos hk]
   by_cases h:g=k
   ·have hb:(g==k)=true:=beq_iff_eq.mpr h
    simp only [List.lookup,hb,if_pos (h.trans hk)]
   ·have hb:(g==k)=false:=beq_eq_false_iff_ne.mpr h
    simp only [List.lookup,hb,if_neg (λ e:g=f=>h (e.trans hk.symm))]
  ·rw [if_neg hk]
   by_cases h:g=k
   ·have hb:(g==k)=true:=beq_iff_eq.mpr h
    simp only [List.lookup,hb,if_neg (λ e:g=f=>hk (h.symm.trans e))]
   ·have hb:(g==k)=false:=beq_eq_false_iff_ne.mpr h
    simp only [List.lookup,hb]
    exact ih
theorem lM (f:Str) (v:V):∀ fs:List (Str×V),f∈(bQ f v fs).map (·.1)/\∀ g,g∈fs.map (·.1)->g∈(bQ f v fs).map (·.1)
 | []=>⟨by simp [bQ],λ g h=>by simp at h⟩
 | (k,x)::r=>by
  obtain ⟨i1,i2⟩:=lM f v r
  rw [show bQ f v ((k,x)::r)=(if k=f then (k,v)::r else (k,x)::bQ f v r) from rfl]
  by_cases hk:k=f
  ·rw [if_pos hk]
   subst hk
   exact ⟨by simp,λ g h=>by simpa using h⟩
  ·rw [if_neg hk]
   refine ⟨?_,λ g h=>?_⟩
   ·rw [List.map_cons]
    exact List.mem_cons_of_mem _ i1
   ·rw [List.map_cons] at h ⊢
    rcases List.mem_cons.mp h with e | e
    ·exact List.mem_cons.mpr (.inl e)
    ·exact List.mem_cons_of_mem _ (i2 g e)
theorem lY (f:Str) (v:V):∀ fs:List (Str×V),(bQ f v fs).length<=fs.length+1
 | []=>by simp [bQ]
 | (k,x)::r=>by
  have ih:=lY f v r
  rw [show bQ f v ((k,x)::r)=(if k=f then (k,v)::r else (k,x)::bQ f v r) from rfl]
  by_cases hk:k=f
  ·rw [if_pos hk,List.length_cons,List.length_cons];omega
  ·rw [if_neg hk,List.length_cons,List.length_cons];omega
theorem uF.some_of {v:V} {o:Option Value} (r:uF (some v) o):∃ u,o=some u/\RelV v u:=by
 cases o with
 | none=>exact (show False from r).elim
 | some u=>exact ⟨u,rfl,r⟩
theorem vM {v:V} {u:Value} (r:RelV v u):PySem.W.handedIn u=true:=by
 cases v with
 | non=>cases (show u=Value.none from r);rfl
 | bl b=>cases (show u=Value.bool b from r);rfl
 | int i=>obtain ⟨t,e⟩:=(show ∃ t,u=Value.int i t from r);cases e;rfl
 | str x=>obtain ⟨t,e⟩:=(show ∃ t,u=Value.str x t from r);cases e;rfl
 | byt b=>obtain ⟨t,e⟩:=(show ∃ t,u=Value.bytes b t from r);cases e;rfl
 | flt b=>obtain ⟨t,e⟩:=(show ∃ t,u=Value.float b t from r);cases e;rfl
 | ref a=>cases (show u=Value.ref a from r);rfl
 | ty n=>cases (show u=Value.type n from r);rfl
section
variable {P:Program} {w:World} {H H':Hp} {h h':Heap} {a C dx:Addr} {fs fs':List (Str×V)}
theorem qe (hok:HOk P w H h) (e:H a=some (.ins C dx fs)):∃ mA,vP h a dx C mA/\(∀ f,uF (fs.lookup f) (mA f))/\PySem.Within mA (fs.map (·.1))/\fs.length<=1000/\H dx=some (.own a):=by
 obtain ⟨d,z,ne,ob,mA,n,r,q⟩:=(show b5 P w H h a (.ins C dx fs) from hok a _ e)
 exact ⟨mA,⟨ob,n,ne⟩,r,q,z,d⟩
end
structure Cls (K:PySem.W.Frag) (C:Addr):Prop where
 pg:PySem.W.plainGet K C Str.empty=true
 hd:PySem.W.hasDictIn K C=true
 po:PySem.W.plainOver K C=true
 sa:PySem.W.findIn K (.ref C) "__setattr__"=some (some (.builtin "object.__setattr__"))
theorem Cls.get {K:PySem.W.Frag} {C:Addr} (c:Cls K C) (f:Str):PySem.W.plainGet K C f=true:=c.pg
def bO (K:PySem.W.Frag) (C:Addr) (f:Str):Prop:=PySem.W.findIn K (.ref C) f=some none
theorem bO.DO {K:PySem.W.Frag} {C:Addr} {f:Str} (n:bO K C f):PySem.W.takerIn K C f=some none:=by
 unfold PySem.W.takerIn
 rw [show PySem.W.findIn K (.ref C) f=some none from n]
 rfl
section
variable {X:Cx} {pins:List (Addr×Obj)} {σ:St} {H:Hp} {s:Shared} {a C dx:Addr} {fs:List (Str×V)} {f:Str} {v:V} {A:Around} {E:Value->Shared->Prop}
theorem sN {b:Bool} {Q:Value->Shared->Prop} (I:Inv X pins σ H s) (e:H a=some (.ins C dx fs)) (c:Cls X.K C) (n:bO X.K C f) (l:fs.lookup f=some v)
  (h:∀ u s',Inv X pins σ H s'->RelV v u->Q u s'):wpAny (model X.prog X.w) A (getAttr (.ref a) f b) Q E s:=by
 obtain ⟨mA,O,r,_,_,_⟩:=qe I.hok e
 obtain ⟨u,hu,ru⟩:=uF.some_of (v:=v) (o:=mA f) (by rw [<- l];exact r f)
 exact get_map I.kIn O (c.get f) c.hd n hu (vM ru) (h u _ (I.tok _) ru)
theorem sX {y:V} {u:Value} {Q:Unit->Shared->Prop} (I:Inv X pins σ H s) (e:H a=some (.ins C dx fs)) (c:Cls X.K C) (n:bO X.K C f) (hl:fs.length<1000) (ry:RelV y u)
  (h:∀ s',Inv X pins σ (upd H a (.ins C dx (bQ f y fs))) s'->Q () s'):wpAny (model X.prog X.w) A (setAttr (.ref a) f u) Q E s:=by
 obtain ⟨mA,O,r,wi,_,ho⟩:=qe I.hok e
 have hz:(fs.map (·.1)).length<=sizeLine:=by rw [List.length_map,sizeLine_eq];omega
 refine y9 I.kIn O c.sa c.po n.DO c.hd wi hz λ h' O' sb=>h _ ?_
 have hd:∃ o,h'.get? dx=some o:=let ⟨o,_,_,e',_⟩:=O'.ns;⟨o,e'⟩
 refine I.write (x:=a) (e:=dx) (by rw [e];exact True.intro) (.inr ho) (λ b q hb z=>(sb.2 b hb).trans z) hd ?_
 refine ⟨by rw [aq O.ne];exact ho,?_,O.ne,O'.obj,_,O'.ns,λ g=>?_,λ g hg=>?_⟩
 ·have:=lY f y fs;omega
 ·show uF ((bQ f y fs).lookup g) (if g=f then some u else mA g)
  rw [l4]
  by_cases q:g=f
  ·rw [if_pos q,if_pos q];exact ry
  ·rw [if_neg q,if_neg q];exact r g
 ·by_cases q:g=f
  ·rw [q];exact (lM f y fs).1
  ·refine (lM f y fs).2 g (wi g λ z=>hg ?_)
   show (if g=f then some u else mA g)=none
   rw [if_neg q];exact z
theorem Inv.made (I:Inv X pins σ H s):Inv X pins σ (upd (upd H s.heap.objs.size (.own (s.heap.objs.size+1))) (s.heap.objs.size+1) (.ins C s.heap.objs.size []))
  { s with heap:=(s.heap.push PySem.W.emptyDict).push (PySem.W.instObj C s.heap.objs.size) }:=by
 have e1:(s.heap.push PySem.W.emptyDict).get? s.heap.objs.size=some PySem.W.emptyDict:=Heap.get?_push_size s.heap rfl
 have e2:((s.heap.push PySem.W.emptyDict).push (PySem.W.instObj C s.heap.objs.size)).get? (s.heap.objs.size+1)=some (PySem.W.instObj C s.heap.objs.size):=by
  have:=Heap.get?_push_size (s.heap.push PySem.W.emptyDict) (o:=PySem.W.instObj C s.heap.objs.size) rfl
  rwa [Heap.size_push] at this
 have e3:(s.heap.push PySem.W.emptyDict).Ns s.heap.objs.size (λ _=>none):=⟨PySem.W.emptyDict,#[],_,e1,rfl,(λ e he=>absurd he (by simp)),λ _=>rfl⟩
 have I1:=I.laid (a:=s.heap.objs.size) (o:=.own (s.heap.objs.size+1)) (h':=s.heap.push PySem.W.emptyDict) (t':=s.toks) (λ b u q=>Heap.get?_push_of_some _ q) (Nat.le_refl _) ⟨_,e1⟩
 refine I1.laid (a:=s.heap.objs.size+1) (o:=.ins C s.heap.objs.size []) (t':=s.toks) (λ b u q=>Heap.get?_push_of_some _ q) (Nat.le_of_eq (Heap.size_push _ _)) ?_
 have ne:s.heap.objs.size≠s.heap.objs.size+1:=Nat.ne_of_lt (Nat.lt_succ_self _)
 refine ⟨by rw [aq ne,ae],Nat.zero_le _,ne,e2,λ _=>none,(Heap.Ns1.of_empty e3).at λ o q=>Heap.get?_push_of_some _ q,λ _=>True.intro,λ y hy=>absurd rfl hy⟩
theorem zR {prog:Program} {w:World} {env:Env} {e:Expr} {f:Str} {pos:Pos} {s:Shared} {Q:Value->Shared->Prop} (hb:attributeBase e f env (eval e env)=eval e env)
  (h:wpAny (model prog w) A (eval e env) (λ o s₁=>wpAny (model prog w) A (getAttr o f true) Q E s₁) E s):wpAny (model prog w) A (eval (.Attribute e f pos) env) Q E s:=
 Attribute_any_ h (by rw [arm_eval_Attribute,hb])
end
def Cu (K:PySem.W.Frag) (ta:TE) (f:Str):TE:=λ σ H Q=>ta σ H λ x H1=>∃ a C dx fs v,x=.ref a/\H1 a=some (.ins C dx fs)/\Cls K C/\bO K C f/\fs.lookup f=some v/\Q v H1
def Em (K:PySem.W.Frag) (ta tv:TE) (f:Str):TS:=λ D σ H=>tv σ H λ y H1=>ta σ H1 λ x H2=>∃ a C dx fs,x=.ref a/\H2 a=some (.ins C dx fs)/\Cls K C/\bO K C f/\fs.length<1000 /\
 D.nx σ (upd H2 a (.ins C dx (bQ f y fs)))
section
variable {X:Cx} {o e value:Expr} {f:Str} {pos pos' tpos:Pos} {ta tv:TE}
theorem aS (he:PE X e ta) (hb:attributeBase e f X.env (eval e X.env)=eval e X.env):PE X (.Attribute e f pos) (Cu X.K ta f):=by
 intro pins s σ H Q I h
 refine zR hb (thn (he pins s σ H _ I h) λ u s1 ⟨x,H1,I1,rx,a,C,dx,fs,v,ex,ea,c,n,l,q⟩=>?_)
 subst ex
 obtain rfl:u=Value.ref a:=rx
 exact sN I1 ea c n l λ u' s2 I2 ru=>⟨v,H1,I2,ru,q⟩
theorem dS (ha:PE X o ta) (hv:PE X value tv) (hs:swapsWith value (some (.Attribute o f pos')) pos.line X.env=pure false):PS X (.Assign [.Attribute o f pos'] value pos) (Em X.K ta tv f):=by
 intro pins s σ H D I h
 refine plainObj_wpAny_Assign_Attribute (thn (hv pins s σ H _ I h) λ u s1 ⟨y,H1,I1,ry,q⟩=>thn (ha pins s1 σ H1 _ I1 q) λ ov s2 ⟨x,H2,I2,rx,a,C,dx,fs,ex,ea,c,n,l,q2⟩=>?_) hs
 subst ex
 obtain rfl:ov=Value.ref a:=rx
 exact sX I2 ea c n l ry λ s3 I3=>⟨σ,_,I3,q2⟩
end
section
variable {X:Cx} {pins:List (Addr×Obj)} {σ:St} {H:Hp} {s:Shared} {A:Around} {E:Value->Shared->Prop} {Q:Value->Shared->Prop} {c:Value} {b:Bool}
inductive kB (K:PySem.W.Frag) (H:Hp):V->Value->Prop where
 | non:kB K H .non (.type "NoneType")
 | bl (x:Bool):kB K H (.bl x) (.type "bool")
 | int (i:Int):kB K H (.int i) (.type "int")
 | str (x:Str):kB K H (.str x) (.type "str")
 | flt (x:UInt64):kB K H (.flt x) (.type "float")
 | lst {a:Addr} {xs:List V} (e:H a=some (.lst xs)):kB K H (.ref a) (.type "list")
 | frz {a:Addr} {o:Obj} {xs:List V} (e:H a=some (.frz o (.lst xs))):kB K H (.ref a) (.type "list")
 | tup {a:Addr} {xs:List V} (e:H a=some (.tup xs)):kB K H (.ref a) (.type "tuple")
 | dK {a:Addr} {kvs:List (Key×V)} (e:H a=some (.dK kvs)):kB K H (.ref a) (.type "dict")
 | dT {a:Addr} {kvs:List (List Key×V)} (e:H a=some (.dT kvs)):kB K H (.ref a) (.type "dict")
 | ins {a C dx:Addr} {fs:List (Str×V)} (e:H a=some (.ins C dx fs)) (cl:Cls K C) (ha:PySem.W.findIn K (.ref C) "__class__"=some (some (.builtin "object.__class__")))
   (hn:PySem.W.specialIn K (.builtin "object.__class__") "__get__"=some (some (.builtin "getset_descriptor.__get__"))) (htk:PySem.W.takesIn K (.builtin "object.__class__")=some true)
   (hm:PySem.W.mroIn K C (.type "object")=some true):kB K H (.ref a) (.ref C)
theorem o8 {x:V} {u t:Value} (I:Inv X pins σ H s) (rx:RelV x u) (ty:kB X.K H x t) (e:PySem.W.kitOne X.K t c=some b) (h:∀ tk,Q (.bool b) { s with toks:=tk }):
  wpAny (model X.prog X.w) A (call (.builtin "isinstance") [u,c]) Q E s:=by
 cases ty with
 | non=>cases (show u=Value.none from rx);exact PySem.W.kia_one PySem.W.kitx_none I.kIn True.intro e (λ z=>nomatch z) h
 | bl y=>cases (show u=Value.bool y from rx);exact PySem.W.kia_one PySem.W.kitx_bool I.kIn True.intro e (λ z=>nomatch z) h
 | int i=>obtain ⟨t,q⟩:=(show ∃ t,u=Value.int i t from rx);cases q;exact PySem.W.kia_one PySem.W.kitx_int I.kIn True.intro e (λ z=>nomatch z) h
 | str y=>obtain ⟨t,q⟩:=(show ∃ t,u=Value.str y t from rx);cases q;exact PySem.W.kia_one PySem.W.kitx_str I.kIn True.intro e (λ z=>nomatch z) h
 | flt y=>obtain ⟨t,q⟩:=(show ∃ t,u=Value.float y t from rx);cases q;exact PySem.W.kia_one PySem.W.kitx_float I.kIn True.intro e (λ z=>nomatch z) h
 | @lst a xs ea=>
  cases (show u=Value.ref a from rx)
  obtain ⟨_,_,n,_,h1⟩:=(show b5 X.prog X.w H s.heap a (.lst xs) from I.hok a _ ea)
  exact PySem.W.kia_one PySem.W.kitx_list I.kIn ⟨_,h1,rfl⟩ e (λ z=>nomatch z) h
 | @frz a ob xs ea=>
  cases (show u=Value.ref a from rx)
  obtain ⟨_,_,_,n,_,h1⟩:=(show b5 X.prog X.w H s.heap a (.frz ob (.lst xs)) from I.hok a _ ea)
  exact PySem.W.kia_one PySem.W.kitx_list I.kIn ⟨_,h1,rfl⟩ e (λ z=>nomatch z) h
 | @tup a xs ea=>
  cases (show u=Value.ref a from rx)
  obtain ⟨_,_,_,p⟩:=(show b5 X.prog X.w H s.heap a (.tup xs) from I.hok a _ ea)
  obtain ⟨o,h1,h2,_⟩:=p
  exact PySem.W.kia_one PySem.W.kitx_tuple I.kIn ⟨o,h1,h2⟩ e (λ z=>nomatch z) h
 | @dK a kvs ea=>
  cases (show u=Value.ref a from rx)
  obtain ⟨_,_,vs,_,p⟩:=(show b5 X.prog X.w H s.heap a (.dK kvs) from I.hok a _ ea)
  obtain ⟨o,es,ep,h1,h2,_⟩:=p
  exact PySem.W.kia_one PySem.W.kitx_dict I.kIn ⟨o,h1,h2.1⟩ e (λ z=>nomatch z) h
 | @dT a kvs ea=>
  cases (show u=Value.ref a from rx)
  obtain ⟨_,_,xs,_,o,es,ep,h1,h2,_⟩:=(show b5 X.prog X.w H s.heap a (.dT kvs) from I.hok a _ ea)
  exact PySem.W.kia_one PySem.W.kitx_dict I.kIn ⟨o,h1,h2.1⟩ e (λ z=>nomatch z) h
 | @ins a C dx fs ea cl ha hn htk hm=>
  cases (show u=Value.ref a from rx)
  obtain ⟨mA,O,_⟩:=qe I.hok ea
  obtain ⟨od,J,_⟩:=O.look
  exact PySem.W.kia_one (PySem.W.kitx_own (cl.get _) cl.hd ha hn htk hm) I.kIn J e (λ z=>nomatch z) h
end
structure bN (k:Nat) (A:Around):Prop where
 hd:A.handled=none
 dp:A.depth+3 * k+5<recursionLimit
 un:A.units+16 * k+200<cLine
theorem bN.mono {j k:Nat} {A:Around} (r:bN k A) (h:j<=k):bN j A:=⟨r.hd,by have:=r.dp;omega,by have:=r.un;omega⟩
theorem bN.deeper {k:Nat} {A:Around} (r:bN (k+1) A) (env:Env):bN k (A.deeper env):=
 ⟨r.hd,by have:=r.dp;show A.depth+1+3 * k+5<_;omega,by have:=r.un;show A.units+3+16 * k+200<_;omega⟩
theorem nU {A:Around} {C:Addr} {us:List Value} {kw:List (Str×Value)}:(A.under (.builtin "type.__call__" ⟨.ref C::us,kw⟩)).depth=A.depth+1:=by
 first | rfl | simp [Around.under,Code.weight,Code.isCreation,Code.isGuard,Code.isCaller,Code.frames,Code.isFrame,guardIds]
theorem tF {A:Around} {C:Addr} {us:List Value} {kw:List (Str×Value)}:(A.under (.builtin "type.__call__" ⟨.ref C::us,kw⟩)).units=A.units+1:=by
 first | rfl | simp [Around.under,Code.cUnits,Code.frames,Code.isFrame]
theorem bN.make {k:Nat} {A:Around} (r:bN (k+1) A) (C:Addr) (us:List Value) (kw:List (Str×Value)):bN k (A.under (.builtin "type.__call__" ⟨.ref C::us,kw⟩)):=
 ⟨r.hd,by have:=r.dp;rw [nU];omega,by have:=r.un;rw [tF];omega⟩
theorem bN.depth {k:Nat} {A:Around} (r:bN k A):A.depth<recursionLimit:=by have:=r.dp;omega
theorem bN.units {k:Nat} {A:Around} (r:bN k A):A.units+64<cLine:=by have:=r.un;omega
def uM:TA:=λ _ H Q=>Q [] H
def rm (ta:TE) (tr:TA):TA:=λ σ H Q=>ta σ H λ x H1=>tr σ H1 λ xs H2=>Q (x::xs) H2
section
variable {X:Cx} {e:Expr} {es:List Expr} {te:TE} {t:TA} {pos:Pos}
theorem aa:PA X [] uM:=λ _ _ _ _ H Q I h=>Calls.spliced_nil ⟨[],H,I,.nil,h⟩
theorem zJ (ha:PE X e te) (hr:PA X es t) (hs:starEach (e::es) X.env=(false,eval e X.env)::starEach es X.env:=by rfl):PA X (e::es) (rm te t):=by
 intro pos pins s σ H Q I h
 rw [hs]
 show wpAny _ _ (spliced ((false,eval e X.env)::backTo pos (starEach es X.env))) _ _ s
 refine Calls.spliced_cons (thn (ha pins s σ H _ I h) λ u s1 ⟨x,H1,I1,r1,q1⟩=>?_)
 exact thn (hr pos pins s1 σ H1 _ I1 q1) λ us s2 ⟨xs,H2,I2,r2,q2⟩=>⟨x::xs,H2,I2,.cons r1 r2,q2⟩
def EE (t:TA):TE:=λ σ H Q=>t σ H λ xs H1=>xs.length<=sizeLine/\∀ p,H1 p=none->Q (.ref p) (upd H1 p (.tup xs))
def yZ (t:TA):TE:=λ σ H Q=>t σ H λ xs H1=>xs.length<=sizeLine/\∀ p,H1 p=none->Q (.ref p) (upd H1 p (.lst xs))
theorem bH {x1} (h:PA X es t):PE X (.Tuple es x1 pos) (EE t):=by
 intro pins s σ H Q I hq
 refine wpAny_Tuple_spliced (thn (h pos pins s σ H _ I hq) λ us s1 ⟨xs,H1,I1,r,z,q⟩=>⟨by rw [<- r.length];exact z,?_⟩)
 have hf:H1 s1.heap.objs.size=none:=I1.hok.fresh (Nat.le_refl _)
 refine ⟨.ref s1.heap.objs.size,upd H1 s1.heap.objs.size (.tup xs),I1.laid (t':=s1.toks) (λ b u e=>Heap.get?_push_of_some _ e) (Nat.le_refl _) ?_,rfl,q _ hf⟩
 exact ⟨z,us,r,⟨_,Heap.get?_push_size _ rfl,rfl,_,rfl⟩⟩
theorem aM (h:PA X es t):PE X (.List es pos) (yZ t):=by
 intro pins s σ H Q I hq
 refine wpAny_List_spliced (thn (h pos pins s σ H _ I hq) λ us s1 ⟨xs,H1,I1,r,z,q⟩=>⟨by rw [<- r.length];exact z,?_⟩)
 have hf:H1 s1.heap.objs.size=none:=I1.hok.fresh (Nat.le_refl _)
 refine ⟨.ref s1.heap.objs.size,upd H1 s1.heap.objs.size (.lst xs),I1.laid (t':=s1.toks) (λ b u e=>Heap.get?_push_of_some _ e) (Nat.le_refl _) ?_,rfl,q _ hf⟩
 exact ⟨z,us,0,r,Heap.get?_push_size _ rfl⟩
end
abbrev Sp:=List V->Hp->VK->XK->Prop
abbrev CXT:=List Env->Hp->Shared->XK->Value->Shared->Prop
structure uy (P:Program) (w:World) (K:PySem.W.Frag) (mg:Str->Option Value) (base:Heap) (A:Around) (outer:List Env) (s:Shared) (H:Hp):Prop where
 frames:A.frames=some outer
 mod:Mod K mg base
 bs:∀ b o,base.get? b=some o->s.heap.get? b=some o/\H b=none
 bsz:base.objs.size<=s.heap.objs.size
 jx:s.heap.FunFrames base outer
 frf:∀ b∈frs outer,H b=none
 hok:HOk P w H s.heap
 bare:AllBare s.gens
def CE (outer:List Env) (P:Program) (w:World) (H:Hp) (s:Shared) (Q:VK) (u:Value) (s':Shared):Prop:=
 ∃ v H',s'.os=s.os/\AllBare s'.gens/\Un (frs outer) [] H H' s.heap s'.heap/\HOk P w H' s'.heap/\RelV v u/\Q v H'
def CR (CX:CXT) (outer:List Env) (P:Program) (w:World) (H:Hp) (s:Shared) (Q:VK) (E:XK) (r:Result) (s':Shared):Prop:=
 match r with
 | .ok (.ret u)=>CE outer P w H s Q u s'
 | .ok _=>False
 | .error e=>CX outer H s E e s'
structure c9 (P:Program) (w:World) (K:PySem.W.Frag) (mg:Str->Option Value) (base:Heap) (CX:CXT) (k:Nat) (f:Addr) (fd:FuncData) (ps:List Str) (sp:Sp):Prop where
 len:∀ vs H Q E,sp vs H Q E->vs.length=ps.length
 run:∀ (A:Around) (outer:List Env) (s:Shared) (H:Hp) (args:Args) (us:List Value) (vs:List V) (Q:VK) (E:XK),bN k A->uy P w K mg base A outer s H->BindsTo s fd args (ps.zip us)->Vals vs us->sp vs H Q E ->
  codeAny (model P w) A (.call (.ref f) args) (CR CX outer P w H s Q E) s
theorem c9.imp {P:Program} {w:World} {K:PySem.W.Frag} {mg:Str->Option Value} {base:Heap} {CX:CXT} {k:Nat} {f:Addr} {fd:FuncData} {ps:List Str} {sp sp':Sp} (F:c9 P w K mg base CX k f fd ps sp)
  (h:∀ vs H Q E,sp' vs H Q E->sp vs H Q E):c9 P w K mg base CX k f fd ps sp':=
 ⟨λ vs H Q E q=>F.len vs H Q E (h _ _ _ _ q),λ A outer s H args us vs Q E hr he hb hv hs=>F.run A outer s H args us vs Q E hr he hb hv (h _ _ _ _ hs)⟩
theorem uy.make {P:Program} {w:World} {K:PySem.W.Frag} {mg:Str->Option Value} {base:Heap} {A:Around} {outer:List Env} {s:Shared} {H:Hp} (e:uy P w K mg base A outer s H) (C:Addr) (us:List Value) (kw:List (Str×Value)):
  uy P w K mg base (A.under (.builtin "type.__call__" ⟨.ref C::us,kw⟩)) outer s H:=⟨by first | exact e.frames | (simpa [Around.under,Code.envs,Code.isFrame,pushEnvs] using e.frames),e.mod,e.bs,e.bsz,e.jx,e.frf,e.hok,e.bare⟩
section
variable {X:Cx} {pins:List (Addr×Obj)} {σ:St} {H:Hp} {s s':Shared}
theorem Inv.Di (I:Inv X pins σ H s):uy X.prog X.w X.K X.mg X.base X.A X.stack s H:=
 ⟨I.ok.frames,I.ok.mod,I.bs,Nat.le_trans I.ok.bsz I.sz,I.stack,I.gh,I.hok,I.bare⟩
theorem Inv.after {Q:VK} {u:Value} (I:Inv X pins σ H s) (h:CE X.stack X.prog X.w H s Q u s'):EP X pins σ Q u s':=by
 obtain ⟨v,H',os,bare,un,hok,r,q⟩:=h
 obtain ⟨hh,g,d,t,os'⟩:=s'
 obtain rfl:os'=s.os:=os
 exact ⟨v,H',I.call (h':=hh) (g':=g) (d':=d) (t':=t) (ch:=[]) un hok bare (λ b z=>absurd z (by simp)),r,q⟩
end
def AS (sp:Sp) (dvs:List V) (E:XK) (t:TA):TE:=λ σ H Q=>t σ H λ vs H1=>sp (vs++dvs) H1 Q E
def AG (C:Addr) (sp:Sp) (dvs:List V) (E:XK) (t:TA):TE:=λ σ H Q=>t σ H λ vs H1=>∀ x dx,H1 x=none->H1 dx=none->dx≠x ->
 sp (.ref x::(vs++dvs)) (upd (upd H1 dx (.own x)) x (.ins C dx [])) (λ v H2=>v=.non/\Q (.ref x) H2) E
def Binds (K:PySem.W.Frag) (fd:FuncData) (ps:List Str) (ds:List Value):Prop:=
 ∀ (s:Shared) (us:List Value),K.In s.heap->(us++ds).length=ps.length->BindsTo s fd ⟨us,[]⟩ (ps.zip (us++ds))
theorem Binds.all {K:PySem.W.Frag} {fd:FuncData} {ps:List Str} (h:∀ us:List Value,us.length=ps.length->bindArgs fd ⟨us,[]⟩=pure (ps.zip us)):Binds K fd ps []:=λ s us _ hl=>by
 rw [List.append_nil] at hl ⊢
 exact .of_eq (h us hl)
def Passes (CX:CXT) (X:Cx) (E:XK):Prop:=∀ (pins:List (Addr×Obj)) (σ:St) (H:Hp) (s:Shared) (e:Value) (s':Shared),Inv X pins σ H s->CX X.stack H s E e s'->X.xe e s'
section
variable {X:Cx} {CX:CXT} {k:Nat} {f C:Addr} {fd:FuncData} {ps:List Str} {sp:Sp} {dvs:List V} {ds:List Value} {E:XK} {x m:Str} {p pos apos:Pos} {e o:Expr} {es:List Expr} {ta:TE} {t:TA}
theorem CM {pins:List (Addr×Obj)} {σ:St} {H:Hp} {s:Shared} {Q:VK} {us:List Value} {vs:List V} (F:c9 X.prog X.w X.K X.mg X.base CX k f fd ps sp) (hr:bN k X.A) (hb:Binds X.K fd ps ds) (hd:Vals dvs ds) (hx:Passes CX X E)
  (I:Inv X pins σ H s) (r:Vals vs us) (h:sp (vs++dvs) H Q E):wpAny (model X.prog X.w) X.A (call (.ref f) us) (EP X pins σ Q) X.xe s:=by
 have r2:Vals (vs++dvs) (us++ds):=r.append hd
 have hl:(us++ds).length=ps.length:=by rw [<- r2.length];exact F.len _ _ _ _ h
 refine wpAny_call (codeAny_mono (F.run X.A X.stack s H ⟨us,[]⟩ (us++ds) (vs++dvs) Q E hr I.Di (hb s us I.kIn hl) r2 h) λ r s' hq=>?_)
 cases r with
 | error e=>exact hx pins σ H s e s' I hq
 | ok fl=>
  cases fl with
  | ret u=>exact I.after hq
  | next=>exact False.elim hq
  | brk=>exact False.elim hq
  | cont=>exact False.elim hq
theorem av (F:c9 X.prog X.w X.K X.mg X.base CX k f fd ps sp) (hr:bN k X.A) (hg:Gl X x) (hm:X.mg x=some (.ref f)) (hk:PySem.W.keepIn X.K (.ref f)=true) (hb:Binds X.K fd ps ds) (hd:Vals dvs ds) (hx:Passes CX X E)
  (ha:PA X (e::es) t) (hdb:(x==("__debug__":Str))=false:=by decide) (he:starEach (e::es) X.env=(false,eval e X.env)::starEach es X.env:=by rfl) (hpl:(backTo pos (starEach es X.env)).any (·.1)=false:=by rfl):
  PE X (.Call (.Name x p) (e::es) [] pos) (AS sp dvs E t):=by
 intro pins s σ H Q I h
 refine wpAny_Call_Name_kw (gI I hg hm ?_ hdb)
 refine PySem.W.callWith_K (h₀:=X.base) I.ok.mod.kin hk (thn (ha pos pins s σ H _ I h) λ us s1 ⟨vs,H1,I1,r,q⟩=>⟨I1.kIn,?_⟩) he hpl
 exact CM F hr hb hd hx I1 r q
structure Mk (K:PySem.W.Frag) (C f:Addr):Prop where
 makes:PySem.W.makesIn K C=true
 init:PySem.W.findIn K (.ref C) "__init__"=some (some (.ref f))
 fn:PySem.W.isFn K (.ref f)=true
 kp:PySem.W.keepIn K (.ref C)=true
theorem yw {pins:List (Addr×Obj)} {σ:St} {H:Hp} {s:Shared} {Q:VK} {us:List Value} {vs:List V} (M:Mk X.K C f) (F:c9 X.prog X.w X.K X.mg X.base CX k f fd ps sp) (hr:bN (k+1) X.A) (hb:Binds X.K fd ps ds) (hd:Vals dvs ds)
  (hx:Passes CX X E) (I:Inv X pins σ H s) (r:Vals vs us)
  (h:∀ x dx,H x=none->H dx=none->dx≠x->sp (.ref x::(vs++dvs)) (upd (upd H dx (.own x)) x (.ins C dx [])) (λ v H2=>v=.non/\Q (.ref x) H2) E):
  wpAny (model X.prog X.w) X.A (call (.ref C) us) (EP X pins σ Q) X.xe s:=by
 have hq:=h (s.heap.objs.size+1) s.heap.objs.size (I.hok.fresh (Nat.le_succ _)) (I.hok.fresh (Nat.le_refl _)) (Nat.ne_of_lt (Nat.lt_succ_self _))
 have I2:=Inv.made (C:=C) I
 have r2:Vals (V.ref (s.heap.objs.size+1)::(vs++dvs)) (Value.ref (s.heap.objs.size+1)::(us++ds)):=.cons rfl (r.append hd)
 have hl:(Value.ref (s.heap.objs.size+1)::us++ds).length=ps.length:=by
  have e:=r2.length
  rw [F.len _ _ _ _ hq] at e
  exact e.symm
 refine wpAny_call (sq (f:=f) I.kIn M.makes M.init (beq_iff_eq.mp M.fn) (codeAny_mono (F.run _ X.stack _ _ ⟨Value.ref (s.heap.objs.size+1)::us,[]⟩ (Value.ref (s.heap.objs.size+1)::(us++ds)) _ _ E (hr.make C us [])
  (I2.Di.make C us []) (hb _ (Value.ref (s.heap.objs.size+1)::us) I2.kIn hl) r2 hq) λ r s' hq'=>?_))
 cases r with
 | error e=>exact hx pins σ _ _ e s' I2 hq'
 | ok fl=>
  cases fl with
  | ret u=>
   obtain ⟨v,H',I3,rv,ev,q3⟩:=I2.after hq'
   subst ev
   exact ⟨rv,⟨V.ref (s.heap.objs.size+1),H',I3,rfl,q3⟩⟩
  | next=>exact False.elim hq'
  | brk=>exact False.elim hq'
  | cont=>exact False.elim hq'
theorem i0 (M:Mk X.K C f) (F:c9 X.prog X.w X.K X.mg X.base CX k f fd ps sp) (hr:bN (k+1) X.A) (hg:Gl X x) (hm:X.mg x=some (.ref C)) (hb:Binds X.K fd ps ds) (hd:Vals dvs ds) (hx:Passes CX X E)
  (ha:PA X (e::es) t) (hdb:(x==("__debug__":Str))=false:=by decide) (he:starEach (e::es) X.env=(false,eval e X.env)::starEach es X.env:=by rfl) (hpl:(backTo pos (starEach es X.env)).any (·.1)=false:=by rfl):
  PE X (.Call (.Name x p) (e::es) [] pos) (AG C sp dvs E t):=by
 intro pins s σ H Q I h
 refine wpAny_Call_Name_kw (gI I hg hm ?_ hdb)
 refine PySem.W.callWith_K (h₀:=X.base) I.ok.mod.kin M.kp (thn (ha pos pins s σ H _ I h) λ us s1 ⟨vs,H1,I1,r,q⟩=>⟨I1.kIn,?_⟩) he hpl
 exact yw M F hr hb hd hx I1 r q
end
def PK (X:Cx) (kws:List Keyword) (t:TA):Prop:=
 ∀ (pos:Pos) (pins:List (Addr×Obj)) (s:Shared) (σ:St) (H:Hp) (Q:List V->Hp->Prop),Inv X pins σ H s->t σ H Q->wpAny (model X.prog X.w) X.A (evalAll ((backToKw pos (keywordEach kws X.env)).map (·.2))) (AP X pins σ Q) X.xe s
section
variable {X:Cx} {CX:CXT} {k:Nat} {f C:Addr} {fd:FuncData} {ps ks:List Str} {sp:Sp} {E:XK} {x m:Str} {p pos apos kpos:Pos} {e o:Expr} {es:List Expr} {kws:List Keyword} {te ta:TE} {t tk:TA} {nm:Option Str}
theorem uE:PK X [] uM:=λ _ _ _ _ H Q I h=>wpAny_evalAll_nil ⟨[],H,I,.nil,h⟩
theorem mz (ha:PE X e te) (hr:PK X kws t):PK X (⟨nm,e,kpos⟩::kws) (rm te t):=by
 intro pos pins s σ H Q I h
 show wpAny _ _ (evalAll ((do let v <- eval e X.env;standAt pos;pure v)::(backToKw pos (keywordEach kws X.env)).map (·.2))) _ _ s
 refine wpAny_evalAll_cons (wpAny_bind (thn (ha pins s σ H _ I h) λ u s1 ⟨x,H1,I1,r1,q1⟩=>wpAny_bind (wpAny_standAt (wpAny_pure ?_))))
 exact thn (hr pos pins s1 σ H1 _ I1 q1) λ us s2 ⟨xs,H2,I2,r2,q2⟩=>⟨x::xs,H2,I2,.cons r1 r2,q2⟩
structure ft (K:PySem.W.Frag) (fd:FuncData) (ps ks:List Str) (g:List Value->List Value->List Value) (gV:List V->List V->List V):Prop where
 to:∀ (s:Shared) (us ws:List Value),K.In s.heap->(g us ws).length=ps.length->BindsTo s fd ⟨us,ks.zip ws⟩ (ps.zip (g us ws))
 rel:∀ {vs:List V} {us:List Value} {zs:List V} {ws:List Value},Vals vs us->Vals zs ws->Vals (gV vs zs) (g us ws)
variable {g:List Value->List Value->List Value} {gV:List V->List V->List V}
end
structure aH (N P:List Str) (sc:Scope):Prop where
 kind:sc.kind=.function
 co:sc.isCoroutine=false
 gen:sc.isGenerator=false
 nd:N.Nodup
 pre:N.take P.length=P
 par:∀ x∈P,sc.names.lookup x=some .local∨sc.names.lookup x=some .cell
 Cd:∀ y∈sc.names,y.2≠.free
theorem ph {kindOf:Str->Option NameKind} {x:Str}:∀ {binds:List (Str×Value)} {m:Str->Option Value},(∀ v,(x,v) ∉ binds)->bindL kindOf binds m x=m x
 | [],_,_=>rfl
 | (n,v)::r,m,h=>by
  unfold bindL
  rw [ph λ w hw=>h w (List.mem_cons_of_mem _ hw)]
  split
  ·have:x≠n:=by rintro rfl;exact h v List.mem_cons_self
   simp [this]
  ·rfl
theorem o6 {kindOf:Str->Option NameKind} {x:Str}:∀ {binds:List (Str×Value)} {m:Str->Option Value},(∀ v,(x,v) ∉ binds)->bindC kindOf binds m x=m x
 | [],_,_=>rfl
 | (n,v)::r,m,h=>by
  unfold bindC
  rw [o6 λ w hw=>h w (List.mem_cons_of_mem _ hw)]
  split
  ·rfl
  ·have:x≠n:=by rintro rfl;exact h v List.mem_cons_self
   simp [this]
theorem oZ {kindOf:Str->Option NameKind} {x:Str} {v:Value}:∀ {P:List Str} {vs:List Value} {i:Nat} {m:Str->Option Value},P.Nodup->P[i]?=some x->vs[i]?=some v->kindOf x=some .local ->
  bindL kindOf (P.zip vs) m x=some v
 | [],_,_,_,_,h,_,_=>by simp at h
 | _::_,[],_,_,_,_,h,_=>by simp at h
 | p::P,w::vs,0,m,nd,h1,h2,hk=>by
  simp at h1 h2;subst h1;subst h2
  show bindL kindOf ((p,w)::P.zip vs) m p=_
  unfold bindL
  rw [ph λ v hv=>(List.nodup_cons.mp nd).1 (List.of_mem_zip hv).1,if_pos hk]
  simp
 | p::P,w::vs,i+1,m,nd,h1,h2,hk=>by
  show bindL kindOf ((p,w)::P.zip vs) m x=_
  unfold bindL
  exact oZ (i:=i) (List.nodup_cons.mp nd).2 (by simpa using h1) (by simpa using h2) hk
theorem pF {kindOf:Str->Option NameKind} {x:Str} {v:Value}:∀ {P:List Str} {vs:List Value} {i:Nat} {m:Str->Option Value},P.Nodup->P[i]?=some x->vs[i]?=some v->kindOf x≠some .local ->
  bindC kindOf (P.zip vs) m x=some v
 | [],_,_,_,_,h,_,_=>by simp at h
 | _::_,[],_,_,_,_,h,_=>by simp at h
 | p::P,w::vs,0,m,nd,h1,h2,hk=>by
  simp at h1 h2;subst h1;subst h2
  show bindC kindOf ((p,w)::P.zip vs) m p=_
  unfold bindC
  rw [o6 λ v hv=>(List.nodup_cons.mp nd).1 (List.of_mem_zip hv).1,if_neg hk]
  simp
 | p::P,w::vs,i+1,m,nd,h1,h2,hk=>by
  show bindC kindOf ((p,w)::P.zip vs) m x=_
  unfold bindC
  exact pF (i:=i) (List.nodup_cons.mp nd).2 (by simpa using h1) (by simpa using h2) hk
def start (N:List Str) (vs:List V):St:=vs.map some++List.replicate (N.length - vs.length) none
def ix (CX:CXT) (P:Program) (w:World) (K:PySem.W.Frag) (mg:Str->Option Value) (base:Heap) (N:List Str) (qual:Str) (scope:Scope) (f:Addr) (cd:Value) (A:Around) (outer:List Env) (s:Shared) (H:Hp) (E:XK):Cx where
 prog:=P
 w:=w
 K:=K
 mg:=mg
 base:=base
 A:=A.deeper (envOfC qual scope s.heap.objs.size f cd)
 N:=N
 s₀:=s
 H₀:=H
 env:=envOfC qual scope s.heap.objs.size f cd
 outer:=outer
 stack:=envOfC qual scope s.heap.objs.size f cd::outer
 ex:=[]
 calm:=true
 fn:=λ _=>true
 pn:=[]
 xe:=λ e s'=>wpAny (model P w) (A.deeper (envOfC qual scope s.heap.objs.size f cd)) (leaving (envOfC qual scope s.heap.objs.size f cd) e) (λ _ s''=>CX outer H s E e s'') (λ e' s''=>CX outer H s E e' s'') s'
theorem rQ {sc:Scope} {n:Nat} {x:Str} (h:sc.names.lookup x=some .cell):∃ c,(cellsFrom n sc.names []).lookup x=some c:=by
 have q:=PySem.W.cellsFrom_some sc.names n [] (.inl h)
 exact Option.isSome_iff_exists.mp q
theorem vF {CX:CXT} {P:Program} {w:World} {K:PySem.W.Frag} {mg:Str->Option Value} {base:Heap} {N ps:List Str} {qual:Str} {scope:Scope} {f:Addr} {cd:Value} {A:Around} {outer:List Env} {s s1:Shared} {H:Hp} {E:XK} {us:List Value} {vs:List V}
  (S:aH N ps scope) (hd:A.handled=none) (e0:uy P w K mg base A outer s H) (hl:vs.length=ps.length) (r:Vals vs us)
  (x:InCallC s s.heap.objs.size (bindL (envOfC qual scope s.heap.objs.size f cd).kindOf (ps.zip us) λ _=>none) (cellsFrom (s.heap.objs.size+1) scope.names []) (bindC (envOfC qual scope s.heap.objs.size f cd).kindOf (ps.zip us) λ _=>none) s1):
  Inv (ix CX P w K mg base N qual scope f cd A outer s H E) [] (start N vs) H s1:=by
 have hpl:ps.length<=N.length:=by have:=congrArg List.length S.pre;rw [List.length_take] at this;omega
 obtain ⟨h1,tk,rfl,hk⟩:=x.done
 have noA:∀ b:Addr,b ∉ (ix CX P w K mg base N qual scope f cd A outer s H E).ex:=λ b z=>absurd (show b∈([]:List Addr) from z) (by simp)
 refine ⟨⟨e0.mod,S.kind,rfl,rfl,Nat.le_refl _,λ y z c h1 h2=>?_,λ y hy=>?_,λ y c _ h=>?_,λ _=>hd,Around.frames_deeper e0.frames,.inr ⟨rfl,rfl⟩,λ b z=>absurd z (noA b),e0.bs,e0.bsz,λ b _ _=>noA b,λ b z=>absurd z (noA b),e0.jx,e0.frf⟩,
  rfl,e0.bare,Un.kept hk,⟨_,x.toInCall.ns,λ i y v h1 h2 h3=>?_⟩,λ y c h=>⟨_,x.cell y c h⟩,e0.hok.fresh (Nat.le_refl _),λ y c h=>?_,λ p hp=>absurd (show p∈([]:List (Addr×Obj)) from hp) (by simp),e0.hok.kept hk,?_⟩
 ·exact name_of_addr x.apart (PySem.mem_of_lookup h1) (PySem.mem_of_lookup h2)
 ·have hy:scope.names.lookup y=some .cell∨scope.names.lookup y=some .free:=hy
  rcases hy with hy | hy
  ·exact rQ hy
  ·exact absurd rfl (S.Cd _ (PySem.mem_of_lookup hy))
 ·exact Nat.le_of_lt (x.above y c (PySem.mem_of_lookup h))
 ·have hi:i<vs.length:=by
   unfold start at h2
   by_cases hi:i<vs.length
   ·exact hi
   ·rw [List.getElem?_append_right (by simpa using hi)] at h2
    rw [List.getElem?_replicate] at h2
    split at h2 <;> cases h2
  have ha:vs[i]?=some v:=by
   unfold start at h2
   rw [List.getElem?_append_left (by simpa using hi),List.getElem?_map] at h2
   cases e:vs[i]? with
   | none=>rw [e] at h2;cases h2
   | some a=>rw [e] at h2;cases h2;rfl
  obtain ⟨u,hu,rv⟩:=r.get ha
  have hp:ps[i]?=some y:=by
   rw [<- S.pre,List.getElem?_take_of_lt (by omega)];exact h1
  have ndP:ps.Nodup:=by rw [<- S.pre];exact S.nd.sublist (List.take_sublist _ _)
  refine ⟨u,rv,?_⟩
  rcases S.par y (List.mem_of_getElem? hp) with k | k
  ·exact .inl ⟨k,oZ ndP hp hu k⟩
  ·obtain ⟨c,e⟩:=rQ (n:=s.heap.objs.size+1) k
   refine .inr ⟨.inl k,c,e,?_⟩
   have q:=x.cell y c e
   rw [pF ndP hp hu (by show scope.names.lookup y≠_;rw [k];decide)] at q
   exact q
 ·exact e0.hok.fresh (Nat.le_of_lt (x.above y c (PySem.mem_of_lookup h)))
 ·unfold start
  show _=N.length
  rw [List.length_append,List.length_map,List.length_replicate]
  omega
theorem xH {CX:CXT} {P:Program} {w:World} {K:PySem.W.Frag} {mg:Str->Option Value} {base:Heap} {k:Nat} {f:Addr} {name qual:Str} {params:Arguments} {body:List Stmt} {scope:Scope} {dV kV doc pm cdv ct oc:Value} {an od:Option Addr}
  {osl:Array (Option Value)} {N ps:List Str} {sp:Sp} (lk:K.lookup f=some ⟨oc,od,.func (PySem.W.fnOf name qual params body scope dV kV doc pm an cdv ct),osl⟩) (hcd:PySem.W.codeIn K cdv qual=true) (S:aH N ps scope)
  (len:∀ vs H Q E,sp vs H Q E->vs.length=ps.length)
  (hbody:∀ (A:Around) (outer:List Env) (s:Shared) (H:Hp) (vs:List V) (Q:VK) (E:XK),bN k (A.deeper (envOfC qual scope s.heap.objs.size f cdv))->sp vs H Q E ->
   ∃ t,PSs (ix CX P w K mg base N qual scope f cdv A outer s H E) body t/\t { nx:=λ _ H'=>Q .non H',rt:=Q } (start N vs) H):
  c9 P w K mg base CX (k+1) f (PySem.W.fnOf name qual params body scope dV kV doc pm an cdv ct) ps sp:=by
 refine ⟨len,λ A outer s H args us vs Q E hr e0 hb r hsp=>?_⟩
 have hl:=len _ _ _ _ hsp
 have KX:K.In s.heap:=e0.mod.kin.keeps λ b o e=>(e0.bs b o e).1
 have lim:s.heap.NoLimit:=e0.mod.nolimit.keeps λ b o e=>(e0.bs b o e).1
 have hkind:∀ y∈ps.zip us,scope.names.lookup y.1=some .local∨(scope.names.lookup y.1=some .cell/\((cellsFrom (s.heap.objs.size+1) scope.names []).lookup y.1).isSome=true):=λ ⟨n,v⟩ hy=>by
  rcases S.par n (List.of_mem_zip hy).1 with q | q
  ·exact .inl q
  ·exact .inr ⟨q,PySem.W.cellsFrom_some _ _ _ (.inl q)⟩
 refine codeAny_call_function hr.depth (KX _ _ lk) rfl S.co S.gen rfl (PySem.W.codeRec_of KX hcd) (hb _ _ _ _ ?_)
 refine wpAny_newFunctionEnv_cells S.kind hkind λ env he s1 x=>?_
 subst he
 refine ⟨lim.keeps x.toInCall.keep,codeAny_func ?_⟩
 obtain ⟨t,ht,hq⟩:=hbody A outer s H vs Q E (hr.deeper _) hsp
 have I:Inv (ix CX P w K mg base N qual scope f cdv A outer s H E) [] (start N vs) H s1:=vF S hr.hd e0 hl r x
 refine wpAny_mono (ht [] s1 (start N vs) H _ I hq) (λ fl s' hs=>?_) λ e s' hs=>hs
 have fin:∀ {σ':St} {H':Hp} {v:V} {u:Value},Inv (ix CX P w K mg base N qual scope f cdv A outer s H E) [] σ' H' s'->RelV v u->Q v H'->CE outer P w H s Q u s':=
  λ {σ' H' v u} J rv q=>⟨v,H',J.os,J.bare,J.base,J.hok,rv,q⟩
 cases fl with
 | ret u=>
  obtain ⟨v,σ',H',J,rv,q⟩:=hs
  exact fin J rv q
 | next=>
  obtain ⟨σ',H',J,q⟩:=hs
  exact fin (v:=V.non) (u:=Value.none) J rfl q
 | brk=>
  obtain ⟨_,_,_,q⟩:=hs
  exact False.elim q
 | cont=>
  obtain ⟨_,_,_,q⟩:=hs
  exact False.elim q
section
variable {X:Cx} {x:Str} {p pos:Pos} {e:Expr} {es:List Expr} {t:TA} {id T:String} {r:List V->Hp->VK->Prop}
def tCB (r:List V->Hp->VK->Prop) (t:TA):TE:=λ σ H Q=>t σ H λ vs H1=>r vs H1 Q
theorem aF (hc:eg X (.builtin id) r) (hg:Gl X x) (hm:X.mg x=none) (hv:bootBuiltins x=some (.builtin id)) (ha:PA X (e::es) t) (hn:x≠"__name__":=by decide) (hdb:(x==("__debug__":Str))=false:=by decide)
  (he:starEach (e::es) X.env=(false,eval e X.env)::starEach es X.env:=by rfl) (hpl:(backTo pos (starEach es X.env)).any (·.1)=false:=by rfl):PE X (.Call (.Name x p) (e::es) [] pos) (tCB r t):=by
 intro pins s σ H Q I h
 refine wpAny_Call_Name_kw (iE I hg hm hv ?_ hn hdb)
 exact PyProof.Rows.callWith_builtin1 (thn (ha pos pins s σ H _ I h) λ us s1 ⟨vs,H1,I1,r1,q1⟩=>hc pins s1 σ H1 vs us Q I1 r1 q1) he hpl
theorem bL (hc:eg X (.type T) r) (hg:Gl X x) (hm:X.mg x=none) (hv:bootBuiltins x=some (.type T)) (ha:PA X (e::es) t) (hn:x≠"__name__":=by decide) (hdb:(x==("__debug__":Str))=false:=by decide)
  (he:starEach (e::es) X.env=(false,eval e X.env)::starEach es X.env:=by rfl) (hpl:(backTo pos (starEach es X.env)).any (·.1)=false:=by rfl):PE X (.Call (.Name x p) (e::es) [] pos) (tCB r t):=by
 intro pins s σ H Q I h
 refine wpAny_Call_Name_kw (iE I hg hm hv ?_ hn hdb)
 exact PyProof.Rows.callWith_type1 (thn (ha pos pins s σ H _ I h) λ us s1 ⟨vs,H1,I1,r1,q1⟩=>hc pins s1 σ H1 vs us Q I1 r1 q1) he hpl
end
end L2
namespace HT
open PySem PyProof.Rows
section
open PySem.SeqAt
open PySem.AutoSeq1 (wpAny_loadPart')
open PySem.MeetsSeq PySem.MeetsSeq2 PySem.MeetsSeq3
end
section
variable {prog:Program} {w:World} {A:Around} {E:Value->Shared->Prop} {s:Shared}
def sIx (n d:Nat):Option Int->Nat
 | none=>d
 | some v=>if v<0 then (v+(n:Int)).toNat else min v.toNat n
theorem kI (n d:Nat):sIx n d none=d:=rfl
theorem mD (n d k:Nat):sIx n d (some (k:Int))=min k n:=by
 show (if (k:Int)<0 then ((k:Int)+(n:Int)).toNat else min (k:Int).toNat n)=min k n
 rw [if_neg (by omega),Int.toNat_natCast]
end
end HT
namespace L2
open PySem PySem.Spec PyProof.Rows
abbrev TO:=St->Hp->(Option Int->Hp->Prop)->Prop
def PO (X:Cx) (e:Option Expr) (t:TO):Prop:=
 ∀ (pins:List (Addr×Obj)) (s:Shared) (σ:St) (H:Hp) (Q:Option Int->Hp->Prop),Inv X pins σ H s->t σ H Q ->
  wpAny (model X.prog X.w) X.A (evalPart e X.env) (λ u s'=>∃ o H',Inv X pins σ H' s'/\IsPart u o/\Q o H') X.xe s
def vp:TO:=λ _ H Q=>Q none H
def AJ (t:TE):TO:=λ σ H Q=>t σ H λ x H1=>∃ i,x=.int i/\Q (some i) H1
section
variable {X:Cx} {e:Expr} {te:TE} {lo hi:Option Expr} {tl th:TO} {pos p2:Pos}
theorem bS:PO X none vp:=by
 intro pins s σ H Q I h
 rw [evalPart_none]
 exact wpAny_pure ⟨none,H,I,.none,h⟩
theorem bz (h:PE X e te):PO X (some e) (AJ te):=by
 intro pins s σ H Q I hw
 rw [evalPart_some]
 refine thn (h pins s σ H _ I hw) λ u s1 ⟨x,H1,I1,r1,q1⟩=>?_
 obtain ⟨i,rfl,q⟩:=q1
 obtain ⟨t,rfl⟩:=r1
 exact ⟨some i,H1,I1,.int i t,q⟩
def SlR (X:Cx) (r:V->Option Int->Option Int->Hp->VK->Prop):Prop:=
 ∀ (pins:List (Addr×Obj)) (s:Shared) (σ:St) (H:Hp) (x:V) (v vl vu:Value) (lo hi:Option Int) (sl:Addr) (Q:VK),Inv X pins σ H s->RelV x v->s.heap.IsSliceOf sl vl vu .none->IsPart vl lo->IsPart vu hi->r x lo hi H Q ->
  ∃ T id,typeLookup (.type T) "__getitem__"=pure (some (.builtin id))/\s.TypeIs v T/\wpAny (model X.prog X.w) X.A (getItem v (.ref sl)) (EP X pins σ Q) X.xe s
def tSl (r:V->Option Int->Option Int->Hp->VK->Prop) (te:TE) (tl th:TO):TE:=λ σ H Q=>te σ H λ x H1=>tl σ H1 λ l H2=>th σ H2 λ u H3=>r x l u H3 Q
theorem bq {r:V->Option Int->Option Int->Hp->VK->Prop} (hr:SlR X r) (he:PE X e te) (hl:PO X lo tl) (hu:PO X hi th):PE X (.Subscript e (.Slice lo hi none p2) pos) (tSl r te tl th):=by
 intro pins s σ H Q I h
 refine Subscript_ (thn (he pins s σ H _ I h) λ v s1 ⟨x,H1,I1,r1,q1⟩=>?_)
 refine wpAny_Slice (thn (hl pins s1 σ H1 _ I1 q1) λ vl s2 ⟨l,H2,I2,pl,q2⟩=>thn (hu pins s2 σ H2 _ I2 q2) λ vu s3 ⟨u,H3,I3,pu,q3⟩=>?_)
 rw [evalPart_none]
 refine wpAny_pure ?_
 have I4:Inv X pins σ H3 { s3 with heap:=s3.heap.push { cls:=.type "slice",data:=.fields #[vl,vu,.none] } }:=I3.kept (t':=s3.toks) λ b ob q=>Heap.get?_push_of_some _ q
 obtain ⟨T,id,hT,ht,hg⟩:=hr pins { s3 with heap:=s3.heap.push { cls:=.type "slice",data:=.fields #[vl,vu,.none] } } σ H3 x v vl vu l u s3.heap.objs.size Q I4 r1 (Heap.IsSliceOf.new ..) pl pu q3
 show wpAny (model X.prog X.w) X.A (subscriptTail e (.Slice lo hi none p2) v (.ref s3.heap.objs.size)) (EP X pins σ Q) X.xe { s3 with heap:=s3.heap.push { cls:=.type "slice",data:=.fields #[vl,vu,.none] } }
 exact tail_any (ops:=[.ref s3.heap.objs.size,v]) ht hT hg (by with_unfolding_all rfl)
def eG (xs:List V) (lo hi:Option Int):List V:=(xs.drop (HT.sIx xs.length 0 lo)).take (HT.sIx xs.length xs.length hi - HT.sIx xs.length 0 lo)
theorem l9 (xs:List V) (lo hi:Option Int):(eG xs lo hi).length<=xs.length:=by
 unfold eG
 rw [List.length_take,List.length_drop]
 omega
end
def ixN (n:Nat) (i:Int):Option Nat:=if 0<=i then (if i<n then some i.toNat else none) else if -(n:Int)<=i then some (i+n).toNat else none
def atI {α:Type} (xs:List α) (i:Int):Option α:=(ixN xs.length i).bind λ j=>xs[j]?
theorem vh {n:Nat} {i:Int} {j:Nat} (h:ixN n i=some j):seqIndex? i n=some j/\j<n/\-(n:Int)<=i/\i<n:=by
 unfold ixN at h
 by_cases h0:0<=i
 ·rw [if_pos h0] at h
  by_cases h1:i<n
  ·rw [if_pos h1] at h
   have e:i.toNat=j:=Option.some.inj h
   exact ⟨by rw [seqIndex_of h0 h1,e],by omega,by omega,h1⟩
  ·rw [if_neg h1] at h;cases h
 ·rw [if_neg h0] at h
  by_cases h1:-(n:Int)<=i
  ·rw [if_pos h1] at h
   have e:(i+n).toNat=j:=Option.some.inj h
   exact ⟨by rw [seqIndex_neg (by omega) h1,e],by omega,h1,by omega⟩
  ·rw [if_neg h1] at h;cases h
theorem qK {α:Type} {xs:List α} {i:Int} {v:α} (h:atI xs i=some v):∃ j,seqIndex? i xs.length=some j/\xs[j]?=some v/\j<xs.length/\-(xs.length:Int)<=i/\i<xs.length:=by
 unfold atI at h
 cases e:ixN xs.length i with
 | none=>rw [e] at h;cases h
 | some j=>
  rw [e] at h
  obtain ⟨h1,h2,h3,h4⟩:=vh e
  exact ⟨j,h1,h,h2,h3,h4⟩
theorem eE {α:Type} {xs:List α} {j:Nat} {v:α} (h:xs[j]?=some v):atI xs (j:Int)=some v:=by
 have hj:j<xs.length:=(List.getElem?_eq_some_iff.mp h).1
 have e:ixN xs.length (j:Int)=some j:=by
  unfold ixN
  rw [if_pos (by omega),if_pos (by omega)];simp
 unfold atI;rw [e];exact h
theorem xI {α:Type} (xs:List α) (v:α):atI (xs++[v]) (-1)=some v:=by
 have hl:(xs++[v]).length=xs.length+1:=by simp
 have e:ixN (xs++[v]).length (-1)=some xs.length:=by
  unfold ixN
  rw [hl,if_neg (by decide),if_pos (by omega)]
  congr 1
  omega
 unfold atI
 rw [e]
 show (xs++[v])[xs.length]?=some v
 simp
def yQ (b:Expr):Prop:=∀ o i,subscripted b false o i=operate [o,i] (getItem o i)
def IxR (X:Cx) (r:R2):Prop:=
 ∀ (value slice:Expr) (pins:List (Addr×Obj)) (s:Shared) (σ:St) (H:Hp) (x y:V) (v u:Value) (Q:VK),Inv X pins σ H s->RelV x v->RelV y u->r x y H Q ->
  subscripted slice false v u=operate [v,u] (getItem v u)->wpAny (model X.prog X.w) X.A (subscriptTail value slice v u) (EP X pins σ Q) X.xe s
def MtR (X:Cx) (id:String) (r:V->List V->Hp->VK->Prop):Prop:=
 ∀ (pins:List (Addr×Obj)) (s:Shared) (σ:St) (H:Hp) (x:V) (xs:List V) (v:Value) (us:List Value) (Q:VK),Inv X pins σ H s->RelV x v->Vals xs us->r x xs H Q ->
  wpAny (model X.prog X.w) X.A (call (.builtin id) (v::us)) (EP X pins σ Q) X.xe s
section
variable {X:Cx} {a b:Expr} {ta tb:TE} {pos:Pos}
theorem aV {r:R2} (hr:IxR X r) (ha:PE X a ta) (hb:PE X b tb) (hs:yQ b):PE X (.Subscript a b pos) (tOp r ta tb):=by
 intro pins s σ H Q I h
 exact Subscript_ (CB ha hb I h λ v u s2 x y H2 I2 rx ry q=>hr a b pins s2 σ H2 x y v u Q I2 rx ry q (hs _ _))
def Ep (K:PySem.W.Frag):R2:=λ x y H Q=>∃ p xs i v,x=.ref p/\y=.int i/\SqL K H p xs/\atI xs i=some v/\Q v H
def Eo (K:PySem.W.Frag):R2:=λ x y H Q=>∃ p xs i v,x=.ref p/\y=.int i/\SqT K H p xs/\atI xs i=some v/\Q v H
def FD:R2:=λ x y H Q=>∃ z i c,x=.str z/\y=.int i/\z.length<=sizeLine/\atI z.cps.toList i=some c/\Q (.str ⟨#[c]⟩) H
theorem a7:IxR X (Ep X.K):=by
 intro value slice pins s σ H x y v u Q I rx ry h hs
 obtain ⟨p,xs,i,z,rfl,rfl,hq,he,q⟩:=h
 cases rx
 obtain ⟨t,rfl⟩:=ry
 obtain ⟨its,r,pl,hz⟩:=I.list hq
 obtain ⟨j,h1,h2,h3,h4,h5⟩:=qK he
 obtain ⟨w,ew,rw'⟩:=r.get h2
 have hl:=r.length
 have hn:=k9
 have fin:EP X pins σ Q w s:=⟨z,H,I,rw',q⟩
 by_cases h0:0<=i
 ·have hj:i.toNat=j:=by
   rw [seqIndex_of h0 h5] at h1
   exact Option.some.inj h1
  exact item_listR pl.isList h0 (by omega) (by rw [hj];simpa using ew) fin hs
 ·have hj:(i+(its.toArray.size:Int)).toNat=j:=by
   rw [seqIndex_neg (by omega) h4] at h1
   rw [List.size_toArray,<- hl]
   exact Option.some.inj h1
  exact subscriptTail_builtinR (x:=w) pl.isList.typeIs slot_list_getitem.lookup
   (wpAny_getItem_list_neg (Q:=λ r s'=>r=w/\EP X pins σ Q r s') pl.isList (by omega) (by rw [List.size_toArray] <;> omega) (by omega) (by rw [hj];simpa using ew) ⟨rfl,fin⟩) hs
theorem b9:IxR X (Eo X.K):=by
 intro value slice pins s σ H x y v u Q I rx ry h hs
 obtain ⟨p,xs,i,z,rfl,rfl,hq,he,q⟩:=h
 cases rx
 obtain ⟨t,rfl⟩:=ry
 obtain ⟨its,r,pl,hz⟩:=I.tuple hq
 obtain ⟨j,h1,h2,h3,h4,h5⟩:=qK he
 obtain ⟨w,ew,rw'⟩:=r.get h2
 have hl:=r.length
 have hn:=k9
 have fin:EP X pins σ Q w s:=⟨z,H,I,rw',q⟩
 exact subscriptTail_builtinR (x:=w) pl.typeIs slot_tuple_getitem.lookup
  (getItem_tuple (j:=j) (Q:=λ r s'=>r=w/\EP X pins σ Q r s') pl (by omega) (by omega) (by rw [List.size_toArray,<- hl];exact h1) (by simpa using ew) ⟨rfl,fin⟩) hs
theorem mS:IxR X FD:=by
 intro value slice pins s σ H x y v u Q I rx ry h hs
 obtain ⟨z,i,c,rfl,rfl,hz,he,q⟩:=h
 obtain ⟨t,rfl⟩:=rx
 obtain ⟨t',rfl⟩:=ry
 obtain ⟨j,h1,h2,h3,h4,h5⟩:=qK he
 have hl:z.cps.toList.length=z.length:=by simp [Str.length]
 rw [hl] at h1 h4 h5
 have hn:=k9
 exact tail_any (typeIs_str s z t) slot_str_getitem.lookup (getItem_str (c:=c) (by
  have e1:decide (i < -(2 ^ 63:Int))=false:=decide_eq_false (by omega)
  have e2:decide (i ≥ 2 ^ 63)=false:=decide_eq_false (by omega)
  rw [e1,e2,Bool.or_false]) (by rw [h1];simpa using h2) ⟨.str ⟨#[c]⟩,H,I.tok _,⟨_,rfl⟩,q⟩) hs
theorem tW (its:List Value) (n j:Nat) (u:Value):Obj.mapSeq (·.setIfInBounds j u) { cls:=.type "list",data:=.seq its.toArray n }={ cls:=.type "list",data:=.seq (its.set j u).toArray n }:=by
 simp [Obj.mapSeq]
theorem Inv.lst {pins:List (Addr×Obj)} {σ:St} {H:Hp} {s:Shared} {p:Addr} {xs:List V} (I:Inv X pins σ H s) (h:H p=some (.lst xs)):
  ∃ (its:List Value) (n:Nat),Vals xs its/\s.heap.get? p=some { cls:=.type "list",data:=.seq its.toArray n }/\xs.length<=sizeLine:=by
 obtain ⟨z,its,n,r,e⟩:=I.hok p _ h
 exact ⟨its,n,r,e,z⟩
theorem Inv.C4 {pins:List (Addr×Obj)} {σ:St} {H:Hp} {s:Shared} {p:Addr} {xs ys:List V} {its its':List Value} {n n':Nat} {f:Obj->Obj} (I:Inv X pins σ H s) (h:H p=some (.lst xs))
  (ho:s.heap.get? p=some { cls:=.type "list",data:=.seq its.toArray n }) (hf:f { cls:=.type "list",data:=.seq its.toArray n }={ cls:=.type "list",data:=.seq its'.toArray n' }) (r:Vals ys its') (hz:ys.length<=sizeLine) (t:Nat):
  Inv X pins σ (upd H p (.lst ys)) { s with heap:=s.heap.update p f,toks:=t }:=by
 have e:(s.heap.update p f).get? p=some { cls:=.type "list",data:=.seq its'.toArray n' }:=by
  rw [Heap.get?_update_self f ho (by rw [hf] <;> rfl),hf]
 refine I.write (x:=p) (e:=p) (by rw [h];trivial) (.inl rfl) (λ b u hb q=>(Heap.get?_update_other _ _ (Ne.symm hb)).trans q) ⟨_,e⟩ ?_
 exact ⟨hz,its',n',r,e⟩
def DC:V->V->V->Hp->(Hp->Prop)->Prop:=λ o i v H Q=>∃ p xs k j,o=.ref p/\i=.int k/\H p=some (.lst xs)/\ixN xs.length k=some j/\Q (upd H p (.lst (xs.set j v)))
theorem set_list:DQ X DC:=by
 intro pins s σ H o i v ov iv u Q I ro ri rv h
 obtain ⟨p,xs,k,j,rfl,rfl,hp,hj,q⟩:=h
 cases ro
 obtain ⟨t,rfl⟩:=ri
 obtain ⟨its,n,r,ho,hz⟩:=I.lst hp
 obtain ⟨h1,h2,h3,h4⟩:=vh hj
 have hl:=r.length
 have hn:=k9
 have I':Inv X pins σ (upd H p (.lst (xs.set j v))) { s with heap:=s.heap.update p (Obj.mapSeq (·.setIfInBounds j u)) }:=
  I.C4 hp ho (tW its n j u) (r.set rv j) (by rw [List.length_set];exact hz) s.toks
 by_cases h0:0<=k
 ·have hk:k.toNat=j:=by
   rw [seqIndex_of h0 h4] at h1
   exact Option.some.inj h1
  exact PySem.W.ki_setAt ho h0 (by omega) (by rw [List.size_toArray,<- hl];exact h4) (by rw [hk];exact ⟨_,I',q⟩)
 ·have hk:(k+(its.toArray.size:Int)).toNat=j:=by
   rw [seqIndex_neg (by omega) h3] at h1
   rw [List.size_toArray,<- hl]
   exact Option.some.inj h1
  exact PySem.W.ki_setBack ho (by omega) (by rw [List.size_toArray,<- hl];exact h3) (by omega) (by rw [hk];exact ⟨_,I',q⟩)
theorem qG (lo hi:Option Int) (n:Nat):(sliceBounds lo hi none n).1=((HT.sIx n 0 lo:Nat):Int)/\(sliceBounds lo hi none n).2.1=((HT.sIx n n hi:Nat):Int)/\(sliceBounds lo hi none n).2.2=1:=by
 refine ⟨?_,?_,rfl⟩
 ·cases lo with
  | none=>simp [sliceBounds,HT.sIx]
  | some i=>
   simp only [sliceBounds,HT.sIx,Option.getD_none,show (1:Int) > 0 by decide,if_true]
   by_cases h:i<0
   ·simp only [h,if_true] <;> omega
   ·simp only [h,if_false] <;> omega
 ·cases hi with
  | none=>simp [sliceBounds,HT.sIx]
  | some i=>
   simp only [sliceBounds,HT.sIx,Option.getD_none,show (1:Int) > 0 by decide,if_true]
   by_cases h:i<0
   ·simp only [h,if_true] <;> omega
   ·simp only [h,if_false] <;> omega
theorem oR (its:List Value) (lo hi:Option Int):slicePick its.toArray lo hi none=((its.drop (HT.sIx its.length 0 lo)).take (HT.sIx its.length its.length hi - HT.sIx its.length 0 lo)).toArray:=by
 obtain ⟨h1,h2,h3⟩:=qG lo hi its.toArray.size
 unfold slicePick
 rw [h1,h2,h3]
 simp only [sliceRange_one,pick_run,List.size_toArray] <;> rfl
def FA (K:PySem.W.Frag):V->Option Int->Option Int->Hp->VK->Prop:=λ x lo hi H Q=>∃ a xs,x=.ref a/\SqL K H a xs/\∀ p,H p=none->Q (.ref p) (upd H p (.lst (eG xs lo hi)))
theorem ez:SlR X (FA X.K):=by
 intro pins s σ H x v vl vu lo hi sl Q I rx hs pl pu h
 obtain ⟨a,xs,rfl,hx,q⟩:=h
 cases rx
 obtain ⟨its,r,ht,hz⟩:=I.list hx
 have hlen:=r.length
 refine ⟨"list",_,slot_list_getitem.lookup,ht.isList.typeIs,?_⟩
 refine wpAny_getItem_list_slice ht.isList hs pl pu .none (by simp) ?_ (by rw [List.size_toArray] <;> omega)
 rw [oR,<- hlen]
 refine ⟨.ref s.heap.objs.size,_,I.laid (t':=s.toks) (o:=.lst (eG xs lo hi)) (λ b ob q=>Heap.get?_push_of_some _ q) (Nat.le_refl _) ?_,rfl,q _ (I.hok.fresh (Nat.le_refl _))⟩
 exact ⟨Nat.le_trans (l9 xs lo hi) hz,_,0,(r.drop (HT.sIx xs.length 0 lo)).take (HT.sIx xs.length xs.length hi - HT.sIx xs.length 0 lo),Heap.get?_push_size _ rfl⟩
def dw:V->Bool
 | .non=>true
 | .bl _=>true
 | .int _=>true
 | .str _=>true
 | _=>false
def eqV:V->V->Bool
 | .non,.non=>true
 | .bl a,.bl b=>a==b
 | .bl a,.int b=>(if a then 1 else 0)==b
 | .int a,.bl b=>a==(if b then 1 else 0)
 | .int a,.int b=>a==b
 | .str a,.str b=>a==b
 | _,_=>false
theorem yH {A:Around} {s:Shared} {y x:V} {u v:Value} (ry:RelV y u) (rx:RelV x v) (fy:dw y=true) (fx:dw x=true):SeqAt.EqAt A s u v (eqV y x):=by
 cases y with
 | non=>
  cases ry
  cases x with
  | non=>cases rx;exact SeqAt.EqAt.same _
  | bl b=>cases rx;exact SeqAt.EqAt.none_bool b
  | int b=>obtain ⟨t,rfl⟩:=rx;exact SeqAt.EqAt.none_int b t
  | str b=>obtain ⟨t,rfl⟩:=rx;exact SeqAt.EqAt.none_str b t
  | _=>exact absurd (show false=true from fx) Bool.false_ne_true
 | bl a=>
  cases ry
  cases x with
  | non=>cases rx;exact SeqAt.EqAt.bool_none a
  | bl b=>cases rx;exact SeqAt.EqAt.bool_bool a b
  | int b=>obtain ⟨t,rfl⟩:=rx;exact SeqAt.EqAt.bool_int a b t
  | str b=>obtain ⟨t,rfl⟩:=rx;exact SeqAt.EqAt.bool_str a b t
  | _=>exact absurd (show false=true from fx) Bool.false_ne_true
 | int a=>
  obtain ⟨t',rfl⟩:=ry
  cases x with
  | non=>cases rx;exact SeqAt.EqAt.int_none a t'
  | bl b=>cases rx;exact SeqAt.EqAt.int_bool a t' b
  | int b=>obtain ⟨t,rfl⟩:=rx;exact SeqAt.EqAt.int_int a t' b t
  | str b=>obtain ⟨t,rfl⟩:=rx;exact SeqAt.EqAt.int_str a t' b t
  | _=>exact absurd (show false=true from fx) Bool.false_ne_true
 | str a=>
  obtain ⟨t',rfl⟩:=ry
  cases x with
  | non=>cases rx;exact SeqAt.EqAt.str_none a t'
  | bl b=>cases rx;exact SeqAt.EqAt.str_bool a t' b
  | int b=>obtain ⟨t,rfl⟩:=rx;exact SeqAt.EqAt.str_int a t' b t
  | str b=>obtain ⟨t,rfl⟩:=rx;exact SeqAt.EqAt.str_str a t' b t
  | _=>exact absurd (show false=true from fx) Bool.false_ne_true
 | _=>exact absurd (show false=true from fy) Bool.false_ne_true
def eqU (x:V) (u:Value):Bool:=match u with
 | .none=>eqV .non x
 | .bool b=>eqV (.bl b) x
 | .int i _=>eqV (.int i) x
 | .str z _=>eqV (.str z) x
 | _=>false
theorem uK {x y:V} {u:Value} (r:RelV y u) (f:dw y=true):eqU x u=eqV y x:=by
 cases y with
 | non=>cases r;rfl
 | bl b=>cases r;rfl
 | int i=>obtain ⟨t,rfl⟩:=r;rfl
 | str z=>obtain ⟨t,rfl⟩:=r;rfl
 | _=>exact absurd (show false=true from f) Bool.false_ne_true
theorem pL {x:V}:∀ {xs:List V} {us:List Value},Vals xs us->xs.all dw=true->us.any (eqU x)=xs.any λ y=>eqV y x
 | _,_,.nil,_=>rfl
 | y::xs,u::us,.cons r t,f=>by
  rw [List.all_cons,Bool.and_eq_true] at f
  rw [List.any_cons,List.any_cons,uK r f.1,pL t f.2]
theorem ku {A:Around} {s:Shared} {x:V} {v:Value} (rx:RelV x v) (fx:dw x=true):∀ {xs:List V} {us:List Value},Vals xs us->xs.all dw=true->∀ u∈us,SeqAt.EqAt A s u v (eqU x u)
 | _,_,.nil,_=>λ u hu=>by cases hu
 | y::xs,u::us,.cons r t,f=>λ u' hu=>by
  rw [List.all_cons,Bool.and_eq_true] at f
  rcases List.mem_cons.mp hu with rfl | hu
  ·rw [uK r f.1];exact yH r rx f.1 fx
  ·exact ku rx fx t f.2 u' hu
def inV (x:V) (xs:List V):Bool:=xs.any λ y=>eqV y x
def rIn (K:PySem.W.Frag) (neg:Bool):R2:=λ x y H Q=>∃ p xs,y=.ref p/\(SqL K H p xs∨SqT K H p xs)/\dw x=true/\xs.all dw=true/\Q (.bl (if neg then !inV x xs else inV x xs)) H
theorem lN:OpR X (compareOp .In) (rIn X.K false):=by
 intro pins s σ H x y v u Q I rx ry h
 obtain ⟨p,xs,rfl,hq,fx,fs,q⟩:=h
 cases ry
 rcases hq with hq | hq
 ·obtain ⟨its,r,pl,hz⟩:=I.list hq
  refine SeqAt.in_listAt (eqU x) pl.isList (λ w hw=>ku rx fx r fs w (by simpa using hw)) ⟨.bl _,H,I,rfl,?_⟩
  rw [show its.toArray.any (eqU x)=its.any (eqU x) by simp,pL r fs]
  exact q
 ·obtain ⟨its,r,pl,hz⟩:=I.tuple hq
  refine SeqAt.in_tupleAt (eqU x) pl (λ w hw=>ku rx fx r fs w (by simpa using hw)) ⟨.bl _,H,I,rfl,?_⟩
  rw [show its.toArray.any (eqU x)=its.any (eqU x) by simp,pL r fs]
  exact q
theorem bt:eg X (.builtin "len") (λ xs H Q=>∃ p ys,xs=[.ref p]/\(SqL X.K H p ys∨SqT X.K H p ys)/\Q (.int ys.length) H):=by
 intro pins s σ H xs us Q I r h
 obtain ⟨p,ys,rfl,hq,q⟩:=h
 obtain ⟨u,rfl,rx⟩:=vals1 r
 cases rx
 have hn:=k9
 rcases hq with hq | hq
 ·obtain ⟨its,r',pl,hz⟩:=I.list hq
  have hlen:=r'.length
  exact Calls.call_len_list pl.isList (by simp only [List.size_toArray] <;> omega) ⟨.int ys.length,H,I.tok _,⟨s.toks+1,by rw [List.size_toArray,hlen]⟩,q⟩
 ·obtain ⟨its,r',pl,hz⟩:=I.tuple hq
  have hlen:=r'.length
  exact len_tuple pl (by simp only [List.size_toArray] <;> omega) ⟨.int ys.length,H,I.tok _,⟨s.toks+1,by rw [List.size_toArray,hlen]⟩,q⟩
theorem bX:eg X (.builtin "len") (λ xs H Q=>∃ z,xs=[.str z]/\z.length<=sizeLine/\Q (.int z.length) H):=by
 intro pins s σ H xs us Q I r h
 obtain ⟨z,rfl,hz,q⟩:=h
 obtain ⟨u,rfl,t,rfl⟩:=vals1 r
 have hn:=k9
 exact len_str (by omega) ⟨.int z.length,H,I.tok _,⟨_,rfl⟩,q⟩
theorem bM:eg X (.type "list") (λ xs H Q=>∃ p ys,xs=[.ref p]/\(SqL X.K H p ys∨SqT X.K H p ys)/\∀ l,H l=none->Q (.ref l) (upd H l (.lst ys))):=by
 intro pins s σ H xs us Q I r h
 obtain ⟨p,ys,rfl,hq,q⟩:=h
 obtain ⟨u,rfl,rx⟩:=vals1 r
 cases rx
 have fin:∀ (its:List Value),Vals ys its->ys.length<=sizeLine->∀ (h':Heap) (c':Nat),(∀ b o',s.heap.get? b=some o'->h'.get? b=some o') ->
   h'.get? s.heap.objs.size=some { cls:=.type "list",dict:=none,data:=.seq its.toArray c',slots:=#[] }->EP X pins σ Q (.ref s.heap.objs.size) { s with heap:=h' }:=λ its r' hz h' c' kp e=>
  ⟨.ref s.heap.objs.size,_,I.laid (t':=s.toks) kp (Nat.le_refl _) (show b5 X.prog X.w _ h' _ (.lst ys) from ⟨hz,its,c',r',e⟩),rfl,q _ (I.hok.fresh (Nat.le_refl _))⟩
 rcases hq with hq | hq
 ·obtain ⟨its,r',pl,hz⟩:=I.list hq
  have hlen:=r'.length
  obtain ⟨o,ho,hc,n,hd⟩:=pl.isList
  exact call_list_seq p (.inl rfl) ho hc hd (λ h' c' kp e=>fin its r' hz h' c' kp e) (by simp only [List.size_toArray] <;> omega)
 ·obtain ⟨its,r',pl,hz⟩:=I.tuple hq
  have hlen:=r'.length
  obtain ⟨o,ho,hc,n,hd⟩:=pl
  exact call_list_seq p (.inr rfl) ho hc hd (λ h' c' kp e=>fin its r' hz h' c' kp e) (by simp only [List.size_toArray] <;> omega)
def tyV (K:PySem.W.Frag) (T:String) (x:V) (H:Hp):Prop:=match x with
 | .str _=>T="str"
 | .int _=>T="int"
 | .ref p=>(T="list"/\∃ xs,SqL K H p xs)∨(T="tuple"/\∃ o,K.lookup p=some o/\o.cls=.type "tuple"/\o.dict=none) ∨
   (T="dict"/\((∃ kvs,H p=some (.dK kvs))∨∃ kvs,H p=some (.dT kvs)))∨(T="set"/\∃ S n,H p=some (.set S n))
 | _=>False
theorem Dh {pins:List (Addr×Obj)} {σ:St} {H:Hp} {s:Shared} {T:String} {x:V} {v:Value} (I:Inv X pins σ H s) (r:RelV x v) (ty:tyV X.K T x H):
  s.TypeIs v T/\∀ a,v=.ref a->∃ ob,s.heap.get? a=some ob/\ob.dict=none:=by
 cases x with
 | str z=>
  obtain ⟨t,rfl⟩:=r
  cases (show T="str" from ty)
  exact ⟨typeIs_str s z t,λ _ e=>nomatch e⟩
 | int i=>
  obtain ⟨t,rfl⟩:=r
  cases (show T="int" from ty)
  exact ⟨typeIs_int s i t,λ _ e=>nomatch e⟩
 | ref p=>
  cases r
  rcases ty with ⟨rfl,xs,hq⟩ | ⟨rfl,o,hk,hc,hd⟩ | ⟨rfl,hk⟩ | ⟨rfl,S,n,hk⟩
  ·obtain ⟨its,_,pl,_⟩:=I.list hq
   refine ⟨pl.isList.typeIs,λ a e=>?_⟩
   cases e
   obtain ⟨o,n,e,c,hd,_⟩:=pl
   exact ⟨o,e,hd⟩
  ·refine ⟨⟨o,I.kIn p o hk,hc⟩,λ a e=>?_⟩
   cases e
   exact ⟨o,I.kIn _ o hk,hd⟩
  ·have z:∃ o,s.heap.get? p=some o/\o.ExactDict:=by
    rcases hk with ⟨kvs,hk⟩ | ⟨kvs,hk⟩
    ·obtain ⟨_,_,_,_,o,_,_,e,ex,_⟩:=I.hok p _ hk
     exact ⟨o,e,ex⟩
    ·obtain ⟨_,_,_,_,o,_,_,e,ex,_⟩:=I.hok p _ hk
     exact ⟨o,e,ex⟩
   obtain ⟨o,e,ex⟩:=z
   refine ⟨⟨o,e,ex.1⟩,λ a e2=>?_⟩
   cases e2
   exact ⟨o,e,ex.2.1⟩
  ·obtain ⟨o,_,_,_,e,ex,_⟩:=I.hok p _ hk
   refine ⟨⟨o,e,ex.1⟩,λ a e2=>?_⟩
   cases e2
   exact ⟨o,e,ex.2.1⟩
 | _=>exact False.elim ty
def Fs (K:PySem.W.Frag) (T:String) (r:V->List V->Hp->VK->Prop) (to:TE):TE:=λ σ H Q=>to σ H λ x H1=>tyV K T x H1/\r x [] H1 Q
def tBM (K:PySem.W.Frag) (T:String) (r:V->List V->Hp->VK->Prop) (to:TE) (t:TA):TE:=λ σ H Q=>to σ H λ x H1=>tyV K T x H1/\t σ H1 λ xs H2=>r x xs H2 Q
variable {o e:Expr} {es:List Expr} {to:TE} {t:TA} {name:Str} {apos cpos:Pos} {T id:String} {r:V->List V->Hp->VK->Prop}
theorem cN (pa:PlainAttrs T) (slot:Slot T name id) (hty:typeOf (.builtin id)=pure (.type "method_descriptor")) (hm:MtR X id r) (ho:PE X o to) (ha:PA X (e::es) t)
  (hbase:attributeBase o name X.env (eval o X.env)=eval o X.env:=by rfl)
  (hfew:((backTo cpos (starEach (e::es) X.env)).all (λ x=>!x.1)&&(backToKw cpos (keywordEach [] X.env)).all (λ x=>x.1.isSome)
   && decide ((e::es).length+([]:List Keyword).length+(if ([]:List Keyword).isEmpty then 0 else 1)<30))=true:=by rfl)
  (hline:(apos.endLine==cpos.line)=true:=by rfl) (hs:starEach (e::es) X.env=(false,eval e X.env)::starEach es X.env:=by rfl) (hplain:(backTo cpos (starEach es X.env)).any (·.1)=false:=by rfl):
  PE X (.Call (.Attribute o name apos) (e::es) [] cpos) (tBM X.K T r to t):=by
 intro pins s σ H Q I h
 refine wpAny_Call_method_late hbase hfew hline rfl (thn (ho pins s σ H _ I h) λ v s1 ⟨x,H1,I1,r1,ty,q1⟩=>?_)
 obtain ⟨h1,h2⟩:=Dh I1 r1 ty
 refine ⟨T,id,pa,slot,hty,h1,h2,?_⟩
 have hA:=ha cpos pins s1 σ H1 _ I1 q1
 rw [hs] at hA ⊢
 refine Calls.callWith_builtin (by show (false||(backTo cpos (starEach es X.env)).any (·.1))=false;rw [hplain] <;> rfl) (Calls.evalArgs_plain ?_)
 exact thn hA λ us s2 ⟨vs,H2,I2,r2,q2⟩=>hm pins s2 σ H2 x vs v us Q I2 r1 r2 q2
end
def MtM (X:Cx) (id:String) (r:V->List V->Hp->VK->Prop):Prop:=
 ∀ (pins:List (Addr×Obj)) (s:Shared) (σ:St) (H:Hp) (x:V) (xs:List V) (v:Value) (us:List Value) (Q:VK),Inv X pins σ H s->RelV x v->Vals xs us->r x xs H Q ->
  wpAny (model X.prog X.w) X.A (call (.builtin id) (v::us)) (EP X pins σ Q) X.xe s
theorem Vals.one:∀ {x:V} {us:List Value},Vals [x] us->∃ u,us=[u]/\RelV x u
 | _,_,.cons r .nil=>⟨_,rfl,r⟩
theorem Vals.two:∀ {x y:V} {us:List Value},Vals [x,y] us->∃ u v,us=[u,v]/\RelV x u/\RelV y v
 | _,_,_,.cons r (.cons q .nil)=>⟨_,_,rfl,r,q⟩
section
variable {X:Cx} {pins:List (Addr×Obj)} {σ:St} {H:Hp} {s:Shared} {l b:Addr} {xs ys zs:List V}
theorem Inv.Bw {its its':List Value} {n:Nat} {f:Array Value->Array Value} {t':Nat} (I:Inv X pins σ H s) (hH:H l=some (.lst xs))
  (e:s.heap.get? l=some { cls:=.type "list",data:=.seq its.toArray n }) (hf:f its.toArray=its'.toArray) (hv:Vals ys its') (hz:ys.length<=sizeLine):
  Inv X pins σ (upd H l (.lst ys)) { s with heap:=s.heap.update l (Obj.mapSeq f),toks:=t' }:=by
 have q:=PySem.IsL.update e f
 rw [hf] at q
 refine I.write (x:=l) (e:=l) (by rw [hH];exact trivial) (.inl rfl) (λ b' u hb hu=>(Heap.get?_update_other s.heap (Obj.mapSeq f) (Ne.symm hb)).trans hu) ⟨_,q⟩ ?_
 exact ⟨hz,its',_,hv,q⟩
theorem Inv.En {its:List Value} {t':Nat} (I:Inv X pins σ H s) (hv:Vals ys its) (hz:ys.length<=sizeLine):
  Inv X pins σ (upd H s.heap.objs.size (.lst ys)) { s with heap:=s.heap.push { cls:=.type "list",data:=.seq its.toArray },toks:=t' }:=
 I.laid (λ _ _ q=>Heap.get?_push_of_some _ q) (Nat.le_refl _) ⟨hz,its,0,hv,Heap.get?_push_size _ rfl⟩
theorem Inv.fresh (I:Inv X pins σ H s):H s.heap.objs.size=none:=I.hok.fresh (Nat.le_refl _)
theorem Inv.uv (I:Inv X pins σ H s) (hH:H l=some (.lst xs)):xs.length<=sizeLine/\∃ (its:List Value) (n:Nat),Vals xs its/\xs.length=its.length/\s.heap.get? l=some { cls:=.type "list",data:=.seq its.toArray n }:=by
 obtain ⟨z,its,n,r,e⟩:=I.hok l _ hH
 exact ⟨z,its,n,r,r.length,e⟩
theorem yc {n:Nat} (h:n<=sizeLine):Builtin.List.listTooLong n=false:=by
 unfold Builtin.List.listTooLong
 exact decide_eq_false (by omega)
end
section
variable {X:Cx}
def yT:V->List V->Hp->VK->Prop:=λ x vs H Q=>∃ l xs y,x=.ref l/\vs=[y]/\H l=some (.lst xs)/\xs.length<sizeLine/\Q .non (upd H l (.lst (xs++[y])))
theorem br:MtM X "list.append" yT:=by
 intro pins s σ H x vs v us Q I rx rv h
 obtain ⟨l,xs,y,rfl,rfl,hH,hz,q⟩:=h
 cases rx
 obtain ⟨u,rfl,ru⟩:=rv.one
 obtain ⟨z,its,n,r,hl,e⟩:=I.uv hH
 refine call_meets F.slot_list_append ⟨_,e,rfl⟩ F.entry_list_append (F.args_list_append_2 _ _) (PySem.list_append l its.toArray n u (by rw [List.size_toArray];omega)) ⟨e,?_⟩
 refine ⟨.non,_,I.Bw (its':=its++[u]) hH e (by simp) (r.append (.cons ru .nil)) ?_,rfl,q⟩
 rw [List.length_append,List.length_singleton]
 omega
def zT:V->List V->Hp->VK->Prop:=λ x vs H Q=>∃ l b xs zs,x=.ref l/\vs=[.ref b]/\H l=some (.lst xs)/\H b=some (.lst zs)/\xs.length+zs.length<=sizeLine/\Q .non (upd H l (.lst (xs++zs)))
theorem pq:MtM X "list.extend" zT:=by
 intro pins s σ H x vs v us Q I rx rv h
 obtain ⟨l,b,xs,zs,rfl,rfl,hH,hB,hz,q⟩:=h
 cases rx
 obtain ⟨u,rfl,ru⟩:=rv.one
 cases ru
 obtain ⟨z,its,n,r,hl,e⟩:=I.uv hH
 obtain ⟨z2,its2,n2,r2,hl2,e2⟩:=I.uv hB
 have hsz:its.toArray.size+its2.toArray.size<=sizeLine:=by rw [List.size_toArray,List.size_toArray];omega
 have hlong:¬ (!its.toArray.isEmpty&&Builtin.List.listTooLong (its.toArray.size+its2.toArray.size))=true:=by
  rw [yc hsz,Bool.and_false]
  exact Bool.false_ne_true
 refine call_meets F.slot_list_extend ⟨_,e,rfl⟩ F.entry_list_extend (F.args_list_extend_2 _ _)
  (AutoSeq1.list_extend_list_list_0 l its.toArray n b its2.toArray n2 hlong (by rw [List.size_toArray];omega) (by omega)) ⟨e,e2,?_⟩
 refine ⟨.non,_,I.Bw (its':=its++its2) hH e (by simp) (r.append r2) ?_,rfl,q⟩
 rw [List.length_append]
 omega
def Fj:R2:=λ x y H Q=>∃ l b xs zs,x=.ref l/\y=.ref b/\H l=some (.lst xs)/\H b=some (.lst zs)/\xs.length+zs.length<=sizeLine/\∀ p,H p=none->Q (.ref p) (upd H p (.lst (xs++zs)))
theorem lF:OpR X (binaryOp .Add) Fj:=by
 intro pins s σ H x y v u Q I rx ry h
 obtain ⟨l,b,xs,zs,rfl,rfl,hH,hB,hz,q⟩:=h
 cases rx
 cases ry
 obtain ⟨z,its,n,r,hl,e⟩:=I.uv hH
 obtain ⟨z2,its2,n2,r2,hl2,e2⟩:=I.uv hB
 refine PySem.P.add_list e e2 ?_ (by rw [List.size_toArray,List.size_toArray];omega)
 have ea:its.toArray++its2.toArray=(its++its2).toArray:=by simp
 rw [ea]
 exact ⟨.ref _,_,I.En (t':=s.toks) (r.append r2) (by rw [List.length_append];omega),rfl,q _ I.fresh⟩
end
section
variable {prog:Program} {w:World} {A:Around} {E:Value->Shared->Prop} {s:Shared}
end
section
variable {X:Cx}
end
end L2
namespace Att
open PySem PySem.W PySem.Calls PyProof.Rows
theorem mh {P:Params} {h:Heap}:∀ (ns:List Int) (vs:List Value),WellAll P h vs (ns.map WData.int)->IntsAre vs ns:=by
 intro ns
 induction ns with
 | nil=>
  intro vs w
  rw [List.map_nil] at w
  cases w
  exact .nil
 | cons n ns ih=>
  intro vs w
  rw [List.map_cons] at w
  cases w with
  | cons a b=>
   cases a
   exact .cons _ _ (ih _ b)
theorem wt {l:OpenLaw} {n:Nat} (hn:l.most=some n) {P:Params} {h:Heap} {args:List WData} {vals:List Value}
  (hpre:l.row.toRowW.claim.pre args=true) (hwl:WellAll P h vals args):
  ∃ a vs ns,vals=[Value.ref a]/\args=[WData.list (ns.map WData.int)]/\h.get? a=some { cls:=.type "list",data:=.seq vs.toArray }/\IntsAre vs ns/\ns.length<=n:=by
 have hsh:WShape.hasAll [] args [.list .int]=true:=(pre_splitW hpre).1
 have hc:l.pre.holds [] { args:=args }=true:=(pre_splitW hpre).2
 obtain ⟨d,r,rfl,h1,h2⟩:=hasAllW_cons hsh
 obtain rfl:=hasAllW_nil h2
 obtain ⟨xs,rfl,h3⟩:=hasW_list h1
 obtain ⟨ns,rfl⟩:=items_int h3
 have hlen:ns.length<=n:=by
  unfold OpenLaw.pre at hc
  have h4:(WTm.not (.lt (.lit (.int (n:Int))) (.len (.arg 0)))).holds [] { args:=[.list (ns.map .int)] }=true:=by
   have h4:=(holds_andW hc).1
   rw [hn] at h4
   exact h4
  have h5:=condW_of h4 (w_not (w_lt w_lit (w_len_list (w_arg rfl))))
  rw [List.length_map] at h5
  refine Nat.le_of_not_lt λ q=>?_
  have q':(n:Int)<((ns.length:Nat):Int):=by omega
  first
   | (rw [decide_eq_true q'] at h5;exact absurd h5 (by decide))
   | (simp at h5;omega)
 cases hwl with
 | cons w1 w2=>
  cases w2
  cases w1 with
  | list ho hall=>exact ⟨_,_,ns,rfl,rfl,ho,mh ns _ hall,hlen⟩
theorem wI (l:OpenLaw) (args:List WData):l.row.toRowW.claim.post args (.bool true) args=true:=
 postW_of (r:=l.row.toRowW) (X:=(true==true))
  (show WShape.has [] (.bool true) .bool=true by first | rfl | decide | simp [WShape.has,WShape.arms,WShape.armsAll])
  (show (WTm.eq .res (.lit (.bool true))).value [] { args:=args,res:=some (.bool true),after:=args }=some (.bool (true==true)) from w_eq_bool (w_res rfl) w_lit) rfl
theorem rK {l:OpenLaw} {n:Nat} {q:Program} {loose:List Str} {XP:(Str->Option Value)->Heap->Prop} {YP:World->Heap->Prop} {d:DefRec}
  (hn:l.most=some n) (hdf:d.params.defaults=[])
  (call:∀ (w:World) (s₀ s₁:Shared) (mg mb:Str->Option Value) (fa:Addr) (o:Obj) (pm cd doc:Value) (a:Addr) (vs:List Value) (ns:List Int),
   Ground q loose [] XP w s₀ mg mb s₁.heap->YP w s₁.heap ->
   s₁.heap.get? fa=some o->o.data=.func (docDef d.name d.params d.body d.scope pm cd doc)->s₁.heap.CodeRec cd d.name->mg d.name=some (.ref fa) ->
   s₁.heap.get? a=some { cls:=.type "list",data:=.seq vs.toArray }->IntsAre vs ns->ns.length<=n->s₁.gens=#[] ->
   codeAny (model l.prog w) callerA (.call (.ref fa) ⟨[.ref a],[]⟩) (λ r s'=>r=.ok (.ret (.bool true))/\OldK s₁.heap s'.heap/\s'.os=s₁.os/\AllBare s'.gens) s₁):
  WalkO q loose XP YP l.row.toRowW d [] (λ f vs=>PySem.call f vs):=by
 intro w s₀ s₁ mg mb G Y fa o pm cd doc dV kV ho hd hcd hD hmg hg args vals as hpre hlay hrd hwl hlo
 obtain rfl:dV=.none:=Dflts.none hD hdf
 obtain rfl:kV=.none:=Dflts.noKw hD
 obtain ⟨a,vs,ns,rfl,rfl,hobj,hints,hlen⟩:=wt hn hpre hwl
 refine enter_call (codeAny_mono (call w s₀ s₁ mg mb fa o pm cd doc a vs ns G Y ho (fd_plain hd) hcd hmg hobj hints hlen hg) λ r s' hq=>?_)
 obtain ⟨rfl,h2,h3,h4⟩:=hq
 exact ⟨.inl ⟨.bool true,.bool true,[],rfl,λ _=>rfl,.bool true,wI l _,λ _=>⟨List.Pairwise.nil,λ _ hm=>(nomatch hm)⟩⟩,h2,h3,h4⟩
section
variable {prog:Program} {w:World} {A:Around} {E:Value->Shared->Prop} {s:Shared} {K:Frag}
end
end Att
namespace L2
open PySem PySem.Spec PyProof.Rows
theorem o5:∀ {vs:List Value} {ns:List Int},IntsAre vs ns->Vals (ns.map V.int) vs
 | _,_,.nil=>.nil
 | _,_,.cons n t h=>.cons ⟨t,rfl⟩ (o5 h)
abbrev KOf {K:PySem.W.Frag} {h:Heap} (_:K.In h):PySem.W.Frag:=K
def inClass (s:Stmt) (j:Nat):Stmt:=match s with
 | .ClassDef _ _ _ body _ _ _ _ _ _ _=>body.getD j (.Pass ⟨0,0,0,0⟩)
 | _=>.Pass ⟨0,0,0,0⟩
def bJ (s:Stmt):Arguments:=match s with
 | .FunctionDef _ a _ _ _ _ _ _ _ _=>a
 | _=>{ posonlyargs:=[],args:=[],vararg:=none,kwonlyargs:=[],kw_defaults:=[],kwarg:=none,defaults:=[] }
def bo (s:Stmt):List Stmt:=match s with
 | .FunctionDef _ _ b _ _ _ _ _ _ _=>b
 | _=>[]
def ar (s:Stmt):Scope:=match s with
 | .FunctionDef _ _ _ _ _ _ sc _ _ _=>sc
 | _=>{ kind:=.function,names:=[],isGenerator:=false,isCoroutine:=false }
abbrev CX0:CXT:=λ _ _ _ _ _ _=>False
abbrev E0:XK:=λ _ _ _=>False
theorem aT {X:Cx}:Passes CX0 X E0:=λ _ _ _ _ _ _ _ h=>h.elim
section
variable {P:Program} {w:World} {K:PySem.W.Frag} {mg:Str->Option Value} {base:Heap}
end
theorem rf {A:Around} {k:Nat} (hr:bN k A):A.units+1<cLine:=Nat.lt_of_le_of_lt (Nat.add_le_add_left (by decide:1<=64) _) hr.units
section
variable {X:Cx}
theorem pv (i:Nat) {x:Str} {pos:Pos} (hN:X.N[i]?=some x:=by rfl) (hv:Vis X.env.scope x:=by first | exact Or.inl rfl | exact Or.inr (Or.inl rfl) | exact Or.inr (Or.inr rfl)) (hd:(x==("__debug__":Str))=false:=by decide)
  (hcd:(x==("__classdict__":Str))=false:=by decide):PE X (.Name x pos) (xM i):=yA hN hv hd hcd
end
theorem zZ {A B:Prop} (h:B):if false=true then A else B:=by
 rw [if_neg Bool.false_ne_true]
 exact h
theorem zO {A B:Prop} (h:A):if true=true then A else B:=by
 rw [if_pos rfl]
 exact h
def ak (H H':Hp):Prop:=∀ b o,H b=some o->H' b=some o
theorem ak.refl (H:Hp):ak H H:=λ _ _ h=>h
theorem ak.trans {H H1 H2:Hp} (a:ak H H1) (b:ak H1 H2):ak H H2:=λ c o h=>b c o (a c o h)
theorem ak.free {H H':Hp} (e:ak H H') {l:Addr} (h:H' l=Option.none):H l=Option.none:=by
 cases q:H l with
 | none=>rfl
 | some o=>
  rw [e l o q] at h
  cases h
theorem ak.seq {K:PySem.W.Frag} {H H':Hp} {a:Addr} {xs:List V} (e:ak H H') (h:SqL K H a xs):SqL K H' a xs:=by
 rcases h with (h | ⟨o,h⟩) | h
 ·exact .inl (.inl (e _ _ h))
 ·exact .inl (.inr ⟨o,e _ _ h⟩)
 ·exact .inr h
end L2
set_option maxHeartbeats 4000000
namespace L2
open PySem PySem.Spec PyProof.Rows
theorem AL {M:Model} {Γ:PySem.Ctx} {p:Pos} {t:Sem PySem.Fin} {fs:List PySem.Frame} {s s':Shared} {e:End} (h:Runs M Γ p t fs s e s'):
  s.gens.size<=s'.gens.size:=by
 induction h <;> (try simp only [Shared.setGen,Array.size_setIfInBounds,Array.size_push] at *) <;> omega
theorem CP {M:Model} {Γ:PySem.Ctx} {p:Pos} {g:Nat} {r:Resume} {s s':Shared} {res:GenResult} (h:Wakes M Γ p g r s res s'):
  s.gens.size<=s'.gens.size:=by
 have sz:∀ (u:Shared) (x:GenState),(u.setGen g x).gens.size=u.gens.size:=λ u x=>by simp [Shared.setGen]
 have go:∀ {Γ':PySem.Ctx} {p':Pos} {t:Sem PySem.Fin} {fs:List PySem.Frame} {e₁:End} {s₁:Shared},
   Runs M Γ' p' t fs (s.setGen g .running) e₁ s₁->s.gens.size<=(s₁.setGen g e₁.genState).gens.size:=λ hr=>by
  have q:=AL hr
  rw [sz] at q ⊢
  exact q
 unfold Wakes at h
 split at h
 ·exact h.elim
 ·split at h
  ·obtain ⟨_,_,hr,_,_,rfl⟩:=h
   exact go hr
  ·rw [h.2]
   exact Nat.le_refl _
  ·rw [h.2,sz]
   exact Nat.le_refl _
 ·obtain ⟨_,_,hr,_,_,rfl⟩:=h
  exact go hr
 ·rw [h.2]
  exact Nat.le_refl _
 ·rw [h.2]
  exact Nat.le_refl _
theorem gWp {α:Type} (M:Model) (Γ:PySem.Ctx) (n:Nat) (t:Sem α):
  ∀ (Q:α->Pos->Shared->Prop) (E:Value->Pos->Shared->Prop) (p:Pos) (s:Shared),n<=s.gens.size->Sem.wp M Γ t Q E p s ->
   Sem.wp M Γ t (λ a p' s'=>n<=s'.gens.size/\Q a p' s') (λ e p' s'=>n<=s'.gens.size/\E e p' s') p s:=by
 induction t with
 | pure a=>exact λ Q E p s l h=>⟨l,h⟩
 | raise e=>exact λ Q E p s l h=>⟨l,h⟩
 | unsupported _=>exact λ Q E p s _ h=>h
 | finish _=>exact λ Q E p s _ h=>h
 | rule _ k ih=>exact λ Q E p s l h=>ih () Q E p s l h
 | «at» p' k ih=>exact λ Q E p s l h=>ih () Q E p' s l h
 | load a _ k ih=>exact λ Q E p s l ⟨o,ho,h⟩=>⟨o,ho,ih o Q E p s l h⟩
 | update a _ f k ih=>exact λ Q E p s l h=>⟨h.1,ih () Q E p _ l h.2⟩
 | loadIfAlive a k ih=>exact λ Q E p s l h=>ih _ Q E p s l h
 | point _ k ih=>exact λ Q E p s l h=>ih () Q E p s l h
 | register _ _=>exact λ Q E p s _ h=>h
 | alloc o k ih=>exact λ Q E p s l h=>ih _ Q E p _ l h
 | fresh k ih=>exact λ Q E p s l h=>ih _ Q E p _ l h
 | ask k ih=>exact λ Q E p s l h=>ih _ Q E p s l h
 | choose src m k ih=>exact λ Q E p s l h=>⟨h.1,ih _ Q E p _ l h.2⟩
 | os q _ k ih=>exact λ Q E p s l h=>ih _ Q E p _ l h
 | call c hd _ _ k ih=>exact λ Q E p s l ⟨r,s',hr,h⟩=>⟨r,s',hr,ih r Q E p s' (Nat.le_trans l (AL hr)) h⟩
 | handled own k ih=>exact λ Q E p s l h=>ih _ Q E p s l h
 | genState g k ih=>exact λ Q E p s l ⟨st,hs,h⟩=>⟨st,hs,ih _ Q E p s l h⟩
 | newGen c k ih=>exact λ Q E p s l h=>ih _ Q E p _ (Nat.le_trans l (by simp)) h
 | resume g r _ k ih=>exact λ Q E p s l ⟨res,s',hw,h⟩=>⟨res,s',hw,ih res Q E p s' (Nat.le_trans l (CP hw)) h⟩
 | yield _ _ _ _=>exact λ Q E p s _ h=>h
 | stack k ih=>exact λ Q E p s l h=>ih _ Q E p s l h
 | fork _ _=>exact λ Q E p s _ h=>h
 | thread k ih=>exact λ Q E p s l h=>ih _ Q E p s l h
 | await _ _ _ _ _=>exact λ Q E p s _ h=>h
theorem zE {α:Type} {M:Model} {A:Around} {t:Sem α} {Q Q':α->Shared->Prop} {E E':Value->Shared->Prop} {s:Shared} (h:wpAny M A t Q E s)
  (hQ:∀ a s',s.gens.size<=s'.gens.size->Q a s'->Q' a s') (hE:∀ e s',s.gens.size<=s'.gens.size->E e s'->E' e s'):wpAny M A t Q' E' s:=by
 have h2:wpAny M A t (λ a s'=>s.gens.size<=s'.gens.size/\Q a s') (λ e s'=>s.gens.size<=s'.gens.size/\E e s') s:=
  λ Γ p hΓ=>gWp M Γ s.gens.size t _ _ p s (Nat.le_refl _) (h Γ p hΓ)
 exact wpAny_mono h2 (λ a s' z=>hQ a s' z.1 z.2) λ e s' z=>hE e s' z.1 z.2
def tabφ (P:Addr) (h:Heap):Prop:=∃ ps,h.get? P=some (PySem.W.tabObj ps)/\TriplesOk ps.toList
abbrev Tb (P:Addr):HO:=.ext (tabφ P)
theorem tabφ_stay {P:Addr} (h1 h2:Heap) (x:tabφ P h1) (k:∀ o,h1.get? P=some o->h2.get? P=some o):tabφ P h2:=
 let ⟨ps,e,t⟩:=x;⟨ps,k _ e,t⟩
def cq (K:PySem.W.Frag) (cdv:Value) (P:Addr):Prop:=∃ c,cdv=.ref c/\∀ h,K.In h->PySem.W.CodeHd h c P
section
variable {X:Cx} {pins:List (Addr×Obj)} {σ:St} {H:Hp} {s:Shared}
theorem Inv.y6 {s':Shared} (I:Inv X pins σ H s) (hh:s'.heap=s.heap) (ho:s'.os=s.os) (hg:AllBare s'.gens):Inv X pins σ H s':=by
 obtain ⟨h',g',d',t',o'⟩:=s'
 obtain rfl:h'=s.heap:=hh
 obtain rfl:o'=s.os:=ho
 exact ⟨I.ok,I.os,hg,I.base,I.loc,I.cell,I.free,I.cH,I.pin,I.hok,I.len⟩
theorem ya {M:Model} {A:Around} {E:Value->Shared->Prop} {P:Addr} {pos:Pos} {q:Str} {scope:Scope} {Q:Value->Shared->Prop} (I:Inv X pins σ H s) (hc:cq X.K X.env.code P) (hT:H P=some (Tb P))
  (hQ:∀ code h' tk,Inv X pins σ H { s with heap:=h',toks:=tk }->(∀ b o,b≠P->s.heap.get? b=some o->h'.get? b=some o)->Q code { s with heap:=h',toks:=tk }):
  wpAny M A (genexprCode X.env pos q scope) Q E s:=by
 obtain ⟨c,hcd,hd⟩:=hc
 obtain ⟨⟨ps,hP,tr⟩,_,_⟩:=I.hok P _ hT
 have hd:=hd _ I.kIn
 have hok:=hd.code hP tr
 have htab:=hd.tab hP
 cases hf:codeAmong pos ps.toList with
 | some cv=>exact wpAny_genexprCode_hit hcd hok hf (hQ cv s.heap s.toks (I.tok _) λ _ _ _ e=>e)
 | none=>
  refine wpAny_genexprCodeX hcd hok htab hf λ c' h' tk hx _ _ hok' _ htab' _=>hQ _ h' tk (I.un ⟨?_,?_,?_,?_,?_,?_,?_⟩ ?_) λ b o hb e=>hx b o hb e
  ·exact λ b o e n _ _=>hx b o (λ z=>by rw [z,hT] at n;cases n) e
  ·exact λ b o e n _ _=>⟨o.slots,hx b o (λ z=>by rw [z,hT] at n;cases n) e⟩
  ·exact λ b o _ n _=>n
  ·intro b o e _
   by_cases z:b=P
   ·exact ⟨_,z ▸ htab'.2⟩
   ·exact ⟨o,hx b o z e⟩
  ·exact λ _ _ e=>e
  ·exact λ _ _ _ e=>e
  ·exact λ b ps e=>⟨#[],by rw [e];simp⟩
  ·intro b u e
   by_cases z:b=P
   ·subst z
    rw [hT] at e
    cases e
    have tr':TriplesOk (ps++#[rawInt pos.line,rawInt pos.col,Value.ref c']).toList:=by
     obtain ⟨_,_,_,_,_,_,_,_,_,op,_,_,_,_,_,_,_,e1,e2,e3,_⟩:=hok'
     exact e3
    exact ⟨⟨_,htab'.2,tr'⟩,⟨_,htab'.2⟩,tabφ_stay⟩
   ·refine (I.hok b u e).cK (λ a o ha e'=>hx a o ?_ e') (λ _ e=>e) λ _ _ e=>e
    rintro rfl
    rcases ha with ha | ha
    ·exact z ha.symm
    ·rw [hT] at ha
     cases ha
end
def ju (names:List (Str×NameKind)) (cells:List (Str×Addr)) (acc:List (Str×Addr)):List (Str×Addr):=match names with
 | []=>acc
 | (n,k)::r=>if k==.free then (match cells.lookup n with | some a=>ju r cells ((n,a)::acc) | none=>acc) else ju r cells acc
theorem qI {env:Env}:∀ (names:List (Str×NameKind)) (acc:List (Str×Addr)),(∀ y∈names,y.2=.free->∃ c,env.cells.lookup y.1=some c) ->
  (forIn names acc λ (x:Str×NameKind) r=>if x.2==.free then do let a <- cellOf env x.1;pure (ForInStep.yield ((x.1,a)::r)) else pure (ForInStep.yield r):Sem (List (Str×Addr)))=pure (ju names env.cells acc)
 | [],acc,_=>rfl
 | (n,k)::r,acc,h=>by
  rw [List.forIn_cons]
  unfold ju
  by_cases hk:(k==NameKind.free)=true
  ·obtain ⟨c,hc⟩:=h (n,k) List.mem_cons_self (by simpa using hk)
   have hc':env.cells.lookup n=some c:=hc
   rw [if_pos hk,if_pos hk]
   unfold cellOf
   rw [hc']
   exact qI r _ λ y hy=>h y (List.mem_cons_of_mem _ hy)
  ·rw [if_neg hk,if_neg hk]
   exact qI r _ λ y hy=>h y (List.mem_cons_of_mem _ hy)
theorem gZ {env:Env} {scope:Scope} (h:∀ y∈scope.names,y.2=.free->∃ c,env.cells.lookup y.1=some c):closureFor scope env=pure (ju scope.names env.cells []):=by
 unfold closureFor
 have:=qI (env:=env) scope.names [] h
 exact (bind_congr λ _=>rfl).trans ((congrArg (· >>= pure) this).trans rfl)
def fZ (X:Cx) (scope:Scope) (cl:List (Str×Addr)) (C:Addr) (code:Value) (N:List Str) (A:Around) (s₀:Shared) (H:Hp) (fp:List Addr):Cx where
 prog:=X.prog
 w:=X.w
 K:=X.K
 mg:=X.mg
 base:=X.base
 A:=A
 N:=N
 s₀:=s₀
 H₀:=H
 env:=genEnv scope cl C code builtinsNs X.env
 outer:=X.stack
 stack:=genEnv scope cl C code builtinsNs X.env::X.stack
 ex:=fp
 fn:=λ _=>false
 calm:=true
 pn:=[]
 xe:=λ _ _=>False
def pw (X:Cx) (sc:Scope) (N:List Str):List (Nat×Nat)->Prop
 | []=>True
 | (i,j)::r=>(∃ x,N[i]?=some x/\X.N[j]?=some x/\sc.names.lookup x=some .free/\(X.env.kindOf x=some .cell∨X.env.kindOf x=some .free))/\pw X sc N r
theorem pw.mem {X:Cx} {sc:Scope} {N:List Str}:∀ {fs:List (Nat×Nat)},pw X sc N fs->∀ {i j:Nat},(i,j)∈fs ->
  ∃ x,N[i]?=some x/\X.N[j]?=some x/\sc.names.lookup x=some .free/\(X.env.kindOf x=some .cell∨X.env.kindOf x=some .free)
 | [],_,_,_,h=>by cases h
 | (a,b)::r,F,i,j,h=>by
  rcases List.mem_cons.mp h with e | h
  ·cases e
   exact F.1
  ·exact pw.mem F.2 h
def tau (n:Nat) (fs:List (Nat×Nat)) (σ:St):St:=(List.range n).map λ i=>match fs.lookup i with
 | some j=>(match σ[j]? with | some v=>v | none=>none)
 | none=>none
theorem mq (n:Nat) (fs:List (Nat×Nat)) (σ:St):(tau n fs σ).length=n:=by simp [tau]
theorem lO:∀ {fs:List (Nat×Nat)} {k j:Nat},fs.lookup k=some j->(k,j)∈fs
 | [],_,_,h=>by cases h
 | (a,b)::r,k,j,h=>by
  rw [List.lookup_cons] at h
  split at h
  ·rename_i e
   cases h
   rw [eq_of_beq e]
   exact List.mem_cons_self
  ·exact List.mem_cons_of_mem _ (lO h)
theorem mn {n:Nat} {fs:List (Nat×Nat)} {σ:St} {i:Nat} {v:V} (h:(tau n fs σ)[i]?=some (some v)):∃ j,(i,j)∈fs/\σ[j]?=some (some v):=by
 unfold tau at h
 rw [List.getElem?_map] at h
 cases e:(List.range n)[i]? with
 | none=>rw [e] at h;cases h
 | some k=>
  rw [e] at h
  have ek:k=i:=by
   obtain ⟨h1,h2⟩:=List.getElem?_eq_some_iff.mp e
   simpa using h2.symm
  subst ek
  have h:=Option.some.inj h
  dsimp only at h
  cases e1:fs.lookup k with
  | none=>rw [e1] at h;cases h
  | some j=>
   rw [e1] at h
   dsimp only at h
   cases e2:σ[j]? with
   | none=>rw [e2] at h;cases h
   | some w=>
    rw [e2] at h
    have h:w=some v:=h
    subst h
    exact ⟨j,lO e1,e2⟩
theorem eN {cells:List (Str×Addr)} {y:Str} {c:Addr}:∀ {names:List (Str×NameKind)} {acc:List (Str×Addr)},(acc.lookup y=some c->cells.lookup y=some c)->(ju names cells acc).lookup y=some c->cells.lookup y=some c
 | [],_,h,e=>h e
 | (n,k)::r,acc,h,e=>by
  unfold ju at e
  split at e
  ·split at e
   ·rename_i a ha
    refine eN (names:=r) (λ q=>?_) e
    rw [List.lookup_cons] at q
    split at q
    ·rename_i hy
     cases q
     rw [eq_of_beq hy]
     exact ha
    ·exact h q
   ·exact h e
  ·exact eN (names:=r) h e
theorem jF {cells:List (Str×Addr)} {y:Str}:∀ {names:List (Str×NameKind)} {acc:List (Str×Addr)},(acc.lookup y).isSome=true->((ju names cells acc).lookup y).isSome=true
 | [],_,h=>h
 | (n,k)::r,acc,h=>by
  unfold ju
  split
  ·split
   ·refine jF (names:=r) ?_
    rw [List.lookup_cons]
    split
    ·rfl
    ·exact h
   ·exact h
  ·exact jF (names:=r) h
theorem gc {cells:List (Str×Addr)} {y:Str}:∀ {names:List (Str×NameKind)} {acc:List (Str×Addr)},(∀ z∈names,z.2=.free->∃ c,cells.lookup z.1=some c)->(y,NameKind.free)∈names->((ju names cells acc).lookup y).isSome=true
 | [],_,_,m=>by cases m
 | (n,k)::r,acc,h,m=>by
  unfold ju
  rcases List.mem_cons.mp m with e | m
  ·cases e
   obtain ⟨c,hc⟩:=h (y,.free) List.mem_cons_self rfl
   have hc:cells.lookup y=some c:=hc
   rw [if_pos (by rfl),hc]
   refine jF ?_
   rw [List.lookup_cons,beq_self_eq_true]
   rfl
  ·split
   ·split
    ·exact gc (λ z hz=>h z (List.mem_cons_of_mem _ hz)) m
    ·rename_i hk _ hn
     obtain ⟨c,hc⟩:=h (n,k) List.mem_cons_self (by simpa using hk)
     have hc:cells.lookup n=some c:=hc
     rw [hn] at hc
     cases hc
   ·exact gc (λ z hz=>h z (List.mem_cons_of_mem _ hz)) m
section
variable {X:Cx} {scope:Scope} {cl:List (Str×Addr)} {C:Addr} {code:Value} {N:List Str} {s₀:Shared} {H:Hp} {fp:List Addr} {A0:Around} {it:Addr} {tn:Nat->Heap->Prop} {J:It}
 {tg elt iter:Expr} {pos:Pos} {pins:List (Addr×Obj)} {τ:St} {n:Nat} {p:Nat->Bool} {G:Hp->Prop} {g:TG} {te:TE}
def BC (Y:Cx) (pins:List (Addr×Obj)) (τ:St) (G:Hp->Prop):Nat->Shared->Shared->Prop:=λ m _ s=>m=0/\∃ H',G H'/\Inv Y pins τ H' s
def sU (Y:Cx) (pins:List (Addr×Obj)) (τ:St) (G:Hp->Prop) (n:Nat) (p:Nat->Bool):Protocol:=λ m u v s kap=>
 (∃ H',G H'/\Inv Y pins τ H' s)/\v=.bool (p (n - 1 - m))/\u.gens.size<=s.gens.size/\∀ s2,s2.heap=s.heap->s2.os=s.os->AllBare s2.gens->kap (.send .none) s2
abbrev iS (elt tg iter:Expr) (scope:Scope) (pos:Pos) (it:Addr) (cenv:Env):Code:=.compLoop (.GeneratorExp elt [⟨tg,iter,[],0⟩] scope pos) 0 (.ref it) .none cenv
def fz (J:It) (g:TG) (te:TE) (τ:St) (G:Hp->Prop) (n:Nat) (p:Nat->Bool):Prop:=∀ H2,G H2->J.stop n H2/\∀ i,i<n->J.go i H2 /\
 ∀ x H3,J.yld i H2 x H3->g x τ H3 λ τ4 H4=>(∀ (j:Nat) v,τ[j]?=some (some v)->τ4[j]?=some (some v))/\te τ4 H4 λ v H5=>G H5/\v=.bl (p i)
theorem zG (T:Turn X.prog X.w X.K tg J fp it tn) (hco:scope.isCoroutine=false)
  (hg:PG (fZ X scope cl C code N (A0.over (iS elt tg iter scope pos it (genEnv scope cl C code builtinsNs X.env)) []) s₀ H fp) tg g)
  (he:PE (fZ X scope cl C code N (A0.over (iS elt tg iter scope pos it (genEnv scope cl C code builtinsNs X.env)) []) s₀ H fp) elt te)
  (hf:∀ b∈fp,b≠C/\b ∉ frs X.stack/\(∀ x c,cl.lookup x=some c->c≠b)/\∀ q∈pins,q.1≠b) (ht:fz J g te τ G n p):
  ∀ (k i:Nat) (u s:Shared) (H2:Hp),n - i=k->i<=n->G H2->(∀ b∈fp,H2 b=none)->Inv (fZ X scope cl C code N (A0.over (iS elt tg iter scope pos it (genEnv scope cl C code builtinsNs X.env)) []) s₀ H fp) pins τ H2 s->tn i s.heap ->
   u.gens.size<=s.gens.size ->
   Seg (model X.prog X.w) A0 (λ m u r s1=>r=.ok .next/\BC (fZ X scope cl C code N (A0.over (iS elt tg iter scope pos it (genEnv scope cl C code builtinsNs X.env)) []) s₀ H fp) pins τ G m u s1)
    (sU (fZ X scope cl C code N (A0.over (iS elt tg iter scope pos it (genEnv scope cl C code builtinsNs X.env)) []) s₀ H fp) pins τ G n p) (n - i) u
    (iS elt tg iter scope pos it (genEnv scope cl C code builtinsNs X.env)) ((model X.prog X.w).den (iS elt tg iter scope pos it (genEnv scope cl C code builtinsNs X.env))) [] s:=by
 generalize hY:fZ X scope cl C code N (A0.over (iS elt tg iter scope pos it (genEnv scope cl C code builtinsNs X.env)) []) s₀ H fp=Y at hg he ⊢
 generalize hce:genEnv scope cl C code builtinsNs X.env=cenv at hY ⊢
 have eP:Y.prog=X.prog:=by rw [<- hY];rfl
 have ew:Y.w=X.w:=by rw [<- hY];rfl
 have eK:Y.K=X.K:=by rw [<- hY];rfl
 have ec:Y.calm=true:=by rw [<- hY];rfl
 have eA:Y.A=A0.over (iS elt tg iter scope pos it cenv) []:=by rw [<- hY];rfl
 have ex:Y.xe=λ _ _=>False:=by rw [<- hY];rfl
 have ee:Y.env=cenv:=by rw [<- hY,<- hce];rfl
 have fpk':∀ {H2:Hp},(∀ b∈fp,H2 b=none)->∀ b∈fp,iA Y pins H2 b:=λ {H2} h b hb=>by
  obtain ⟨a1,a2,a3,a4⟩:=hf b hb
  refine ⟨h b hb,?_,?_,?_,?_,?_⟩
  ·rw [ee,<- hce];exact a1
  ·rw [<- hY];exact a2
  ·rw [<- hY];exact .inl hb
  ·rw [ee,<- hce];exact a3
  ·rw [<- hY];exact a4
 clear hY
 intro k
 induction k with
 | zero=>
  intro i u s H2 hk hi hG fr I st hu
  have hin:i=n:=by omega
  subst hin
  show Seg _ A0 _ _ _ u _ ((compTurn (.GeneratorExp elt [⟨tg,iter,[],0⟩] scope pos) 0 (.ref it) .none cenv).onRaise (leaving cenv)) [] s
  rw [Sem.onRaise_eq_wrap,compTurn_gen]
  refine seg_bind_wrap (wpAny_standAt (seg_bind_wrap ?_))
  have h1:=T.done Y eP ew eK ec i pins s τ H2 (λ _ _=>False) I (fpk' fr) st (ht H2 hG).1
  rw [eA] at h1
  refine wpAny_mono h1 (λ r s1 h=>?_) λ _ _ f=>f.elim
  obtain ⟨hr,I1⟩:=h
  subst hr
  exact seg_end (.ok .next) ⟨rfl,by omega,H2,hG,I1⟩
 | succ k ih=>
  intro i u s H2 hk hi hG fr I st hu
  have hlt:i<n:=by omega
  obtain ⟨m,hm⟩:∃ m,n - i=m+1:=⟨n - i - 1,by omega⟩
  obtain ⟨go,turn⟩:=(ht H2 hG).2 i hlt
  show Seg _ A0 _ _ _ u _ ((compTurn (.GeneratorExp elt [⟨tg,iter,[],0⟩] scope pos) 0 (.ref it) .none cenv).onRaise (leaving cenv)) [] s
  rw [Sem.onRaise_eq_wrap,compTurn_gen,hm]
  refine seg_bind_wrap (wpAny_standAt (seg_bind_wrap ?_))
  have h1:=T.item Y eP ew eK ec i pins s τ H2 (λ _ _=>False) I (fpk' fr) st go
  rw [eA] at h1
  refine zE h1 (λ r s1 g1 h=>?_) λ _ _ _ f=>f.elim
  obtain ⟨v,hr,h2⟩:=h
  subst hr
  refine seg_bind_wrap (zE h2 (λ _ s2 g2 h=>?_) λ _ _ _ f=>f.elim)
  obtain ⟨x,H3,I3,rx,y3,st3,fr3⟩:=h
  have I3':=I3.pinned (fpk' fr3) (T.obj _ _ st3)
  have h3:=hg _ s2 τ H3 x v _ I3' rx (turn x H3 y3)
  rw [eP,ew,eA,ee,ex] at h3
  refine seg_bind_wrap (zE h3 (λ _ s3 g3 h=>?_) λ _ _ _ f=>f.elim)
  obtain ⟨τ4,H4,I4,w4,q4⟩:=h
  refine seg_bind_wrap (wpAny_pure ?_)
  simp only [if_true]
  have hy:∀ v,yieldOut cenv v=yieldValue v:=λ v=>by
   rw [<- hce]
   simp only [yieldOut,genEnv,hco,Bool.false_eq_true,if_false]
  have h4:=he _ s3 τ4 H4 _ I4 q4
  rw [eP,ew,eA,ee,ex] at h4
  simp only [hy]
  rw [Sem.bind_eq_wrap',Sem.bind_eq_wrap',Sem.wrap_wrap,Sem.wrap_wrap]
  refine seg_wrap (zE h4 (λ y s4 g4 h=>?_) λ _ _ _ f=>f.elim)
  obtain ⟨y',H5,I5,ry,hG5,ey⟩:=h
  subst ey
  obtain rfl:y=Value.bool (p i):=ry
  have st5:tn (i+1) s4.heap:=T.keep _ _ _ st3 λ b hb o e=>(I5.pin (b,o) (List.mem_append_right _ (List.mem_append_right _ (bE hb e)))).1
  have fr5:∀ b∈fp,H5 b=none:=λ b hb=>by
   obtain ⟨o,e,_⟩:=T.obj _ _ st3 b hb
   exact (I5.pin (b,o) (List.mem_append_right _ (List.mem_append_right _ (bE hb e)))).2.1
  have I5':Inv Y pins τ H5 s4:=I5.dY.weak (I.len.trans I5.len.symm) w4
  refine seg_at (seg_yield rfl rfl rfl ⟨⟨H5,hG5,I5'⟩,?_,by omega,λ s5 e1 e2 e3=>?_⟩)
  ·rw [show n - 1 - m=i by omega]
  ·have q:=ih (i+1) s5 s5 H5 (by omega) hlt hG5 fr5 (I5'.y6 e1 e2 e3) (by rw [e1];exact st5) (Nat.le_refl _)
   rw [show n - (i+1)=m by omega] at q
   exact seg_again rfl q
end
section
variable {prog:Program} {w:World} {A:Around} {E:Value->Shared->Prop} {Y:Cx} {pins:List (Addr×Obj)} {τ:St} {G:Hp->Prop} {n:Nat} {p:Nat->Bool} {a:Addr} {g:Nat}
def gAt (prog:Program) (w:World) (A:Around) (Y:Cx) (pins:List (Addr×Obj)) (τ:St) (G:Hp->Prop) (n:Nat) (p:Nat->Bool) (g i:Nat) (s:Shared):Prop:=
 (∃ H',G H'/\Inv Y pins τ H' s)/\∃ gs,s.gens[g]?=some gs/\∀ s2,s2.heap=s.heap->s2.os=s.os->AllBare s2.gens ->
  gs.Goes (model prog w) A.in1 (λ m u r s1=>r=.ok .next/\BC Y pins τ G m u s1) (sU Y pins τ G n p) (n - i) (.send .none) s2
theorem nu {gens:Array GenState} {g:Nat} {x:GenState} (h:AllBare gens) (hx:x.bare=true):AllBare (gens.setIfInBounds g x):=λ y hy=>by
 rcases Array.mem_or_eq_of_mem_setIfInBounds hy with z | z
 ·exact h y z
 ·rw [z];exact hx
theorem get_set {s:Shared} {g:Nat} {x:GenState} (h:g<s.gens.size):(s.setGen g x).gens[g]?=some x:=by simp [Shared.setGen,h]
theorem wg {gens:Array GenState} {g:Nat} {x:GenState} (h:gens[g]?=some x):g<gens.size:=by
 rcases Nat.lt_or_ge g gens.size with q | q
 ·exact q
 ·rw [Array.getElem?_eq_none q] at h
  cases h
theorem j3 {Q:Option Value->Shared->Prop} (hh:A.handled=none) (hr:A.depth<recursionLimit) (hpin:∃ o,(a,o)∈pins/\o.cls=.type "generator"/\(∃ nm qn,o.data=.fields #[.int g 0,nm,qn])/\o.slots=#[])
  {i:Nat} {s:Shared} (hi:i<=n) (h:gAt prog w A Y pins τ G n p g i s) (hQ:∀ s',(i<n->gAt prog w A Y pins τ G n p g (i+1) s'->Q (some (.bool (p i))) s')/\(i=n->(∃ H',G H'/\Inv Y pins τ H' s')->Q none s')):
  wpAny (model prog w) A (pyNext (.ref a)) Q E s:=by
 obtain ⟨⟨H0,hG0,I0⟩,gs,hgs,hgo⟩:=h
 obtain ⟨o,ho,hc,⟨nm,qn,hd⟩,hs⟩:=hpin
 have hg:s.heap.IsGen a g:=⟨o,nm,qn,(I0.pin (a,o) (List.mem_append_right _ ho)).1,hc,hd,hs⟩
 have hlt:=wg hgs
 refine wpAny_pyNext_genexpQ (P:=BC Y pins τ G) (Y:=sU Y pins τ G n p) (n:=n - i) hh I0.nolimit hr hg hgs (hgo _ rfl rfl (nu I0.bare rfl)) (λ v s1 gs' hb hv=>?_) (λ s1 hp h' hk=>?_)
 ·obtain ⟨⟨H1,hG1,I1⟩,ev,hsz,hkap⟩:=hv
  have hsz:s.gens.size<=s1.gens.size:=by
   have:(s.setGen g .running).gens.size=s.gens.size:=by simp [Shared.setGen]
   rw [this] at hsz
   exact hsz
  have hin:i<n:=by
   rcases Nat.lt_or_ge i n with q | q
   ·exact q
   ·have z:n - i=0:=by omega
    rw [z] at hkap
    exact (hkap s1 rfl rfl I1.bare).elim
  obtain ⟨m,hm⟩:∃ m,n - i=m+1:=⟨n - i - 1,by omega⟩
  rw [show n - 1 - (n - i - 1)=i by omega] at ev
  subst ev
  rw [hm] at hkap
  have hb':AllBare (s1.setGen g gs').gens:=nu I1.bare hb
  refine (hQ _).1 hin ⟨⟨H1,hG1,I1.y6 rfl rfl hb'⟩,gs',get_set (Nat.lt_of_lt_of_le hlt hsz),λ s2 e1 e2 e3=>?_⟩
  rw [show n - (i+1)=m by omega]
  exact hkap s2 e1 e2 e3
 ·obtain ⟨hn,H1,hG1,I1⟩:=hp
  have I2:Inv Y pins τ H1 { s1 with heap:=h',toks:=s1.toks }:=I1.kept hk
  exact (hQ _).2 (by omega) ⟨H1,hG1,I2.y6 rfl rfl (nu I1.bare rfl)⟩
theorem yk {R:Result->Shared->Prop} (hh:A.handled=none) (hr:A.in1.depth<recursionLimit) (hpin:∃ o,(a,o)∈pins/\o.cls=.type "generator"/\(∃ nm qn,o.data=.fields #[.int g 0,nm,qn])/\o.slots=#[]):
  ∀ (k i:Nat) (s:Shared),n - i=k->i<=n->gAt prog w A.in1 Y pins τ G n p g i s->(∀ s',(∃ H',G H'/\Inv Y pins τ H' s')->R (.ok (.ret (.bool (((List.range n).drop i).all p)))) s') ->
   codeAny (model prog w) A (.builtin "all.loop" ⟨[.ref a],[]⟩) R s:=by
 intro k
 induction k with
 | zero=>
  intro i s hk hi h hR
  have e:i=n:=by omega
  subst e
  refine codeAny_builtin F.entry_all_loop ?_
  rw [Around.under_plainId F.plain_all_loop _]
  show wpAny _ A.in1 (pyNext (.ref a) >>= _) _ _ s
  refine wpAny_bind (j3 (A:=A.in1) hh hr hpin hi h λ s'=>⟨λ z=>absurd z (Nat.lt_irrefl _),λ _ q=>?_⟩)
  refine wpAny_bind (wpAny_rule (wpAny_pure ?_))
  have z:=hR s' q
  rw [List.drop_of_length_le (by simp)] at z
  exact z
 | succ k ih=>
  intro i s hk hi h hR
  have hlt:i<n:=by omega
  have hd:(List.range n).drop i=i::(List.range n).drop (i+1):=range_drop hlt
  refine codeAny_builtin F.entry_all_loop ?_
  rw [Around.under_plainId F.plain_all_loop _]
  show wpAny _ A.in1 (pyNext (.ref a) >>= _) _ _ s
  refine wpAny_bind (j3 (A:=A.in1) hh hr hpin hi h λ s'=>⟨λ _ q=>?_,λ z=>absurd z (by omega)⟩)
  refine wpAny_bind (wpAny_holding (wpAny_truthy_bool (wpAny_bind (wpAny_letGo ?_))))
  cases hb:p i with
  | true=>
   simp only [if_true]
   refine wpAny_pure ⟨plainId_quiet F.plain_all_loop _,ih (i+1) s' (by omega) hlt q λ s2 z=>?_⟩
   have y:=hR s2 z
   rw [hd,List.all_cons,hb,Bool.true_and] at y
   exact y
  | false=>
   simp only [Bool.false_eq_true,if_false]
   refine wpAny_bind (wpAny_rule (wpAny_pure ?_))
   have y:=hR s' q.1
   rw [hd,List.all_cons,hb,Bool.false_and] at y
   exact y
theorem yx {R:Result->Shared->Prop} (hh:A.handled=none) (hr:A.in1.depth<recursionLimit) (hpin:∃ o,(a,o)∈pins/\o.cls=.type "generator"/\(∃ nm qn,o.data=.fields #[.int g 0,nm,qn])/\o.slots=#[]):
  ∀ (k i:Nat) (s:Shared),n - i=k->i<=n->gAt prog w A.in1 Y pins τ G n p g i s->(∀ s',(∃ H',G H'/\Inv Y pins τ H' s')->R (.ok (.ret (.bool (((List.range n).drop i).any p)))) s') ->
   codeAny (model prog w) A (.builtin "any.loop" ⟨[.ref a],[]⟩) R s:=by
 intro k
 induction k with
 | zero=>
  intro i s hk hi h hR
  have e:i=n:=by omega
  subst e
  refine codeAny_builtin F.entry_any_loop ?_
  rw [Around.under_plainId F.plain_any_loop _]
  show wpAny _ A.in1 (pyNext (.ref a) >>= _) _ _ s
  refine wpAny_bind (j3 (A:=A.in1) hh hr hpin hi h λ s'=>⟨λ z=>absurd z (Nat.lt_irrefl _),λ _ q=>?_⟩)
  refine wpAny_bind (wpAny_rule (wpAny_pure ?_))
  have z:=hR s' q
  rw [List.drop_of_length_le (by simp)] at z
  exact z
 | succ k ih=>
  intro i s hk hi h hR
  have hlt:i<n:=by omega
  have hd:(List.range n).drop i=i::(List.range n).drop (i+1):=range_drop hlt
  refine codeAny_builtin F.entry_any_loop ?_
  rw [Around.under_plainId F.plain_any_loop _]
  show wpAny _ A.in1 (pyNext (.ref a) >>= _) _ _ s
  refine wpAny_bind (j3 (A:=A.in1) hh hr hpin hi h λ s'=>⟨λ _ q=>?_,λ z=>absurd z (by omega)⟩)
  refine wpAny_bind (wpAny_holding (wpAny_truthy_bool (wpAny_bind (wpAny_letGo ?_))))
  cases hb:p i with
  | false=>
   simp only [Bool.false_eq_true,if_false]
   refine wpAny_pure ⟨plainId_quiet F.plain_any_loop _,ih (i+1) s' (by omega) hlt q λ s2 z=>?_⟩
   have y:=hR s2 z
   rw [hd,List.any_cons,hb,Bool.false_or] at y
   exact y
  | true=>
   simp only [if_true]
   refine wpAny_bind (wpAny_rule (wpAny_pure ?_))
   have y:=hR s' q.1
   rw [hd,List.any_cons,hb,Bool.true_or] at y
   exact y
end
def jK (base:Heap):Prop:=∀ (M:Model) (A:Around) (E:Value->Shared->Prop) (s:Shared) (Q:Addr->Shared->Prop),(∀ b o,base.get? b=some o->s.heap.get? b=some o)->Q builtinsNs s->wpAny M A (builtinsFor mainGlobals builtinsNs) Q E s
theorem yY {base:Heap} {mg:Str->Option Value} {bm:Addr} {ob:Obj} (g:base.Ns mainGlobals mg) (e:mg "__builtins__"=some (.ref bm)) (ne:bm≠builtinsNs) (ho:base.get? bm=some ob) (hc:ob.cls=.type "module") (hd:ob.dict=some builtinsNs) (hp:ob.data=.plain):jK base:=
 λ _ _ _ _ _ k q=>wpAny_builtinsFor (g.keeps k) e ne (k _ _ ho) hc hd hp q
structure xP (X:Cx) (scope:Scope) (N:List Str) (fs:List (Nat×Nat)):Prop where
 co:scope.isCoroutine=false
 kind:scope.kind=.function
 zero:scope.names.lookup (".0":Str)=some NameKind.local
 cell:(scope.names.all λ y=>y.2 != .cell)=true
 free:(scope.names.all λ y=>y.2 != .free||(X.env.kindOf y.1==some .cell||X.env.kindOf y.1==some .free))=true
 fs:pw X scope N fs
def tG (K:PySem.W.Frag) (fold:Nat->(Nat->Bool)->Bool) (P:Addr) (nN:Nat) (fs:List (Nat×Nat)) (wi:TI) (g:TG) (te:TE):TE:=λ σ H Q=>
 wi σ H λ J H1=>H1 P=some (Tb P)/\∃ n p G,G H1/\fz J g te (tau nN fs σ) G n p/\∀ H2,G H2->Q (.bl (fold n p)) H2
section
variable {X:Cx} {scope:Scope} {N:List Str} {fs:List (Nat×Nat)} {tg elt iter:Expr} {gpos cpos np:Pos} {k:Nat} {P:Addr} {wi:TI} {g:TG} {te:TE}
theorem yb {A:Around} {c:Code} (hr:bN (k+1) A) (hw:c.weight<=1) (hu:c.cUnits<=3):bN k (A.in1.in1.over c []):=by
 have h1:=hr.dp
 have h2:=hr.un
 refine ⟨hr.hd,?_,?_⟩
 ·show A.depth+0+c.weight+3 * k+5<_
  omega
 ·show A.units+1+1+0+c.cUnits+16 * k+200<_
  omega
theorem rH {id:String} {fold:Nat->(Nat->Bool)->Bool} (S:xP X scope N fs) (hB:jK X.base) (hc:cq X.K X.env.code P) (hr:bN (k+1) X.A)
  (hi:PI X tg iter wi) (hg:∀ A cl C code s₀ H fp,PG (fZ X scope cl C code N A s₀ H fp) tg g) (he:∀ A cl C code s₀ H fp,bN k A->PE (fZ X scope cl C code N A s₀ H fp) elt te)
  (hs:∀ x,genFold iter X.env x=pure x)
  (hcall:∀ (Y:Cx) (pins:List (Addr×Obj)) (τ:St) (G:Hp->Prop) (n:Nat) (p:Nat->Bool) (a:Addr) (g:Nat) (s:Shared) (Q:Value->Shared->Prop),
   (∃ o,(a,o)∈pins/\o.cls=.type "generator"/\(∃ nm qn,o.data=.fields #[.int g 0,nm,qn])/\o.slots=#[])->gAt X.prog X.w X.A.in1 Y pins τ G n p g 0 s->(∀ s',(∃ H',G H'/\Inv Y pins τ H' s')->Q (.bool (fold n p)) s') ->
   wpAny (model X.prog X.w) X.A (call (.builtin id) [.ref a]) Q X.xe s)
  {x:Str} (hgl:Gl X x) (hm:X.mg x=none) (hv:bootBuiltins x=some (.builtin id)) (hn:x≠"__name__") (hdb:(x==("__debug__":Str))=false):
  PE X (.Call (.Name x np) [.GeneratorExp elt [⟨tg,iter,[],0⟩] scope gpos] [] cpos) (tG X.K fold P N.length fs wi g te):=by
 intro pins s σ H Q I h
 refine wpAny_Call_Name_kw (iE I hgl hm hv ?_ hn hdb)
 refine PyProof.Rows.callWith_builtin1 (Calls.spliced_cons ?_) rfl rfl
 have hfree:∀ y∈scope.names,y.2=.free->∃ c,X.env.cells.lookup y.1=some c:=λ y hy hf=>by
  have q:=List.all_eq_true.mp S.free y hy
  rw [hf] at q
  refine I.ok.has y.1 ?_
  simpa using q
 have hcell:∀ y∈scope.names,y.2≠.cell:=λ y hy=>by simpa using List.all_eq_true.mp S.cell y hy
 have hclo:=gZ hfree
 generalize hcl:ju scope.names X.env.cells []=cl at hclo
 have back:∀ {y c},cl.lookup y=some c->X.env.cells.lookup y=some c:=λ {y c} e=>eN (names:=scope.names) (acc:=[]) (λ z=>by cases z) (by rw [hcl];exact e)
 have hasc:∀ {y},scope.names.lookup y=some .free->∃ c,cl.lookup y=some c:=λ {y} e=>by
  have:=gc (cells:=X.env.cells) (acc:=[]) hfree (PySem.mem_of_lookup e)
  rw [hcl] at this
  exact Option.isSome_iff_exists.mp this
 refine wpAny_GeneratorExp_make S.co hclo hcell S.zero S.kind hr.depth (thn (hi pins s σ H _ I h) λ v s1 h1=>thn h1 λ itv s2 h2=>?_) hs
 obtain ⟨it,fp,tn,J,H1,e,I2,T,st2,f2,hT,n,p,G,hG,ht,hq⟩:=h2
 subst e
 refine ⟨I2.nolimit,ya I2 hc hT λ code h3 tk3 I3 k3=>?_⟩
 have fpP:∀ b∈fp,b≠P:=λ b hb z=>by
  have:=(f2 b hb).1
  rw [z,hT] at this
  cases this
 have st3:tn 0 h3:=T.keep _ _ _ st2 λ b hb o e=>k3 b o (fpP b hb) e
 rw [I.ok.glob,I.ok.blt]
 refine hB _ _ _ _ _ I3.bk λ h4 hns hsb=>?_
 have k4:∀ b o,h3.get? b=some o->h4.get? b=some o:=λ b o e=>hsb.extBut b o (Nat.ne_of_lt (Heap.lt_size e)) (Heap.get?_push_of_some _ e)
 have k5:∀ (og:Obj) b o,h3.get? b=some o->(h4.push og).get? b=some o:=λ og b o e=>Heap.get?_push_of_some _ (k4 b o e)
 refine Calls.spliced_nil ?_
 generalize hog:({ cls:=.type "generator",data:=.fields #[.int s2.gens.size 0,.str "<genexpr>" (tk3+1),.str (X.env.qual++"<genexpr>") (tk3+1+1)] }:Obj)=og
 have fpl:∀ b∈fp,b<h3.objs.size:=λ b hb=>let ⟨_,e,_⟩:=T.obj _ _ st3 b hb;Heap.lt_size e
 have fps:∀ b∈fp,b ∉ frs X.stack:=λ b hb z=>by
  rcases List.mem_cons.mp (I2.hW b z) with q | q
  ·exact (f2 b hb).2.1 q
  ·exact (f2 b hb).2.2.1 q
 have s45:h3.objs.size<h4.objs.size:=by rw [hsb.1,Heap.size_push];exact Nat.lt_succ_self _
 have ga:(h4.push og).get? h4.objs.size=some og:=by rw [<- hog];exact Heap.get?_push_size _ rfl
 have hf:∀ b∈fp,b≠h3.objs.size/\b ∉ frs X.stack/\(∀ x c,cl.lookup x=some c->c≠b)/\∀ q∈[(h4.objs.size,og)],q.1≠b:=λ b hb=>
  ⟨Nat.ne_of_lt (fpl b hb),fps b hb,λ x c e=>(f2 b hb).2.2.2.2.1 x c (back e),λ q hq=>by
   rw [List.mem_singleton.mp hq]
   exact Nat.ne_of_gt (Nat.lt_trans (fpl b hb) s45)⟩
 have fr1:∀ b∈fp,H1 b=none:=λ b hb=>(f2 b hb).1
 let cenv:=genEnv scope cl h3.objs.size code builtinsNs X.env
 let Y:Cx:=fZ X scope cl h3.objs.size code N (X.A.in1.in1.over (iS elt tg iter scope gpos it cenv) []) { heap:=h3,gens:=s2.gens,drawn:=s2.drawn,toks:=tk3,os:=s2.os } H1 fp
 have hYok:Y.Ok:=by
  refine ⟨I3.ok.mod,S.kind,I.ok.glob,rfl,Nat.le_refl _,λ x y c e1 e2=>I3.ok.inj x y c (back e1) (back e2),λ x hx=>?_,λ x c z=>(by cases z),λ _=>hr.hd,?_,.inr ⟨rfl,rfl⟩,λ b hb=>⟨(hf b hb).1,(hf b hb).2.2.1⟩,I3.bs,Nat.le_trans I3.ok.bsz I3.sz,
   λ b o e hb=>?_,fps,I3.stack,I3.gh⟩
  ·have hx:scope.names.lookup x=some .cell∨scope.names.lookup x=some .free:=hx
   rcases hx with z | z
   ·exact absurd rfl (hcell _ (PySem.mem_of_lookup z))
   ·exact hasc z
  ·show pushEnvs (Code.envs (iS elt tg iter scope gpos it cenv)) (pushEnvs [] X.A.frames)=_
   rw [I.ok.frames]
   rfl
  ·rcases (f2 b hb).2.2.2.1 with z | z
   ·exact I3.ok.mQ b o e z
   ·exact absurd (Nat.lt_of_lt_of_le (Heap.lt_size e) (Nat.le_trans I3.ok.bsz z)) (Nat.lt_irrefl _)
 have IY:∀ (gs:GenState) (tk:Nat),gs.bare=true->Inv Y [(h4.objs.size,og)] (tau N.length fs σ) H1 { heap:=h4.push og,gens:=s2.gens.push gs,drawn:=s2.drawn,toks:=tk,os:=s2.os }:=λ gs tk hb=>by
  refine ⟨hYok,rfl,?_,Un.kept (k5 og),⟨_,hns.push _,λ i x v e1 e2 e3=>?_⟩,λ x c e=>?_,I3.hok.fresh (Nat.le_refl _),λ x c e=>I3.cH x c (back e),λ q hq=>?_,I3.hok.kept (k5 og),mq _ _ _⟩
  ·intro y hy
   rcases Array.mem_push.mp hy with z | z
   ·exact I3.bare y z
   ·rw [z];exact hb
  ·obtain ⟨j,hj,hv⟩:=mn e2
   obtain ⟨x',q1,q2,q3,q4⟩:=S.fs.mem hj
   have e1:N[i]?=some x:=e1
   rw [e1] at q1
   cases q1
   obtain ⟨m,_,hl⟩:=I3.loc
   obtain ⟨u,ru,lk⟩:=hl j x v q2 hv (by rcases q4 with z | z;exact .inr (.inl z);exact .inr (.inr z))
   refine ⟨u,ru,.inr ⟨.inr q3,?_⟩⟩
   rcases lk with ⟨z,_⟩ | ⟨_,c,e,hcc⟩
   ·rcases q4 with y | y <;> (rw [y] at z;cases z)
   ·obtain ⟨c',e'⟩:=hasc q3
    have z:=back e'
    rw [e] at z
    cases z
    obtain ⟨o,ho,hd⟩:=hcc
    exact ⟨c,e',o,k5 og _ _ ho,hd⟩
  ·obtain ⟨v,o,ho,hd⟩:=I3.cell x c (back e)
   exact ⟨v,o,k5 og _ _ ho,hd⟩
  ·have hq:q∈[(h4.objs.size,og)]:=hq
   rw [List.mem_singleton.mp hq]
   refine ⟨ga,I3.hok.fresh (Nat.le_of_lt s45),Nat.ne_of_gt s45,λ z=>?_,λ v z=>?_⟩
   ·obtain ⟨_,o,ho,_⟩:=I3.stack.mem z
    exact absurd (Nat.lt_trans (Heap.lt_size ho) s45) (Nat.lt_irrefl _)
   ·rw [<- hog] at z
    have z':Data.fields _=Data.cell v:=z
    cases z'
 refine hcall Y [(h4.objs.size,og)] (tau N.length fs σ) G n p _ s2.gens.size _ _ ⟨og,List.mem_singleton.mpr rfl,by rw [<- hog],by rw [<- hog];exact ⟨_,_,rfl⟩,by rw [<- hog]⟩
  ⟨⟨H1,hG,IY _ _ rfl⟩,_,Array.getElem?_push_size ..,λ s6 e1 e2 e3=>⟨rfl,?_⟩⟩ λ s' ⟨H',hG',I'⟩=>?_
 ·have st6:tn 0 s6.heap:=by
   rw [e1]
   exact T.keep _ _ _ st3 λ b _ o e=>k5 og b o e
  have loop:=zG (A0:=X.A.in1.in1) T S.co (hg _ cl _ code _ H1 fp) (he _ cl _ code { heap:=h3,gens:=s2.gens,drawn:=s2.drawn,toks:=tk3,os:=s2.os } H1 fp (yb hr (Nat.le_of_eq rfl) (Nat.le_of_eq rfl))) hf ht n 0 s6 s6 H1 rfl (Nat.zero_le _) hG fr1
   ((IY .running 0 rfl).y6 e1 e2 e3) st6 (Nat.le_refl _)
  show Seg _ X.A.in1.in1 _ _ _ s6 _ ((compStart (.GeneratorExp elt [⟨tg,iter,[],0⟩] scope gpos) 0 (.ref it) .none cenv).onRaise (leaving cenv)) [] s6
  rw [Sem.onRaise_eq_wrap];unfold compStart
  show Seg _ X.A.in1.in1 _ _ _ s6 _ ((ask >>= _).wrap _ _ _ _) [] s6
  refine seg_bind_wrap (wpAny_askSetting ?_)
  split
  ·exact seg_again rfl loop
  ·refine seg_bind_wrap (wpAny_rule (seg_bind_wrap (wpAny_standAt (seg_bind_wrap ?_))))
   exact T.self _ 0 s6 _ _ st6 (seg_again rfl loop)
 ·refine ⟨.bl (fold n p),H',I3.rG I'.os I'.base I'.hok I'.bare λ b hb=>?_,rfl,hq H' hG'⟩
  obtain ⟨_,z1,z2,z3,z4,z5⟩:=f2 b hb
  exact ⟨z3,z1,z4,z5⟩
end
section
variable {X:Cx} {scope:Scope} {N:List Str} {fs:List (Nat×Nat)} {tg elt iter:Expr} {gpos cpos np:Pos} {k:Nat} {P:Addr} {wi:TI} {g:TG} {te:TE}
def wj (n:Nat) (p:Nat->Bool):Bool:=(List.range n).all p
def oE (n:Nat) (p:Nat->Bool):Bool:=(List.range n).any p
theorem mF (S:xP X scope N fs) (hB:jK X.base) (hc:cq X.K X.env.code P) (hr:bN (k+1) X.A) (hgl:Gl X "all") (hm:X.mg "all"=none)
  (hi:PI X tg iter wi) (hg:∀ A cl C code s₀ H fp,PG (fZ X scope cl C code N A s₀ H fp) tg g) (he:∀ A cl C code s₀ H fp,bN k A->PE (fZ X scope cl C code N A s₀ H fp) elt te)
  (hs:∀ x,genFold iter X.env x=pure x:=by intro _;rfl):
  PE X (.Call (.Name "all" np) [.GeneratorExp elt [⟨tg,iter,[],0⟩] scope gpos] [] cpos) (tG X.K wj P N.length fs wi g te):=by
 refine rH (id:="all") S hB hc hr hi hg he hs (λ Y pins τ G n p a g s Q hpin h hQ=>?_) hgl hm PyProof.Rows.boot_all (by decide) (by decide)
 refine call_function_tree PySem.F.kind_all PySem.F.plain_all PySem.F.entry_all (PySem.F.args_all1 _) ?_
 unfold Builtin.«all»
 obtain ⟨o,ho,hc,⟨nm,qn,hd⟩,hs⟩:=id hpin
 obtain ⟨⟨H0,_,I0⟩,_⟩:=id h
 refine wpAny_bind (m:=oneArg "all" _) (wpAny_pure (wpAny_bind (wpAny_pyIter_gen (g:=g) ⟨o,nm,qn,(I0.pin (a,o) (List.mem_append_right _ ho)).1,hc,hd,hs⟩ ?_)))
 refine wpAny_pure ⟨plainId_quiet PySem.F.plain_all_loop _,yk hr.hd hr.depth hpin n 0 s rfl (Nat.zero_le _) h λ s' z=>?_⟩
 exact hQ s' z
theorem mC (S:xP X scope N fs) (hB:jK X.base) (hc:cq X.K X.env.code P) (hr:bN (k+1) X.A) (hgl:Gl X "any") (hm:X.mg "any"=none)
  (hi:PI X tg iter wi) (hg:∀ A cl C code s₀ H fp,PG (fZ X scope cl C code N A s₀ H fp) tg g) (he:∀ A cl C code s₀ H fp,bN k A->PE (fZ X scope cl C code N A s₀ H fp) elt te)
  (hs:∀ x,genFold iter X.env x=pure x:=by intro _;rfl):
  PE X (.Call (.Name "any" np) [.GeneratorExp elt [⟨tg,iter,[],0⟩] scope gpos] [] cpos) (tG X.K oE P N.length fs wi g te):=by
 refine rH (id:="any") S hB hc hr hi hg he hs (λ Y pins τ G n p a g s Q hpin h hQ=>?_) hgl hm PyProof.Rows.boot_any (by decide) (by decide)
 refine call_function_tree PySem.F.kind_any PySem.F.plain_any PySem.F.entry_any (PySem.F.args_any1 _) ?_
 unfold Builtin.«any»
 obtain ⟨o,ho,hc,⟨nm,qn,hd⟩,hs⟩:=id hpin
 obtain ⟨⟨H0,_,I0⟩,_⟩:=id h
 refine wpAny_bind (m:=oneArg "any" _) (wpAny_pure (wpAny_bind (wpAny_pyIter_gen (g:=g) ⟨o,nm,qn,(I0.pin (a,o) (List.mem_append_right _ ho)).1,hc,hd,hs⟩ ?_)))
 refine wpAny_pure ⟨plainId_quiet PySem.F.plain_any_loop _,yx hr.hd hr.depth hpin n 0 s rfl (Nat.zero_le _) h λ s' z=>?_⟩
 exact hQ s' z
theorem x5 {K:PySem.W.Frag} {a:Addr} {xs:List V} {H:Hp} {τ:St} {q:V->Bool} (hl:SqL K H a xs) (hτ:τ[0]?=some none) (h:∀ x∈xs,te (τ.set 0 (some x)) H λ v H5=>H5=H/\v=.bl (q x)):
  fz (Itl K a) (dD 0) te τ (·=H) xs.length λ i=>match xs[i]? with | some x=>q x | none=>false:=by
 rintro _ rfl
 refine ⟨⟨xs,hl,Nat.le_refl _⟩,λ i hi=>⟨⟨xs,xs[i],hl,List.getElem?_eq_getElem hi⟩,?_⟩⟩
 rintro x _ ⟨rfl,hx⟩
 have e:=hx xs hl
 refine ⟨λ j v hj=>?_,?_⟩
 ·by_cases z:j=0
  ·subst z;rw [hτ] at hj;cases hj
  ·rw [List.getElem?_set_ne (Ne.symm z)];exact hj
 ·dsimp only;rw [e]
  exact h x (List.mem_of_getElem? e)
theorem CN {K:PySem.W.Frag} {a:Addr} {xs:List V} {H:Hp} {τ:St} {q:V->Bool} (hl:SqT K H a xs) (hτ:τ[0]?=some none) (h:∀ x∈xs,te (τ.set 0 (some x)) H λ v H5=>H5=H/\v=.bl (q x)):
  fz (Itt K a) (dD 0) te τ (·=H) xs.length λ i=>match xs[i]? with | some x=>q x | none=>false:=by
 rintro _ rfl
 refine ⟨⟨xs,hl,Nat.le_refl _⟩,λ i hi=>⟨⟨xs,xs[i],hl,List.getElem?_eq_getElem hi⟩,?_⟩⟩
 rintro x _ ⟨rfl,hx⟩
 have e:=hx xs hl
 refine ⟨λ j v hj=>?_,?_⟩
 ·by_cases z:j=0
  ·subst z;rw [hτ] at hj;cases hj
  ·rw [List.getElem?_set_ne (Ne.symm z)];exact hj
 ·dsimp only;rw [e]
  exact h x (List.mem_of_getElem? e)
theorem all_range {α:Type} (xs:List α) (q:α->Bool):(List.range xs.length).all (λ i=>match xs[i]? with | some x=>q x | none=>false)=xs.all q:=by
 induction xs with
 | nil=>rfl
 | cons x r ih=>
  rw [List.length_cons,List.range_succ_eq_map,List.all_cons,List.all_map,List.all_cons]
  exact congrArg (q x&&·) ih
theorem any_range {α:Type} (xs:List α) (q:α->Bool):(List.range xs.length).any (λ i=>match xs[i]? with | some x=>q x | none=>false)=xs.any q:=by
 induction xs with
 | nil=>rfl
 | cons x r ih=>
  rw [List.length_cons,List.range_succ_eq_map,List.any_cons,List.any_map,List.any_cons]
  exact congrArg (q x||·) ih
end
def aX (X:Cx) (scope:Scope) (cl:List (Str×Addr)) (C:Addr) (N:List Str) (s₀:Shared) (H:Hp) (fp:List Addr):Cx where
 prog:=X.prog
 w:=X.w
 K:=X.K
 mg:=X.mg
 base:=X.base
 A:=X.A
 N:=N
 s₀:=s₀
 H₀:=H
 env:=compEnvC scope cl C X.env
 outer:=X.stack
 stack:=X.stack
 ex:=fp
 fn:=λ _=>false
 calm:=true
 pn:=[]
 xe:=λ _ _=>False
theorem nr {f:Str×NameKind->Str×NameKind} (hf:∀ y,(f y).1=y.1) (x:Str):∀ names:List (Str×NameKind),(names.map f).lookup x=(names.lookup x).map λ k=>(f (x,k)).2
 | []=>rfl
 | (n,k)::r=>by
  have e:=hf (n,k)
  rw [List.map_cons]
  generalize hq:f (n,k)=q at e
  obtain ⟨n',k'⟩:=q
  have e:n'=n:=e
  subst e
  rw [List.lookup_cons,List.lookup_cons]
  by_cases z:(x==n')=true
  ·have y:=eq_of_beq z
   subst y
   simp only [z,Option.map_some,hq]
  ·have z:(x==n')=false:=by simpa using z
   simp only [z]
   exact nr hf x r
theorem j8 (scope:Scope) (env:Env) (x:Str):(relabel scope env).names.lookup x=(scope.names.lookup x).map λ k=>if (k==.free&&env.scope.kind==.function&&env.kindOf x==some .cell) then NameKind.cell else k:=by
 unfold relabel
 refine (nr (λ y=>?_) x scope.names).trans ?_
 ·obtain ⟨n,k⟩:=y
  dsimp only
  split <;> rfl
 ·cases scope.names.lookup x with
  | none=>rfl
  | some k=>
   simp only [Option.map_some]
   split <;> rfl
theorem gG {scope:Scope} {env:Env} {x:Str} (h:scope.names.lookup x=some .free):(relabel scope env).names.lookup x=some .cell∨(relabel scope env).names.lookup x=some .free:=by
 rw [j8,h,Option.map_some]
 split
 ·exact .inl rfl
 ·exact .inr rfl
theorem cw {scope:Scope} {env:Env} {x:Str} {κ:NameKind} (h:(relabel scope env).names.lookup x=some κ):scope.names.lookup x=some κ∨scope.names.lookup x=some .free:=by
 rw [j8] at h
 cases e:scope.names.lookup x with
 | none=>rw [e] at h;cases h
 | some k=>
  rw [e,Option.map_some] at h
  split at h
  ·rename_i q
   simp only [Bool.and_eq_true,beq_iff_eq] at q
   right
   rw [q.1.1]
  ·left
   exact h
structure jv (X:Cx) (scope:Scope) (N:List Str) (fs:List (Nat×Nat)):Prop where
 kind:scope.kind=.function
 cell:(scope.names.all λ y=>y.2 != .cell)=true
 free:(scope.names.all λ y=>y.2 != .free||(X.env.kindOf y.1==some .cell||X.env.kindOf y.1==some .free))=true
 own:(scope.names.all λ y=>y.2 != .local||scope.names.lookup y.1==some .local)=true
 fs:pw X scope N fs
def PTs (X:Cx) (ifs:List Expr) (t:TT):Prop:=
 ∀ (pins:List (Addr×Obj)) (s:Shared) (σ:St) (H:Hp) (Q:Bool->Hp->Prop),Inv X pins σ H s->t σ H Q ->
  wpAny (model X.prog X.w) X.A (forIn ifs true λ c r=>if r=true then do let ok <- isTrue c X.env (eval c X.env);pure (ForInStep.yield ok) else pure (ForInStep.yield r)) (TP X pins σ Q) X.xe s
def C7:TT:=λ _ H Q=>Q true H
theorem dU {X:Cx}:PTs X [] C7:=λ _ _ _ H _ I h=>wpAny_pure ⟨H,I,h⟩
theorem qt {X:Cx} {c:Expr} {t:TT} (h:PT X c t):PTs X [c] t:=λ pins s σ H Q I q=>wpAny_tests_one (h pins s σ H Q I q)
def tLC (nN:Nat) (fs:List (Nat×Nat)) (wi:TI) (g:TG) (tc:TT) (te:TE):TE:=λ σ H Q=>wi σ H λ J H1=>∀ D,H1 D=none->∃ (n:Nat) (W:Nat->List V->Hp->Prop),n<=sizeLine/\W 0 [] (upd H1 D (.lst [])) /\
 ∀ i ys H2,i<=n->W i ys H2->H2 D=some (.lst ys)->(J.stop i H2/\Q (.ref D) H2)∨(i<n/\J.go i H2/\∀ x H3,J.yld i H2 x H3->g x (tau nN fs σ) H3 λ τ4 H4=>
  (∀ (j:Nat) v,(tau nN fs σ)[j]?=some (some v)->τ4[j]?=some (some v))/\tc τ4 H4 λ b H5=>
   if b=true then te τ4 H5 λ v H6=>H6 D=some (.lst ys)/\W (i+1) (ys++[v]) (upd H6 D (.lst (ys++[v]))) else H5 D=some (.lst ys)/\W (i+1) ys H5)
section
variable {X:Cx} {scope:Scope} {N:List Str} {fs:List (Nat×Nat)} {tg elt iter:Expr} {ifs:List Expr} {pos cpos:Pos} {wi:TI} {g:TG} {tc:TT} {te:TE}
theorem pf {use:Option (Value->Sem Unit)} {R':Value->Shared->Prop} (S:jv X scope N fs) (hcalm:X.calm=true)
  (hi:PI X tg iter wi) (hg:∀ cl C s₀ H fp,PG (aX X scope cl C N s₀ H fp) tg g) (hc:∀ cl C s₀ H fp,PTs (aX X scope cl C N s₀ H fp) ifs tc) (he:∀ cl C s₀ H fp,PE (aX X scope cl C N s₀ H fp) elt te)
  (hs:∀ x,foldedSetIterable iter X.env x=pure x) {pins:List (Addr×Obj)} {s:Shared} {σ:St} {H:Hp} {Q:VK} (I:Inv X pins σ H s) (h:tLC N.length fs wi g tc te σ H Q)
  (hfin:∀ (D C:Addr) (H2:Hp) (s':Shared),Inv X pins σ H2 s'->Q (.ref D) H2->(∃ m,s'.heap.Ns C m)->iA X pins H2 C->compPost (model X.prog X.w) X.A X.xe use R' (.ref D) C (.ok .next) s'):
  wpAny (model X.prog X.w) X.A (comprehension (.ListComp elt [⟨tg,iter,ifs,0⟩] scope pos) scope X.env cpos (newList []) false (eval iter X.env) use) R' X.xe s:=by
 have hfree:∀ y∈scope.names,y.2=.free->∃ c,X.env.cells.lookup y.1=some c:=λ y hy hf=>by
  have q:=List.all_eq_true.mp S.free y hy
  rw [hf] at q
  refine I.ok.has y.1 ?_
  simpa using q
 have hcell:∀ y∈scope.names,y.2≠.cell:=λ y hy=>by simpa using List.all_eq_true.mp S.cell y hy
 have hnames:∀ y∈scope.names,y.2=.local->scope.names.lookup y.1=some .local:=λ y hy hl=>by
  have q:=List.all_eq_true.mp S.own y hy
  rw [hl] at q
  simpa using q
 have hclo:=gZ hfree
 generalize hcl:ju scope.names X.env.cells []=cl at hclo
 have back:∀ {y c},cl.lookup y=some c->X.env.cells.lookup y=some c:=λ {y c} e=>eN (names:=scope.names) (acc:=[]) (λ z=>by cases z) (by rw [hcl];exact e)
 have hasc:∀ {y},scope.names.lookup y=some .free->∃ c,cl.lookup y=some c:=λ {y} e=>by
  have:=gc (cells:=X.env.cells) (acc:=[]) hfree (PySem.mem_of_lookup e)
  rw [hcl] at this
  exact Option.isSome_iff_exists.mp this
 refine wpAny_comprehension_free (use:=use) rfl hs hclo S.kind hnames (thn (hi pins s σ H _ I h) λ v s1 h1=>thn h1 λ itv s2 h2=>?_)
 obtain ⟨it,fp,tn,J,H1,e,I2,T,st2,f2,hq⟩:=h2
 subst e
 have hD:H1 s2.heap.objs.size=none:=I2.fresh
 obtain ⟨n,W,hn,w0,turn⟩:=hq _ hD
 refine wpAny_newObj_type ?_
 have I3:Inv X pins σ (upd H1 s2.heap.objs.size (.lst [])) { s2 with heap:=s2.heap.push { cls:=.type "list",data:=.seq ([]:List Value).toArray },toks:=s2.toks }:=I2.En .nil (Nat.zero_le _)
 have st3:tn 0 (s2.heap.push { cls:=.type "list",data:=.seq ([]:List Value).toArray }):=T.keep _ _ _ st2 λ b hb o e=>Heap.get?_push_of_some _ e
 have fpD:∀ b∈fp,b≠s2.heap.objs.size:=λ b hb=>let ⟨_,e,_⟩:=T.obj _ _ st2 b hb;Nat.ne_of_lt (Heap.lt_size e)
 generalize hH3:upd H1 s2.heap.objs.size (.lst [])=H3 at I3 w0
 have fr3:∀ b∈fp,H3 b=none:=λ b hb=>by rw [<- hH3,aq (fpD b hb)];exact (f2 b hb).1
 have hD3:H3 s2.heap.objs.size=some (.lst []):=by rw [<- hH3];exact ae
 clear hH3
 generalize hhp:s2.heap.push { cls:=.type "list",data:=.seq ([]:List Value).toArray }=h3 at I3 st3 ⊢
 have hc3:∀ (E:Value->Shared->Prop) (Q':Env->Shared->Prop),(∀ h4,h4.Ns h3.objs.size (λ _=>none)->(∀ b o,h3.get? b=some o->h4.get? b=some o)->h3.objs.size<h4.objs.size->Q' (newEnv scope h3.objs.size X.env.globals cl X.env.qual none .none (some X.env) X.env.builtins) { s2 with heap:=h4,toks:=s2.toks }) ->
   wpAny (model X.prog X.w) X.A (newFunctionEnv scope X.env.globals cl [] X.env.qual none .none (some X.env)) Q' E { s2 with heap:=h3 }:=λ E Q' k=>by
  refine wpAny_newFunctionEnv hcell (by intro y hy;cases hy) (λ h4 a b=>?_) S.kind
  exact k h4 a (λ b' o e=>b.extBut b' o (Nat.ne_of_lt (Heap.lt_size e)) (Heap.get?_push_of_some _ e)) (by rw [b.1,Heap.size_push];exact Nat.lt_succ_self _)
 refine hc3 _ _ λ h4 hns k4 s34=>?_
 have fpl:∀ b∈fp,b<h3.objs.size:=λ b hb=>let ⟨_,e,_⟩:=T.obj _ _ st3 b hb;Heap.lt_size e
 have fps:∀ b∈fp,b ∉ frs X.stack:=λ b hb z=>by
  rcases List.mem_cons.mp (I2.hW b z) with q | q
  ·exact (f2 b hb).2.1 q
  ·exact (f2 b hb).2.2.1 q
 have fst:∀ {H':Hp},(∀ b∈fp,H' b=none)->∀ b∈fp,iA (aX X scope cl h3.objs.size N { s2 with heap:=h3,toks:=s2.toks } H3 fp) [] H' b:=λ hn b hb=>
  ⟨hn b hb,Nat.ne_of_lt (fpl b hb),fps b hb,.inl hb,λ x c e=>(f2 b hb).2.2.2.2.1 x c (back e),λ q hq=>by cases hq⟩
 have hYok:(aX X scope cl h3.objs.size N { s2 with heap:=h3,toks:=s2.toks } H3 fp).Ok:=by
  refine ⟨I3.ok.mod,S.kind,I.ok.glob,I.ok.blt,Nat.le_refl _,λ x y c e1 e2=>I3.ok.inj x y c (back e1) (back e2),λ x hx=>?_,λ x c z=>(by cases z),λ _=>I.ok.hd hcalm,I.ok.frames,.inl rfl,
   λ b hb=>⟨Nat.ne_of_lt (fpl b hb),λ x c e=>(f2 b hb).2.2.2.2.1 x c (back e)⟩,I3.bs,Nat.le_trans I3.ok.bsz I3.sz,λ b o e hb=>?_,fps,I3.stack,I3.gh⟩
  ·have hx:(relabel scope X.env).names.lookup x=some .cell∨(relabel scope X.env).names.lookup x=some .free:=hx
   have hx2:scope.names.lookup x=some .cell∨scope.names.lookup x=some .free:=by
    rcases hx with z | z
    ·exact cw z
    ·exact (cw z).elim .inr .inr
   rcases hx2 with z | z
   ·exact absurd rfl (hcell _ (PySem.mem_of_lookup z))
   ·exact hasc z
  ·rcases (f2 b hb).2.2.2.1 with z | z
   ·exact I3.ok.mQ b o e z
   ·exact absurd (Nat.lt_of_lt_of_le (Heap.lt_size e) (Nat.le_trans I3.ok.bsz z)) (Nat.lt_irrefl _)
 have IY:Inv (aX X scope cl h3.objs.size N { s2 with heap:=h3,toks:=s2.toks } H3 fp) [] (tau N.length fs σ) H3 { s2 with heap:=h4,toks:=s2.toks }:=by
  refine ⟨hYok,rfl,I3.bare,Un.kept k4,⟨_,hns,λ i x v e1 e2 e3=>?_⟩,λ x c e=>?_,I3.hok.fresh (Nat.le_refl _),λ x c e=>I3.cH x c (back e),λ q hq=>(by cases hq),I3.hok.kept k4,mq _ _ _⟩
  ·obtain ⟨j,hj,hv⟩:=mn e2
   obtain ⟨x',q1,q2,q3,q4⟩:=S.fs.mem hj
   have e1:N[i]?=some x:=e1
   rw [e1] at q1
   cases q1
   obtain ⟨m,_,hl⟩:=I3.loc
   obtain ⟨u,ru,lk⟩:=hl j x v q2 hv (by rcases q4 with z | z;exact .inr (.inl z);exact .inr (.inr z))
   refine ⟨u,ru,.inr ⟨gG q3,?_⟩⟩
   rcases lk with ⟨z,_⟩ | ⟨_,c,e,hcc⟩
   ·rcases q4 with y | y <;> (rw [y] at z;cases z)
   ·obtain ⟨c',e'⟩:=hasc q3
    have z:=back e'
    rw [e] at z
    cases z
    obtain ⟨o,ho,hd⟩:=hcc
    exact ⟨c,e',o,k4 _ _ ho,hd⟩
  ·obtain ⟨v,o,ho,hd⟩:=I3.cell x c (back e)
   exact ⟨v,o,k4 _ _ ho,hd⟩
 have hg:=hg cl h3.objs.size { s2 with heap:=h3,toks:=s2.toks } H3 fp
 have hc:=hc cl h3.objs.size { s2 with heap:=h3,toks:=s2.toks } H3 fp
 have he:=he cl h3.objs.size { s2 with heap:=h3,toks:=s2.toks } H3 fp
 generalize hYd:aX X scope cl h3.objs.size N { s2 with heap:=h3,toks:=s2.toks } H3 fp=Y at hg hc he IY fst
 have eP:Y.prog=X.prog:=by rw [<- hYd];rfl
 have ew:Y.w=X.w:=by rw [<- hYd];rfl
 have eK:Y.K=X.K:=by rw [<- hYd];rfl
 have ec:Y.calm=true:=by rw [<- hYd];rfl
 have eA:Y.A=X.A:=by rw [<- hYd];rfl
 have ex:Y.xe=λ _ _=>False:=by rw [<- hYd];rfl
 have ee:Y.env=compEnvC scope cl h3.objs.size X.env:=by rw [<- hYd];rfl
 have outX:∀ {H':Hp} {τ':St} {s':Shared},Inv Y [] τ' H' s'->Inv X pins σ H' s':=λ {H' τ' s'} J=>by
  have J':=J
  rw [<- hYd] at J'
  refine I3.rG J'.os J'.base J'.hok J'.bare λ b hb=>?_
  obtain ⟨_,z1,z2,z3,z4,z5⟩:=f2 b hb
  exact ⟨z3,z1,z4,z5⟩
 have loop:codeAny (model X.prog X.w) X.A (.compLoop (.ListComp elt [⟨tg,iter,ifs,0⟩] scope pos) 0 (.ref it) (.ref s2.heap.objs.size) (compEnvC scope cl h3.objs.size X.env))
   (compPost (model X.prog X.w) X.A X.xe use R' (.ref s2.heap.objs.size) h3.objs.size) { s2 with heap:=h4,toks:=s2.toks }:=by
  refine codeAny_loop rfl (λ m s'=>∃ i ys H2,m=n - i/\i<=n/\ys.length<=i/\W i ys H2/\H2 s2.heap.objs.size=some (.lst ys)/\(∀ b∈fp,H2 b=none)/\Inv Y [] (tau N.length fs σ) H2 s'/\tn i s'.heap) ?_ n
   ⟨0,[],H3,rfl,Nat.zero_le _,Nat.le_refl _,w0,hD3,fr3,IY,T.keep _ _ _ st3 λ b _ o e=>k4 b o e⟩
  rintro m s5 ⟨i,ys,H2,rfl,hi,hy,w5,hD5,fr5,I5,st5⟩
  show wpAny _ X.A ((compTurn (.ListComp elt [⟨tg,iter,ifs,0⟩] scope pos) 0 (.ref it) (.ref s2.heap.objs.size) (compEnvC scope cl h3.objs.size X.env)).onRaise (λ x=>do noteFrame x (compEnvC scope cl h3.objs.size X.env);theTreesLotGoes x)) _ _ s5
  rw [compTurn_list];refine wpAny_noted (wpAny_bind (wpAny_standAt (wpAny_bind ?_)))
  rcases turn i ys H2 hi w5 hD5 with ⟨stop,q⟩ | ⟨hlt,go,step⟩
  ·have h6:=T.done Y eP ew eK ec i [] s5 _ H2 (λ _ _=>False) I5 (fst fr5) st5 stop
   rw [eA] at h6
   refine wpAny_mono h6 (λ r s6 z=>?_) λ _ _ f=>f.elim
   obtain ⟨hr,I6⟩:=z
   subst hr
   refine wpAny_pure (hfin _ _ H2 s6 (outX I6) q ?_ ?_)
   ·obtain ⟨m,hm,_⟩:=I6.loc
    rw [ee] at hm
    exact ⟨m,hm⟩
   ·have z:=I6.free
    rw [ee] at z
    exact I3.oH (Nat.le_refl _) z
  ·have h6:=T.item Y eP ew eK ec i [] s5 _ H2 (λ _ _=>False) I5 (fst fr5) st5 go
   rw [eA] at h6
   refine wpAny_mono h6 (λ r s6 z=>?_) λ _ _ f=>f.elim
   obtain ⟨v,hr,h7⟩:=z
   subst hr
   refine wpAny_bind (wpAny_mono h7 (λ _ s7 z=>?_) λ _ _ f=>f.elim)
   obtain ⟨x,H7,I7,rx,y7,st7,fr7⟩:=z
   have I7':=I7.pinned (fst fr7) (T.obj _ _ st7)
   have h8:=hg _ s7 _ H7 x v _ I7' rx (step x H7 y7)
   rw [eP,ew,eA,ee,ex] at h8
   refine wpAny_bind (wpAny_mono h8 (λ _ s8 z=>?_) λ _ _ f=>f.elim)
   obtain ⟨τ8,H8,I8,w8,q8⟩:=z
   have h9:=hc _ s8 τ8 H8 _ I8 q8
   rw [eP,ew,eA,ee,ex] at h9
   refine wpAny_bind (wpAny_mono h9 (λ ok s9 z=>?_) λ _ _ f=>f.elim)
   obtain ⟨H9,I9,q9⟩:=z
   have cK:∀ {H':Hp} {s':Shared},Inv Y ([]++iF fp s7.heap) τ8 H' s'->tn (i+1) s'.heap/\(∀ b∈fp,H' b=none)/\Inv Y [] (tau N.length fs σ) H' s':=λ {H' s'} J=>by
    refine ⟨T.keep _ _ _ st7 λ b hb o e=>(J.pin (b,o) (List.mem_append_right _ (List.mem_append_right _ (bE hb e)))).1,λ b hb=>?_,J.dY.weak (I5.len.trans J.len.symm) w8⟩
    obtain ⟨o,e,_⟩:=T.obj _ _ st7 b hb
    exact (J.pin (b,o) (List.mem_append_right _ (List.mem_append_right _ (bE hb e)))).2.1
   cases ok with
   | false=>
    obtain ⟨hD9,w9⟩:=(if_neg Bool.false_ne_true ▸ q9:_)
    obtain ⟨z1,z2,z3⟩:=cK I9
    exact wpAny_pure ⟨rfl,n - (i+1),by omega,i+1,ys,H9,rfl,hlt,by omega,w9,hD9,z2,z3,z1⟩
   | true=>
    have q9:=(if_pos rfl ▸ q9:_)
    have h10:=he _ s9 τ8 H9 _ I9 q9
    rw [eP,ew,eA,ee,ex] at h10
    refine wpAny_bind (wpAny_bind (wpAny_mono h10 (λ y s10 z=>?_) λ _ _ f=>f.elim))
    obtain ⟨y',H10,I10,ry,hD10,w10⟩:=z
    have h11:=br (X:=Y) _ s10 τ8 H10 (.ref s2.heap.objs.size) [y'] _ [y] (λ _ H'=>H'=upd H10 s2.heap.objs.size (.lst (ys++[y']))) I10 rfl (.cons ry .nil) ⟨_,ys,y',rfl,rfl,hD10,by omega,rfl⟩
    rw [eP,ew,eA,ex] at h11
    refine wpAny_bind (wpAny_mono h11 (λ _ s11 z=>?_) λ _ _ f=>f.elim)
    obtain ⟨_,H11,I11,_,e11⟩:=z
    subst e11
    obtain ⟨z1,z2,z3⟩:=cK I11
    exact wpAny_pure (wpAny_pure ⟨rfl,n - (i+1),by omega,i+1,ys++[y'],_,rfl,hlt,by rw [List.length_append,List.length_singleton];omega,w10,ae,z2,z3,z1⟩)
 exact codeAny_compStart_list loop (T.self _ 0 _ _ _ (T.keep _ _ _ st3 λ b _ o e=>k4 b o e) loop)
end
section
variable {X:Cx} {scope:Scope} {N:List Str} {fs:List (Nat×Nat)} {tg elt iter:Expr} {ifs:List Expr} {pos cpos px:Pos} {wi:TI} {g:TG} {tc:TT} {te:TE}
theorem Inv.off {pins:List (Addr×Obj)} {σ:St} {H:Hp} {s:Shared} {C:Addr} {h':Heap} (I:Inv X pins σ H s) (f:iA X pins H C) (hs:Heap.SameBut C s.heap h'):Inv X pins σ H { s with heap:=h' }:=by
 obtain ⟨f0,f1,f2,f3,f4,f5⟩:=f
 exact I.turned (t':=s.toks) (λ b o hb e=>(hs.2 b hb).trans e) f0 f1 f3 f4 f5
theorem nP (S:jv X scope N fs) (hcalm:X.calm=true) (hi:PI X tg iter wi) (hg:∀ cl C s₀ H fp,PG (aX X scope cl C N s₀ H fp) tg g) (hc:∀ cl C s₀ H fp,PTs (aX X scope cl C N s₀ H fp) ifs tc)
  (he:∀ cl C s₀ H fp,PE (aX X scope cl C N s₀ H fp) elt te) (hs:∀ x,foldedSetIterable iter X.env x=pure x:=by intro _;rfl):PE X (.ListComp elt [⟨tg,iter,ifs,0⟩] scope pos) (tLC N.length fs wi g tc te):=by
 intro pins s σ H Q I h
 rw [eval_ListComp]
 refine pf (use:=none) S hcalm hi hg hc he hs I h λ D C H2 s' I' q ⟨m,hm⟩ f=>⟨m,hm,λ h' hs'=>?_⟩
 exact ⟨.ref D,H2,I'.off f hs',rfl,q⟩
def sLC (i:Nat) (t:TE):TS:=λ D σ H=>t σ H λ x H1=>D.nx (σ.set i (some x)) H1
theorem kC {i:Nat} {x:Str} (hN:X.N.Nodup) (hi':X.N[i]?=some x) (hx:Loc X.env.scope x) (S:jv X scope N fs) (hcalm:X.calm=true) (hi:PI X tg iter wi) (hg:∀ cl C s₀ H fp,PG (aX X scope cl C N s₀ H fp) tg g)
  (hc:∀ cl C s₀ H fp,PTs (aX X scope cl C N s₀ H fp) ifs tc) (he:∀ cl C s₀ H fp,PE (aX X scope cl C N s₀ H fp) elt te) (hs:∀ x,foldedSetIterable iter X.env x=pure x:=by intro _;rfl)
  (hsw:swapsWith (.ListComp elt [⟨tg,iter,ifs,0⟩] scope pos) (some (.Name x px)) cpos.line X.env=pure true:=by rfl)
  (hf:X.fn x=true∨X.env.scope.names.lookup x=some .local:=by first | exact .inl rfl | exact .inr rfl | assumption):
  PS X (.Assign [.Name x px] (.ListComp elt [⟨tg,iter,ifs,0⟩] scope pos) cpos) (sLC i (tLC N.length fs wi g tc te)):=by
 intro pins s σ H D I h
 rw [exec_Assign_Name_used _ _ _ _ hsw]
 refine wpAny_bind (wpAny_standAt (wpAny_bind ?_))
 show wpAny _ X.A (do let _ <- comprehension (.ListComp elt [⟨tg,iter,ifs,0⟩] scope pos) scope X.env _ (newList []) false (eval iter X.env) (some (assign (.Name x px) X.env))) _ _ s
 refine wpAny_bind (thn (pf (use:=some (assign (.Name x px) X.env)) (R':=λ _ s'=>SP X pins D .next s') S hcalm hi hg hc he hs I h λ D' C H2 s' I' q ⟨m,hm⟩ f=>?_) λ _ s' z=>wpAny_pure (wpAny_pure z))
 show wpAny _ X.A (assign (.Name x px) X.env (.ref D')) _ _ s'
 refine wpAny_assign_Name (o9 I' hN hi' hx (show RelV (.ref D') (.ref D') from rfl) (λ s2 I2 ⟨a,sb,ha⟩=>⟨m,?_,λ h' hs'=>⟨_,H2,I2.off f hs',q⟩⟩) hf)
 refine hm.sameBut sb ?_
 obtain ⟨_,f1,_,_,f4,_⟩:=f
 rcases ha with z | z
 ·rw [z];exact f1
 ·exact Ne.symm (f4 _ _ z)
end
section
variable {K:PySem.W.Frag} {nN:Nat} {fs:List (Nat×Nat)} {g:TG} {tc:TT} {te:TE} {σ:St} {H:Hp} {Q:VK}
theorem zd {a D:Addr} {xs:List V} {o:HO} (h:SqL K H a xs) (hD:H D=none):SqL K (upd H D o) a xs:=by
 have ne:∀ {u:HO},H a=some u->a≠D:=λ e=>ao e hD
 rcases h with (h | ⟨o',h⟩) | h
 ·exact .inl (.inl (by rw [aq (ne h)];exact h))
 ·exact .inl (.inr ⟨o',by rw [aq (ne h)];exact h⟩)
 ·exact .inr h
end
theorem b5.there {P:Program} {w:World} {H:Hp} {h:Heap} {a:Addr} {o:HO} (x:b5 P w H h a o):∃ ob,h.get? a=some ob:=by
 cases o with
 | lst xs=>obtain ⟨_,_,_,_,e⟩:=x;exact ⟨_,e⟩
 | tup xs=>obtain ⟨_,_,_,o,e,_⟩:=x;exact ⟨_,e⟩
 | dK kvs=>obtain ⟨_,_,_,_,o,_,_,e,_⟩:=x;exact ⟨_,e⟩
 | dT kvs=>obtain ⟨_,_,_,_,o,_,_,e,_⟩:=x;exact ⟨_,e⟩
 | set S n=>obtain ⟨o,_,_,_,e,_⟩:=x;exact ⟨_,e⟩
 | ins C dx fs=>obtain ⟨_,_,_,e,_⟩:=x;exact ⟨_,e⟩
 | own y=>obtain ⟨_,e⟩:=x;exact ⟨_,e⟩
 | xd fs=>obtain ⟨_,⟨_,_,_,e,_⟩,_⟩:=x;exact ⟨_,e⟩
 | rng lo hi=>obtain ⟨_,_,_,e⟩:=x;exact ⟨_,e⟩
 | frz ob u=>obtain ⟨e,_⟩:=x;exact ⟨_,e⟩
 | tbl ps=>exact ⟨_,x⟩
 | met f y=>exact ⟨_,x⟩
 | ext φ=>obtain ⟨_,⟨o,e⟩,_⟩:=x;exact ⟨o,e⟩
structure Cov (B:Heap) (l:List Env) (H':Hp) (h:Heap):Prop where
 old:∀ b o,h.get? b=some o->b ∉ frs l->∃ o',B.get? b=some o'
 trk:∀ b u,H' b=some u->∃ o',B.get? b=some o'
def CXE (P:Program) (w:World):CXT:=λ outer H s E e s'=>∃ (a C t:Addr) (B:Heap) (H':Hp),e=.ref a/\Heap.FlyingW B outer a (.ref C) (.ref t) s'.heap/\Cov B outer H' s.heap /\
 Un (frs outer) [] H H' s.heap s'.heap/\HOk P w H' s'.heap/\H' a=none/\s.heap.get? a=none/\AllBare s'.gens/\s'.os=s.os/\E (.ref C) none H'
theorem iT {P:Program} {w:World} {l:List Env} {B h h1 h2 base:Heap} {H H':Hp} (u:Un (frs l) [] H H' h h1) (hok:HOk P w H' h1) (c:Cov B l H' h) (s1:B.StaysIn h1) (s2:B.StaysIn h2) (f:h1.FunFrames base l) (sm:h1.UpToSlots h2):
  Un (frs l) [] H H' h h2/\HOk P w H' h2:=by
 have same:∀ b o,h1.get? b=some o->(∃ o',B.get? b=some o')->h2.get? b=some o:=λ b o e ⟨o',e'⟩=>by
  have z:=s1 b o' e'
  rw [e] at z
  cases z
  exact s2 b o e'
 refine ⟨⟨λ b o e n hb hx=>same b o (u.keep b o e n hb hx) (c.old b o e hb),λ b o e n hb hx=>?_,u.free,λ b o e hx=>?_,u.jB,u.je,u.jH⟩,λ b o e=>?_⟩
 ·obtain ⟨sl,e1⟩:=u.slot b o e n hb hx
  obtain ⟨_,o1,e2,nf⟩:=f.mem hb
  rw [e1] at e2
  cases e2
  obtain ⟨sl',e3⟩:=sm b _ e1 nf
  exact ⟨sl',e3⟩
 ·obtain ⟨o1,e1⟩:=u.there b o e hx
  by_cases hb:b∈frs l
  ·obtain ⟨_,o2,e2,nf⟩:=f.mem hb
   obtain ⟨sl',e3⟩:=sm b _ e2 nf
   exact ⟨_,e3⟩
  ·exact ⟨o1,same b o1 e1 (c.old b o e hb)⟩
 ·refine (hok b o e).cK (λ a v ha q=>same a v q ?_) (λ _ q=>q) λ _ _ q=>q
  rcases ha with z | z
  ·rw [z];exact c.trk b o e
  ·exact c.trk a _ z
section
variable {P:Program} {w:World} {K:PySem.W.Frag} {mg:Str->Option Value} {base:Heap} {N:List Str} {qual:Str} {scope:Scope} {f:Addr} {cd:Value} {A:Around} {outer:List Env} {s:Shared} {H:Hp} {E E':XK}
theorem vy (h:∀ C d H',E' C d H'->E C d H'):Passes (CXE P w) (ix (CXE P w) P w K mg base N qual scope f cd A outer s H E) E':=by
 intro pins σ H1 s1 e s' I hx
 obtain ⟨a,C,t,B,H',rfl,fl,cov,un,hok,na,nb,bare,os,q⟩:=hx
 have hst:(ix (CXE P w) P w K mg base N qual scope f cd A outer s H E).stack=envOfC qual scope s.heap.objs.size f cd::outer:=rfl
 have ib:Un (frs outer) [] H H1 s.heap s1.heap:=I.base
 have oldL:∀ b o,s.heap.get? b=some o->b ∉ frs outer->b ∉ frs (envOfC qual scope s.heap.objs.size f cd::outer):=λ b o e hb z=>by
  rcases List.mem_cons.mp (I.hW b z) with y | y
  ·have:b=s.heap.objs.size:=y
   exact absurd (Heap.lt_size e) (by rw [this];exact Nat.lt_irrefl _)
  ·exact hb y
 show wpAny _ _ (leaving (envOfC qual scope s.heap.objs.size f cd) (.ref a)) _ _ s'
 refine wpAny_leaves_onW I.ok.frames rfl fl λ h2 fl2 sm=>?_
 obtain ⟨un2,hok2⟩:=iT un hok cov fl.1 fl2.1 fl.2.2.1 sm
 refine ⟨a,C,t,B,H',rfl,fl2,⟨λ b o e hb=>?_,cov.trk⟩,?_,hok2,na,?_,bare,os.trans I.os,h _ _ _ q⟩
 ·obtain ⟨o1,e1⟩:=ib.there b o e (by simp)
  exact cov.old b o1 e1 (oldL b o e hb)
 ·refine ⟨λ b o e n hb hx=>un2.keep b o (ib.keep b o e n hb hx) (ib.free b o e n hx) (oldL b o e hb) hx,λ b o e n hb hx=>?_,λ b o e n hx=>?_,λ b o e hx=>?_,λ b xs e=>un2.jB b xs (ib.jB b xs e),λ b o u e=>un2.je b o u (ib.je b o u e),λ b ps e=>?_⟩
  ·obtain ⟨sl,e1⟩:=ib.slot b o e n hb hx
   have hb':b∈frs (envOfC qual scope s.heap.objs.size f cd::outer):=by
    unfold frs
    rw [List.filterMap_cons]
    exact List.mem_cons_of_mem _ hb
   obtain ⟨sl',e2⟩:=un2.slot b _ e1 (ib.free b o e n hx) hb' hx
   exact ⟨sl',e2⟩
  ·obtain ⟨o1,e1⟩:=ib.there b o e hx
   exact un2.free b o1 e1 (ib.free b o e n hx) hx
  ·obtain ⟨o1,e1⟩:=ib.there b o e hx
   exact un2.there b o1 e1 hx
  ·obtain ⟨m1,e1⟩:=ib.jH b ps e
   obtain ⟨m2,e2⟩:=un2.jH b _ e1
   exact ⟨m1++m2,by rw [e2,Array.append_assoc]⟩
 ·cases z:s.heap.get? a with
  | none=>rfl
  | some o=>
   obtain ⟨o1,e1⟩:=ib.there a o z (by simp)
   rw [nb] at e1
   cases e1
end
theorem nQ {K:PySem.W.Frag} {h:Heap} {C:Addr} {bmB:List Value} {newId:String} (X:K.In h) (q:PySem.W.excIn K C bmB newId=true):
  ∃ bm N nm q bs hdct sn sub ab col dd k0 k1 k2 k3 k5 mN,h.get? C=some (excClassObj nm q C N bs bm hdct sn sub ab col dd k0 k1 k2 k3 k5 newId)/\h.Ns N mN/\mN "__init__"=none/\OwnTail h bmB bm:=by
 unfold PySem.W.excIn at q
 split at q
 ·rename_i dd cd sl ho
  split at q
  ·rename_i C' bm k0 k1 k2 k3 n k5 hm hs
   simp only [Bool.and_eq_true,beq_iff_eq,Bool.not_eq_true'] at q
   obtain ⟨⟨⟨⟨⟨rfl,rfl⟩,hdel⟩,ht⟩,hok⟩,hni⟩:=q
   obtain ⟨nm,bs,mro,ns,qn,hd,sn,sub,ab,col,del⟩:=cd
   dsimp only at hm hdel hok hni
   subst hm hdel
   obtain ⟨l⟩:=sl
   simp only at hs
   subst hs
   exact ⟨bm,ns,nm,qn,bs,hd,sn,sub,ab,col,dd,k0,k1,k2,k3,k5,_,X _ _ ho,.of_isNs (PySem.W.isNs_of_in X hok),PySem.W.nsMap_none_of_in X hok hni,PySem.W.tail_of_in X ht⟩
  ·cases q
 ·cases q
def tO (C:Addr) (E:XK) (ta:TA):TS:=λ _ σ H=>ta σ H λ _ H1=>E (.ref C) none H1
section
variable {P:Program} {w:World} {K:PySem.W.Frag} {mg:Str->Option Value} {base:Heap} {N:List Str} {qual:Str} {scope:Scope} {f:Addr} {cd:Value} {A:Around} {outer:List Env} {s:Shared} {H:Hp} {E:XK}
theorem bp {x:Str} {C:Addr} {np cpos pos:Pos} {e:Expr} {ta:TA} {B newId initId:String} {bmB:List Value} (FB:ExcBaseFacts B newId initId bmB) (hC:PySem.W.excIn K C bmB newId=true) (hm:mg x=some (.ref C)) (hh:A.handled=none)
  (hg:Gl (ix (CXE P w) P w K mg base N qual scope f cd A outer s H E) x) (ha:PA (ix (CXE P w) P w K mg base N qual scope f cd A outer s H E) [e] ta) (hd:(x==("__debug__":Str))=false:=by decide)
  (he:starEach [e] (envOfC qual scope s.heap.objs.size f cd)=(false,eval e (envOfC qual scope s.heap.objs.size f cd))::starEach [] (envOfC qual scope s.heap.objs.size f cd):=by rfl)
  (hl:∀ σ H Q,ta σ H Q->ta σ H λ xs H1=>xs.length<=sizeLine/\Q xs H1):
  PS (ix (CXE P w) P w K mg base N qual scope f cd A outer s H E) (.Raise (some (.Call (.Name x np) [e] [] cpos)) none pos) (tO C E ta):=by
 intro pins s1 σ H1 D I h
 obtain ⟨bm,Nn,nm,q,bs,hdct,sn,sub,ab,col,dd,k0,k1,k2,k3,k5,mN,hCo,hN,hni,T⟩:=nQ I.ok.mod.kin hC
 have kb:∀ {s2:Shared} {H2:Hp},Inv (ix (CXE P w) P w K mg base N qual scope f cd A outer s H E) pins σ H2 s2->∀ b o,base.get? b=some o->s2.heap.get? b=some o:=λ J=>J.bk
 refine wpAny_Raise_call_subT (C:=C) (nm:=nm) (q:=q) (N:=Nn) (bs:=bs) (bm:=bm) (hdct:=hdct) (sn:=sn) (sub:=sub) (ab:=ab) (col:=col) (dd:=dd) (k0:=k0) (k1:=k1) (k2:=k2) (k3:=k3) (k5:=k5) FB (mN:=mN) (T.hasType FB.hasBase)
  (show (A.deeper _).handled=none from hh) (by
   show (backTo cpos (starEach [e] (envOfC qual scope s.heap.objs.size f cd))).any (·.1)=false
   rw [he];rfl) hni (gI I hg hm ⟨rfl,?_⟩ hd)
 have ha':=thn (ha cpos pins s1 σ H1 _ I (hl _ _ _ h)) λ us s2 (z:AP _ _ _ _ us s2)=>z
 show wpAny _ _ (evalArgs (.ref C) true (backTo cpos (starEach [e] (envOfC qual scope s.heap.objs.size f cd))) []) _ _ s1
 have ha'':wpAny (model P w) (A.deeper (envOfC qual scope s.heap.objs.size f cd)) (spliced (backTo cpos (starEach [e] (envOfC qual scope s.heap.objs.size f cd)))) _ _ s1:=ha'
 rw [he] at ha'' ⊢
 refine Calls.evalArgs_plain (thn ha'' λ us s2 z=>?_)
 obtain ⟨vs,H2,I2,rv,hz,hE⟩:=z
 refine ⟨rfl,by rw [<- rv.length];exact hz,kb I2 _ _ hCo,hN.keeps (kb I2),T.keeps (kb I2),λ h' a hx=>?_⟩
 show wpAny _ _ (leaving (envOfC qual scope s.heap.objs.size f cd) (.ref a)) _ _ _
 have hin:∀ env∈(envOfC qual scope s.heap.objs.size f cd::outer),∀ b,env.frame=some b->b∈frs (envOfC qual scope s.heap.objs.size f cd::outer):=λ env he b hb=>List.mem_filterMap.mpr ⟨env,he,hb⟩
 have FF:s2.heap.FunFrames (PySem.W.hideAll s2.heap (frs (envOfC qual scope s.heap.objs.size f cd::outer))) (envOfC qual scope s.heap.objs.size f cd::outer):=PySem.W.funFrames_hide I2.stack hin
 refine wpAny_leaves_madeW I.ok.frames rfl (λ b o q=>PySem.W.of_hideAll _ q) FF hx λ h2 t fl tup nt sm=>?_
 have ib:Un (frs outer) [] H H2 s.heap s2.heap:=I2.base
 have oldL:∀ b o,s.heap.get? b=some o->b ∉ frs outer->b ∉ frs (envOfC qual scope s.heap.objs.size f cd::outer):=λ b o e hb z=>by
  rcases List.mem_cons.mp (I2.hW b z) with y | y
  ·have:b=s.heap.objs.size:=y
   exact absurd (Heap.lt_size e) (by rw [this];exact Nat.lt_irrefl _)
  ·exact hb y
 have cov:Cov (PySem.W.hideAll s2.heap (frs (envOfC qual scope s.heap.objs.size f cd::outer))) outer H2 s.heap:=by
  refine ⟨λ b o e hb=>?_,λ b u e=>?_⟩
  ·obtain ⟨o1,e1⟩:=ib.there b o e (by simp)
   exact ⟨o1,PySem.W.hideAll_get _ e1 (oldL b o e hb)⟩
  ·obtain ⟨o1,e1⟩:=(I2.hok b u e).there
   refine ⟨o1,PySem.W.hideAll_get _ e1 λ z=>?_⟩
   rw [I2.gh b z] at e
   cases e
 have f2:h'.FunFrames (PySem.W.hideAll s2.heap (frs (envOfC qual scope s.heap.objs.size f cd::outer))) outer:=by
  have z:h'.FunFrames (PySem.W.hideAll s2.heap (frs (envOfC qual scope s.heap.objs.size f cd::outer))) (envOfC qual scope s.heap.objs.size f cd::outer):=FF.of_keeps λ b o hb _=>⟨o,hx.keeps b o hb,rfl⟩
  obtain ⟨_,_,z⟩:=z
  exact z
 have u1:Un (frs outer) [] H H2 s.heap h':=⟨λ b o e n hb hx'=>hx.keeps _ _ (ib.keep b o e n hb hx'),λ b o e n hb hx'=>let ⟨sl,z⟩:=ib.slot b o e n hb hx';⟨sl,hx.keeps _ _ z⟩,ib.free,λ b o e hx'=>let ⟨o1,z⟩:=ib.there b o e hx';⟨o1,hx.keeps _ _ z⟩,ib.jB,ib.je,ib.jH⟩
 have na2:∀ {b:Addr},s2.heap.get? b=none->H2 b=none:=λ {b} e=>by
  cases z:H2 b with
  | none=>rfl
  | some u=>
   obtain ⟨o1,e1⟩:=(I2.hok b u z).there
   rw [e] at e1
   cases e1
 obtain ⟨un2,hok2⟩:=iT u1 (I2.hok.kept hx.keeps) cov (λ b o z=>hx.keeps _ _ (PySem.W.of_hideAll _ z)) fl.1 f2 sm
 refine ⟨a,C,t,_,H2,rfl,fl,cov,un2,hok2,na2 hx.new,?_,I2.bare,I2.os,hE⟩
 cases z:s.heap.get? a with
 | none=>rfl
 | some o=>
  obtain ⟨o1,e1⟩:=ib.there a o z (by simp)
  rw [hx.new] at e1
  cases e1
end
def excφ (a C:Addr) (h:Heap):Prop:=∃ o vs,h.get? a=some o/\o.cls=.ref C/\o.data=.fields vs
abbrev Ex (a C:Addr):HO:=.ext (excφ a C)
theorem excφ_stay {a C:Addr} (h1 h2:Heap) (x:excφ a C h1) (k:∀ o,h1.get? a=some o->h2.get? a=some o):excφ a C h2:=let ⟨o,vs,e,r⟩:=x;⟨o,vs,k o e,r⟩
section
variable {X:Cx} {pins:List (Addr×Obj)} {σ:St} {H:Hp} {s:Shared}
theorem Inv.wN {a:Addr} {o:HO} (I:Inv X pins σ H s) (hn:H a=none) (h0:X.s₀.heap.get? a=none) (hL:a≠X.env.locals) (hc:∀ x c,X.env.cells.lookup x=some c->c≠a) (hp:∀ p∈X.pn++pins,p.1≠a)
  (new:b5 X.prog X.w (upd H a o) s.heap a o):Inv X pins σ (upd H a o) s:=by
 have ne:∀ b u,H b=some u->b≠a:=λ b u e z=>by rw [z,hn] at e;cases e
 refine ⟨I.ok,I.os,I.bare,⟨I.base.keep,I.base.slot,λ b ob e n hx=>?_,I.base.there,λ b xs e=>?_,λ b ob u e=>?_,λ b ps e=>?_⟩,I.loc,I.cell,?_,λ x c e=>?_,λ p q=>?_,λ b u e=>?_,I.len⟩
 ·rw [aq (λ z=>by rw [z,h0] at e;cases e)]
  exact I.base.free b ob e n hx
 ·have z:=I.base.jB b xs e
  rw [aq (ne _ _ z)]
  exact z
 ·have z:=I.base.je b ob u e
  rw [aq (ne _ _ z)]
  exact z
 ·obtain ⟨m,z⟩:=I.base.jH b ps e
  exact ⟨m,by rw [aq (ne _ _ z)];exact z⟩
 ·rw [aq (Ne.symm hL)]
  exact I.free
 ·rw [aq (hc x c e)]
  exact I.cH x c e
 ·obtain ⟨z1,z2,z3⟩:=I.pin p q
  exact ⟨z1,by rw [aq (hp p q)];exact z2,z3⟩
 ·by_cases z:b=a
  ·subst z
   rw [ae] at e
   cases e
   exact new
  ·rw [aq z] at e
   exact (I.hok b u e).cK (λ _ _ _ q=>q) (λ c q=>by rw [aq (ne _ _ q)];exact q) λ c xs q=>by rw [aq (ne _ _ q)];exact q
def Cx.marked (X:Cx) (e:Value):Cx:={ X with A:=X.A.mark (some e),calm:=false,xe:=λ _ _=>False }
theorem Inv.mark (I:Inv X pins σ H s) (e:Value):Inv (X.marked e) pins σ H s:=
 ⟨⟨I.ok.mod,I.ok.kind,I.ok.glob,I.ok.blt,I.ok.above,I.ok.inj,I.ok.has,I.ok.cab,λ z=>(by cases z),I.ok.frames,I.ok.stk,I.ok.exf,I.ok.bs,I.ok.bsz,I.ok.mQ,I.ok.uf,I.ok.jx,I.ok.frf⟩,I.os,I.bare,I.base,I.loc,I.cell,I.free,I.cH,I.pin,I.hok,I.len⟩
theorem Inv.unmark {e:Value} (I:Inv (X.marked e) pins σ H s) (ok:X.Ok):Inv X pins σ H s:=⟨ok,I.os,I.bare,I.base,I.loc,I.cell,I.free,I.cH,I.pin,I.hok,I.len⟩
end
def j9 (K:PySem.W.Frag) (C S:Addr):Bool:=match K.lookup C with
 | some ⟨_,_,.cls cd,_⟩=>cd.mro.contains (.ref S)
 | _=>false
section
variable {M:Model} {A:Around} {E:Value->Shared->Prop}
end
section
variable {X:Cx} {k:Nat} {f C:Addr} {fd:FuncData} {ps:List Str} {sp:Sp} {ds:List Value} {dvs:List V} {E:XK} {x:Str} {p pos:Pos} {e:Expr} {es:List Expr} {t:TA}
def Flew (X:Cx) (pins:List (Addr×Obj)) (σ:St) (E:XK) (e:Value) (s':Shared):Prop:=∃ H s,Inv X pins σ H s/\CXE X.prog X.w X.stack H s E e s'
end
section
variable {X:Cx}
end
end L2
namespace L2
open PySem PySem.Spec PyProof.Rows PySem.W
theorem ji {prog:Program} {w:World} {A:Around} {h:Heap} {g:Array GenState} {d:Drawn} {t:Nat} {os:OsState} {a C Nn:Addr} {o:Obj} {bm bmB:List Value} {nm q:Str} {bs:List Value} {hdct:Bool} {sn:List Str} {sub:List Value} {ab:Bool} {col:Option Bool} {dd:Option Addr} {k0 k1 k2 k3 k5:Option Value} {newId:String}
  {R:Result->Shared->Prop} (hCo:h.get? C=some (excClassObj nm q C Nn bs bm hdct sn sub ab col dd k0 k1 k2 k3 k5 newId)) (T:OwnTail h bmB bm) (hob:bmB.contains (.type "object")=true) (hx:h.get? a=some o) (hc:o.cls=.ref C) (hq:R (.ok (.ret (.ref C))) ⟨h,g,d,t,os⟩):
  codeAny (model prog w) A (.call (.builtin "getset_descriptor.__get__") ⟨[.builtin "object.__class__",.ref a,.ref C],[]⟩) R ⟨h,g,d,t,os⟩:=by
 have hT5:(⟨h,g,d,t,os⟩:Shared).TypeIs (.builtin "object.__class__") "getset_descriptor":=F.typeOf_object_class
 have ow:".".intercalate ("object.__class__".cutAt '.').dropLast="object":=by decide +kernel
 have hcB:(Value.ref C::bm).contains (.type (".".intercalate ("object.__class__".cutAt '.').dropLast))=true:=by
  rw [ow,List.contains_cons,T.hasType hob]
  rfl
 refine codeAny_call_builtin F.slot_gs_get.plain F.entry_gs_get (F.slot_gs_get.check _ _ _ _ _ _ _ _ hT5 (F.args_gs_get _ _ _) ?_)
 repeat (any_goals (first | assumption | (with_reducible refine wpAny_loadPart_at hx ?_;rw [hc]) | (with_reducible refine wpAny_isSubtype_exc hCo ?_;rw [hcB]) | wp_step))
 refine ⟨Code.quiet_builtin _ (by decide +kernel),codeAny_builtin F.entry_object_class ?_⟩
 repeat (any_goals (first | assumption | (with_reducible refine wpAny_loadPart_at hx ?_;rw [hc]) | wp_step))
theorem zV {prog:Program} {w:World} {A:Around} {E:Value->Shared->Prop} {s:Shared} {K:Frag} {a C:Addr} {o:Obj} {vs:Array Value} {bmB:List Value} {B newId:String} {Q:Option Value->Shared->Prop} (X:K.In s.heap) (FB:ExcAttrBase B bmB) (hC:excIn K C bmB newId=true)
  (hga:findIn K (.ref C) "__getattribute__"=some (some (.builtin "BaseException.__getattribute__"))) (hgt:findIn K (.ref C) "__getattr__"=some none)
  (ha:findIn K (.ref C) "__class__"=some (some (.builtin "object.__class__")))
  (hn:specialIn K (.builtin "object.__class__") "__get__"=some (some (.builtin "getset_descriptor.__get__"))) (htk:takesIn K (.builtin "object.__class__")=some true) (hm:mroIn K C (.type "object")=some true)
  (hob:bmB.contains (.type "object")=true) (hx:s.heap.get? a=some o) (hc:o.cls=.ref C) (hd:o.data=.fields vs) (k:Q (some (.ref C)) { s with toks:=s.toks+1 }):wpAny (model prog w) A (getAttr? (.ref a) "__class__") Q E s:=by
 obtain ⟨h,g,d,t,os⟩:=s
 obtain ⟨bm,Nn,nm,q,bs,hdct,sn,sub,ab,col,dd,k0,k1,k2,k3,k5,mN,hCo,hN,hni,T⟩:=nQ X hC
 have L0:Looks (model prog w) h (typeOf (.ref a)) (.ref C):=hc ▸ (Looks.ld hx).andThen .now
 have L1:=looks_findIn (M:=model prog w) X hga
 have L2:=looks_findIn (M:=model prog w) X hgt
 have L3:=looks_findIn (M:=model prog w) X ha
 have f3:=FB.ga.bind (.ref a)
 unfold getAttr? getAttrBy? getAttrBy
 refine wpAny_bind (wpAny_mkText (wpAny_bind (wpAny_attempt (wpAny_holding (wpAny_bind (L0.at (wpAny_bind (L1.at ?_))))))))
 have hx2:(Value.builtin "BaseException.__getattribute__"==Value.builtin "object.__getattribute__")=false:=by decide +kernel
 have hx1:(onTheHeap (Value.ref C)&&Value.builtin "BaseException.__getattribute__"==Value.builtin "object.__getattribute__")=false:=by rw [hx2];rfl
 repeat (any_goals (first | assumption | with_reducible refine wpAny_bind (L2.at ?_) | wp_step))
 refine codeAny_call_builtin FB.ga.plain F.entry_bexc_ga ?_
 have hob:bmB.contains (.type "object")=true:=hob
 have hcB:(Value.ref C::bm).contains (.type "BaseException")=true:=by rw [List.contains_cons,T.hasType FB.hasBase];rfl
 have hkd:builtinKind "BaseException.__getattribute__"=some .slot:=by decide +kernel
 have hsp:splitId "BaseException.__getattribute__"=some ("BaseException","__getattribute__"):=by decide +kernel
 have hag:=F.args_bexc_ga (.ref a) (.str "__class__" t)
 simp only [checkBuiltinCall,hkd,hsp]
 refine wpAny_bind ?_
 unfold isInstance
 repeat (first | (with_reducible refine wpAny_loadPart_at hx ?_;rw [hc]) | (with_reducible refine wpAny_isSubtype_exc hCo ?_;rw [hcB]) | wp_step)
 have f5:=F.typeOf_object_class
 have f6:=F.slot_gs_get.lookup
 have f7:=F.slot_gs_set.lookup
 repeat (any_goals (first | assumption | (with_reducible refine wpAny_loadPart_at hx ?_;rw [hc]) | with_reducible refine L3.at ?_ | wp_step))
 refine ji hCo T hob hx hc (wpAny_pure ?_)
 exact handed_on rfl (wpAny_pure k)
section
variable {X:Cx}
theorem pK:OpR X (compareOp .LtE) (λ x y H Q=>∃ i j,x=.str i/\y=.str j/\Q (.bl (!decide (j.cps.toList<i.cps.toList))) H):=by
 intro pins s σ H x y v u Q I rx ry h
 obtain ⟨i,j,rfl,rfl,q⟩:=h
 obtain ⟨t,rfl⟩:=rx
 obtain ⟨t',rfl⟩:=ry
 exact PySem.P.le_str (aQ I q rfl)
def xJ (_ j:Int):Prop:=0<j/\j.natAbs.log2<9000
theorem kg:OpR X (binaryOp .FloorDiv) (rI xJ λ i j=>.int (i / j)):=opI λ i j _ _ _ _ _ hc q=>by
 refine floordiv_int (by have:=hc.1;omega) ?_ (.inl (PyProof.noPylong_of_log2 hc.2))
 rw [Int.fdiv_eq_ediv_of_nonneg _ (Int.le_of_lt hc.1)]
 exact q
def eqL (xs ys:List V):Bool:=xs.length==ys.length&&(xs.zip ys).all λ p=>eqV p.1 p.2
theorem vf {f:Nat->Bool}:∀ {xs ys:List V},xs.length=ys.length->(∀ j x y,xs[j]?=some x->ys[j]?=some y->f j=eqV x y)->(List.range xs.length).all f=(xs.zip ys).all λ p=>eqV p.1 p.2
 | [],[],_,_=>rfl
 | x::xs,y::ys,hl,h=>by
  rw [List.length_cons,List.range_succ_eq_map,List.all_cons,List.all_map,List.zip_cons_cons,List.all_cons,h 0 x y rfl rfl]
  refine congrArg (eqV x y&&·) ?_
  exact vf (f:=f∘Nat.succ) (by simpa using hl) λ j a b h1 h2=>h (j+1) a b (by simpa using h1) (by simpa using h2)
def DF (K:PySem.W.Frag) (neg:Bool):R2:=λ x y H Q=>∃ a b xs ys,x=.ref a/\y=.ref b/\((SqL K H a xs/\SqL K H b ys)∨(SqT K H a xs/\SqT K H b ys))/\xs.all dw=true/\ys.all dw=true/\Q (.bl (if neg then !eqL xs ys else eqL xs ys)) H
theorem kJ {xs ys:List V} {us vs:List Value} {A:Around} {s:Shared} (rx:Vals xs us) (ry:Vals ys vs) (fx:xs.all dw=true) (fy:ys.all dw=true) (j:Nat) (h1:j<us.toArray.size) (h2:j<vs.toArray.size):
  SeqAt.EqAt A s us.toArray[j] vs.toArray[j] (match xs[j]?,ys[j]? with | some x,some y=>eqV x y | _,_=>false):=by
 have l1:=rx.length
 have l2:=ry.length
 have k1:j<xs.length:=by simpa [l1] using h1
 have k2:j<ys.length:=by simpa [l2] using h2
 obtain ⟨u,eu,ru⟩:=rx.get (List.getElem?_eq_getElem k1)
 obtain ⟨v,ev,rv⟩:=ry.get (List.getElem?_eq_getElem k2)
 have e1:us.toArray[j]=u:=by
  have:us[j]'(by simpa using h1)=u:=by
   rw [List.getElem?_eq_getElem (by simpa using h1)] at eu
   exact Option.some.inj eu
  simpa using this
 have e2:vs.toArray[j]=v:=by
  have:vs[j]'(by simpa using h2)=v:=by
   rw [List.getElem?_eq_getElem (by simpa using h2)] at ev
   exact Option.some.inj ev
  simpa using this
 rw [e1,e2,List.getElem?_eq_getElem k1,List.getElem?_eq_getElem k2]
 exact yH ru rv (List.all_eq_true.mp fx _ (List.getElem_mem k1)) (List.all_eq_true.mp fy _ (List.getElem_mem k2))
theorem jU {xs ys:List V} (h:xs.length=ys.length):(List.range xs.length).all (λ j=>match xs[j]?,ys[j]? with | some x,some y=>eqV x y | _,_=>false)=eqL xs ys:=by
 rw [vf h λ j x y h1 h2=>by rw [h1,h2]]
 unfold eqL
 rw [h,beq_self_eq_true,Bool.true_and]
theorem qg (hu:X.A.units<cLine):OpR X (compareOp .Eq) (DF X.K false):=by
 intro pins s σ H x y v u Q I rx ry h
 obtain ⟨a,b,xs,ys,rfl,rfl,hs,fx,fy,q⟩:=h
 cases rx
 cases ry
 rcases hs with ⟨h1,h2⟩ | ⟨h1,h2⟩
 ·obtain ⟨us,r1,p1,_⟩:=I.list h1
  obtain ⟨vs,r2,p2,_⟩:=I.list h2
  have l1:=r1.length
  have l2:=r2.length
  by_cases e:xs.length=ys.length
  ·refine SeqAt.eq_listAt p1.isList p2.isList (by simp;omega) hu (λ j k1 k2=>kJ r1 r2 fx fy j k1 k2) (aQ I q ?_)
   rw [List.size_toArray,<- l1,jU e]
   rfl
  ·refine SeqAt.eq_list_lengthsAt p1.isList p2.isList (by simp;omega) hu (aQ I q ?_)
   show eqL xs ys=false
   unfold eqL
   rw [beq_eq_false_iff_ne.mpr e,Bool.false_and]
 ·obtain ⟨us,r1,p1,_⟩:=I.tuple h1
  obtain ⟨vs,r2,p2,_⟩:=I.tuple h2
  have l1:=r1.length
  have l2:=r2.length
  refine SeqAt.eq_tupleAt (show s.heap.IsTuple a us.toArray from p1) (show s.heap.IsTuple b vs.toArray from p2) hu (λ j k1 k2=>kJ r1 r2 fx fy j k1 k2) (aQ I q ?_)
  show eqL xs ys=_
  rw [List.size_toArray,List.size_toArray,<- l1,<- l2]
  by_cases e:xs.length=ys.length
  ·rw [e,Nat.min_self,beq_self_eq_true,Bool.and_true,<- e,jU e]
  ·unfold eqL
   rw [beq_eq_false_iff_ne.mpr e,Bool.false_and,Bool.and_false]
theorem tP (hu:X.A.units<cLine):OpR X (compareOp .NotEq) (DF X.K true):=by
 intro pins s σ H x y v u Q I rx ry h
 obtain ⟨a,b,xs,ys,rfl,rfl,hs,fx,fy,q⟩:=h
 cases rx
 cases ry
 rcases hs with ⟨h1,h2⟩ | ⟨h1,h2⟩
 ·obtain ⟨us,r1,p1,_⟩:=I.list h1
  obtain ⟨vs,r2,p2,_⟩:=I.list h2
  have l1:=r1.length
  have l2:=r2.length
  by_cases e:xs.length=ys.length
  ·refine SeqAt.RcNeAt.lists p1.isList p2.isList (by simp;omega) hu (λ j k1 k2=>kJ r1 r2 fx fy j k1 k2) _ _ _ _ (aQ I q ?_)
   rw [List.size_toArray,<- l1,jU e]
   rfl
  ·refine SeqAt.RcNeAt.lists_lengths p1.isList p2.isList (by simp;omega) hu _ _ _ _ (aQ I q ?_)
   show (!eqL xs ys)=true
   unfold eqL
   rw [beq_eq_false_iff_ne.mpr e,Bool.false_and]
   rfl
 ·obtain ⟨us,r1,p1,_⟩:=I.tuple h1
  obtain ⟨vs,r2,p2,_⟩:=I.tuple h2
  have l1:=r1.length
  have l2:=r2.length
  refine SeqAt.RcNeAt.tuples (show s.heap.IsTuple a us.toArray from p1) (show s.heap.IsTuple b vs.toArray from p2) hu (λ j k1 k2=>kJ r1 r2 fx fy j k1 k2) _ _ _ _ (aQ I q ?_)
  show (!eqL xs ys)=_
  refine congrArg (!·) ?_
  rw [List.size_toArray,List.size_toArray,<- l1,<- l2]
  by_cases e:xs.length=ys.length
  ·rw [e,Nat.min_self,beq_self_eq_true,Bool.and_true,<- e,jU e]
  ·unfold eqL
   rw [beq_eq_false_iff_ne.mpr e,Bool.false_and,Bool.and_false]
def xn (K:PySem.W.Frag):V->List V->Hp->VK->Prop:=λ x vs H Q=>∃ l xs y,x=.ref l/\vs=[y]/\H l=some (.lst xs)/\xs.all dw=true/\dw y=true/\Q (.int ((xs.countP λ z=>eqV z y:Nat):Int)) H
theorem oj {x:V}:∀ {xs:List V} {us:List Value},Vals xs us->xs.all dw=true->us.countP (eqU x)=xs.countP λ z=>eqV z x
 | _,_,.nil,_=>rfl
 | _,_,.cons r t,h=>by
  rw [List.all_cons,Bool.and_eq_true] at h
  rw [List.countP_cons,List.countP_cons,oj t h.2,uK r h.1]
theorem xa:MtR X "list.count" (xn X.K):=by
 intro pins s σ H x vs v us Q I rx rv h
 obtain ⟨l,xs,y,rfl,rfl,hH,fx,fy,q⟩:=h
 cases rx
 obtain ⟨u,rfl,ru⟩:=rv.one
 obtain ⟨z,its,n,r,hl,e⟩:=I.uv hH
 refine call_meets F.slot_list_count ⟨_,e,rfl⟩ F.entry_list_count (F.args_list_count_2 _ _) (SeqAt.list_countAt l its.toArray n none #[] u (eqU y)) ⟨e,λ w hw=>ku ru fy r fx w (by simpa using hw),?_⟩
 refine ⟨.int _,H,I.tok _,⟨s.toks,?_⟩,q⟩
 rw [List.toList_toArray,oj r fx]
def pI (xs:List V) (i:Int) (y:V):List V:=xs.take (min i.toNat xs.length)++y::xs.drop (min i.toNat xs.length)
def zy:V->List V->Hp->VK->Prop:=λ x vs H Q=>∃ l xs i y,x=.ref l/\vs=[.int i,y]/\H l=some (.lst xs)/\0<=i/\i<2 ^ 62/\xs.length<sizeLine/\Q .non (upd H l (.lst (pI xs i y)))
theorem pE:MtR X "list.insert" zy:=by
 intro pins s σ H x vs v us Q I rx rv h
 obtain ⟨l,xs,i,y,rfl,rfl,hH,h0,h1,hz,q⟩:=h
 cases rx
 obtain ⟨ui,u,rfl,⟨t,rfl⟩,ru⟩:=rv.two
 obtain ⟨z,its,n,r,hl,e⟩:=I.uv hH
 refine call_meets F.slot_list_insert ⟨_,e,rfl⟩ F.entry_list_insert (F.args_list_insert_3 _ _ _) (PySem.AutoListH.list_insert_list_int_val_1 l its.toArray n i t u ?_ (by rw [List.size_toArray];omega)) ⟨e,?_⟩
 ·simp only [Builtin.List.listFitsIndex]
  simp;omega
 ·refine ⟨.non,_,I.Bw (its':=its.take (min i.toNat its.length)++u::its.drop (min i.toNat its.length)) hH e ?_ ?_ ?_,rfl,q⟩
  ·rw [if_neg (by omega)]
   simp [List.take_of_length_le]
  ·rw [<- hl]
   exact (r.take _).append (.cons ru (r.drop _))
  ·unfold pI
   rw [List.length_append,List.length_cons,List.length_take,List.length_drop]
   omega
def rJoin (K:PySem.W.Frag):V->List V->Hp->VK->Prop:=λ x vs H Q=>∃ z p ys,x=.str z/\vs=[.ref p]/\SqL K H p (ys.map V.str)/\(ys.map (·.length)).sum+ys.length * z.length<=16777216/\Q (.str (Txt.join z ys)) H
theorem va:∀ {ys:List Str} {us:List Value},Vals (ys.map V.str) us->StrsAre us ys
 | [],_,.nil=>.nil
 | y::ys,_,.cons r t=>by
  obtain ⟨k,rfl⟩:=r
  exact .cons _ _ (va t)
theorem vn:MtR X "str.join" (rJoin X.K):=by
 intro pins s σ H x vs v us Q I rx rv h
 obtain ⟨z,p,ys,rfl,rfl,hq,hz,q⟩:=h
 obtain ⟨t,rfl⟩:=rx
 obtain ⟨u,rfl,ru⟩:=rv.one
 cases ru
 obtain ⟨its,r,pl,_⟩:=I.list hq
 exact PyProof.Rows.join_list pl.isList (by simpa using va r) hz λ t' k=>⟨.str _,H,I.tok _,⟨_,rfl⟩,q⟩
end
section
variable {X:Cx} {tg:Expr}
def uh (lo c:Int) (n:Nat):It:=⟨λ i _=>i<n,λ i H x H'=>H'=H/\x=.int (lo+i * c),λ i _=>n<=i⟩
theorem tU {P:Program} {w:World} {K:PySem.W.Frag} {tg:Expr} (it:Addr) (lo c:Int) (n:Nat):Turn P w K tg (uh lo c n) [it] it (λ i h=>i<=n/\IsRangeIter h it (lo+(i:Nat) * c) ((n:Int) - (i:Nat)) c) where
 mem:=by simp
 obj:=λ i h st b hb=>by
  have e:b=it:=by simpa using hb
  subst e
  exact ⟨_,st.2,λ v z=>by
   have z':Data.fields _=Data.cell v:=z
   cases z'⟩
 keep:=λ i h h' st k=>⟨st.1,k it (by simp) _ st.2⟩
 item:=by
  intro X hP hw hK hc i pins s σ H E I hf st hg
  subst hP hw hK
  obtain ⟨f0,f1,f2,f3,f4,f5⟩:=hf it (by simp)
  have W:=Walks.range (prog:=X.prog) (w:=X.w) (I.ok.hd hc) it lo c n
  refine W.item i s _ _ hg st.2 λ v h' tk hv st' kk=>?_
  obtain ⟨t,rfl⟩:=hv
  have I1:Inv X pins σ H { s with heap:=h',toks:=tk }:=I.turned (λ b o hb e=>kk b o (by simpa using hb) e) f0 f1 f3 f4 f5
  have hg:i<n:=hg
  exact ⟨_,rfl,rh (s:={ s with heap:=h',toks:=tk }) (n:="range_iterator") st' rfl rfl (by decide) ⟨.int (lo+i * c),H,I1,⟨t,rfl⟩,⟨rfl,rfl⟩,⟨hg,st'⟩,λ b hb=>(hf b hb).1⟩⟩
 done:=by
  intro X hP hw hK hc i pins s σ H E I hf st hg
  subst hP hw hK
  obtain ⟨f0,f1,f2,f3,f4,f5⟩:=hf it (by simp)
  exact wpAny_pyNext_range_end (I.ok.hd hc) st.2 (by have:n<=i:=hg;have:=st.1;omega) λ h' eb=>⟨rfl,I.turned (t':=s.toks) (λ b o hb e=>eb b o hb e) f0 f1 f3 f4 f5⟩
 self:=λ _ _ _ _ _ st h=>wpAny_pyIter_rangeiter st.2 h
def Av (ta:TA):TI:=λ σ H R=>ta σ H λ vs H1=>∃ i j k:Int,vs=[.int i,.int j,.int k]/\(0<=i/\i<2 ^ 60/\0<=j/\j<2 ^ 60/\0<k/\k<2 ^ 20)/\R (uh i k (Builtin.Range.rangeSize i j k).toNat) H1
theorem wB {a b c:Expr} {ta:TA} {p pos:Pos} (hg:Gl X "range") (hm:X.mg "range"=none) (ha:PA X [a,b,c] ta) (hs:starEach [a,b,c] X.env=[(false,eval a X.env),(false,eval b X.env),(false,eval c X.env)]:=by rfl)
  (hs2:starEach [b,c] X.env=[(false,eval b X.env),(false,eval c X.env)]:=by rfl):PI X tg (.Call (.Name "range" p) [a,b,c] [] pos) (Av ta):=by
 intro pins s σ H R I h
 refine Call_ (iE I hg hm boot_range (PyProof.Rows.callWith_type1 (thn (ha pos pins s σ H _ I h) λ us s1 ⟨vs,H1,I1,r1,q1⟩=>?_) (by rw [hs,hs2]) (by rw [hs2];rfl)))
 obtain ⟨i,j,k,e,⟨q1,q2,q3,q4,q5,q6⟩,q⟩:=q1
 subst e
 cases r1 with
 | cons r rr=>
  cases rr with
  | cons r' rr=>
   cases rr with
   | cons r'' rr=>
    cases rr
    obtain ⟨t,rfl⟩:=r
    obtain ⟨t',rfl⟩:=r'
    obtain ⟨t'',rfl⟩:=r''
    have hnn:0<=Builtin.Range.rangeSize i j k:=by
     unfold Builtin.Range.rangeSize
     repeat (first | split | omega | (have:0<=(j - i - 1) / k:=Int.ediv_nonneg (by omega) (by omega);omega))
    refine call_range_3 (by omega) ?_ (.inl (PyProof.noPylong_small (by omega)))
    generalize hr:s1.heap.push { cls:=.type "range",data:=.fields #[.int i t,.int j t',.int k t''] }=h2
    have I2:Inv X pins σ H1 { s1 with heap:=h2,toks:=s1.toks }:=by
     rw [<- hr]
     exact I1.kept λ b o e=>Heap.get?_push_of_some _ e
    refine wpAny_pyIter_range (r:=s1.heap.objs.size) (by rw [<- hr];exact IsRange.new ..) ?_ ?_
    ·have hb:Builtin.Range.rangeSize i j k<=2 ^ 60:=by
      unfold Builtin.Range.rangeSize
      have:=Int.ediv_le_self (a:=j - i - 1) (b:=k)
      repeat (first | split | omega)
     unfold Builtin.Range.small
     generalize Builtin.Range.rangeSize i j k=m at hnn hb
     simp only [Builtin.Range.rangeFitsLong,Bool.and_eq_true,Bool.or_eq_true,decide_eq_true_eq,beq_iff_eq,if_pos q5,gt_iff_lt]
     omega
    ·refine ⟨h2.objs.size,[h2.objs.size],_,uh i k (Builtin.Range.rangeSize i j k).toNat,H1,rfl,I2.kept (t':=s1.toks) λ b o e=>Heap.get?_push_of_some _ e,tU _ i k _,⟨Nat.zero_le _,?_⟩,λ b hb=>?_,q⟩
     ·have e1:i+((0:Nat):Int) * k=i:=by simp
      have e2:(((Builtin.Range.rangeSize i j k).toNat:Nat):Int) - ((0:Nat):Int)=Builtin.Range.rangeSize i j k:=by omega
      rw [e1,e2]
      exact Heap.get?_push_size _ rfl
     ·have e:b=h2.objs.size:=by simpa using hb
      subst e
      exact I2.oH (Nat.le_refl _) (I2.hok.fresh (Nat.le_refl _))
def Its (x:Str):It:=⟨λ i _=>i<x.cps.size,λ i H v H'=>H'=H/\∃ c,x.cps[i]?=some c/\v=.str ⟨#[c]⟩,λ i _=>x.cps.size<=i⟩
theorem xY {P:Program} {w:World} {K:PySem.W.Frag} {tg:Expr} (it:Addr) (x:Str) (t:Tok) (ty:String) (hn:["enumerate","zip","dict_itemiterator","dict_reverseitemiterator","odict_iterator","itertools.zip_longest","itertools.pairwise"].contains ty=false)
  (W:∀ A:Around,A.handled=none->Walks P w A it [it] [it] x.cps.size (SignAt x) (λ i h=>h.IsStrIter it ty x t i))
  (hself:∀ (A:Around) (i:Nat) (s:Shared) (Q:Value->Shared->Prop) (E:Value->Shared->Prop),s.heap.IsStrIter it ty x t i->Q (.ref it) s->wpAny (model P w) A (pyIter (.ref it)) Q E s):Turn P w K tg (Its x) [it] it (λ i h=>i<=x.cps.size/\h.IsStrIter it ty x t i) where
 mem:=by simp
 obj:=λ i h st b hb=>by
  have e:b=it:=by simpa using hb
  subst e
  obtain ⟨_,o,e,c,d⟩:=st
  exact ⟨o,e,λ v z=>by rw [d] at z;cases z⟩
 keep:=λ i h h' st k=>⟨st.1,let ⟨o,e,r⟩:=st.2;⟨o,k it (by simp) o e,r⟩⟩
 item:=by
  intro X hP hw hK hc i pins s σ H E I hf st hg
  subst hP hw hK
  obtain ⟨f0,f1,f2,f3,f4,f5⟩:=hf it (by simp)
  refine (W X.A (I.ok.hd hc)).item i s _ _ hg st.2 λ v h' tk hv st' kk=>?_
  obtain ⟨c,u,hc,rfl⟩:=hv
  have I1:Inv X pins σ H { s with heap:=h',toks:=tk }:=I.turned (λ b o hb e=>kk b o (by simpa using hb) e) f0 f1 f3 f4 f5
  obtain ⟨o,e,c1,d⟩:=id st'
  have hg:i<x.cps.size:=hg
  exact ⟨_,rfl,rh (s:={ s with heap:=h',toks:=tk }) e c1 d hn ⟨.str ⟨#[c]⟩,H,I1,⟨u,rfl⟩,⟨rfl,c,hc,rfl⟩,⟨hg,st'⟩,λ b hb=>(hf b hb).1⟩⟩
 done:=by
  intro X hP hw hK hc i pins s σ H E I hf st hg
  subst hP hw hK
  obtain ⟨f0,f1,f2,f3,f4,f5⟩:=hf it (by simp)
  have e:i=x.cps.size:=by have:x.cps.size<=i:=hg;have:=st.1;omega
  subst e
  exact (W X.A (I.ok.hd hc)).done s _ _ st.2 λ h' tk kk=>⟨rfl,I.turned (λ b o hb e=>kk b o (by simpa using hb) e) f0 f1 f3 f4 f5⟩
 self:=λ A i s Q E st h=>hself A i s Q E st.2 h
def Eu (tl:TE):TI:=λ σ H R=>tl σ H λ x H1=>∃ z,x=.str z/\R (Its z) H1
theorem C8 {l:Expr} {tl:TE} (hl:PE X l tl):PI X tg l (Eu tl):=by
 intro pins s σ H R I h
 refine thn (hl pins s σ H _ I h) λ v s1 ⟨x,H1,I1,r1,q1⟩=>?_
 obtain ⟨z,rfl,q⟩:=q1
 obtain ⟨t,rfl⟩:=r1
 have fin:∀ (ty:String),["enumerate","zip","dict_itemiterator","dict_reverseitemiterator","odict_iterator","itertools.zip_longest","itertools.pairwise"].contains ty=false ->
   (∀ A:Around,A.handled=none->Walks X.prog X.w A s1.heap.objs.size [s1.heap.objs.size] [s1.heap.objs.size] z.cps.size (SignAt z) (λ i h=>h.IsStrIter s1.heap.objs.size ty z t i)) ->
   (∀ (A:Around) (i:Nat) (s:Shared) (Q:Value->Shared->Prop) (E:Value->Shared->Prop),s.heap.IsStrIter s1.heap.objs.size ty z t i->Q (.ref s1.heap.objs.size) s->wpAny (model X.prog X.w) A (pyIter (.ref s1.heap.objs.size)) Q E s) ->
   ∀ o:Obj,(s1.heap.push o).IsStrIter s1.heap.objs.size ty z t 0->PIE X pins σ tg R (.ref s1.heap.objs.size) { s1 with heap:=s1.heap.push o }:=λ ty hn W hself o st=>
  ⟨s1.heap.objs.size,[s1.heap.objs.size],_,Its z,H1,rfl,I1.kept (t':=s1.toks) λ b o e=>Heap.get?_push_of_some _ e,xY _ z t ty hn W hself,⟨Nat.zero_le _,st⟩,λ b hb=>by
   have e:b=s1.heap.objs.size:=by simpa using hb
   subst e
   exact I1.oH (Nat.le_refl _) (I1.hok.fresh (Nat.le_refl _)),q⟩
 cases ha:z.cps.all (·<128)
 ·exact wpAny_pyIter_wide ha (fin "str_iterator" (by decide) (λ A hA=>Walks.strWide hA _ z t) (λ A i s Q E st h=>wpAny_pyIter_striter_wide st h) _ ⟨_,Heap.get?_push_size _ rfl,rfl,rfl⟩)
 ·exact wpAny_pyIter_ascii ha (fin "str_ascii_iterator" (by decide) (λ A hA=>Walks.strAscii hA _ z t) (λ A i s Q E st h=>wpAny_pyIter_striter_ascii st h) _ ⟨_,Heap.get?_push_size _ rfl,rfl,rfl⟩)
def Fv:V->Option Int->Option Int->Hp->VK->Prop:=λ x lo hi H Q=>∃ z,x=.str z/\z.length<=sizeLine/\Q (.str (Txt.slice z lo hi)) H
theorem gx:SlR X Fv:=by
 intro pins s σ H x v vl vu lo hi sl Q I rx hs pl pu h
 obtain ⟨z,rfl,hz,q⟩:=h
 obtain ⟨t,rfl⟩:=rx
 refine ⟨"str",_,PySem.F.slot_str_getitem.lookup,typeIs_str _ _ _,?_⟩
 have fin:∀ {r:Str},r=Txt.slice z lo hi->∀ t' k,EP X pins σ Q (.str r t') { s with toks:=k }:=λ e t' k=>⟨.str _,H,I.tok _,⟨t',by rw [e]⟩,q⟩
 cases pl with
 | none=>
  cases pu with
  | none=>exact wpAny_getItem_str_slice (l:=none) (u:=none) (st:=none) hs rfl (post_val_or_str ⟨Nat.le_trans (Txt.slice_le z _ _) hz,λ t' k=>fin rfl t' k⟩)
  | int j uj=>exact wpAny_getItem_str_slice (l:=none) (u:=some (j,uj)) (st:=none) hs rfl (post_val_or_str ⟨Nat.le_trans (Txt.slice_le z _ _) hz,λ t' k=>fin rfl t' k⟩)
 | int i ui=>
  cases pu with
  | none=>exact wpAny_getItem_str_slice (l:=some (i,ui)) (u:=none) (st:=none) hs rfl (post_val_or_str ⟨Nat.le_trans (Txt.slice_le z _ _) hz,λ t' k=>fin rfl t' k⟩)
  | int j uj=>exact wpAny_getItem_str_slice (l:=some (i,ui)) (u:=some (j,uj)) (st:=none) hs rfl (post_val_or_str ⟨Nat.le_trans (Txt.slice_le z _ _) hz,λ t' k=>fin rfl t' k⟩)
end
section
variable {X:Cx}
structure oM (K:PySem.W.Frag) (C:Addr):Prop where
 ex:PySem.W.excIn K C [.type "ValueError",.type "Exception",.type "BaseException",.type "object"] "ValueError.__new__"=true
 ga:PySem.W.findIn K (.ref C) "__getattribute__"=some (some (.builtin "BaseException.__getattribute__"))
 gt:PySem.W.findIn K (.ref C) "__getattr__"=some none
 cl:PySem.W.findIn K (.ref C) "__class__"=some (some (.builtin "object.__class__"))
 gs:PySem.W.specialIn K (.builtin "object.__class__") "__get__"=some (some (.builtin "getset_descriptor.__get__"))
 tk:PySem.W.takesIn K (.builtin "object.__class__")=some true
 ob:PySem.W.mroIn K C (.type "object")=some true
theorem yN {K:PySem.W.Frag} {a C:Addr} (e:oM K C):PySem.W.KitX K (.ref a) (.ref C) (excφ a C) where
 ty:=λ M h _ p=>by
  obtain ⟨o,vs,h1,h2,_⟩:=p
  exact h2 ▸ (PySem.W.Looks.ld h1).andThen .now
 it:=λ M h X p=>by
  obtain ⟨bm,N,nm,q,bs,hdct,sn,sub,ab,col,dd,k0,k1,k2,k3,k5,mN,hC,_⟩:=nQ X e.ex
  intro A' Q' E' s' k q
  unfold isType loadHead
  exact wpAny_bind (wpAny_loadPart (k _ _ hC) (wpAny_pure q))
 ne:=λ h tp dd' its n sl X htp=>by
  obtain ⟨bm,N,nm,q,bs,hdct,sn,sub,ab,col,dd,k0,k1,k2,k3,k5,mN,hC,_⟩:=nQ X e.ex
  refine Bool.eq_false_iff.mpr λ z=>?_
  have e:C=tp:=Value.ref.inj (beq_iff_eq.mp z)
  subst e
  rw [hC] at htp
  have z2:=congrArg Obj.cls (Option.some.inj htp)
  exact absurd z2 (by simp)
 ca:=λ {prog w A E Q s} X p k=>by
  obtain ⟨o,vs,h1,h2,h3⟩:=p
  exact zV X PySem.F.attrBase_ValueError e.ex e.ga e.gt e.cl e.gs e.tk e.ob rfl h1 h2 h3 k
inductive TyX (K:PySem.W.Frag) (H:Hp):V->Value->Prop where
 | v {x:V} {t:Value} (h:kB K H x t):TyX K H x t
 | ex {a C:Addr} (h:H a=some (Ex a C)) (e:oM K C):TyX K H (.ref a) (.ref C)
def y8:V->Option Value
 | .ty n=>some (.type n)
 | .ref C=>some (.ref C)
 | _=>none
theorem nB {c:V} {cv u:Value} (h:y8 c=some cv) (r:RelV c u):u=cv:=by
 cases c with
 | ty n=>cases h;exact r
 | ref C=>cases h;exact r
 | _=>cases h
theorem ef:eg X (.builtin "isinstance") (λ xs H Q=>∃ x c t cv b,xs=[x,c]/\TyX X.K H x t/\y8 c=some cv/\PySem.W.kitOne X.K t cv=some b/\Q (.bl b) H):=by
 intro pins s σ H xs us Q I r h
 obtain ⟨x,c,t,cv,b,rfl,ty,hc,hk,q⟩:=h
 obtain ⟨u,w,rfl,rx,rc⟩:=vals2 r
 cases nB hc rc
 cases ty with
 | v ty=>exact o8 I rx ty hk λ tk=>⟨.bl b,H,I.tok _,rfl,q⟩
 | @ex a C hH e=>
  cases (show u=Value.ref a from rx)
  exact PySem.W.kia_one (yN e) I.kIn (I.hok a _ hH).1 hk (λ z=>nomatch z) λ tk=>⟨.bl b,H,I.tok _,rfl,q⟩
def Itz (K:PySem.W.Frag) (a b:Addr):It:=⟨λ i H=>∃ xs ys x y,SqL K H a xs/\SqL K H b ys/\xs[i]?=some x/\ys[i]?=some y,
 λ i H v H'=>∃ p,H p=none/\v=.ref p/\∃ x y,H'=upd H p (.tup [x,y])/\(∀ xs,SqL K H a xs->xs[i]?=some x)/\∀ ys,SqL K H b ys->ys[i]?=some y,
 λ i H=>∃ xs ys,SqL K H a xs/\SqL K H b ys/\(xs[i]?=none∨ys[i]?=none)⟩
def EL (z TI TO i1 i2 l1 l2:Addr) (i:Nat) (h:Heap):Prop:=IsZip h z TI TO .none/\IsPair h TI (.ref i1) (.ref i2)/\(∃ a b,IsPair h TO a b)/\h.IsListIter i1 l1 i/\h.IsListIter i2 l2 i
theorem xC {P:Program} {w:World} {K:PySem.W.Frag} {es:List Expr} {k1:Nat} {pos:Pos} (z TI TO i1 i2 l1 l2:Addr) (D:TI≠z/\TO≠z/\i1≠z/\i2≠z/\TI≠TO/\TI≠i1/\TI≠i2/\TO≠i1/\TO≠i2/\i1≠i2):
  Turn P w K (.Tuple es k1 pos) (Itz K l1 l2) [z,TI,TO,i1,i2] z (EL z TI TO i1 i2 l1 l2) where
 mem:=by simp
 obj:=λ i h st b hb=>by
  obtain ⟨h1,h2,⟨_,_,h3⟩,h4,h5⟩:=st
  rcases List.mem_cons.mp hb with rfl | hb
  ·exact ⟨_,h1,λ v e=>nomatch (show Data.fields _=Data.cell v from e)⟩
  rcases List.mem_cons.mp hb with rfl | hb
  ·exact ⟨_,h2,λ v e=>nomatch (show Data.seq _ _=Data.cell v from e)⟩
  rcases List.mem_cons.mp hb with rfl | hb
  ·exact ⟨_,h3,λ v e=>nomatch (show Data.seq _ _=Data.cell v from e)⟩
  rcases List.mem_cons.mp hb with rfl | hb
  ·obtain ⟨o,e,c,d⟩:=h4
   exact ⟨o,e,λ v z=>by rw [d] at z;cases z⟩
  have hb:b=i2:=by simpa using hb
  subst hb
  obtain ⟨o,e,c,d⟩:=h5
  exact ⟨o,e,λ v z=>by rw [d] at z;cases z⟩
 keep:=λ i h h' st k=>by
  obtain ⟨h1,h2,⟨x,y,h3⟩,h4,h5⟩:=st
  exact ⟨k _ (by simp) _ h1,k _ (by simp) _ h2,⟨x,y,k _ (by simp) _ h3⟩,h4.at λ o e=>k _ (by simp) o e,h5.at λ o e=>k _ (by simp) o e⟩
 item:=by
  intro X hP hw hK hc i pins s σ H E I hf st hg
  subst hP hw hK
  obtain ⟨xs,ys,x,y,q1,q2,e1,e2⟩:=hg
  obtain ⟨us,rv1,p1,_⟩:=I.list q1
  obtain ⟨vs,rv2,p2,_⟩:=I.list q2
  obtain ⟨u,hu,ru⟩:=rv1.get e1
  obtain ⟨v,hv,rv⟩:=rv2.get e2
  obtain ⟨h1,h2,⟨oa,ob,h3⟩,h4,h5⟩:=st
  obtain ⟨d1,d2,d3,d4,d5,d6,d7,d8,d9,d10⟩:=D
  have fne:∀ l:Addr,(∃ its,s.heap.IsList l its)->l≠z/\l≠TO/\l≠i1/\l≠i2:=λ l ⟨its,hl⟩=>by
   obtain ⟨o,ho,hcl,_⟩:=hl
   refine ⟨?_,?_,?_,?_⟩
   ·rintro rfl
    rw [h1] at ho;cases ho;exact absurd hcl (by simp)
   ·rintro rfl
    rw [h3] at ho;cases ho;exact absurd hcl (by simp)
   ·rintro rfl
    obtain ⟨o',e',c',_⟩:=h4
    rw [e'] at ho;cases ho;rw [c'] at hcl;exact absurd hcl (by simp)
   ·rintro rfl
    obtain ⟨o',e',c',_⟩:=h5
    rw [e'] at ho;cases ho;rw [c'] at hcl;exact absurd hcl (by simp)
  obtain ⟨a1,a2,a3,a4⟩:=fne l1 ⟨_,p1.isList⟩
  obtain ⟨b1,b2,b3,b4⟩:=fne l2 ⟨_,p2.isList⟩
  refine wpAny_pyNext_zip_item (xs:=us.toArray) (ys:=vs.toArray) (x:=u) (y:=v) ⟨d1,d2,d3,d4,d5,d6,d7,d8,d9,d10,a1,a2,a3,a4,b1,b2,b3,b4⟩ h1 h2 h3 h4 h5 p1.isList p2.isList (by simpa using hu) (by simpa using hv)
   λ h' g1 g2 g3 g4 g5 g6 kk=>⟨_,rfl,?_⟩
  refine wpAny_letOwnedTupleGo_zip g1 λ h2' z1 sb=>?_
  have lt:∀ b∈[z,TI,TO,i1,i2],b<s.heap.objs.size:=λ b hb=>by
   rcases List.mem_cons.mp hb with rfl | hb
   ·exact Heap.lt_size h1
   rcases List.mem_cons.mp hb with rfl | hb
   ·exact Heap.lt_size h2
   rcases List.mem_cons.mp hb with rfl | hb
   ·exact Heap.lt_size h3
   rcases List.mem_cons.mp hb with rfl | hb
   ·obtain ⟨o,e,_⟩:=h4;exact Heap.lt_size e
   have hb:b=i2:=by simpa using hb
   subst hb
   obtain ⟨o,e,_⟩:=h5;exact Heap.lt_size e
  have nz:s.heap.objs.size≠z:=Nat.ne_of_gt (lt z (by simp))
  have kp:∀ c o,c ∉ [z,TO,i1,i2]->s.heap.get? c=some o->h2'.get? c=some o:=λ c o hcn e=>by
   have h':=hcn
   simp only [List.mem_cons,not_or,List.not_mem_nil,not_false_eq_true,and_true] at h'
   exact sb.extBut c o h'.1 (kk c o h'.1 h'.2.1 h'.2.2.1 h'.2.2.2 e)
  have fok:∀ b∈[z,TO,i1,i2],iA X pins H b:=λ b hb=>hf b (by
   simp only [List.mem_cons,List.not_mem_nil,or_false] at hb ⊢
   rcases hb with h | h | h | h <;> simp [h])
  have nit:∀ b u,H b=some u->b ∉ [z,TO,i1,i2]:=λ b u e m=>by
   rw [(fok b m).1] at e
   cases e
  have I1:Inv X pins σ H { s with heap:=h2',toks:=s.toks }:=by
   refine I.step (g':=s.gens) (d':=s.drawn) (ch:=[z,TO,i1,i2]) (λ b hb=>let ⟨_,y1,y2,y3,y4,y5⟩:=fok b hb;⟨y3,y1,y4,y5⟩) (λ b o _ _ hcn e _=>kp b o hcn e) (λ b o _ _ hcn e _=>⟨o.slots,kp b o hcn e⟩) (λ _ _ _ _ n=>n)
    (λ b o hcn e=>⟨o,kp b o hcn e⟩) (λ _ _ e=>e) (λ _ _ _ e=>e) (λ b ps e=>⟨#[],by rw [e];simp⟩) (λ m hm=>?_) (λ b u e=>?_) I.bare
   ·obtain ⟨o,es,ep,ho,r⟩:=hm
    exact ⟨o,es,ep,kp _ o (λ m=>(fok _ m).2.1 rfl) ho,r⟩
   ·refine (I.hok b u e).cK (λ c v hc' q=>kp c v ?_ q) (λ _ q=>q) λ _ _ q=>q
    rcases hc' with y | y
    ·rw [y];exact nit b u e
    ·exact nit c _ y
  have gT:h2'.get? s.heap.objs.size=some { cls:=.type "tuple",data:=.seq #[u,v] }:=sb.extBut _ _ nz g5
  have I2:Inv X pins σ (upd H s.heap.objs.size (.tup [x,y])) { s with heap:=h2',toks:=s.toks }:=by
   refine I1.wN I.fresh ?_ (Nat.ne_of_gt I.lt) (λ y c e=>?_) (λ p hp=>?_) ⟨by show 2<=sizeLine;decide,[u,v],.cons ru (.cons rv .nil),⟨_,gT,rfl,_,rfl⟩⟩
   ·cases q:X.s₀.heap.get? s.heap.objs.size with
    | none=>rfl
    | some o=>exact absurd (Nat.lt_of_lt_of_le (Heap.lt_size q) I.sz) (Nat.lt_irrefl _)
   ·obtain ⟨w,o,ho,_⟩:=I.cell y c e
    exact Nat.ne_of_lt (Heap.lt_size ho)
   ·exact Nat.ne_of_lt (Heap.lt_size (I.pin p hp).1)
  refine ⟨.ref s.heap.objs.size,_,I2,rfl,⟨_,I.fresh,rfl,x,y,rfl,λ xs' h'=>by rw [I.jX h' q1];exact e1,λ ys' h'=>by rw [I.jX h' q2];exact e2⟩,⟨z1,?_,⟨u,v,?_⟩,?_,?_⟩,λ b hb=>?_⟩
  ·exact sb.extBut _ _ d1 (kk _ _ d1 d5 d6 d7 h2)
  ·exact sb.extBut _ _ d2 g2
  ·exact g3.at λ o e=>sb.extBut _ _ d3 e
  ·exact g4.at λ o e=>sb.extBut _ _ d4 e
  ·rw [aq (Nat.ne_of_lt (lt b hb))]
   exact (hf b hb).1
 done:=by
  intro X hP hw hK hc i pins s σ H E I hf st hg
  subst hP hw hK
  obtain ⟨xs,ys,q1,q2,e1⟩:=hg
  obtain ⟨us,rv1,p1,_⟩:=I.list q1
  obtain ⟨vs,rv2,p2,_⟩:=I.list q2
  obtain ⟨h1,h2,⟨oa,ob,h3⟩,h4,h5⟩:=st
  obtain ⟨d1,d2,d3,d4,d5,d6,d7,d8,d9,d10⟩:=D
  have fne:∀ l:Addr,(∃ its,s.heap.IsList l its)->l≠z/\l≠TO/\l≠i1/\l≠i2:=λ l ⟨its,hl⟩=>by
   obtain ⟨o,ho,hcl,_⟩:=hl
   refine ⟨?_,?_,?_,?_⟩
   ·rintro rfl
    rw [h1] at ho;cases ho;exact absurd hcl (by simp)
   ·rintro rfl
    rw [h3] at ho;cases ho;exact absurd hcl (by simp)
   ·rintro rfl
    obtain ⟨o',e',c',_⟩:=h4
    rw [e'] at ho;cases ho;rw [c'] at hcl;exact absurd hcl (by simp)
   ·rintro rfl
    obtain ⟨o',e',c',_⟩:=h5
    rw [e'] at ho;cases ho;rw [c'] at hcl;exact absurd hcl (by simp)
  obtain ⟨a1,a2,a3,a4⟩:=fne l1 ⟨_,p1.isList⟩
  obtain ⟨b1,b2,b3,b4⟩:=fne l2 ⟨_,p2.isList⟩
  have fok:∀ b∈[z,TO,i1,i2],iA X pins H b:=λ b hb=>hf b (by
   simp only [List.mem_cons,List.not_mem_nil,or_false] at hb ⊢
   rcases hb with h | h | h | h <;> simp [h])
  have nit:∀ b u,H b=some u->b ∉ [z,TO,i1,i2]:=λ b u e m=>by
   rw [(fok b m).1] at e
   cases e
  refine wpAny_pyNext_zip_end (xs:=us.toArray) (ys:=vs.toArray) (I.ok.hd hc) ⟨d1,d2,d3,d4,d5,d6,d7,d8,d9,d10,a1,a2,a3,a4,b1,b2,b3,b4⟩ h1 h2 h3 h4 h5 p1.isList p2.isList ?_ λ h' kk=>⟨rfl,?_⟩
  ·have m1:=rv1.length
   have m2:=rv2.length
   rcases e1 with e | e
   ·left;rw [List.getElem?_eq_none_iff] at e;simp;omega
   ·right;rw [List.getElem?_eq_none_iff] at e;simp;omega
  ·have kp:∀ c o,c ∉ [z,TO,i1,i2]->s.heap.get? c=some o->h'.get? c=some o:=λ c o hcn e=>by
    simp only [List.mem_cons,not_or,List.not_mem_nil,not_false_eq_true,and_true] at hcn
    exact kk c o hcn.1 hcn.2.1 hcn.2.2.1 hcn.2.2.2 e
   refine I.step (g':=s.gens) (d':=s.drawn) (t':=s.toks) (ch:=[z,TO,i1,i2]) (λ b hb=>let ⟨_,y1,y2,y3,y4,y5⟩:=fok b hb;⟨y3,y1,y4,y5⟩) (λ b o _ _ hcn e _=>kp b o hcn e) (λ b o _ _ hcn e _=>⟨o.slots,kp b o hcn e⟩) (λ _ _ _ _ n=>n)
    (λ b o hcn e=>⟨o,kp b o hcn e⟩) (λ _ _ e=>e) (λ _ _ _ e=>e) (λ b ps e=>⟨#[],by rw [e];simp⟩) (λ m hm=>?_) (λ b u e=>?_) I.bare
   ·obtain ⟨o,es,ep,ho,r⟩:=hm
    exact ⟨o,es,ep,kp _ o (λ m=>(fok _ m).2.1 rfl) ho,r⟩
   ·refine (I.hok b u e).cK (λ c v hc' q=>kp c v ?_ q) (λ _ q=>q) λ _ _ q=>q
    rcases hc' with y | y
    ·rw [y];exact nit b u e
    ·exact nit c _ y
 self:=λ _ _ _ _ _ st h=>wpAny_pyIter_zip st.1 h
def D9 (K:PySem.W.Frag) (ta:TA):TI:=λ σ H R=>ta σ H λ vs H1=>∃ a b,vs=[.ref a,.ref b]/\(∃ xs,SqL K H1 a xs)/\(∃ ys,SqL K H1 b ys)/\R (Itz K a b) H1
theorem xx {es:List Expr} {k1:Nat} {tpos:Pos} {a b:Expr} {ta:TA} {p pos:Pos} (hg:Gl X "zip") (hm:X.mg "zip"=none) (hv:bootBuiltins "zip"=some (.type "zip")) (ha:PA X [a,b] ta) (hs:starEach [a,b] X.env=[(false,eval a X.env),(false,eval b X.env)]:=by rfl)
  (hs2:starEach [b] X.env=[(false,eval b X.env)]:=by rfl):PI X (.Tuple es k1 tpos) (.Call (.Name "zip" p) [a,b] [] pos) (D9 X.K ta):=by
 intro pins s σ H R I h
 refine Call_ (iE I hg hm hv (PyProof.Rows.callWith_type1 (thn (ha pos pins s σ H _ I h) λ us s1 ⟨vs,H1,I1,r1,q1⟩=>?_) (by rw [hs,hs2]) (by rw [hs2];rfl)))
 obtain ⟨l1,l2,e,⟨xs,q1⟩,⟨ys,q2⟩,q⟩:=q1
 subst e
 obtain ⟨u,v,rfl,ru,rv⟩:=vals2 r1
 cases ru
 cases rv
 obtain ⟨us,_,p1,_⟩:=I1.list q1
 obtain ⟨vs,_,p2,_⟩:=I1.list q2
 refine call_zip_2 p1.isList p2.isList λ h' g1 g2 g3 g4 g5 g6 kk=>wpAny_pyIter_zip g1 ?_
 have I2:Inv X pins σ H1 { s1 with heap:=h',toks:=s1.toks }:=I1.kept kk
 refine ⟨_,[s1.heap.objs.size+4,s1.heap.objs.size+2,s1.heap.objs.size+3,s1.heap.objs.size,s1.heap.objs.size+1],_,_,H1,rfl,I2,xC (s1.heap.objs.size+4) (s1.heap.objs.size+2) (s1.heap.objs.size+3) s1.heap.objs.size (s1.heap.objs.size+1) l1 l2 ⟨?_,?_,?_,?_,?_,?_,?_,?_,?_,?_⟩,⟨g1,g2,⟨_,_,g3⟩,g4,g5⟩,λ b hb=>?_,q⟩
 all_goals first | (show (_:Nat)≠_;omega) | skip
 have hb':s1.heap.objs.size<=b:=by
  simp only [List.mem_cons,List.not_mem_nil,or_false] at hb
  rcases hb with h | h | h | h | h <;> (rw [h];first | exact Nat.le_refl _ | exact Nat.le_add_right _ _)
 exact I1.oH hb' (I1.hok.fresh hb')
end
section
variable {σ:St} {H:Hp} {Q:VK} {QB:Bool->Hp->Prop} {QA:List V->Hp->Prop} {QS:St->Hp->Prop} {ta tb tc te:TE} {tt uu:TT} {tA:TA} {t u:TS} {nx:St->Hp->Prop} {rt:VK} {bk ct:St->Hp->Prop} {v:V} {i:Nat} {r r':R2}
theorem w_var (h:σ[i]?=some (some v)) (q:Q v H):xM i σ H Q:=⟨v,h,q⟩
theorem w_C (q:Q v H):tC v σ H Q:=q
theorem Ef (q:ta σ H λ x H1=>tb σ H1 λ y H2=>r x y H2 Q):tOp r ta tb σ H Q:=q
theorem Du {r:V->Hp->VK->Prop} (q:ta σ H λ x H1=>r x H1 Q):tUn r ta σ H Q:=q
theorem E6 {g:Int->Int->V} {a b:Int} (q:Q (g a b) H):rI0 g (.int a) (.int b) H Q:=⟨a,b,rfl,rfl,q⟩
theorem w_U {g:Int->V} {a:Int} (q:Q (g a) H):rU g (.int a) H Q:=⟨a,rfl,q⟩
theorem w_mod {a b:Int} {g:Int->Int->V} (c:0<b) (q:Q (g a b) H):rI (λ _ j=>0<j) g (.int a) (.int b) H Q:=⟨a,b,rfl,rfl,c,q⟩
theorem w_I {C:Int->Int->Prop} {a b:Int} {g:Int->Int->V} (c:C a b) (q:Q (g a b) H):rI C g (.int a) (.int b) H Q:=⟨a,b,rfl,rfl,c,q⟩
theorem AO {a b:Int} (q:Q (.bl (decide (a=b))) H):rEq (.int a) (.int b) H Q:=⟨rfl,by rw [show decide (V.int a=V.int b)=decide (a=b) from decide_eq_decide.mpr ⟨λ e=>V.int.inj e,λ e=>by rw [e]⟩];exact q⟩
theorem Be {a b:Int} (q:Q (.bl (!decide (a=b))) H):rNe (.int a) (.int b) H Q:=⟨rfl,by rw [show decide (V.int a=V.int b)=decide (a=b) from decide_eq_decide.mpr ⟨λ e=>V.int.inj e,λ e=>by rw [e]⟩];exact q⟩
theorem Au {a b:Str} (q:Q (.bl (decide (a=b))) H):rEq (.str a) (.str b) H Q:=⟨rfl,by rw [show decide (V.str a=V.str b)=decide (a=b) from decide_eq_decide.mpr ⟨λ e=>V.str.inj e,λ e=>by rw [e]⟩];exact q⟩
theorem A8 {a b:Str} (q:Q (.bl (!decide (a=b))) H):rNe (.str a) (.str b) H Q:=⟨rfl,by rw [show decide (V.str a=V.str b)=decide (a=b) from decide_eq_decide.mpr ⟨λ e=>V.str.inj e,λ e=>by rw [e]⟩];exact q⟩
theorem Ay {a b:Bool} (q:Q (.bl (!decide (a=b))) H):rNe (.bl a) (.bl b) H Q:=⟨rfl,by rw [show decide (V.bl a=V.bl b)=decide (a=b) from decide_eq_decide.mpr ⟨λ e=>V.bl.inj e,λ e=>by rw [e]⟩];exact q⟩
theorem xQ (q:te σ H λ x H1=>∃ k,x=.bl k/\QB k H1):yh te σ H QB:=q
theorem DY (q:te σ H λ x H1=>∃ k,x=.bl k/\QB k H1):tB te σ H QB:=q
theorem w_k {P:Bool->Prop} {b:Bool} (q:P b):∃ k,V.bl b=.bl k/\P k:=⟨b,rfl,q⟩
theorem w_and (q:tt σ H λ c H1=>if c=true then uu σ H1 QB else QB false H1):Ee tt uu σ H QB:=q
theorem w_or (q:tt σ H λ c H1=>if c=true then QB true H1 else uu σ H1 QB):tOr tt uu σ H QB:=q
theorem w_not (q:tt σ H λ c H1=>QB (!c) H1):Ei tt σ H QB:=q
theorem xG (q:ta σ H λ x H1=>∃ c,x=.bl c/\if c=true then tb σ H1 Q else Q (.bl false) H1):xA ta tb σ H Q:=q
theorem A9 (q:ta σ H λ x H1=>∃ c,x=.bl c/\if c=true then Q (.bl true) H1 else tb σ H1 Q):Er ta tb σ H Q:=q
theorem xO (q:ta σ H λ x H1=>∃ c,x=.bl c/\Q (.bl (!c)) H1):AY ta σ H Q:=q
theorem vj (q:ta σ H λ x H1=>tb σ H1 λ y H2=>r x y H2 λ z H3=>∃ k,z=.bl k/\if k=true then tc σ H3 λ w' H4=>r' y w' H4 Q else Q (.bl false) H3):sZ r r' ta tb tc σ H Q:=q
theorem AQ (q:QA [] H):uM σ H QA:=q
theorem yp (q:te σ H λ x H1=>tA σ H1 λ xs H2=>QA (x::xs) H2):rm te tA σ H QA:=q
theorem wO {sp:Sp} {dvs:List V} {E:XK} (q:tA σ H λ vs H1=>sp (vs++dvs) H1 Q E):AS sp dvs E tA σ H Q:=q
theorem lB {C:Addr} {sp:Sp} {dvs:List V} {E:XK} (q:tA σ H λ vs H1=>∀ x dx,H1 x=none->H1 dx=none->dx≠x->sp (.ref x::(vs++dvs)) (upd (upd H1 dx (.own x)) x (.ins C dx [])) (λ v H2=>v=.non/\Q (.ref x) H2) E):AG C sp dvs E tA σ H Q:=q
theorem DP {r:List V->Hp->VK->Prop} (q:tA σ H λ vs H1=>r vs H1 Q):tCB r tA σ H Q:=q
theorem Ba (q:tA σ H λ xs H1=>xs.length<=sizeLine/\∀ p,H1 p=none->Q (.ref p) (upd H1 p (.tup xs))):EE tA σ H Q:=q
theorem AR (q:tA σ H λ xs H1=>xs.length<=sizeLine/\∀ p,H1 p=none->Q (.ref p) (upd H1 p (.lst xs))):yZ tA σ H Q:=q
theorem DK {r:V->Option Int->Option Int->Hp->VK->Prop} {tl th:TO} (q:te σ H λ x H1=>tl σ H1 λ l H2=>th σ H2 λ u H3=>r x l u H3 Q):tSl r te tl th σ H Q:=q
theorem rN {R:Option Int->Hp->Prop} (q:R none H):vp σ H R:=q
theorem wJ {R:Option Int->Hp->Prop} (q:te σ H λ x H1=>∃ i,x=.int i/\R (some i) H1):AJ te σ H R:=q
theorem Ey {P:Int->Prop} {b:Int} (q:P b):∃ k,V.int b=.int k/\P k:=⟨b,rfl,q⟩
theorem EX {K:PySem.W.Frag} {T:String} {r:V->List V->Hp->VK->Prop} (q:ta σ H λ x H1=>tyV K T x H1/\tA σ H1 λ xs H2=>r x xs H2 Q):tBM K T r ta tA σ H Q:=q
theorem Ap {K:PySem.W.Frag} {T:String} {r:V->List V->Hp->VK->Prop} (q:ta σ H λ x H1=>tyV K T x H1/\r x [] H1 Q):Fs K T r ta σ H Q:=q
theorem w_fld {K:PySem.W.Frag} {f:Str} (q:ta σ H λ x H1=>∃ a C dx fs v,x=.ref a/\H1 a=some (.ins C dx fs)/\Cls K C/\bO K C f/\fs.lookup f=some v/\Q v H1):Cu K ta f σ H Q:=q
theorem AD (q:t ⟨u ⟨nx,rt,bk,ct⟩,rt,bk,ct⟩ σ H):wG t u ⟨nx,rt,bk,ct⟩ σ H:=q
theorem w_next (q:nx σ H):AU ⟨nx,rt,bk,ct⟩ σ H:=q
theorem AW (q:te σ H λ x H1=>nx (σ.set i (some x)) H1):wX te (dD i) ⟨nx,rt,bk,ct⟩ σ H:=q
theorem vz (q:te σ H λ x H1=>nx (σ.set i (some x)) H1):sLC i te ⟨nx,rt,bk,ct⟩ σ H:=q
theorem xN {g:TG} (q:te σ H λ x H1=>g x σ H1 nx):wX te g ⟨nx,rt,bk,ct⟩ σ H:=q
theorem AV (q:te σ H rt):zA te ⟨nx,rt,bk,ct⟩ σ H:=q
theorem xp (q:te σ H λ _ H1=>nx σ H1):AX te ⟨nx,rt,bk,ct⟩ σ H:=q
theorem FH (q:tt σ H λ b H1=>if b=true then t ⟨nx,rt,bk,ct⟩ σ H1 else u ⟨nx,rt,bk,ct⟩ σ H1):CL tt t u ⟨nx,rt,bk,ct⟩ σ H:=q
theorem xy {K:PySem.W.Frag} {f:Str} (q:tb σ H λ y H1=>ta σ H1 λ x H2=>∃ a C dx fs,x=.ref a/\H2 a=some (.ins C dx fs)/\Cls K C/\bO K C f/\fs.length<1000/\nx σ (upd H2 a (.ins C dx (bQ f y fs)))):Em K ta tb f ⟨nx,rt,bk,ct⟩ σ H:=q
theorem AA {wi:TI} {g:TG} (q:wi σ H λ J H1=>∃ W:Nat->Nat->St->Hp->Prop,(∃ m,W 0 m σ H1)/\∀ i m σ H,W i m σ H ->
 (J.stop i H/\nx σ H)∨(J.go i H/\∃ N:St->Hp->Prop,(∀ σ' H',N σ' H'->∃ m',m'<m/\W (i+1) m' σ' H')/\∀ x H',J.yld i H x H'->g x σ H' λ σ2 H2=>t ⟨N,rt,nx,N⟩ σ2 H2)):Fg wi g t ⟨nx,rt,bk,ct⟩ σ H:=q
theorem uT {K:PySem.W.Frag} {R:It->Hp->Prop} (q:te σ H λ x H1=>∃ a,x=.ref a/\(∃ xs,SqL K H1 a xs)/\R (Itl K a) H1):xB K te σ H R:=q
theorem jL {x:V} (q:QS (σ.set i (some x)) H):dD i x σ H QS:=q
theorem vi {C:Addr} {E:XK} (q:tA σ H λ _ H1=>E (.ref C) none H1):tO C E tA ⟨nx,rt,bk,ct⟩ σ H:=q
end
theorem AI {A B:Prop} (h:B):if (!true)=true then A else B:=zZ h
theorem An {A B:Prop} (h:A):if (!false)=true then A else B:=zO h
theorem w_ite {b:Bool} {A B:Prop} (h1:b=true->A) (h2:b=false->B):if b=true then A else B:=by
 cases b with
 | true=>rw [if_pos rfl];exact h1 rfl
 | false=>rw [if_neg Bool.false_ne_true];exact h2 rfl
section
variable {σ:St} {H:Hp} {Q:VK} {te:TE} {τ:St} {K:PySem.W.Frag} {T:Addr}
theorem w_G {fold:Nat->(Nat->Bool)->Bool} {nN:Nat} {fs:List (Nat×Nat)} {wi:TI} {g:TG} (q:wi σ H λ J H1=>H1 T=some (Tb T)/\∃ n p G,G H1/\fz J g te (tau nN fs σ) G n p/\∀ H2,G H2->Q (.bl (fold n p)) H2):tG K fold T nN fs wi g te σ H Q:=q
theorem wY {R:It->Hp->Prop} {tl:TE} (q:tl σ H λ x H1=>∃ z,x=.str z/\R (Its z) H1):Eu tl σ H R:=q
theorem wK {R:It->Hp->Prop} {tl:TE} (q:tl σ H λ x H1=>∃ a,x=.ref a/\(∃ xs,SqT K H1 a xs)/\R (Itt K a) H1):Ed K tl σ H R:=q
theorem xi {ta:TA} {R:It->Hp->Prop} (q:ta σ H λ vs H1=>∃ j:Int,vs=[.int j]/\-(2 ^ 62)<=j/\j<2 ^ 62/\R (Itr 0 j.toNat) H1):AK ta σ H R:=q
theorem Cy {x:Str} {q:Nat->Bool} (hτ:τ[0]?=some none) (h:∀ c∈x.cps.toList,te (τ.set 0 (some (.str ⟨#[c]⟩))) H λ v H5=>H5=H/\v=.bl (q c)):
  fz (Its x) (dD 0) te τ (·=H) x.cps.size λ i=>match x.cps.toList[i]? with | some c=>q c | none=>false:=by
 rintro _ rfl
 refine ⟨Nat.le_refl _,λ i hi=>⟨hi,?_⟩⟩
 rintro v _ ⟨rfl,c,hc,rfl⟩
 have e:x.cps.toList[i]?=some c:=by simpa using hc
 refine ⟨λ j v hj=>?_,?_⟩
 ·by_cases z:j=0
  ·subst z;rw [hτ] at hj;cases hj
  ·rw [List.getElem?_set_ne (Ne.symm z)];exact hj
 ·dsimp only;rw [e]
  exact h c (List.mem_of_getElem? e)
theorem DZ {x:Str} (q:Nat->Bool) (hP:H T=some (Tb T)) (hτ:τ[0]?=some none) (h:∀ c∈x.cps.toList,te (τ.set 0 (some (.str ⟨#[c]⟩))) H λ v H5=>H5=H/\v=.bl (q c)) (k:Q (.bl (x.cps.toList.all q)) H):
  H T=some (Tb T)/\∃ n p G,G H/\fz (Its x) (dD 0) te τ G n p/\∀ H2,G H2->Q (.bl (wj n p)) H2:=by
 refine ⟨hP,_,_,(·=H),rfl,Cy hτ h,?_⟩
 rintro _ rfl
 have z:=all_range x.cps.toList q
 rw [Array.length_toList] at z
 refine Eq.mpr (congrArg (λ b=>Q (V.bl b) _) (?_:_=x.cps.toList.all q)) k
 unfold wj
 rw [<- z]
 congr 1
 funext i
 cases x.cps.toList[i]? <;> rfl
theorem Dp {a:Addr} {xs:List V} (q:V->Bool) (hl:SqL K H a xs) (hP:H T=some (Tb T)) (hτ:τ[0]?=some none) (h:∀ x∈xs,te (τ.set 0 (some x)) H λ v H5=>H5=H/\v=.bl (q x)) (k:Q (.bl (xs.all q)) H):
  H T=some (Tb T)/\∃ n p G,G H/\fz (Itl K a) (dD 0) te τ G n p/\∀ H2,G H2->Q (.bl (wj n p)) H2:=by
 refine ⟨hP,_,_,(·=H),rfl,x5 hl hτ h,?_⟩
 rintro _ rfl
 refine Eq.mpr (congrArg (λ b=>Q (V.bl b) _) (?_:_=xs.all q)) k
 unfold wj
 rw [<- all_range xs q]
 congr 1
 funext i
 cases xs[i]? <;> rfl
theorem EZ {a:Addr} {xs:List V} (q:V->Bool) (hl:SqL K H a xs) (hP:H T=some (Tb T)) (hτ:τ[0]?=some none) (h:∀ x∈xs,te (τ.set 0 (some x)) H λ v H5=>H5=H/\v=.bl (q x)) (k:Q (.bl (xs.any q)) H):
  H T=some (Tb T)/\∃ n p G,G H/\fz (Itl K a) (dD 0) te τ G n p/\∀ H2,G H2->Q (.bl (oE n p)) H2:=by
 refine ⟨hP,_,_,(·=H),rfl,x5 hl hτ h,?_⟩
 rintro _ rfl
 refine Eq.mpr (congrArg (λ b=>Q (V.bl b) _) (?_:_=xs.any q)) k
 unfold oE
 rw [<- any_range xs q]
 congr 1
 funext i
 cases xs[i]? <;> rfl
theorem Ao {a:Addr} {xs:List V} (q:V->Bool) (hl:SqT K H a xs) (hP:H T=some (Tb T)) (hτ:τ[0]?=some none) (h:∀ x∈xs,te (τ.set 0 (some x)) H λ v H5=>H5=H/\v=.bl (q x)) (k:Q (.bl (xs.any q)) H):
  H T=some (Tb T)/\∃ n p G,G H/\fz (Itt K a) (dD 0) te τ G n p/\∀ H2,G H2->Q (.bl (oE n p)) H2:=by
 refine ⟨hP,_,_,(·=H),rfl,CN hl hτ h,?_⟩
 rintro _ rfl
 refine Eq.mpr (congrArg (λ b=>Q (V.bl b) _) (?_:_=xs.any q)) k
 unfold oE
 rw [<- any_range xs q]
 congr 1
 funext i
 cases xs[i]? <;> rfl
end
theorem ak.upd {H:Hp} {p:Addr} {o:HO} (h:H p=none):ak H (upd H p o):=λ b u e=>by rw [aq (ao e h)];exact e
section
variable {H:Hp} {QB:Bool->Hp->Prop} {te:TE} {τ:St} {K:PySem.W.Frag} {T a:Addr} {xs:List V}
theorem sy (q:V->Bool) (hl:SqL K H a xs) (hP:H T=some (Tb T)) (hτ:τ[0]?=some none) (h:∀ x∈xs,te (τ.set 0 (some x)) H λ v H5=>H5=H/\v=.bl (q x)) (k:QB (xs.all q) H):
  H T=some (Tb T)/\∃ n p G,G H/\fz (Itl K a) (dD 0) te τ G n p/\∀ H2,G H2->∃ k,V.bl (wj n p)=.bl k/\QB k H2:=Dp (Q:=λ v H2=>∃ k,v=.bl k/\QB k H2) q hl hP hτ h ⟨_,rfl,k⟩
theorem CO (q:V->Bool) (hl:SqL K H a xs) (hP:H T=some (Tb T)) (hτ:τ[0]?=some none) (h:∀ x∈xs,te (τ.set 0 (some x)) H λ v H5=>H5=H/\v=.bl (q x)) (k:QB (xs.any q) H):
  H T=some (Tb T)/\∃ n p G,G H/\fz (Itl K a) (dD 0) te τ G n p/\∀ H2,G H2->∃ k,V.bl (oE n p)=.bl k/\QB k H2:=EZ (Q:=λ v H2=>∃ k,v=.bl k/\QB k H2) q hl hP hτ h ⟨_,rfl,k⟩
theorem CG (q:V->Bool) (hl:SqT K H a xs) (hP:H T=some (Tb T)) (hτ:τ[0]?=some none) (h:∀ x∈xs,te (τ.set 0 (some x)) H λ v H5=>H5=H/\v=.bl (q x)) (k:QB (xs.any q) H):
  H T=some (Tb T)/\∃ n p G,G H/\fz (Itt K a) (dD 0) te τ G n p/\∀ H2,G H2->∃ k,V.bl (oE n p)=.bl k/\QB k H2:=Ao (Q:=λ v H2=>∃ k,v=.bl k/\QB k H2) q hl hP hτ h ⟨_,rfl,k⟩
end
theorem EB {K:PySem.W.Frag} {T a b:Addr} {H:Hp} {Q:VK} {te:TE} {xs ys:List V} {n:Nat} (p:Nat->Bool) (h1:SqL K H a xs) (h2:SqL K H b ys) (n1:n<=xs.length) (n2:n<=ys.length) (n3:n=xs.length∨n=ys.length) (hP:H T=some (Tb T))
  (h:∀ i x y H5,i<n->xs[i]?=some x->ys[i]?=some y->ak H H5->te [some x,some y] H5 λ v H6=>ak H H6/\v=.bl (p i)) (k:∀ H2,ak H H2->Q (.bl (oE n p)) H2):
  H T=some (Tb T)/\∃ n p G,G H/\fz (Itz K a b) (zI K 2 (yg (dD 0) (yg (dD 1) Ff))) te [none,none] G n p/\∀ H2,G H2->Q (.bl (oE n p)) H2:=by
 refine ⟨hP,n,p,ak H,ak.refl H,λ H2 s2=>⟨⟨xs,ys,s2.seq h1,s2.seq h2,?_⟩,λ i hi=>⟨⟨xs,ys,xs[i],ys[i],s2.seq h1,s2.seq h2,List.getElem?_eq_getElem (by omega),List.getElem?_eq_getElem (by omega)⟩,?_⟩⟩,k⟩
 ·rcases n3 with e | e
  ·exact .inl (List.getElem?_eq_none_iff.mpr (by omega))
  ·exact .inr (List.getElem?_eq_none_iff.mpr (by omega))
 ·rintro v H3 ⟨q,hq,rfl,x,y,rfl,e1,e2⟩
  have e1:=e1 xs (s2.seq h1)
  have e2:=e2 ys (s2.seq h2)
  refine ⟨q,[x,y],rfl,SqT.of ae,rfl,x,[y],rfl,y,[],rfl,rfl,λ j v hj=>?_,?_⟩
  ·match j,hj with
   | 0,hj=>cases hj
   | 1,hj=>cases hj
   | (_+2),hj=>cases hj
  ·exact h i x y _ hi e1 e2 (s2.trans (ak.upd hq))
theorem xt {σ:St} {H:Hp} {K:PySem.W.Frag} {ta:TA} {R:It->Hp->Prop} (q:ta σ H λ vs H1=>∃ a b,vs=[.ref a,.ref b]/\(∃ xs,SqL K H1 a xs)/\(∃ ys,SqL K H1 b ys)/\R (Itz K a b) H1):D9 K ta σ H R:=q
end L2
local macro_rules | `(tactic| lia) => `(tactic| (repeat array_get_dec))
local macro_rules | `(tactic| array_get_dec) => `(tactic| (first
 | ((with_reducible refine L2.w_var (v:=?v) ?h ?_);(case h=>exact rfl)) | ((with_reducible refine L2.w_mod ?h ?_);(case h=>decide)) | ((with_reducible refine L2.w_I (C:=L2.BI) ?h ?_);(case h=>exact ⟨by decide,by decide⟩))
 | with_reducible refine L2.zO ?_ | with_reducible refine L2.zZ ?_ | with_reducible refine L2.AI ?_ | with_reducible refine L2.An ?_
 | with_reducible refine L2.Ef ?_ | with_reducible refine L2.w_C ?_ | with_reducible refine L2.E6 ?_ | with_reducible refine L2.Du ?_ | with_reducible refine L2.w_U ?_ | with_reducible refine L2.AO ?_ | with_reducible refine L2.Be ?_ | with_reducible refine L2.Au ?_ | with_reducible refine L2.A8 ?_ | with_reducible refine L2.Ay ?_ | with_reducible refine L2.xQ ?_ | with_reducible refine L2.DY ?_ | with_reducible refine L2.w_k ?_ | with_reducible refine L2.w_and ?_ | with_reducible refine L2.w_or ?_ | with_reducible refine L2.w_not ?_ | with_reducible refine L2.xG ?_ | with_reducible refine L2.A9 ?_ | with_reducible refine L2.xO ?_ | with_reducible refine L2.vj ?_ | with_reducible refine L2.AQ ?_ | with_reducible refine L2.yp ?_ | with_reducible refine L2.wO ?_ | with_reducible refine L2.DP ?_ | with_reducible refine L2.Ba ?_ | with_reducible refine L2.AR ?_ | with_reducible refine L2.DK ?_ | with_reducible refine L2.rN ?_ | with_reducible refine L2.wJ ?_ | with_reducible refine L2.Ey ?_ | with_reducible refine L2.EX ?_ | with_reducible refine L2.Ap ?_ | with_reducible refine L2.w_fld ?_ | with_reducible refine L2.AD ?_ | with_reducible refine L2.w_next ?_ | with_reducible refine L2.AW ?_ | with_reducible refine L2.vz ?_ | with_reducible refine L2.AV ?_ | with_reducible refine L2.xp ?_ | with_reducible refine L2.FH ?_ | with_reducible refine L2.xy ?_ | with_reducible refine L2.AA ?_ | with_reducible refine L2.uT ?_ | with_reducible refine L2.jL ?_ | with_reducible refine L2.vi ?_ | with_reducible refine L2.xN ?_ | with_reducible refine L2.w_G ?_ | with_reducible refine L2.wY ?_ | with_reducible refine L2.wK ?_ | with_reducible refine L2.xt ?_ | with_reducible refine L2.xi ?_))
namespace L2
open PySem PySem.Spec PyProof.Rows
section
variable {X:Cx} (K:PySem.W.Frag)
theorem uO (hK:X.K=K:=by rfl):OpR X (compareOp .In) (rIn K false):=by subst hK;exact lN
theorem jR {e:Expr} {f:Str} {pos:Pos} {ta:TE} (he:PE X e ta) (hb:attributeBase e f X.env (eval e X.env)=eval e X.env:=by rfl) (hK:X.K=K:=by rfl):PE X (.Attribute e f pos) (Cu K ta f):=by subst hK;exact aS he hb
theorem vD (hK:X.K=K:=by rfl):MtR X "list.count" (xn K):=by subst hK;exact xa
theorem Cj {o e:Expr} {es:List Expr} {to:TE} {t:TA} {name:Str} {apos cpos:Pos} {T id:String} {r:V->List V->Hp->VK->Prop} (pa:PlainAttrs T) (slot:Slot T name id) (hty:typeOf (.builtin id)=pure (.type "method_descriptor")) (hm:MtR X id r) (ho:PE X o to) (ha:PA X (e::es) t) (hK:X.K=K:=by rfl)
  (hbase:attributeBase o name X.env (eval o X.env)=eval o X.env:=by rfl)
  (hfew:((backTo cpos (starEach (e::es) X.env)).all (λ x=>!x.1)&&(backToKw cpos (keywordEach [] X.env)).all (λ x=>x.1.isSome)&&decide ((e::es).length+([]:List Keyword).length+(if ([]:List Keyword).isEmpty then 0 else 1)<30))=true:=by rfl)
  (hline:(apos.endLine==cpos.line)=true:=by rfl) (hs:starEach (e::es) X.env=(false,eval e X.env)::starEach es X.env:=by rfl) (hplain:(backTo cpos (starEach es X.env)).any (·.1)=false:=by rfl):
  PE X (.Call (.Attribute o name apos) (e::es) [] cpos) (tBM K T r to t):=by subst hK;exact cN pa slot hty hm ho ha hbase hfew hline hs hplain
theorem qw {es:List Expr} {k:Nat} {t:TGs} {n:Nat} {pos:Pos} (hc:X.calm=true) (h:PGs X es t) (hK:X.K=K:=by rfl)
  (hn:(assignEach es X.env).length=n:=by rfl) (hst:(assignEach es X.env).findIdx? (·.1)=none:=by rfl):PG X (.Tuple es k pos) (zI K n t):=by subst hK;exact lg hc h hn hst
end
def notStar:Expr->Bool
 | .Starred _ _=>false
 | _=>true
theorem qE {e:Expr} (h:notStar e=true) (es:List Expr) (env:Env):starEach (e::es) env=(false,eval e env)::starEach es env:=by
 cases e <;> first | rfl | cases h
theorem ag {X:Cx} {e:Expr} {es:List Expr} {te:TE} {t:TA} (ha:PE X e te) (hr:PA X es t) (h:notStar e=true:=by rfl):PA X (e::es) (rm te t):=zJ ha hr (qE h es X.env)
def cV:Expr->Option V
 | .Constant (.int i) _ _=>some (.int i)
 | .Constant (.str x) _ _=>some (.str x)
 | _=>none
def tK (vs:List V):TA:=λ _ H Q=>Q vs H
theorem CU {X:Cx}:∀ {es:List Expr} {vs:List V},es.map cV=vs.map some->PA X es (tK vs)
 | [],[],_=>aa
 | [],_::_,h=>by cases h
 | _::_,[],h=>by cases h
 | e::es,v::vs,h=>by
  rw [List.map_cons,List.map_cons] at h
  injection h with h1 h2
  have hr:PA X es (tK vs):=CU h2
  have go:∀ {te:TE},PE X e te->notStar e=true->(∀ σ H (Q:VK),Q v H->te σ H Q)->PA X (e::es) (tK (v::vs)):=λ {te} hp hs ht pos pins s σ H Q I q=>ag hp hr hs pos pins s σ H Q I (show te σ H λ x H1=>tK vs σ H1 λ xs H2=>Q (x::xs) H2 from ht _ _ _ q)
  cases e with
  | Constant c j pos=>
   cases c with
   | int i=>cases h1;exact go af rfl λ _ _ _ q=>q
   | str x=>cases h1;exact go aD rfl λ _ _ _ q=>q
   | _=>cases h1
  | _=>cases h1
theorem zC {X:Cx} {es:List Expr} {pos:Pos} (vs:List V) (h:es.map cV=vs.map some:=by rfl):PE X (.List es pos) (yZ (tK vs)):=aM (CU h)
theorem xE {X:Cx} {e:Expr} {es:List Expr} {te:TE} {pos:Pos} (vs:List V) (ha:PE X e te) (h:es.map cV=vs.map some:=by rfl) (hs:notStar e=true:=by rfl):PE X (.List (e::es) pos) (yZ (rm te (tK vs))):=aM (ag ha (CU h) hs)
theorem FE {vs:List V} {σ:St} {H:Hp} {QA:List V->Hp->Prop} (q:QA vs H):tK vs σ H QA:=q
end L2
local macro_rules | `(tactic| array_get_dec) => `(tactic| with_reducible refine L2.FE ?_)
namespace L2
open PySem PySem.Spec PyProof.Rows
structure Df (K:PySem.W.Frag) (mg:Str->Option Value) (x qual:Str) (st:Stmt) (ps:List Str) where
 f:Addr
 fd:FuncData
 cdv:Value
 ex:∃ (oc:Value) (od:Option Addr) (kV doc pm:Value) (an:Option Addr) (ct:Value) (osl:Array (Option Value)),
  fd=PySem.W.fnOf x qual (bJ st) (bo st) (ar st) .none kV doc pm an cdv ct/\K.lookup f=some ⟨oc,od,.func fd,osl⟩/\PySem.W.codeIn K cdv qual=true
 kp:PySem.W.keepIn K (.ref f)=true
 mg:mg x=some (.ref f)
 bd:Binds K fd ps []
structure DfM (K:PySem.W.Frag) (x qual:Str) (st:Stmt) (ps:List Str) where
 f:Addr
 fd:FuncData
 cdv:Value
 ex:∃ (oc:Value) (od:Option Addr) (kV doc pm:Value) (an:Option Addr) (ct:Value) (osl:Array (Option Value)),
  fd=PySem.W.fnOf x qual (bJ st) (bo st) (ar st) .none kV doc pm an cdv ct/\K.lookup f=some ⟨oc,od,.func fd,osl⟩/\PySem.W.codeIn K cdv qual=true
 kp:PySem.W.keepIn K (.ref f)=true
 bd:Binds K fd ps []
section
variable {P:Program} {w:World} {K:PySem.W.Frag} {mg:Str->Option Value} {base:Heap} {x qual:Str} {st:Stmt} {N ps:List Str} {k:Nat} {sp:Sp}
theorem Df.ok {f:Addr} {fd:FuncData} {cdv:Value} (ex:∃ (oc:Value) (od:Option Addr) (kV doc pm:Value) (an:Option Addr) (ct:Value) (osl:Array (Option Value)),
  fd=PySem.W.fnOf x qual (bJ st) (bo st) (ar st) .none kV doc pm an cdv ct/\K.lookup f=some ⟨oc,od,.func fd,osl⟩/\PySem.W.codeIn K cdv qual=true) (S:aH N ps (ar st)) (len:∀ vs H Q E,sp vs H Q E->vs.length=ps.length)
  (hbody:∀ (A:Around) (outer:List Env) (s:Shared) (H:Hp) (vs:List V) (Q:VK) (E:XK),bN k (A.deeper (envOfC qual (ar st) s.heap.objs.size f cdv))->sp vs H Q E ->
   ∃ t,PSs (ix CX0 P w K mg base N qual (ar st) f cdv A outer s H E).nox (bo st) t/\t ⟨λ _ H'=>Q .non H',Q,λ _ _=>False,λ _ _=>False⟩ (start N vs) H):c9 P w K mg base CX0 (k+1) f fd ps sp:=by
 obtain ⟨oc,od,kV,doc,pm,an,ct,osl,rfl,lk,hcd⟩:=ex
 refine xH lk hcd S len λ A outer s H vs Q E hr hsp=>?_
 obtain ⟨t,h,q⟩:=hbody A outer s H vs Q E hr hsp
 exact ⟨t,h.nox,q⟩
theorem Df.okE {f:Addr} {fd:FuncData} {cdv:Value} (ex:∃ (oc:Value) (od:Option Addr) (kV doc pm:Value) (an:Option Addr) (ct:Value) (osl:Array (Option Value)),
  fd=PySem.W.fnOf x qual (bJ st) (bo st) (ar st) .none kV doc pm an cdv ct/\K.lookup f=some ⟨oc,od,.func fd,osl⟩/\PySem.W.codeIn K cdv qual=true) (S:aH N ps (ar st)) (len:∀ vs H Q E,sp vs H Q E->vs.length=ps.length)
  (hbody:∀ (A:Around) (outer:List Env) (s:Shared) (H:Hp) (vs:List V) (Q:VK) (E:XK),bN k (A.deeper (envOfC qual (ar st) s.heap.objs.size f cdv))->sp vs H Q E ->
   ∃ t,PSs (ix (CXE P w) P w K mg base N qual (ar st) f cdv A outer s H E) (bo st) t/\t ⟨λ _ H'=>Q .non H',Q,λ _ _=>False,λ _ _=>False⟩ (start N vs) H):c9 P w K mg base (CXE P w) (k+1) f fd ps sp:=by
 obtain ⟨oc,od,kV,doc,pm,an,ct,osl,rfl,lk,hcd⟩:=ex
 exact xH lk hcd S len λ A outer s H vs Q E hr hsp=>hbody A outer s H vs Q E hr hsp
end
def Tells (J:It) (H:Hp) (n:Nat) (src:Nat->V):Prop:=∀ H2,ak H H2->J.stop n H2/\∀ i,i<n->J.go i H2/\∀ x H3,J.yld i H2 x H3->H3=H2/\x=src i
section
variable {K:PySem.W.Frag} {H:Hp} {a:Addr} {xs:List V}
theorem hV (h:SqL K H a xs):Tells (Itl K a) H xs.length λ i=>xs.getD i .non:=λ H2 s=>by
 have hl:=s.seq h
 refine ⟨⟨xs,hl,Nat.le_refl _⟩,λ i hi=>⟨⟨xs,xs[i],hl,List.getElem?_eq_getElem hi⟩,?_⟩⟩
 rintro x H3 ⟨rfl,hx⟩
 exact ⟨rfl,by simp [List.getD,hx xs hl]⟩
theorem qq {lo:Int} {n:Nat}:Tells (Itr lo n) H n λ i=>.int (lo+i):=λ H2 s=>by
 refine ⟨Nat.le_refl _,λ i hi=>⟨hi,?_⟩⟩
 rintro x H3 ⟨rfl,rfl⟩
 exact ⟨rfl,rfl⟩
end
theorem j2 {H H2 H6:Hp} {D:Addr} {ys zs:List V} {R:Prop} (hD:H D=none) (s:ak H H2) (e:H2 D=some (.lst ys)) (s6:ak H2 H6) (r:R):H6 D=some (.lst ys)/\ak H (upd H6 D (.lst zs))/\R:=
 ⟨s6 _ _ e,λ b o h=>by rw [aq (ao h hD)];exact s6 _ _ (s _ _ h),r⟩
theorem EA {H H2 H5:Hp} {D:Addr} {ys:List V} {R:Prop} (s:ak H H2) (e:H2 D=some (.lst ys)) (s5:ak H2 H5) (r:R):H5 D=some (.lst ys)/\ak H H5/\R:=⟨s5 _ _ e,s.trans s5,r⟩
theorem lcG {nN:Nat} {fs:List (Nat×Nat)} {g:TG} {tc:TT} {te:TE} {σ:St} {H:Hp} {QD:Addr->Hp->Prop} {J:It} {n:Nat} {src:Nat->V} (R:Nat->List V->Prop) (hJ:Tells J H n src) (hn:n<=sizeLine) (h0:R 0 [])
  (ht:∀ D i ys H2,i<n->H D=none->ak H H2->H2 D=some (.lst ys)->R i ys->g (src i) (tau nN fs σ) H2 λ τ4 H4=>(∀ (j:Nat) v,(tau nN fs σ)[j]?=some (some v)->τ4[j]?=some (some v))/\tc τ4 H4 λ b H5=>
   if b=true then te τ4 H5 λ v H6=>H6 D=some (.lst ys)/\ak H (upd H6 D (.lst (ys++[v])))/\R (i+1) (ys++[v]) else H5 D=some (.lst ys)/\ak H H5/\R (i+1) ys)
  (hQ:∀ D H2 ys,H D=none->ak H H2->H2 D=some (.lst ys)->R n ys->QD D H2):
  ∀ D,H D=none->∃ (n:Nat) (W:Nat->List V->Hp->Prop),n<=sizeLine/\W 0 [] (upd H D (.lst [])) /\
   ∀ i ys H2,i<=n->W i ys H2->H2 D=some (.lst ys)->(J.stop i H2/\QD D H2)∨(i<n/\J.go i H2/\∀ x H3,J.yld i H2 x H3->g x (tau nN fs σ) H3 λ τ4 H4=>
    (∀ (j:Nat) v,(tau nN fs σ)[j]?=some (some v)->τ4[j]?=some (some v))/\tc τ4 H4 λ b H5=>
     if b=true then te τ4 H5 λ v H6=>H6 D=some (.lst ys)/\W (i+1) (ys++[v]) (upd H6 D (.lst (ys++[v]))) else H5 D=some (.lst ys)/\W (i+1) ys H5):=by
 intro D hD
 refine ⟨n,λ i ys H2=>ak H H2/\R i ys,hn,⟨ak.upd hD,h0⟩,?_⟩
 rintro i ys H2 hi ⟨s2,r⟩ e
 obtain ⟨h1,h2⟩:=hJ H2 s2
 rcases Nat.lt_or_ge i n with hlt | hge
 ·refine .inr ⟨hlt,(h2 i hlt).1,λ x H3 y=>?_⟩
  obtain ⟨rfl,rfl⟩:=(h2 i hlt).2 x H3 y
  exact ht D i ys H3 hlt hD s2 e r
 ·have:i=n:=by omega
  subst this
  exact .inl ⟨h1,hQ D H2 ys hD s2 e r⟩
theorem Dy {nN:Nat} {fs:List (Nat×Nat)} {wi:TI} {g:TG} {tc:TT} {te:TE} {σ:St} {H:Hp} {Q:VK} (q:wi σ H λ J H1=>∀ D,H1 D=none->∃ (n:Nat) (W:Nat->List V->Hp->Prop),n<=sizeLine/\W 0 [] (upd H1 D (.lst [])) /\
 ∀ i ys H2,i<=n->W i ys H2->H2 D=some (.lst ys)->(J.stop i H2/\Q (.ref D) H2)∨(i<n/\J.go i H2/\∀ x H3,J.yld i H2 x H3->g x (tau nN fs σ) H3 λ τ4 H4=>
  (∀ (j:Nat) v,(tau nN fs σ)[j]?=some (some v)->τ4[j]?=some (some v))/\tc τ4 H4 λ b H5=>
   if b=true then te τ4 H5 λ v H6=>H6 D=some (.lst ys)/\W (i+1) (ys++[v]) (upd H6 D (.lst (ys++[v]))) else H5 D=some (.lst ys)/\W (i+1) ys H5)):tLC nN fs wi g tc te σ H Q:=q
theorem xr {σ:St} {H:Hp} {QB:Bool->Hp->Prop} (q:QB true H):C7 σ H QB:=q
end L2
local macro_rules | `(tactic| array_get_dec) => `(tactic| first | with_reducible refine L2.Dy ?_ | with_reducible refine L2.xr ?_)
namespace L2
open PySem PySem.Spec PyProof.Rows
theorem ik {τ:St} {x:V} (h:τ[0]?=some none):∀ (j:Nat) v,τ[j]?=some (some v)->(τ.set 0 (some x))[j]?=some (some v):=λ j v hj=>by
 by_cases z:j=0
 ·subst z;rw [h] at hj;cases hj
 ·rw [List.getElem?_set_ne (Ne.symm z)];exact hj
theorem uk {α:Type} {xs:List α} {i:Int} (h0:0<=i) (h1:i<xs.length):∃ v,v∈xs/\atI xs i=some v:=by
 have hj:i.toNat<xs.length:=by omega
 refine ⟨xs[i.toNat],List.getElem_mem hj,?_⟩
 have e:=eE (xs:=xs) (j:=i.toNat) (List.getElem?_eq_getElem hj)
 rw [Int.toNat_of_nonneg h0] at e
 exact e
section
variable {g:TG} {tb:TS} {nx:St->Hp->Prop} {rt:VK} {σ:St} {H:Hp}
theorem forL {K:PySem.W.Frag} {a:Addr} {xs:List V} (Pv:Nat->St->Hp->Prop) (h0:Pv 0 σ H) (hl:∀ i σ H,i<=xs.length->Pv i σ H->SqL K H a xs)
  (hs:∀ i x σ H,xs[i]?=some x->Pv i σ H->g x σ H λ σ2 H2=>tb ⟨Pv (i+1),rt,nx,Pv (i+1)⟩ σ2 H2) (hd:∀ σ H,Pv xs.length σ H->nx σ H):
  ∃ W:Nat->Nat->St->Hp->Prop,(∃ m,W 0 m σ H)/\∀ i m σ H,W i m σ H ->
   ((Itl K a).stop i H/\nx σ H)∨((Itl K a).go i H/\∃ N:St->Hp->Prop,(∀ σ' H',N σ' H'->∃ m',m'<m/\W (i+1) m' σ' H')/\∀ x H',(Itl K a).yld i H x H'->g x σ H' λ σ2 H2=>tb ⟨N,rt,nx,N⟩ σ2 H2):=yz (D:=⟨nx,rt,λ _ _=>False,λ _ _=>False⟩) Pv h0 hl hs hd
theorem forR {lo:Int} {n:Nat} (Pv:Nat->St->Hp->Prop) (h0:Pv 0 σ H)
  (hs:∀ i σ H,i<n->Pv i σ H->g (.int (lo+i)) σ H λ σ2 H2=>tb ⟨Pv (i+1),rt,nx,Pv (i+1)⟩ σ2 H2) (hd:∀ σ H,Pv n σ H->nx σ H):
  ∃ W:Nat->Nat->St->Hp->Prop,(∃ m,W 0 m σ H)/\∀ i m σ H,W i m σ H ->
   ((Itr lo n).stop i H/\nx σ H)∨((Itr lo n).go i H/\∃ N:St->Hp->Prop,(∀ σ' H',N σ' H'->∃ m',m'<m/\W (i+1) m' σ' H')/\∀ x H',(Itr lo n).yld i H x H'->g x σ H' λ σ2 H2=>tb ⟨N,rt,nx,N⟩ σ2 H2):=vR (D:=⟨nx,rt,λ _ _=>False,λ _ _=>False⟩) Pv h0 hs hd
theorem FP {lo c:Int} {n:Nat} (Pv:Nat->St->Hp->Prop) (h0:Pv 0 σ H)
  (hs:∀ (i:Nat) σ H,i<n->Pv i σ H->g (.int (lo+i * c)) σ H λ σ2 H2=>tb ⟨Pv (i+1),rt,nx,Pv (i+1)⟩ σ2 H2) (hd:∀ σ H,Pv n σ H->nx σ H):
  ∃ W:Nat->Nat->St->Hp->Prop,(∃ m,W 0 m σ H)/\∀ i m σ H,W i m σ H ->
   ((uh lo c n).stop i H/\nx σ H)∨((uh lo c n).go i H/\∃ N:St->Hp->Prop,(∀ σ' H',N σ' H'->∃ m',m'<m/\W (i+1) m' σ' H')/\∀ x H',(uh lo c n).yld i H x H'->g x σ H' λ σ2 H2=>tb ⟨N,rt,nx,N⟩ σ2 H2):=by
 refine ⟨λ i m σ H=>m=n - i/\i<=n/\Pv i σ H,⟨n,by simp,Nat.zero_le _,h0⟩,?_⟩
 rintro i m σ H ⟨rfl,hi,p⟩
 by_cases hlt:i<n
 ·refine .inr ⟨hlt,Pv (i+1),λ σ' H' p'=>⟨n - (i+1),by omega,rfl,hlt,p'⟩,λ x H' y=>?_⟩
  obtain ⟨e,y⟩:=y
  subst e y
  exact hs i σ _ hlt p
 ·have e:i=n:=by omega
  subst e
  exact .inl ⟨Nat.le_refl _,hd σ H p⟩
end
section
variable {tt uu:TT} {te:TE} {σ:St} {H:Hp} {a b:Bool} {v:V}
end
end L2
local macro_rules | `(tactic| array_mem_dec) => `(tactic| (first
 | ((with_reducible refine L2.w_var (v:=?v) ?h ?_);(case h=>exact rfl)) | ((with_reducible refine L2.w_mod ?h ?_);(case h=>decide)) | ((with_reducible refine L2.w_I (C:=L2.BI) ?h ?_);(case h=>exact ⟨by decide,by decide⟩))
 | with_reducible refine L2.zO ?_ | with_reducible refine L2.zZ ?_ | with_reducible refine L2.AI ?_ | with_reducible refine L2.An ?_
 | with_reducible refine L2.Ef ?_ | with_reducible refine L2.w_C ?_ | with_reducible refine L2.E6 ?_ | with_reducible refine L2.Du ?_ | with_reducible refine L2.w_U ?_ | with_reducible refine L2.AO ?_ | with_reducible refine L2.Be ?_ | with_reducible refine L2.Au ?_ | with_reducible refine L2.A8 ?_ | with_reducible refine L2.Ay ?_ | with_reducible refine L2.xQ ?_ | with_reducible refine L2.DY ?_ | with_reducible refine L2.w_k ?_ | with_reducible refine L2.w_and ?_ | with_reducible refine L2.w_or ?_ | with_reducible refine L2.w_not ?_ | with_reducible refine L2.xG ?_ | with_reducible refine L2.A9 ?_ | with_reducible refine L2.xO ?_ | with_reducible refine L2.vj ?_ | with_reducible refine L2.AQ ?_ | with_reducible refine L2.yp ?_ | with_reducible refine L2.wO ?_ | with_reducible refine L2.DP ?_ | with_reducible refine L2.Ba ?_ | with_reducible refine L2.AR ?_ | with_reducible refine L2.DK ?_ | with_reducible refine L2.rN ?_ | with_reducible refine L2.wJ ?_ | with_reducible refine L2.Ey ?_ | with_reducible refine L2.EX ?_ | with_reducible refine L2.Ap ?_ | with_reducible refine L2.w_fld ?_ | with_reducible refine L2.AD ?_ | with_reducible refine L2.w_next ?_ | with_reducible refine L2.AW ?_ | with_reducible refine L2.vz ?_ | with_reducible refine L2.AV ?_ | with_reducible refine L2.xp ?_ | with_reducible refine L2.xy ?_ | with_reducible refine L2.AA ?_ | with_reducible refine L2.uT ?_ | with_reducible refine L2.jL ?_ | with_reducible refine L2.vi ?_ | with_reducible refine L2.xN ?_ | with_reducible refine L2.Dy ?_ | with_reducible refine L2.xr ?_ | with_reducible refine L2.w_G ?_ | with_reducible refine L2.wY ?_ | with_reducible refine L2.wK ?_ | with_reducible refine L2.xt ?_ | with_reducible refine L2.xi ?_))
namespace L2
open PySem PySem.Spec PyProof.Rows
def Pt (tl:TO) (σ:St):Prop:=∀ H (R:Option Int->Hp->Prop),(∀ o,R o H)->tl σ H R
section
variable {K:PySem.W.Frag} {σ:St} {H:Hp} {ta tb te:TE} {tA:TA} {n m k:Nat}
end
def hT (a:Addr) (oa:Option HO) (ts:List Addr):Hp:=λ b=>if b=a then oa else if b∈ts then some (Tb b) else none
theorem vJ {P:Program} {w:World} {K:PySem.W.Frag} {mg mb:Str->Option Value} {CX:CXT} {k:Nat} {fa a:Addr} {fd:FuncData} {x:Str} {sp:Sp} {s₁:Shared} {vs:List Value} {ns:List Int} (ts:List Addr)
  (KX:K.In s₁.heap) (hns:s₁.heap.Ns mainGlobals mg) (hb:s₁.heap.Ns builtinsNs mb) (hbb:∀ x:Str,x≠"__name__"->mb x=bootBuiltins x) (hlim:s₁.heap.NoLimit) (hg:s₁.gens=#[])
  (ha:s₁.heap.get? a=some { cls:=.type "list",data:=.seq vs.toArray }) (hi:IntsAre vs ns) (hl:ns.length<=sizeLine) (hr:bN k callerA) (hK:PySem.W.noTabs K=true)
  (hT0:∀ t∈ts,(∃ c,PySem.W.CodeHd s₁.heap c t)/\s₁.heap.get? t=some (PySem.W.tabObj #[]))
  (hbm:∃ bm ob,mg "__builtins__"=some (.ref bm)/\bm≠builtinsNs/\s₁.heap.get? bm=some ob/\ob.cls=.type "module"/\ob.dict=some builtinsNs/\ob.data=.plain)
  (F:∀ base:Heap,K.In base->base.Ns mainGlobals mg->jK base->c9 P w K mg base CX k fa fd [x] sp) (hbind:∀ (s:Shared) (u:Value),BindsTo s fd ⟨[u],[]⟩ [(x,u)])
  (hsp:∀ H:Hp,(∀ t∈ts,H t=some (Tb t))->SqL K H a (ns.map V.int)->sp [.ref a] H (λ v H'=>v=.bl true/\∀ t∈ts,H' t=some (Tb t)) λ _ _ _=>False)
  (hCX:∀ H e s',CX [] H s₁ (λ _ _ _=>False) e s'->False):
  codeAny (model P w) callerA (.call (.ref fa) ⟨[.ref a],[]⟩) (λ r s'=>r=.ok (.ret (.bool true))/\OldK s₁.heap s'.heap/\s'.os=s₁.os/\AllBare s'.gens) s₁:=by
 have rv:=o5 hi
 have lenV:=hi.length
 have nat:∀ t∈ts,t≠a:=λ t ht e=>by
  have:=(hT0 t ht).2
  rw [e,ha] at this
  have:=congrArg Obj.cls (Option.some.inj this)
  cases this
 have core:∀ oa:Option HO,(oa=none∨(K.lookup a=none/\∃ xs,oa=some (.frz { cls:=.type "list",data:=.seq vs.toArray } (.lst xs))))->SqL K (hT a oa ts) a (ns.map V.int)->(∀ o,oa=some o->b5 P w (hT a oa ts) s₁.heap a o) ->
   codeAny (model P w) callerA (.call (.ref fa) ⟨[.ref a],[]⟩) (λ r s'=>r=.ok (.ret (.bool true))/\OldK s₁.heap s'.heap/\s'.os=s₁.os/\AllBare s'.gens) s₁:=by
  intro oa hO hS hoa
  have hTs:∀ t∈ts,hT a oa ts t=some (Tb t):=λ t ht=>by unfold hT;rw [if_neg (nat t ht),if_pos ht]
  have kinds:∀ b,hT a oa ts b=none∨(b=a/\∃ o,oa=some o/\hT a oa ts b=some o)∨(b∈ts/\hT a oa ts b=some (Tb b)):=λ b=>by
   by_cases e:b=a
   ·have hv:hT a oa ts b=oa:=by unfold hT;rw [if_pos e]
    cases q:oa with
    | none=>left;rw [<- q,hv,q]
    | some o=>right;left;exact ⟨e,o,rfl,by rw [<- q,hv,q]⟩
   ·by_cases m:b∈ts
    ·exact .inr (.inr ⟨m,hTs b m⟩)
    ·left;unfold hT;rw [if_neg e,if_neg m]
  have hok:HOk P w (hT a oa ts) s₁.heap:=λ b o e=>by
   rcases kinds b with z | ⟨rfl,o',e1,z⟩ | ⟨m,z⟩
   ·rw [z] at e;cases e
   ·rw [z] at e;cases e
    exact hoa _ e1
   ·rw [z] at e;cases e
    exact ⟨⟨#[],(hT0 b m).2,trivial⟩,⟨_,(hT0 b m).2⟩,tabφ_stay⟩
  have free:∀ {b:Addr} {o:Obj},s₁.heap.get? b=some o->o.data≠.seq vs.toArray 0->o.data≠.fields #[]->hT a oa ts b=none:=λ {b o} e n1 n2=>by
   rcases kinds b with z | ⟨rfl,o',e1,z⟩ | ⟨m,z⟩
   ·exact z
   ·rw [ha] at e;cases e
    exact absurd rfl n1
   ·rw [(hT0 b m).2] at e;cases e
    exact absurd rfl n2
  have nsK:∀ {b:Addr} {m:Str->Option Value},s₁.heap.Ns b m->(qL s₁.heap (hT a oa ts)).Ns b m:=λ {b m} ⟨o,es,ep,e,d,r⟩=>⟨o,es,ep,nI e (free e (by rw [d];simp) (by rw [d];simp)),d,r⟩
  have hKb:K.In (qL s₁.heap (hT a oa ts)):=λ b o e=>nI (KX b o e) (by
   rcases kinds b with z | ⟨rfl,o',e1,z⟩ | ⟨m,z⟩
   ·exact z
   ·rcases hO with q | ⟨q,_⟩
    ·rw [q] at e1;cases e1
    ·rw [q] at e;cases e
   ·have e2:=KX b o e
    rw [(hT0 b m).2] at e2
    have h2:=List.all_eq_true.mp hK (b,o) (PySem.W.mem_of_lookupK e)
    cases e2
    exact absurd (show false=true from h2) Bool.false_ne_true)
  have hM:Mod K mg (qL s₁.heap (hT a oa ts)):=⟨hKb,nsK hns,⟨mb,nsK hb,hbb⟩,let ⟨mc,h1,h2⟩:=hlim;⟨mc,nsK h1,h2⟩⟩
  have hB:jK (qL s₁.heap (hT a oa ts)):=by
   obtain ⟨bm,ob,e1,e2,e3,e4,e5,e6⟩:=hbm
   exact yY (nsK hns) e1 e2 (nI e3 (free e3 (by rw [e6];simp) (by rw [e6];simp))) e4 e5 e6
  have e0:uy P w K mg (qL s₁.heap (hT a oa ts)) callerA [] s₁ (hT a oa ts):=⟨rfl,hM,λ b o e=>zQ e,Nat.le_of_eq (vO _ _),trivial,λ b hb=>absurd (show b∈([]:List Addr) from hb) (by simp),hok,.of_eq hg⟩
  refine codeAny_mono ((F _ hKb (nsK hns) hB).run callerA [] s₁ _ ⟨[.ref a],[]⟩ [.ref a] [.ref a] _ _ hr e0 (hbind s₁ (.ref a)) (.cons rfl .nil) (hsp _ hTs hS)) λ r s' h=>?_
  cases r with
  | error e=>exact (hCX _ e s' h).elim
  | ok fl=>
   cases fl with
   | next=>exact False.elim h
   | brk=>exact False.elim h
   | cont=>exact False.elim h
   | ret u=>
    obtain ⟨v,H',os,bare,un,hok',r',q⟩:=h
    obtain ⟨q1,q2⟩:=q
    subst q1
    obtain rfl:u=Value.bool true:=r'
    have keep:∀ b o,s₁.heap.get? b=some o->b ∉ ts->s'.heap.get? b=some o:=λ b o e m=>by
     rcases kinds b with z | ⟨rfl,o',e1,z⟩ | ⟨m',_⟩
     ·exact un.keep b o e z (by intro z;exact absurd (show b∈([]:List Addr) from z) (by simp)) (by simp)
     ·rcases hO with q | ⟨_,xs,q⟩
      ·rw [q] at e1;cases e1
      ·rw [q] at e1;cases e1
       have z2:=un.je b _ _ z
       obtain ⟨g1,_⟩:=hok b _ z
       obtain ⟨g2,_⟩:=hok' b _ z2
       rw [e] at g1;cases g1
       exact g2
     ·exact absurd m' m
    refine ⟨rfl,⟨λ b o e=>?_,λ b o e=>?_⟩,os,bare⟩
    ·by_cases m:b∈ts
     ·obtain ⟨⟨ps,g,_⟩,_⟩:=hok' b _ (q2 b m)
      obtain ⟨⟨c,hc⟩,hp⟩:=hT0 b m
      rw [hp] at e;cases e
      refine .inr (.inl ⟨?_,rfl,#[],ps,rfl,?_⟩)
      ·obtain ⟨o,vs',_,_,_,_,_,_,_,e1,e2,e3,e4,_⟩:=hc
       exact ⟨c,o,vs',e1,e2,e3,e4⟩
      ·rw [g];simp
     ·exact .inl (keep b o e m)
    ·by_cases m:b∈ts
     ·obtain ⟨⟨ps,g,_⟩,_⟩:=hok' b _ (q2 b m)
      exact ⟨_,g⟩
     ·exact ⟨o,keep b o e m⟩
 cases hk:K.lookup a with
 | some o=>
  have e:=KX a o hk
  rw [ha] at e
  cases e
  refine core none (.inl rfl) (.inr ⟨_,vs.toArray,_,hk,rfl,rfl,rfl,by rw [List.size_toArray,lenV];exact hl,by simpa using rv⟩) λ o z=>by cases z
 | none=>
  have hv:hT a (some (.frz { cls:=.type "list",data:=.seq vs.toArray } (.lst (ns.map V.int)))) ts a=some (.frz { cls:=.type "list",data:=.seq vs.toArray } (.lst (ns.map V.int))):=by unfold hT;rw [if_pos rfl]
  refine core (some (.frz { cls:=.type "list",data:=.seq vs.toArray } (.lst (ns.map V.int)))) (.inr ⟨hk,_,rfl⟩) (.inl (.inr ⟨_,hv⟩)) λ o z=>?_
  cases z
  exact ⟨ha,by rw [List.length_map];exact hl,vs,_,rv,ha⟩
section
variable {κ:Type} [DecidableEq κ]
def zS (kvs:List (κ×V)) (k:κ):Option V:=(kvs.find? λ kv=>decide (kv.1=k)).map (·.2)
def putK (kvs:List (κ×V)) (k:κ) (v:V):List (κ×V):=
 if (kvs.any λ kv=>decide (kv.1=k))=true then kvs.map (λ kv=>if kv.1=k then (kv.1,v) else kv) else kvs++[(k,v)]
def Az (kvs:List (κ×V)) (k:κ):List (κ×V):=kvs.filter λ kv=>decide (kv.1≠k)
end
theorem Ew {P:Program} {w:World} {k:Key} {u:Value} (r:RelV (kV k) u):(cE P w).is k u=true:=by
 cases k with
 | inl i=>obtain ⟨t,e⟩:=(show ∃ t,u=Value.int i t from r);subst e;exact rV P w i t
 | inr x=>obtain ⟨t,e⟩:=(show ∃ t,u=Value.str x t from r);subst e;exact rj P w x t
abbrev KT (H:Hp):List (List Key×V)->List (List Key×Addr×Value)->Prop:=Paired λ p q=>p.1=q.1/\H q.2.1=some (.tup (p.1.map kV))/\RelV p.2 q.2.2
section
variable {P:Program} {w:World} {H:Hp} {h:Heap} {a:Addr}
end
def zF (H:Hp) (a:Addr) (y:V) (r:Option V):Prop:=
 (∃ kvs k,Rd H a (.dK kvs)/\y=kV k/\r=zS kvs k)∨∃ kvs k b,Rd H a (.dT kvs)/\y=.ref b/\H b=some (.tup (k.map kV))/\r=zS kvs k
def EC (H:Hp) (a:Addr) (y v:V) (H':Hp):Prop:=
 (∃ kvs k,H a=some (.dK kvs)/\y=kV k/\kvs.length<sizeLine/\H'=upd H a (.dK (putK kvs k v))) ∨
 ∃ kvs k b,H a=some (.dT kvs)/\y=.ref b/\H b=some (.tup (k.map kV))/\kvs.length<sizeLine/\H'=upd H a (.dT (putK kvs k v))
section
variable {X:Cx} {pins:List (Addr×Obj)} {σ:St} {H:Hp} {s:Shared} {a:Addr} {y v:V} {u r:Value} {o:Option V} {A:Around} {E:Value->Shared->Prop}
end
section
variable {X:Cx} {pins:List (Addr×Obj)} {σ:St} {H:Hp} {s:Shared} {a:Addr} {kvs:List (Key×V)} {k:Key} {u:Value} {A:Around} {E:Value->Shared->Prop}
end
def E8 (td ty:TE):TE:=λ σ H Q=>td σ H λ x H1=>ty σ H1 λ y H2=>∃ a v,x=.ref a/\zF H2 a y (some v)/\Q v H2
def FO (ty td:TE):TE:=λ σ H Q=>ty σ H λ y H1=>td σ H1 λ x H2=>∃ a o,x=.ref a/\zF H2 a y o/\Q (.bl o.isSome) H2
def Eh (td ty tv:TE):TS:=λ D σ H=>tv σ H λ v H1=>td σ H1 λ x H2=>ty σ H2 λ y H3=>∃ a H4,x=.ref a/\EC H3 a y v H4/\D.nx σ H4
section
variable {X:Cx} {o i e value:Expr} {pos pos' tpos:Pos} {td ty tv:TE}
end
def BK:TE:=λ _ H Q=>∀ p,H p=none->Q (.ref p) (upd H p (.dK []))
section
variable {X:Cx} {pos:Pos}
end
def lh:List (TE×TE)->St->Hp->(List (V×V)->Hp->Prop)->Prop
 | [],_,H,Q=>Q [] H
 | (tk,tv)::r,σ,H,Q=>tk σ H λ x H1=>tv σ H1 λ y H2=>lh r σ H2 λ ps H3=>Q ((x,y)::ps) H3
def yq (kvs more:List (Key×V)):List (Key×V):=more.foldl (λ acc kv=>putK acc kv.1 kv.2) kvs
def DG (trs:List (TE×TE)):TE:=λ σ H Q=>∀ p,H p=none->lh trs σ (upd H p (.dK [])) λ ps H2=>H2 p=some (.dK [])/\∃ kvs:List (Key×V),ps=kvs.map (λ kv=>(kV kv.1,kv.2))/\kvs.length<=15/\Q (.ref p) (upd H2 p (.dK (yq [] kvs)))
def IsD (H:Hp) (a:Addr):Prop:=(∃ kvs,Rd H a (.dK kvs))∨∃ kvs,Rd H a (.dT kvs)
section
variable {X:Cx} {pins:List (Addr×Obj)} {σ:St} {H:Hp} {s:Shared} {a:Addr} {y d:V} {u r:Value} {o:Option V} {A:Around} {E:Value->Shared->Prop}
end
def CA (td ty:TE):TE:=λ σ H Q=>td σ H λ x H1=>∃ a,x=.ref a/\IsD H1 a/\ty σ H1 λ y H2=>∃ kvs k v,H2 a=some (.dK kvs)/\y=kV k/\zS kvs k=some v/\Q v (upd H2 a (.dK (Az kvs k)))
section
variable {X:Cx} {o e f:Expr} {apos cpos:Pos} {td ty tx:TE}
end
section
variable {X:Cx} {pins:List (Addr×Obj)} {σ:St} {H:Hp} {s:Shared} {a:Addr} {kvs:List (Key×V)} {A:Around} {E:Value->Shared->Prop}
end
section
variable {X:Cx} {pins:List (Addr×Obj)} {σ:St} {H:Hp} {s:Shared} {a:Addr} {y:V} {u:Value} {A:Around} {E:Value->Shared->Prop}
end
section
variable {X:Cx}
end
section
variable {κ:Type} [DecidableEq κ]
theorem vB:∀ {l:List κ} {k:κ},l.Nodup->¬ k∈l->(l++[k]).Nodup
 | [],k,_,_=>by simp
 | a::r,k,h,hk=>by
  obtain ⟨h1,h2⟩:=List.nodup_cons.mp h
  show (a::(r++[k])).Nodup
  refine List.nodup_cons.mpr ⟨λ m=>?_,vB h2 λ m=>hk (List.mem_cons.mpr (Or.inr m))⟩
  rcases List.mem_append.mp m with q | q
  ·exact h1 q
  ·exact hk (List.mem_cons.mpr (Or.inl (List.mem_singleton.mp q).symm))
end
def tDC (nN:Nat) (fs:List (Nat×Nat)) (wi:TI) (g:TG) (tc:TT) (tk tv:TE):TE:=λ σ H Q=>wi σ H λ J H1=>∀ D,H1 D=none->∃ (n:Nat) (W:Nat->List (Key×V)->Hp->Prop),n<=sizeLine/\W 0 [] (upd H1 D (.dK [])) /\
 ∀ i ys H2,i<=n->W i ys H2->H2 D=some (.dK ys)->(J.stop i H2/\Q (.ref D) H2)∨(i<n/\J.go i H2/\∀ x H3,J.yld i H2 x H3->g x (tau nN fs σ) H3 λ τ4 H4=>
  (∀ (j:Nat) v,(tau nN fs σ)[j]?=some (some v)->τ4[j]?=some (some v))/\tc τ4 H4 λ b H5=>
   if b=true then tk τ4 H5 λ y H6=>tv τ4 H6 λ v H7=>∃ k:Key,y=kV k/\H7 D=some (.dK ys)/\W (i+1) (putK ys k v) (upd H7 D (.dK (putK ys k v))) else H5 D=some (.dK ys)/\W (i+1) ys H5)
section
variable {X:Cx} {scope:Scope} {N:List Str} {fs:List (Nat×Nat)} {tg kx vx iter:Expr} {ifs:List Expr} {pos cpos:Pos} {wi:TI} {g:TG} {tc:TT} {tk tv:TE}
end
theorem FJ {nN:Nat} {fs:List (Nat×Nat)} {wi:TI} {g:TG} {tc:TT} {tk tv:TE} {σ:St} {H:Hp} {Q:VK} (q:wi σ H λ J H1=>∀ D,H1 D=none->∃ (n:Nat) (W:Nat->List (Key×V)->Hp->Prop),n<=sizeLine/\W 0 [] (upd H1 D (.dK [])) /\
 ∀ i ys H2,i<=n->W i ys H2->H2 D=some (.dK ys)->(J.stop i H2/\Q (.ref D) H2)∨(i<n/\J.go i H2/\∀ x H3,J.yld i H2 x H3->g x (tau nN fs σ) H3 λ τ4 H4=>
  (∀ (j:Nat) v,(tau nN fs σ)[j]?=some (some v)->τ4[j]?=some (some v))/\tc τ4 H4 λ b H5=>
   if b=true then tk τ4 H5 λ y H6=>tv τ4 H6 λ v H7=>∃ k:Key,y=kV k/\H7 D=some (.dK ys)/\W (i+1) (putK ys k v) (upd H7 D (.dK (putK ys k v))) else H5 D=some (.dK ys)/\W (i+1) ys H5)):tDC nN fs wi g tc tk tv σ H Q:=q
section
variable {X:Cx}
end
section
variable {σ:St} {H:Hp} {Q:VK} {td ty tv:TE} {nx:St->Hp->Prop} {rt:VK} {bk ct:St->Hp->Prop}
theorem Ck (q:td σ H λ x H1=>ty σ H1 λ y H2=>∃ a v,x=.ref a/\zF H2 a y (some v)/\Q v H2):E8 td ty σ H Q:=q
theorem BP (q:tv σ H λ v H1=>td σ H1 λ x H2=>ty σ H2 λ y H3=>∃ a H4,x=.ref a/\EC H3 a y v H4/\nx σ H4):Eh td ty tv ⟨nx,rt,bk,ct⟩ σ H:=q
theorem CQ (q:∀ p,H p=none->Q (.ref p) (upd H p (.dK []))):BK σ H Q:=q
theorem CJ {trs:List (TE×TE)} (q:∀ p,H p=none->lh trs σ (upd H p (.dK [])) λ ps H2=>H2 p=some (.dK [])/\∃ kvs:List (Key×V),ps=kvs.map (λ kv=>(kV kv.1,kv.2))/\kvs.length<=15/\Q (.ref p) (upd H2 p (.dK (yq [] kvs)))):DG trs σ H Q:=q
theorem Eb {tk:TE} {r:List (TE×TE)} {R:List (V×V)->Hp->Prop} (q:tk σ H λ x H1=>tv σ H1 λ y H2=>lh r σ H2 λ ps H3=>R ((x,y)::ps) H3):lh ((tk,tv)::r) σ H R:=q
theorem EV {R:List (V×V)->Hp->Prop} (q:R [] H):lh [] σ H R:=q
end
end L2
local macro_rules | `(tactic| array_get_dec) => `(tactic| first | with_reducible refine L2.FJ ?_ | with_reducible refine L2.Ck ?_ | with_reducible refine L2.BP ?_ | with_reducible refine L2.CQ ?_ | with_reducible refine L2.CJ ?_ | with_reducible refine L2.Eb ?_ | with_reducible refine L2.EV ?_)
namespace L2
open PySem PySem.Spec PyProof.Rows
theorem lq {α:Type} [DecidableEq α]:∀ {l m:List α},l.Nodup->(∀ x∈l,x∈m)->l.length<=m.length
 | [],_,_,_=>Nat.zero_le _
 | a::l,m,nd,h=>by
  obtain ⟨n1,n2⟩:=List.nodup_cons.mp nd
  have ha:=h a List.mem_cons_self
  have:=lq (m:=m.erase a) n2 λ x hx=>(List.mem_erase_of_ne (show x≠a from λ e=>n1 (by rw [<- e];exact hx))).mpr (h x (List.mem_cons_of_mem _ hx))
  rw [List.length_erase_of_mem ha] at this
  have hp:=List.length_pos_of_mem ha
  rw [List.length_cons]
  omega
theorem xw {v:V} (h:dw v=true):eqV v v=true:=by
 cases v with
 | non=>rfl
 | bl b=>exact beq_self_eq_true b
 | int i=>exact beq_self_eq_true i
 | str x=>exact beq_self_eq_true x
 | _=>cases h
section
variable {X:Cx}
end
section
variable {X:Cx}
theorem vN:eg X (.type "int") (λ xs H Q=>∃ b,xs=[.bl b]/\Q (.int (if b then 1 else 0)) H):=by
 intro pins s σ H xs us Q I r h
 obtain ⟨b,rfl,q⟩:=h
 obtain ⟨u,rfl,rx⟩:=vals1 r
 cases rx
 exact PySem.call_int_bool ⟨.int _,H,I.tok _,⟨_,rfl⟩,q⟩
theorem o7:∀ {ys:List Str} {us:List Value},StrsAre us ys->Vals (ys.map V.str) us
 | [],[],_=>.nil
 | y::ys,_::us,h=>by
  cases h with
  | cons _ t b=>exact .cons ⟨t,rfl⟩ (o7 b)
end
theorem zr {P:Program} {w:World} {K:PySem.W.Frag} {es:List Expr} {k1:Nat} {pos:Pos} {J:It} {it:Addr} {wr:List Addr} {own:Nat->Heap->Prop} (hit:it∈wr)
  (hobj:∀ i h,own i h->∀ b∈wr,∃ o,h.get? b=some o/\∀ v,o.data≠.cell v) (hkeep:∀ i h h',own i h->(∀ b∈wr,∀ o,h.get? b=some o->h'.get? b=some o)->own i h')
  (hself:∀ (A:Around) (i:Nat) (s:Shared) (Q:Value->Shared->Prop) (E:Value->Shared->Prop),own i s.heap->Q (.ref it) s->wpAny (model P w) A (pyIter (.ref it)) Q E s)
  (hgo:∀ (X:Cx),X.prog=P->X.w=w->X.K=K->X.A.handled=none->∀ (i:Nat) (pins:List (Addr×Obj)) (s:Shared) (σ:St) (H:Hp),Inv X pins σ H s->own i s.heap->J.go i H ->
   ∃ (n:Nat) (fp:List Addr) (Pt:Nat->Array Value->Prop) (src:Heap->Prop) (Mid:Nat->Addr->Heap->Prop),WalksT P w X.A it fp wr n Pt (λ i h=>own i h/\src h) Mid/\i<n/\src s.heap /\
    ∀ vals,Pt i vals->∃ xs:List V,Vals xs vals.toList/\xs.length<=sizeLine/\∀ T,H T=none->J.yld i H (.ref T) (upd H T (.tup xs)))
  (hstop:∀ (X:Cx),X.prog=P->X.w=w->X.K=K->X.A.handled=none->∀ (i:Nat) (pins:List (Addr×Obj)) (s:Shared) (σ:St) (H:Hp),Inv X pins σ H s->own i s.heap->J.stop i H ->
   ∃ (fp:List Addr) (Pt:Nat->Array Value->Prop) (src:Heap->Prop) (Mid:Nat->Addr->Heap->Prop),WalksT P w X.A it fp wr i Pt (λ i h=>own i h/\src h) Mid/\src s.heap):
  Turn P w K (.Tuple es k1 pos) J wr it own where
 mem:=hit
 obj:=hobj
 keep:=hkeep
 self:=hself
 item:=by
  intro X hP hw hK hc i pins s σ H E I hf st hg
  obtain ⟨n,fp,Pt,src,Mid,W,hi,hs,hy⟩:=hgo X hP hw hK (I.ok.hd hc) i pins s σ H I st hg
  subst hP hw hK
  refine W.item i s _ _ hi ⟨st,hs⟩ λ T vals h1 tk hPt hT hTup hMid k1'=>⟨_,rfl,?_⟩
  obtain ⟨xs,rx,lx,yl⟩:=hy vals hPt
  refine W.go es _ _ i T _ _ _ hMid λ h2 hst2 k2=>?_
  have apart:=W.apart _ _ _ hMid
  have kp:∀ c o,c ∉ wr->s.heap.get? c=some o->h2.get? c=some o:=λ c o hcn e=>k2 c o hcn (k1' c o hcn e)
  have nit:∀ b u,H b=some u->b ∉ wr:=λ b u e m=>by
   rw [(hf b m).1] at e
   cases e
  have I1:Inv X pins σ H { s with heap:=h2,toks:=tk }:=by
   refine I.step (g':=s.gens) (d':=s.drawn) (ch:=wr) (λ b hb=>let ⟨_,y1,y2,y3,y4,y5⟩:=hf b hb;⟨y3,y1,y4,y5⟩) (λ b o _ _ hcn e _=>kp b o hcn e) (λ b o _ _ hcn e _=>⟨o.slots,kp b o hcn e⟩) (λ _ _ _ _ n=>n)
    (λ b o hcn e=>?_) (λ _ _ e=>e) (λ _ _ _ e=>e) (λ b ps e=>⟨#[],by rw [e];simp⟩) (λ m hm=>?_) (λ b u e=>?_) I.bare
   ·exact ⟨o,kp b o hcn e⟩
   ·obtain ⟨o,es,ep,ho,r⟩:=hm
    exact ⟨o,es,ep,kp _ o (λ m=>(hf _ m).2.1 rfl) ho,r⟩
   ·refine (I.hok b u e).cK (λ c v hc' q=>kp c v ?_ q) (λ _ q=>q) λ _ _ q=>q
    rcases hc' with y | y
    ·rw [y];exact nit b u e
    ·exact nit c _ y
  have hHT:H T=none:=I.hok.fresh hT
  obtain ⟨oT,gT,cT,nT,dT⟩:=hTup
  have I2:Inv X pins σ (upd H T (.tup xs)) { s with heap:=h2,toks:=tk }:=by
   refine I1.wN hHT ?_ (λ z=>?_) (λ y c e z=>?_) (λ p hp z=>?_) ⟨lx,vals.toList,rx,⟨oT,k2 T oT apart gT,cT,nT,by rw [dT,Array.toArray_toList]⟩⟩
   ·cases q:X.s₀.heap.get? T with
    | none=>rfl
    | some o=>exact absurd (Nat.lt_of_lt_of_le (Heap.lt_size q) (Nat.le_trans I.sz hT)) (Nat.lt_irrefl _)
   ·exact absurd (Nat.lt_of_lt_of_le I.lt hT) (by rw [z];exact Nat.lt_irrefl _)
   ·obtain ⟨w,o,ho,_⟩:=I.cell y c e
    exact absurd (Nat.lt_of_lt_of_le (Heap.lt_size ho) hT) (by rw [z];exact Nat.lt_irrefl _)
   ·exact absurd (Nat.lt_of_lt_of_le (Heap.lt_size (I.pin p hp).1) hT) (by rw [z];exact Nat.lt_irrefl _)
  refine ⟨.ref T,_,I2,rfl,yl T hHT,hst2.1,λ b hb=>?_⟩
  rw [aq (λ z=>apart (by rw [<- z];exact hb))]
  exact (hf b hb).1
 done:=by
  intro X hP hw hK hc i pins s σ H E I hf st hg
  obtain ⟨fp,Pt,src,Mid,W,hs⟩:=hstop X hP hw hK (I.ok.hd hc) i pins s σ H I st hg
  subst hP hw hK
  refine W.done s _ _ ⟨st,hs⟩ λ h1 tk k1'=>⟨rfl,?_⟩
  have nit:∀ b u,H b=some u->b ∉ wr:=λ b u e m=>by
   rw [(hf b m).1] at e
   cases e
  refine I.step (g':=s.gens) (d':=s.drawn) (ch:=wr) (λ b hb=>let ⟨_,y1,y2,y3,y4,y5⟩:=hf b hb;⟨y3,y1,y4,y5⟩) (λ b o _ _ hcn e _=>k1' b o hcn e) (λ b o _ _ hcn e _=>⟨o.slots,k1' b o hcn e⟩) (λ _ _ _ _ n=>n)
   (λ b o hcn e=>⟨o,k1' b o hcn e⟩) (λ _ _ e=>e) (λ _ _ _ e=>e) (λ b ps e=>⟨#[],by rw [e];simp⟩) (λ m hm=>?_) (λ b u e=>?_) I.bare
  ·obtain ⟨o,es,ep,ho,r⟩:=hm
   exact ⟨o,es,ep,k1' _ o (λ m=>(hf _ m).2.1 rfl) ho,r⟩
  ·refine (I.hok b u e).cK (λ c v hc' q=>k1' c v ?_ q) (λ _ q=>q) λ _ _ q=>q
   rcases hc' with y | y
   ·rw [y];exact nit b u e
   ·exact nit c _ y
def Ite (K:PySem.W.Frag) (a:Addr):It:=⟨λ i H=>∃ xs x,SqL K H a xs/\xs[i]?=some x,
 λ i H v H'=>∃ p,H p=none/\v=.ref p/\∃ x,H'=upd H p (.tup [.int i,x])/\∀ xs,SqL K H a xs->xs[i]?=some x,
 λ i H=>∃ xs,SqL K H a xs/\xs.length=i⟩
theorem wH {P:Program} {w:World} {K:PySem.W.Frag} {es:List Expr} {k1:Nat} {pos:Pos} (e it l:Addr) (hei:e≠it):
  Turn P w K (.Tuple es k1 pos) (Ite K l) [e,it] e (λ i h=>(∃ old,IsEnum h e it i old)/\h.IsListIter it l i):=by
 have apart:∀ {i:Nat} {s:Shared} {items:Array Value},((∃ old,IsEnum s.heap e it i old)/\s.heap.IsListIter it l i)->s.heap.IsList l items->l≠e/\l≠it:=λ {i s items} st hl=>by
  obtain ⟨⟨old,h1⟩,h2⟩:=st
  obtain ⟨o,ho,hcl,_⟩:=hl
  refine ⟨?_,?_⟩
  ·rintro rfl
   rw [h1] at ho;cases ho;exact absurd hcl (by simp)
  ·rintro rfl
   obtain ⟨o',e',c',_⟩:=h2
   rw [e'] at ho;cases ho;rw [c'] at hcl;exact absurd hcl (by simp)
 have walk:∀ {A:Around},A.handled=none->l≠e->l≠it->∀ items:Array Value,WalksT P w A e [e,it,l] [e,it] items.size (λ i vals=>∃ t x,items[i]?=some x/\vals=#[.int i t,x])
   (λ i h=>((∃ old,IsEnum h e it i old)/\h.IsListIter it l i)/\h.IsList l items) (λ i T h=>(∃ x,IsEnumOut h e it ((i:Int)+1) x T)/\h.IsListIter it l (i+1)/\h.IsList l items/\T≠e/\T≠it):=λ {A} hh n1 n2 items=>by
  have W:=WalksT.enumerate (prog:=P) (w:=w) (A:=A) hh e it l hei n1 n2 items
  exact ⟨W.sub,λ i h h' st k=>let ⟨a,b,c⟩:=W.frame i h h' ⟨st.1.1,st.1.2,st.2⟩ k;⟨⟨a,b⟩,c⟩,λ i s Q E hi st h=>W.item i s Q E hi ⟨st.1.1,st.1.2,st.2⟩ h,
   λ elts k pos i T s Q E hm h=>W.go elts k pos i T s Q E hm λ h' st=>h h' ⟨⟨st.1,st.2.1⟩,st.2.2⟩,W.apart,λ s Q E st h=>W.done s Q E ⟨st.1.1,st.1.2,st.2⟩ h,λ i s Q E st h=>W.self i s Q E ⟨st.1.1,st.1.2,st.2⟩ h⟩
 refine zr (by simp) (λ i h st b hb=>?_) (λ i h h' st k=>?_) (λ A i s Q E st h=>?_) (λ X hP hw hK hh i pins s σ H I st hg=>?_) (λ X hP hw hK hh i pins s σ H I st hg=>?_)
 ·obtain ⟨⟨old,h1⟩,h2⟩:=st
  rcases List.mem_cons.mp hb with rfl | hb
  ·exact ⟨_,h1,λ v e=>nomatch (show Data.fields _=Data.cell v from e)⟩
  ·have hb:b=it:=by simpa using hb
   subst hb
   obtain ⟨o,e',c,d⟩:=h2
   exact ⟨o,e',λ v z=>by rw [d] at z;cases z⟩
 ·obtain ⟨⟨old,h1⟩,h2⟩:=st
  exact ⟨⟨old,k _ (by simp) _ h1⟩,h2.at λ o e'=>k _ (by simp) o e'⟩
 ·obtain ⟨⟨old,h1⟩,h2⟩:=st
  exact wpAny_pyIter_enum h1 h
 ·obtain ⟨xs,x,q,ex⟩:=hg
  subst hK
  obtain ⟨us,rv,p,hz⟩:=I.list q
  obtain ⟨u,hu,ru⟩:=rv.get ex
  have hl:=p.isList
  obtain ⟨n1,n2⟩:=apart st hl
  have hlt:i<us.length:=(List.getElem?_eq_some_iff.mp hu).1
  refine ⟨us.toArray.size,_,_,_,_,walk hh n1 n2 us.toArray,by simpa using hlt,hl,λ vals hv=>?_⟩
  obtain ⟨t,y,hy,rfl⟩:=hv
  have:y=u:=by
   have e1:us.toArray[i]?=some u:=by simpa using hu
   rw [e1] at hy
   exact (Option.some.inj hy).symm
  subst this
  exact ⟨[.int i,x],.cons ⟨t,rfl⟩ (.cons ru .nil),(show 2<=sizeLine by decide),λ T hT=>⟨T,hT,rfl,x,rfl,λ xs' h'=>by rw [I.jX h' q];exact ex⟩⟩
 ·obtain ⟨xs,q,ex⟩:=hg
  subst hK
  obtain ⟨us,rv,p,hz⟩:=I.list q
  have hl:=p.isList
  obtain ⟨n1,n2⟩:=apart st hl
  have en:us.toArray.size=i:=by have:=rv.length;simp;omega
  have W:=walk (A:=X.A) hh n1 n2 us.toArray
  rw [en] at W
  exact ⟨_,_,_,_,W,hl⟩
section
variable {X:Cx}
def Ax (K:PySem.W.Frag) (ta:TA):TI:=λ σ H R=>ta σ H λ vs H1=>∃ a,vs=[.ref a]/\(∃ xs,SqL K H1 a xs)/\R (Ite K a) H1
theorem qi {es:List Expr} {k1:Nat} {tpos:Pos} {a:Expr} {ta:TA} {p pos:Pos} (hg:Gl X "enumerate") (hm:X.mg "enumerate"=none) (hv:bootBuiltins "enumerate"=some (.type "enumerate")) (ha:PA X [a] ta)
  (hs:starEach [a] X.env=[(false,eval a X.env)]:=by rfl):PI X (.Tuple es k1 tpos) (.Call (.Name "enumerate" p) [a] [] pos) (Ax X.K ta):=by
 intro pins s σ H R I h
 refine Call_ (iE I hg hm hv (PyProof.Rows.callWith_type1 (thn (ha pos pins s σ H _ I h) λ us s1 ⟨vs,H1,I1,r1,q1⟩=>?_) (by rw [hs];rfl) (by rfl)))
 obtain ⟨l,e,⟨xs,q1⟩,q⟩:=q1
 subst e
 obtain ⟨u,rfl,ru⟩:=vals1 r1
 cases ru
 obtain ⟨us,_,p1,_⟩:=I1.list q1
 refine call_enumerate_list p1.isList λ h' g1 g2 g3 kk=>wpAny_pyIter_enum g1 ?_
 have I2:Inv X pins σ H1 { s1 with heap:=h',toks:=s1.toks }:=I1.kept kk
 refine ⟨_,[s1.heap.objs.size+1,s1.heap.objs.size],_,_,H1,rfl,I2,wH (s1.heap.objs.size+1) s1.heap.objs.size l (by show (_:Nat)≠_;omega),⟨⟨_,g1⟩,g2⟩,λ b hb=>?_,q⟩
 have hb':s1.heap.objs.size<=b:=by
  simp only [List.mem_cons,List.not_mem_nil,or_false] at hb
  rcases hb with h | h <;> (rw [h];first | exact Nat.le_refl _ | exact Nat.le_add_right _ _)
 exact I1.oH hb' (I1.hok.fresh hb')
end
section
variable {X:Cx} {pins:List (Addr×Obj)} {σ:St} {H:Hp} {s:Shared}
def EG (t:TS):TS:=λ D σ H=>∃ d kvs,H d=some (.dK kvs)/\t ⟨λ σ' H'=>∃ ob,H' d=some (.frz ob (.dK kvs))/\D.nx σ' (upd H' d (.dK kvs)),λ _ _=>False,λ _ _=>False,λ _ _=>False⟩ σ H
end
def Iti (d:Addr) (ob:Obj) (kvs:List (Key×V)):It:=⟨λ i H=>H d=some (.frz ob (.dK kvs))/\i<kvs.length,
 λ i H v H'=>∃ p k x,H p=none/\v=.ref p/\kvs[i]?=some (k,x)/\H'=upd H p (.tup [kV k,x]),
 λ i H=>H d=some (.frz ob (.dK kvs))/\i=kvs.length⟩
section
variable {X:Cx}
def Bo (td:TE):TI:=λ σ H R=>td σ H λ x H1=>∃ d kvs,x=.ref d/\H1 d=some (.dK kvs)/\∀ ob,R (Iti d ob kvs) (upd H1 d (.frz ob (.dK kvs)))
end
end L2
namespace PySem
theorem SetTable.xX {mask finger moves:Nat} {led plain:Bool} {hs:Array Int} {t:SetTable} {o:Array Nat} (h:SetTable.laid mask finger moves led plain hs=some (t,o)):t.led=led/\t.plain=plain:=by
 unfold SetTable.laid at h
 cases e:SetTable.layClean mask hs with
 | none=>rw [e] at h;cases h
 | some ow=>
  rw [e] at h
  have h:=Option.some.inj h
  have h:=(Prod.mk.inj h).1
  subst h
  exact ⟨rfl,rfl⟩
def TX (w:World) (es:Array (Int×Value)) (t:SetTable):Prop:=t.led=!(w.params.followText "set-order")/\∀ e∈es.toList,plainKind e.2=false->t.plain=false
def nh (w:World) (a:Addr) (h:Heap):Prop:=∃ o es ep t,h.get? a=some o/\o.data=.set es ep t/\TX w es t
theorem nh.keeps {w:World} {a:Addr} {h h':Heap} (x:nh w a h) (k:∀ o,h.get? a=some o->h'.get? a=some o):nh w a h':=by
 obtain ⟨o,es,ep,t,ho,r⟩:=x
 exact ⟨o,es,ep,t,k _ ho,r⟩
theorem yo {w:World} {es:Array (Int×Value)} {t:SetTable} {wanted:Nat} (h:TX w es t):TX w (relayAll t es wanted).1 (relayAll t es wanted).2.1:=by
 have hp:=relayAll_perm t es wanted
 unfold relayAll at hp ⊢
 split
 ·rename_i t' order e
  obtain ⟨e1,e2⟩:=SetTable.xX e
  rw [e] at hp
  dsimp only at hp ⊢
  split
  ·rename_i hc
   rw [if_pos hc] at hp
   exact ⟨e1.trans h.1,λ x hx k=>e2.trans (h.2 x (hp.mem_iff.mp hx) k)⟩
  ·exact ⟨h.1,λ _ _ _=>rfl⟩
 ·exact ⟨h.1,λ _ _ _=>rfl⟩
theorem Ca {w:World} {es:Array (Int×Value)} {t:SetTable} {h:Int} {x:Value} (tx:TX w es t):
  ((plainKind x=false->(layNew t es h x).2.1.plain=false)->TX w (layNew t es h x).1 (layNew t es h x).2.1)/\(layNew t es h x).2.1.led=!(w.params.followText "set-order")/\((layNew t es h x).2.1.plain=false∨(layNew t es h x).2.1.plain=t.plain):=by
 have hp:=layNew_perm t es h x
 have hl:(layNew t es h x).2.1.led=!(w.params.followText "set-order")/\((layNew t es h x).2.1.plain=false∨(layNew t es h x).2.1.plain=t.plain):=by
  unfold layNew
  split
  ·dsimp only
   unfold SetTable.orStandIn
   split
   ·exact ⟨tx.1,.inr rfl⟩
   ·exact ⟨tx.1,.inl rfl⟩
  ·exact ⟨tx.1,.inl rfl⟩
 refine ⟨λ k=>⟨hl.1,λ e he ke=>?_⟩,hl⟩
 rw [Array.toList_push] at hp
 rcases List.mem_append.mp (hp.mem_iff.mp he) with he | he
 ·rcases hl.2 with z | z
  ·exact z
  ·rw [z];exact tx.2 e he ke
 ·rw [List.mem_singleton] at he;subst he
  exact k ke
section
variable {prog:Program} {w:World} {K:Type} [DecidableEq K] {knd:KeyKind prog w K} {A:Around} {E:Value->Shared->Prop} {s:Shared}
theorem rF {g:Bool->Sem Unit} (hg:∀ (b:Bool) (s₁:Shared) (Q':Unit->Shared->Prop),Q' () s₁->wpAny (model prog w) A (g b) Q' E s₁)
  {a:Addr} {o:Obj} {es:Array (Int×Value)} {ep:Nat} {t:SetTable} (ho:s.heap.get? a=some o) (hex:o.ExactSet) (hd:o.data=.set es ep t)
  {es1:Array (Int×Value)} {t2:SetTable} {S':K->Bool} (hel1:ElemsOf knd es1.toList) (hmem1:∀ k',S' k'=true↔∃ e∈es1.toList,knd.is k' e.2=true)
  (hx1:TX w es1 t2) (hb1:es1.size<scanBound) (hf2:t2.fits es1.size=true) {wasDummy:Bool} {R:Option Bool->Shared->Prop}
  (h:∀ h',Heap.SameBut a s.heap h'->h'.SetOf knd a S' es1.size->nh w a h'->R (some true) { s with heap:=h' }):
  wpAny (model prog w) A (do
    storeSet a es1 t2
    if (!wasDummy&&t2.tooFull)=true then do
      g (relayAll t2 es1 (SetTable.grown es1.size)).2.2
      storeSet a (relayAll t2 es1 (SetTable.grown es1.size)).1 (relayAll t2 es1 (SetTable.grown es1.size)).2.1
      pure (some true)
     else pure (some true)) R E s:=by
 refine wpAny_bind (wpAny_storeSet_of ho hd ?_ (fits_of_scanBound hb1))
 obtain ⟨ho1,hS1⟩:=SetOf_store (knd:=knd) ho hex hd hel1 hmem1 hb1 hf2
 have hsb1:=Heap.SameBut.update s.heap a (Obj.putSet es1 t2)
 split
 ·
  have hp:=relayAll_perm t2 es1 (SetTable.grown es1.size)
  have hx2:=yo (wanted:=SetTable.grown es1.size) hx1
  have hfr:=relayAll_fits t2 es1 (SetTable.grown es1.size)
  generalize hRl:relayAll t2 es1 (SetTable.grown es1.size)=Rl at hp hx2 hfr ⊢
  obtain ⟨es2,t3,gave2⟩:=Rl
  dsimp only at hp hx2 hfr ⊢
  have hel2:ElemsOf knd es2.toList:=hel1.perm hp
  have hmem2:∀ k',S' k'=true↔∃ e∈es2.toList,knd.is k' e.2=true:=λ k'=>(hmem1 k').trans ⟨λ ⟨e,he,q⟩=>⟨e,hp.mem_iff.mpr he,q⟩,λ ⟨e,he,q⟩=>⟨e,hp.mem_iff.mp he,q⟩⟩
  have hsz:es2.size=es1.size:=by rw [<- Array.length_toList,hp.length_eq,Array.length_toList]
  have hb2:es2.size<scanBound:=by rw [hsz];exact hb1
  refine wpAny_bind (hg _ _ _ ?_)
  refine wpAny_bind (wpAny_storeSet_of ho1 rfl ?_ (fits_of_scanBound hb2))
  obtain ⟨ho2,hS2⟩:=SetOf_store (knd:=knd) ho1 hex rfl hel2 hmem2 hb2 hfr
  rw [hsz] at hS2
  exact wpAny_pure (h _ (hsb1.trans (Heap.SameBut.update _ a _)) hS2 ⟨_,_,_,_,ho2,rfl,hx2⟩)
 ·exact wpAny_pure (h _ hsb1 hS1 ⟨_,_,_,_,ho1,rfl,hx1⟩)
theorem jf {a:Addr} {S:K->Bool} {n:Nat} {k:K} {x:Value} {Q:Bool->Shared->Prop} (hkey:knd.is k x=true) (hsc:x.scannable=true) (hS:s.heap.SetOf knd a S n) (hX:nh w a s.heap)
  (hroom:n+1<scanBound)
  (h:∀ h',Heap.SameBut a s.heap h'->h'.SetOf knd a (λ k'=>S k'||decide (k'=k)) (if S k then n else n+1)->nh w a h'->Q (!S k) { s with heap:=h' }):
  wpAny (model prog w) A (setAddHashed a x (knd.hash k)) Q E s:=by
 obtain ⟨o,es,ep,t,ho,hex,hd,hel,hmem,hb,hf,hn⟩:=hS
 have hX0:=hX
 obtain ⟨o0,es0,ep0,t0,ho0,hd0,tx⟩:=hX
 rw [ho] at ho0;cases ho0
 rw [hd] at hd0;cases hd0
 have hb1:es.size+1<scanBound:=by rw [hn];exact hroom
 unfold setAddHashed setAddHashedIn
 refine wpAny_holding (wpAny_bind (wpAny_setState_of ho hd hf ?_))
 dsimp only
 rw [byScan_of hsc hb hel]
 simp only [↓reduceIte]
 unfold setAddByScan
 refine wpAny_bind ?_
 refine wpAny_bind (wpAny_rule ?_)
 refine wpAny_bind (wpAny_setScan_of hkey ho hd hf hel ?_)
 cases hr:List.findIdx? (λ e=>knd.is k e.2) es.toList with
 | some j=>
  dsimp only
  obtain ⟨hj,hpj,_⟩:=List.findIdx?_eq_some_iff_getElem.mp hr
  have hSk:S k=true:=(hmem k).mpr ⟨es.toList[j],List.getElem_mem hj,hpj⟩
  refine wpAny_pure (wpAny_pure ?_)
  have e:s={ s with heap:=s.heap }:=by cases s;rfl
  have:=h s.heap (Heap.SameBut.refl a s.heap) ⟨o,es,ep,t,ho,hex,hd,hel,λ k'=>by
   rw [Bool.or_eq_true,decide_eq_true_eq,<- hmem k']
   exact ⟨λ hk=>hk.elim id (λ e=>e ▸ hSk),.inl⟩,hb,hf,by rw [hSk];exact hn⟩ hX0
  rw [hSk] at this;rw [e];exact this
 | none=>
  dsimp only
  have hSk:S k=false:=by
   cases hk:S k with
   | false=>rfl
   | true=>obtain ⟨e,he,hp⟩:=(hmem k).mp hk;have:=List.findIdx?_eq_none_iff.mp hr e he;rw [hp] at this;exact Bool.noConfusion this
  have hgw:∀ (b:Bool) {s₁:Shared} {Q':Unit->Shared->Prop},Q' () s₁->wpAny (model prog w) A (match b with | true=>rule "set.scan.the-table-gave-way" | false=>pure ()) Q' E s₁:=
   λ b s₁ Q' hq=>by cases b <;> first | exact wpAny_pure hq | exact wpAny_rule hq
  have hperm:=layNew_perm t es (knd.hash k) x
  have hfits:=layNew_fits t es (knd.hash k) x
  have hlay:=Ca (h:=knd.hash k) (x:=x) tx
  generalize hL:layNew t es (knd.hash k) x=L at hperm hfits hlay ⊢
  obtain ⟨es1,t1,wasDummy,gave⟩:=L
  dsimp only at hperm hfits hlay ⊢
  rw [Array.toList_push] at hperm
  have hel1:ElemsOf knd es1.toList:=(hel.push hkey hsc).perm hperm
  have hmem1:∀ k',(S k'||decide (k'=k))=true↔∃ e∈es1.toList,knd.is k' e.2=true:=mem_push_iff hkey hmem hperm
  have hb1':es1.size<scanBound:=by rw [<- Array.length_toList,hperm.length_eq,List.length_append,Array.length_toList];simpa using hb1
  refine wpAny_bind (hgw _ ?_)
  have hsz1:es1.size=n+1:=by rw [<- Array.length_toList,hperm.length_eq,List.length_append,Array.length_toList,hn];rfl
  have hend:∀ h',Heap.SameBut a s.heap h'->h'.SetOf knd a (λ k'=>S k'||decide (k'=k)) es1.size->nh w a h'->Q true { s with heap:=h' }:=by
   intro h' hsb hS' hX';have:=h h' hsb;rw [hSk] at this;rw [hsz1] at hS';exact this hS' hX'
  split
  ·refine wpAny_bind ?_
   rw [hashByValue_scannable 8 hsc]
   refine wpAny_pure ?_
   refine rF ?_ ho hex hd hel1 hmem1 ?_ hb1' ?_ ?_
   ·intro b s₁ Q' hq;cases b <;> first | exact wpAny_pure hq | exact wpAny_rule hq
   ·by_cases e:plainKind x=true
    ·rw [if_pos e];exact hlay.1 (λ z=>by rw [e] at z;cases z)
    ·rw [if_neg e];exact ⟨hlay.2.1,λ _ _ _=>rfl⟩
   ·split
    ·exact hfits
    ·exact SetTable.fits_plain_off hfits
   ·intro h' hsb hS' hX';dsimp only;exact wpAny_pure (hend h' hsb hS' hX')
  ·rename_i hpl
   refine wpAny_bind (wpAny_pure ?_)
   simp only [↓reduceIte]
   refine rF ?_ ho hex hd hel1 hmem1 ?_ hb1' hfits ?_
   ·intro b s₁ Q' hq;cases b <;> first | exact wpAny_pure hq | exact wpAny_rule hq
   ·exact ⟨hlay.2.1,λ _ _ _=>by simpa using hpl⟩
   ·intro h' hsb hS' hX';dsimp only;exact wpAny_pure (hend h' hsb hS' hX')
theorem vA {Q:Value->Shared->Prop}
  (h:∀ led:Bool,(led=!(w.params.followText "set-order"))->Q (.ref s.heap.objs.size) { s with heap:=s.heap.push { cls:=.type "set",dict:=none,data:=.set #[] 0 (.fresh 0 0 led) } }):
  wpAny (model prog w) A (newSet (.type "set")) Q E s:=by
 unfold newSet setsByText
 refine wpAny_bind (wpAny_bind (wpAny_askSetting (wpAny_pure ?_)))
 dsimp only
 simp only [newObj]
 exact wpAny_bind (wpAny_alloc (wpAny_pure (h _ rfl)))
theorem jq {a:Addr} {k:K} {key:Value} {S:K->Bool} {n:Nat} {Q:Value->Shared->Prop} (hkey:knd.is k key=true) (hsc:key.scannable=true) (hS:s.heap.SetOf knd a S n) (hX:nh w a s.heap) (hroom:n+1<scanBound)
  (h:∀ h',Heap.SameBut a s.heap h'->h'.SetOf knd a (λ k'=>S k'||decide (k'=k)) (if S k then n else n+1)->nh w a h'->Q .none { s with heap:=h',toks:=s.toks+1 }):
  wpAny (model prog w) A (call (.builtin "set.add") [.ref a,key]) Q E s:=by
 refine wpAny_call_entry F.slot_set_add hS.typeIs F.entry_set_add ?_ (F.args_set_add_2 _ _)
 unfold Builtin.«set.add» Builtin.Frozenset.oneOther
 simp only [List.isEmpty_nil,bind_assoc]
 unfold Builtin.Frozenset.addrOf setAdd
 refine wpAny_bind (wpAny_pure ?_)
 try dsimp only
 refine wpAny_bind (wpAny_pure ?_)
 try dsimp only
 refine wpAny_bind ?_
 refine wpAny_holding ?_
 refine wpAny_bind (knd.pyHash hkey ?_)
 refine jf (s:={ s with toks:=s.toks+1 }) hkey hsc hS hX hroom λ h' hsb hS' hX'=>?_
 show wpAny _ _ (ret Value.none) _ _ _
 exact wpAny_pure ⟨_,rfl,h h' hsb hS' hX'⟩
end
end PySem
namespace PyProof.Rows
open PySem PySem.Spec
section
variable {prog:Program} {w:World} {A:Around} {E:Value->Shared->Prop} {s:Shared}
theorem oG (a:Value) {Q₁:Value->Shared->Prop}
  (h:∀ led:Bool,(led=!(w.params.followText "set-order"))->Q₁ (.ref s.heap.objs.size) { s with heap:=s.heap.push { cls:=.type "set",dict:=none,data:=.set #[] 0 (.fresh 0 0 led) } }):
  codeAny (model prog w) A (.call (.builtin "set.__new__") ⟨[.type "set",a],[]⟩) (wants Q₁ E) s:=by
 refine codeAny_of_tree ?_
 show wpAny _ A.in1 (do checkBuiltinCall "set.__new__" ⟨[.type "set",a],[]⟩;again (.builtin "set.__new__" ⟨[.type "set",a],[]⟩)) _ _ s
 refine wpAny_bind (wpAny_of_eq (F.newCall_set_1 a) (wpAny_pure ⟨plainId_quiet F.plain_set_new _,codeAny_builtin F.entry_set_new ?_⟩))
 rw [Around.under_plainId F.plain_set_new _]
 unfold Builtin.«set.__new__» Builtin.Frozenset.newClass
 have hsub:=sub_set_self
 obtain ⟨hp,g,d,tk,os⟩:=s
 dsimp only
 wp_walk
 refine wpAny_askSetting (wpAny_pure ?_)
 dsimp only
 simp only [newObj]
 refine wpAny_bind (wpAny_alloc (wpAny_pure ?_))
 exact wpAny_pure (h _ rfl)
end
end PyProof.Rows
namespace L2
open PySem PySem.Spec PyProof.Rows
instance BR (k:Key):(L:List Key)->Decidable (k∈L)
 | []=>.isFalse (by simp)
 | a::r=>
  if h:k=a then .isTrue (by rw [h];exact .head _)
  else match BR k r with
   | .isTrue z=>.isTrue (.tail _ z)
   | .isFalse z=>.isFalse (by intro q;rcases List.mem_cons.mp q with e | e;exact h e;exact z e)
def eo (L:List Key) (k:Key):List Key:=if k∈L then L else L++[k]
def cU (ks:List Key):List Key:=ks.foldl eo []
theorem iW (ks:List Key) (k:Key):cU (ks++[k])=eo (cU ks) k:=by unfold cU;rw [List.foldl_append];rfl
theorem qV {L:List Key} {k j:Key}:j∈eo L k↔j∈L∨j=k:=by
 unfold eo
 split
 ·rename_i h;exact ⟨.inl,λ z=>z.elim id λ e=>e ▸ h⟩
 ·simp
theorem Ac {L:List Key} {k:Key} (h:L.Nodup):(eo L k).Nodup:=by
 unfold eo
 split
 ·exact h
 ·rename_i hk;exact vB h hk
theorem nA {L:List Key} {k:Key}:(eo L k).length=if decide (k∈L)=true then L.length else L.length+1:=by
 unfold eo
 by_cases h:k∈L
 ·rw [if_pos h,if_pos (decide_eq_true h)]
 ·rw [if_neg h,if_neg (by simpa using h),List.length_append];rfl
theorem oo {C:List Key->List Key->Prop} (h0:C [] []) (hs:∀ ks k L,C ks L->C (ks++[k]) (eo L k)) (ks:List Key):C ks (cU ks):=by
 have:∀ n,∀ ks:List Key,ks.length=n->C ks (cU ks):=by
  intro n
  induction n with
  | zero=>intro ks e;cases ks with
   | nil=>exact h0
   | cons a b=>cases e
  | succ n ih=>
   intro ks e
   have hne:ks≠[]:=by intro z;rw [z] at e;cases e
   rw [<- List.dropLast_concat_getLast hne,iW]
   exact hs _ _ _ (ih _ (by rw [List.length_dropLast,e];rfl))
 exact this _ ks rfl
theorem jY {ks:List Key} {j:Key}:j∈cU ks↔j∈ks:=oo (C:=λ ks L=>j∈L↔j∈ks) (by simp) (λ ks k L h=>by rw [qV,h];simp) ks
theorem u7 (ks:List Key):(cU ks).Nodup:=oo (C:=λ _ L=>L.Nodup) List.nodup_nil (λ _ _ _ h=>Ac h) ks
theorem gb (ks:List Key):(cU ks).length<=ks.length:=oo (C:=λ ks L=>L.length<=ks.length) (Nat.le_refl _) (λ ks k L h=>by rw [nA,List.length_append];split <;> simp <;> omega) ks
theorem zU {ks:List Key} (h:ks.Nodup):(cU ks).length=ks.length:=
 Nat.le_antisymm (gb ks) (lq h λ x hx=>jY.mpr hx)
section
variable {P:Program} {w:World}
def cF (P:Program) (w:World) (a:Addr) (L:List Key) (h:Heap):Prop:=h.SetOf (cE P w) a (λ k=>decide (k∈L)) L.length/\nh w a h
def bb (P:Program) (w:World) (a:Addr) (L:List Key):HO:=.ext (cF P w a L)
theorem cF.keeps {a:Addr} {L:List Key} {h h':Heap} (x:cF P w a L h) (k:∀ o,h.get? a=some o->h'.get? a=some o):cF P w a L h':=by
 obtain ⟨⟨o,es,ep,t,ho,r⟩,x2⟩:=x
 exact ⟨⟨o,es,ep,t,k _ ho,r⟩,x2.keeps k⟩
theorem cF.ok {H:Hp} {a:Addr} {L:List Key} {h:Heap} (x:cF P w a L h):b5 P w H h a (bb P w a L):=by
 refine ⟨x,?_,λ h1 h2 y k=>y.keeps k⟩
 obtain ⟨⟨o,es,ep,t,ho,r⟩,_⟩:=x
 exact ⟨o,ho⟩
theorem cF.add {a:Addr} {L:List Key} {h:Heap} {k:Key} (x:h.SetOf (cE P w) a (λ k'=>decide (k'∈L)||decide (k'=k)) (if decide (k∈L)=true then L.length else L.length+1)) (x2:nh w a h):cF P w a (eo L k) h:=by
 unfold cF
 refine ⟨?_,x2⟩
 rw [nA]
 refine Eq.mp (congrArg (λ S=>h.SetOf (cE P w) a S _) (funext λ j=>?_)) x
 show (decide (j∈L)||decide (j=k))=decide (j∈eo L k)
 rw [<- Bool.decide_or]
 exact decide_eq_decide.mpr qV.symm
theorem ou {k:Key} {v:Value} (h:fX k v=true):v.scannable=true:=by
 rcases bg h with ⟨i,t,rfl,rfl⟩ | ⟨i,t,rfl,rfl⟩ <;> rfl
end
section
variable {P:Program} {w:World} {A:Around} {R:Result->Shared->Prop} {I:Addr} {fp wr:List Addr} {G:Array GenState->Array GenState->Prop} {n:Nat} {Pv:Nat->Value->Prop} {St:Nat->Shared->Prop}
theorem wA (W:WalksS P w A.in1 I fp wr G n Pv St) (D:Addr) (hD:D ∉ fp) (ks:List Key) (hn:ks.length=n) (hv:∀ i v,Pv i v->∃ k,ks[i]?=some k/\fX k v=true) (hb:n+1<scanBound):
  ∀ (m i:Nat) (s:Shared),n - i=m->i<=n->St i s->cF P w D (cU (ks.take i)) s.heap->(∀ s',Moved (D::wr) G s s'->cF P w D (cU ks) s'.heap->R (.ok (.ret .none)) s') ->
   codeAny (model P w) A (.builtin "set.update.loop" ⟨[.ref D,.ref I],[]⟩) R s:=by
 have nw:D ∉ wr:=λ z=>hD (W.sub _ z)
 have up:∀ b∈wr,b∈D::wr:=λ b z=>.tail _ z
 intro m
 induction m with
 | zero=>
  intro i s e1 e2 st S k
  obtain rfl:i=n:=by omega
  refine codeAny_builtin PyProof.Rows.F.entry_set_update_loop ?_
  rw [Around.under_plainId PyProof.Rows.F.plain_set_update_loop _]
  show wpAny _ A.in1 (pyNext (.ref I) >>= _) _ _ s
  refine wpAny_bind (W.done s _ _ st λ s' mv=>?_)
  show wpAny _ A.in1 (ret Value.none) _ _ s'
  refine wpAny_pure (k s' (mv.mono up) ?_)
  rw [<- hn,List.take_length] at S
  exact S.keeps λ o e=>mv.heap D _ nw e
 | succ m ih=>
  intro i s e1 e2 st S k
  have lt:i<n:=by omega
  refine codeAny_builtin PyProof.Rows.F.entry_set_update_loop ?_
  rw [Around.under_plainId PyProof.Rows.F.plain_set_update_loop _]
  show wpAny _ A.in1 (pyNext (.ref I) >>= _) _ _ s
  refine wpAny_bind (W.item i s _ _ lt st λ v s' pv st' mv=>?_)
  obtain ⟨key,ek,is⟩:=hv i v pv
  have S':cF P w D (cU (ks.take i)) s'.heap:=S.keeps λ o e=>mv.heap D _ nw e
  show wpAny _ A.in1 (holding [v] (setAdd D v) >>= _) _ _ s'
  refine wpAny_bind (wpAny_holding ?_)
  unfold setAdd
  refine wpAny_holding (wpAny_bind ((cE P w).pyHash (k:=key) is ?_))
  have room:(cU (ks.take i)).length+1<scanBound:=by have a1:=gb (ks.take i);rw [List.length_take] at a1;omega
  refine jf (knd:=cE P w) (s:={ s' with toks:=s'.toks+1 }) is (ou is) S'.1 S'.2 room λ h' sb S2 X2=>?_
  have S3:cF P w D (cU (ks.take (i+1))) h':=by
   rw [List.take_succ,ek]
   exact (iW _ _).symm ▸ cF.add S2 X2
  refine wpAny_pure ⟨plainId_quiet PyProof.Rows.F.plain_set_update_loop _,ih (i+1) _ (by omega) lt (W.frame _ s' _ _ st' (Nat.le_succ _) λ b z o e=>?_) S3 λ s2 mv2 S4=>?_⟩
  ·rw [sb.2 b (λ q:b=D=>hD (q ▸ z))];exact e
  ·refine k s2 (Moved.trans W.gtrans ((mv.mono up).then_heap (Nat.le_succ _) λ b o z e=>?_) mv2) S4
   rw [sb.2 b (λ q:b=D=>z (q ▸ .head _))];exact e
end
abbrev iC (led:Bool):Obj:={ cls:=.type "set",dict:=none,data:=.set #[] 0 (.fresh 0 0 led) }
section
variable {P:Program} {w:World} {A:Around} {E:Value->Shared->Prop} {s:Shared}
theorem qp {h:Heap} {a:Addr} {led:Bool} (hl:led=!(w.params.followText "set-order")) (e:h.get? a=some (iC led)):cF P w a [] h:=
 ⟨⟨_,#[],0,_,e,⟨rfl,rfl,rfl⟩,rfl,λ e he=>by simp at he,λ k=>by simp,by decide,by rfl,rfl⟩,⟨_,#[],0,_,e,rfl,hl,λ e he=>by simp at he⟩⟩
theorem wW {x:Value} {Q:Value->Shared->Prop} (I1:Shared->Prop)
  (hin:∀ led:Bool,(led=!(w.params.followText "set-order"))->wpAny (model P w) A.in1.in1 (Builtin.Frozenset.updateFrom "set.__init__" s.heap.objs.size x) (λ _ s2=>I1 s2) E { s with heap:=s.heap.push (iC led) })
  (h:∀ s2,I1 s2->Q (.ref s.heap.objs.size) s2):wpAny (model P w) A (call (.type "set") [x]) Q E s:=by
 obtain ⟨c,tl,m1⟩:=F.called_set.mro
 have m2:=F.called_set.made
 have m3:=F.called_set.sub
 refine wpAny_call (codeAny_of_tree ?_)
 show wpAny _ _ (callAny (.type "set") _) _ _ _
 refine wpAny_pure ⟨Code.quiet_builtin _ (by decide +kernel),codeAny_builtin F.entry_type_call ?_⟩
 rw [Around.under_plain (weight_type_call_type "set" [x] []) rfl]
 have m4:=F.called_set.notType
 have m5:=F.called_set.canCreate
 have m6:=F.typeCall_set_1 x
 repeat (any_goals (first | assumption | wp_step))
 refine codeAny_mono (oG x (E:=E) (Q₁:=λ ob s1=>∃ led,(led=!(w.params.followText "set-order"))/\ob=.ref s.heap.objs.size/\s1={ s with heap:=s.heap.push (iC led) }) λ led hl=>⟨led,hl,rfl,rfl⟩) λ r s1 hr=>?_
 cases r with
 | error e=>exact hr
 | ok fl=>
  cases fl with
  | ret ob=>
   obtain ⟨led,hled,rfl,rfl⟩:=hr
   have g0:(s.heap.push (iC led)).get? s.heap.objs.size=some (iC led):=Heap.get?_push_size _ rfl
   have ty:Shared.TypeIs { s with heap:=s.heap.push (iC led) } (.ref s.heap.objs.size) "set":=⟨_,g0,rfl⟩
   have m7:=F.called_set.init.lookup
   have m8:=F.called_set.init.bind (.ref s.heap.objs.size)
   repeat (any_goals (first | assumption | wp_step))
   refine codeAny_mono (codeAny_call_builtin (R:=wants (λ r s2=>r=.none/\I1 s2) E) F.called_set.init.plain F.entry_set_init (check_set_init_1 ty ?_)) λ r2 s2 hr2=>?_
   ·have hin:=hin led hled
    unfold Builtin.«set.__init__» noKeywords
    generalize Builtin.Frozenset.updateFrom=U at hin ⊢
    wp_walk
    exact wpAny_mono hin (λ _ s2 i=>wpAny_pure ⟨rfl,i⟩) λ _ _ z=>z
   ·cases r2 with
    | error e=>exact hr2
    | ok fl2=>
     cases fl2 with
     | ret r=>
      obtain ⟨rfl,i1⟩:=hr2
      repeat (any_goals (first | assumption | wp_step))
      exact h _ i1
     | _=>exact hr2.elim
  | _=>exact hr.elim
end
section
variable {P:Program} {w:World} {A:Around} {E:Value->Shared->Prop} {s:Shared}
theorem yt {l:Addr} {its:Array Value} {ks:List Key} {led:Bool} (hled:led=!(w.params.followText "set-order")) (hh:A.handled=none) (hl:s.heap.IsList l its) (hk:Vals (ks.map kV) its.toList) (hb:ks.length+1<scanBound):
  wpAny (model P w) A (Builtin.Frozenset.updateFrom "set.__init__" s.heap.objs.size (.ref l)) (λ _ s2=>∃ h' tk,s2={ s with heap:=h',toks:=tk }/\cF P w s.heap.objs.size (cU ks) h'/\∀ b o,s.heap.get? b=some o->h'.get? b=some o) E { s with heap:=s.heap.push (iC led) }:=by
 have lt:l<s.heap.objs.size:=by obtain ⟨_,e,_⟩:=hl;exact Heap.lt_size e
 have hlen:its.size=ks.length:=by rw [<- Array.length_toList,<- hk.length,List.length_map]
 have h1:(s.heap.push (iC led)).IsList l its:=hl.push _
 obtain ⟨⟨oc,od,odt,os⟩,e1,c1,nl,d1⟩:=id h1
 simp only at c1 d1
 subst c1;subst d1
 have n1:=F.sub_list_set
 have n2:=F.sub_list_frozenset
 have n3:(Value.type "list"==Value.type "dict")=false:=by decide
 unfold Builtin.Frozenset.updateFrom
 generalize eP:pyIter=PI
 wp_walk
 subst eP
 refine wpAny_pyIter_list h1 ?_
 refine wpAny_bind (wpAny_runValue ?_)
 have z1:(s.heap.push (iC led)).objs.size=s.heap.objs.size+1:=Heap.size_push ..
 have a1:l≠(s.heap.push (iC led)).objs.size:=by rw [z1];exact Nat.ne_of_lt (Nat.lt_succ_of_lt lt)
 have a2:s.heap.objs.size ∉ [(s.heap.push (iC led)).objs.size,l]:=by simp only [List.mem_cons,List.not_mem_nil,or_false,not_or];exact ⟨by rw [z1];exact Nat.ne_of_lt (Nat.lt_succ_self _),Nat.ne_of_gt lt⟩
 refine wA ((Walks.list (by simp [hh]) _ l a1 its).toS) s.heap.objs.size a2 ks hlen.symm (λ i v e=>?_) (by omega) its.size 0 _ (by omega) (Nat.zero_le _) ⟨⟨_,Heap.get?_push_size _ rfl,rfl,rfl⟩,h1.push _⟩ ?_ ?_
 ·have e2:its.toList[i]?=some v:=by rw [Array.getElem?_toList];exact e
  have hi:i<ks.length:=by rw [<- hlen,<- Array.length_toList];exact (List.getElem?_eq_some_iff.mp e2).1
  refine ⟨ks[i],List.getElem?_eq_getElem hi,?_⟩
  obtain ⟨u,hu,ru⟩:=Vals.get (x:=kV ks[i]) hk (by rw [List.getElem?_map,List.getElem?_eq_getElem hi];rfl)
  rw [e2] at hu
  obtain rfl:=Option.some.inj hu
  exact Ew (P:=P) (w:=w) ru
 ·refine (qp (led:=led) hled (Heap.get?_push_of_some _ (Heap.get?_push_size _ rfl)):cF P w _ [] _)
 ·intro s' mv S
  obtain ⟨h',g',d',tk',os'⟩:=s'
  obtain rfl:g'=s.gens:=mv.gens
  obtain rfl:d'=s.drawn:=mv.drawn
  obtain rfl:os'=s.os:=mv.os
  refine wpAny_pure ⟨h',tk',rfl,S,λ b o e=>?_⟩
  have lb:b<s.heap.objs.size:=Heap.lt_size e
  refine mv.heap b o ?_ (Heap.get?_push_of_some _ (Heap.get?_push_of_some _ e))
  simp only [List.mem_cons,List.not_mem_nil,or_false,not_or]
  exact ⟨Nat.ne_of_lt lb,by rw [z1];exact Nat.ne_of_lt (Nat.lt_succ_of_lt lb)⟩
end
section
variable {P:Program} {w:World} {A:Around} {E:Value->Shared->Prop} {s:Shared}
end
section
variable {P:Program} {w:World} {A:Around} {E:Value->Shared->Prop} {s:Shared}
variable {X:Cx}
theorem vZ (hh:X.A.handled=none):eg X (.type "set") (λ xs H Q=>∃ p ks,xs=[.ref p]/\SqL X.K H p (ks.map kV)/\ks.length<4000/\∀ q,H q=none->Q (.ref q) (upd H q (bb X.prog X.w q (cU ks)))):=by
 intro pins s σ H xs us Q I r h
 obtain ⟨p,ks,rfl,hp,hl,q⟩:=h
 obtain ⟨u,rfl,rx⟩:=vals1 r
 cases rx
 obtain ⟨its,rv,pl,hz⟩:=I.list hp
 refine wW _ (λ led hled=>yt hled (by simp [hh]) pl.isList (by simpa using rv) (show ks.length+1<4096 by omega)) ?_
 rintro s2 ⟨h',tk,rfl,S,kp⟩
 exact ⟨.ref s.heap.objs.size,_,I.laid (t':=tk) kp (Nat.le_refl _) S.ok,rfl,q _ (I.hok.fresh (Nat.le_refl _))⟩
end
section
variable {P:Program} {w:World} {A:Around} {E:Value->Shared->Prop} {s:Shared}
end
section
variable {P:Program} {w:World} {A:Around} {E:Value->Shared->Prop} {s:Shared}
end
section
variable {P:Program} {w:World} {A:Around} {E:Value->Shared->Prop} {s:Shared}
variable {X:Cx}
theorem uz (P:Program) (w:World) (hh:X.A.handled=none) (hP:X.prog=P:=by rfl) (hw:X.w=w:=by rfl):eg X (.type "set") (λ xs H Q=>∃ p ks,xs=[.ref p]/\SqL X.K H p (ks.map kV)/\ks.length<4000/\∀ q,H q=none->Q (.ref q) (upd H q (bb P w q (cU ks)))):=by subst hP hw;exact vZ hh
end
theorem Dz {σ:St} {H:Hp} {Q:VK} {ty td:TE} (q:ty σ H λ y H1=>td σ H1 λ x H2=>∃ a o,x=.ref a/\zF H2 a y o/\Q (.bl o.isSome) H2):FO ty td σ H Q:=q
theorem lP {t:TS} {nx:St->Hp->Prop} {rt:VK} {bk ct:St->Hp->Prop} {σ:St} {H:Hp} (J:St->Hp->Prop) (q:∀ nx':St->Hp->Prop,(∀ σ2 H2,J σ2 H2->nx' σ2 H2)->t ⟨nx',rt,bk,ct⟩ σ H) (hj:∀ σ2 H2,J σ2 H2->nx σ2 H2):t ⟨nx,rt,bk,ct⟩ σ H:=q nx hj
theorem Dc {td ty:TE} {σ:St} {H:Hp} {Q:VK} (q:td σ H λ x H1=>∃ a,x=.ref a/\IsD H1 a/\ty σ H1 λ y H2=>∃ kvs k v,H2 a=some (.dK kvs)/\y=kV k/\zS kvs k=some v/\Q v (upd H2 a (.dK (Az kvs k)))):CA td ty σ H Q:=q
theorem x6 {td:TE} {σ:St} {H:Hp} {R:It->Hp->Prop} (q:td σ H λ x H1=>∃ d kvs,x=.ref d/\H1 d=some (.dK kvs)/\∀ ob,R (Iti d ob kvs) (upd H1 d (.frz ob (.dK kvs)))):Bo td σ H R:=q
theorem zX {K:PySem.W.Frag} {ta:TA} {σ:St} {H:Hp} {R:It->Hp->Prop} (q:ta σ H λ vs H1=>∃ a,vs=[.ref a]/\(∃ xs,SqL K H1 a xs)/\R (Ite K a) H1):Ax K ta σ H R:=q
theorem CY {t:TS} {nx:St->Hp->Prop} {rt:VK} {bk ct:St->Hp->Prop} {σ:St} {H:Hp} (q:∃ d kvs,H d=some (.dK kvs)/\t ⟨λ σ' H'=>∃ ob,H' d=some (.frz ob (.dK kvs))/\nx σ' (upd H' d (.dK kvs)),λ _ _=>False,λ _ _=>False,λ _ _=>False⟩ σ H):EG t ⟨nx,rt,bk,ct⟩ σ H:=q
end L2
local macro_rules | `(tactic| array_get_dec) => `(tactic| first | with_reducible refine L2.Dz ?_ | with_reducible refine L2.Dc ?_ | with_reducible refine L2.x6 ?_ | with_reducible refine L2.zX ?_ | with_reducible refine L2.CY ?_)
namespace L2
open PySem PySem.Spec PyProof.Rows
theorem gB {K:PySem.W.Frag} {n:Nat} {t:TGs} {p:Addr} {xs:List V} {σ:St} {H:Hp} {Q:St->Hp->Prop} (h:SqT K H p xs) (hn:xs.length=n) (q:t xs σ H Q):zI K n t (.ref p) σ H Q:=⟨p,xs,rfl,h,hn,q⟩
theorem qZ {X:Cx} (K:PySem.W.Frag) (hK:X.K=K:=by rfl):IxR X (Ep K):=by subst hK;exact a7
theorem gH {X:Cx} (K:PySem.W.Frag) (hK:X.K=K:=by rfl):IxR X (Eo K):=by subst hK;exact b9
theorem lcH {nN:Nat} {fs:List (Nat×Nat)} {g:TG} {tc:TT} {te:TE} {σ:St} {H:Hp} {QD:Addr->Hp->Prop} {J:It} {n:Nat} {src:Nat->V} (R:Addr->Nat->List V->Hp->Prop) (hJ:Tells J H n src) (hn:n<=sizeLine) (h0:∀ D,H D=none->R D 0 [] (upd H D (.lst [])))
  (ht:∀ D i ys H2,i<n->H D=none->ak H H2->H2 D=some (.lst ys)->R D i ys H2->g (src i) (tau nN fs σ) H2 λ τ4 H4=>(∀ (j:Nat) v,(tau nN fs σ)[j]?=some (some v)->τ4[j]?=some (some v))/\tc τ4 H4 λ b H5=>
   if b=true then te τ4 H5 λ v H6=>H6 D=some (.lst ys)/\ak H (upd H6 D (.lst (ys++[v])))/\R D (i+1) (ys++[v]) (upd H6 D (.lst (ys++[v]))) else H5 D=some (.lst ys)/\ak H H5/\R D (i+1) ys H5)
  (hQ:∀ D H2 ys,H D=none->ak H H2->H2 D=some (.lst ys)->R D n ys H2->QD D H2):
  ∀ D,H D=none->∃ (n:Nat) (W:Nat->List V->Hp->Prop),n<=sizeLine/\W 0 [] (upd H D (.lst [])) /\
   ∀ i ys H2,i<=n->W i ys H2->H2 D=some (.lst ys)->(J.stop i H2/\QD D H2)∨(i<n/\J.go i H2/\∀ x H3,J.yld i H2 x H3->g x (tau nN fs σ) H3 λ τ4 H4=>
    (∀ (j:Nat) v,(tau nN fs σ)[j]?=some (some v)->τ4[j]?=some (some v))/\tc τ4 H4 λ b H5=>
     if b=true then te τ4 H5 λ v H6=>H6 D=some (.lst ys)/\W (i+1) (ys++[v]) (upd H6 D (.lst (ys++[v]))) else H5 D=some (.lst ys)/\W (i+1) ys H5):=by
 intro D hD
 refine ⟨n,λ i ys H2=>ak H H2/\R D i ys H2,hn,⟨ak.upd hD,h0 D hD⟩,?_⟩
 rintro i ys H2 hi ⟨s2,r⟩ e
 obtain ⟨h1,h2⟩:=hJ H2 s2
 rcases Nat.lt_or_ge i n with hlt | hge
 ·refine .inr ⟨hlt,(h2 i hlt).1,λ x H3 y=>?_⟩
  obtain ⟨rfl,rfl⟩:=(h2 i hlt).2 x H3 y
  exact ht D i ys H3 hlt hD s2 e r
 ·have:i=n:=by omega
  subst this
  exact .inl ⟨h1,hQ D H2 ys hD s2 e r⟩
theorem Bk {τ:St} {x y:V} (h0:τ[0]?=some none) (h1:τ[1]?=some none):∀ (j:Nat) v,τ[j]?=some (some v)->((τ.set 0 (some x)).set 1 (some y))[j]?=some (some v):=λ j v hj=>by
 by_cases z:j=1
 ·subst z;rw [h1] at hj;cases hj
 ·rw [List.getElem?_set_ne (Ne.symm z)]
  exact ik h0 j v hj
section
variable {g:TG} {tb:TS} {nx:St->Hp->Prop} {rt:VK} {σ:St} {H:Hp}
theorem B9 {K:PySem.W.Frag} {a:Addr} {xs:List V} (Pv:Nat->St->Hp->Prop) (h0:Pv 0 σ H) (hl:∀ i σ H,i<=xs.length->Pv i σ H->SqL K H a xs)
  (hs:∀ i x p σ H,xs[i]?=some x->Pv i σ H->H p=none->g (.ref p) σ (upd H p (.tup [.int i,x])) λ σ2 H2=>tb ⟨Pv (i+1),rt,nx,Pv (i+1)⟩ σ2 H2) (hd:∀ σ H,Pv xs.length σ H->nx σ H):
  ∃ W:Nat->Nat->St->Hp->Prop,(∃ m,W 0 m σ H)/\∀ i m σ H,W i m σ H ->
   ((Ite K a).stop i H/\nx σ H)∨((Ite K a).go i H/\∃ N:St->Hp->Prop,(∀ σ' H',N σ' H'->∃ m',m'<m/\W (i+1) m' σ' H')/\∀ x H',(Ite K a).yld i H x H'->g x σ H' λ σ2 H2=>tb ⟨N,rt,nx,N⟩ σ2 H2):=by
 refine ⟨λ i m σ H=>m=xs.length - i/\i<=xs.length/\Pv i σ H,⟨xs.length,by simp,Nat.zero_le _,h0⟩,?_⟩
 rintro i m σ H ⟨rfl,hi,p⟩
 have hq:=hl i σ H hi p
 by_cases hlt:i<xs.length
 ·refine .inr ⟨⟨xs,xs[i],hq,List.getElem?_eq_getElem hlt⟩,Pv (i+1),λ σ' H' p'=>⟨xs.length - (i+1),by omega,rfl,hlt,p'⟩,λ x H' y=>?_⟩
  obtain ⟨q,hn,e1,x',e2,e3⟩:=y
  subst e1 e2
  exact hs i x' q σ H (e3 xs hq) p hn
 ·have e:i=xs.length:=by omega
  subst e
  exact .inl ⟨⟨xs,hq,rfl⟩,hd σ H p⟩
end
def withTabs (H:PySem.W.Hook) (ts:List Addr):PySem.W.Hook where
 α:=H.α×List (Option Obj)
 obs:=λ s=>(H.obs s,ts.map s.heap.get?)
 val:=λ w=>(H.val w,ts.map λ _=>some (PySem.W.tabObj #[]))
 says:=λ w h=>H.says w h/\∀ t∈ts,h.get? t=some (PySem.W.tabObj #[])
 of:=λ w s x=>⟨H.of w s (Prod.mk.inj x).1,List.map_inj_left.mp (Prod.mk.inj x).2⟩
 keeps:=λ w h h' x k=>⟨H.keeps w h h' x.1 k,λ t ht=>k _ _ (x.2 t ht)⟩
theorem Bp {l:PySem.W.OpenLaw} {n k:Nat} {q:Program} {loose:List Str} {XP:(Str->Option Value)->Heap->Prop} {YP:World->Heap->Prop} {d:DefRec} {K:Params->PySem.W.Frag} {CX:World->CXT} {sp:World->Sp} {x:Str} (ts:World->List Addr) (us:List Addr)
  (hn:l.most=some n) (hn2:n<=sizeLine) (hdf:d.params.defaults=[]) (hr:bN k callerA)
  (hY:∀ (w:World) (h:Heap),YP w h->(K w.params).In h/\∀ t∈us,h.get? t=some (PySem.W.tabObj #[])) (hK:∀ w:World,PySem.W.noTabs (K w.params)=true)
  (hts:∀ (w:World),∀ t∈ts w,(∃ y c d',(recsOf q).find? (λ e=>e.name==y)=some d'/\PySem.W.tabIn (K w.params) y=some (c,t))∨(t∈us/\∃ c,PySem.W.codeHdIn (K w.params) c t=true))
  (F:∀ (w:World) (mg:Str->Option Value) (fa:Addr) (h:Heap),(K w.params).In h->h.Ns mainGlobals mg->mg d.name=some (.ref fa) ->
   ∃ fd:FuncData,(∀ (s:Shared) (u:Value),BindsTo s fd ⟨[u],[]⟩ [(x,u)]) /\
    ∀ base:Heap,(K w.params).In base->base.Ns mainGlobals mg->jK base->c9 l.prog w (K w.params) mg base (CX w) k fa fd [x] (sp w))
  (hsp:∀ (w:World) (H:Hp) (a:Addr) (ns:List Int),ns.length<=n->(∀ t∈ts w,H t=some (Tb t))->SqL (K w.params) H a (ns.map V.int)->sp w [.ref a] H (λ v H'=>v=.bl true/\∀ t∈ts w,H' t=some (Tb t)) λ _ _ _=>False)
  (hCX:∀ (w:World) (H:Hp) (s:Shared) (e:Value) (s':Shared),CX w [] H s (λ _ _ _=>False) e s'->False):
  PySem.W.WalkO q loose XP YP l.row.toRowW d [] (λ f vs=>PySem.call f vs):=by
 refine Att.rK hn hdf λ w s₀ s₁ mg mb fa o pm cd doc a vs ns G Y ho hd hcd hmg hobj hints hlen hg=>?_
 obtain ⟨KX,KT⟩:=hY w _ Y
 obtain ⟨fd,hb,hF⟩:=F w mg fa _ KX G.T.g hmg
 exact vJ (ts w) KX G.T.g G.T.b G.T.builtins G.T.nolimit hg hobj hints (Nat.le_trans hlen hn2) hr (hK w) (λ t ht=>by
  rcases hts w t ht with ⟨y,c,d',e1,e2⟩ | ⟨tu,c,e2⟩
  ·obtain ⟨z1,z2⟩:=PySem.W.tab_of G.T KX e1 e2
   exact ⟨⟨c,z1⟩,z2⟩
  ·exact ⟨⟨c,PySem.W.codeHd_of_K KX e2⟩,KT t tu⟩) G.T.bmain hF hb (λ H h1 h2=>hsp w H a ns hlen h1 h2) λ H e s'=>hCX w H s₁ e s'
section
variable {X:Cx}
end
theorem Co (x:Str):x.length=x.cps.toList.length:=by simp [Str.length]
def cl (n:Nat) (i:Int):Nat:=if i<0 then (i+n).toNat else min i.toNat n
theorem zP {tt:TT} {ta tb:TE} {σ:St} {H:Hp} {Q:VK} (q:tt σ H λ c H1=>if c=true then ta σ H1 Q else tb σ H1 Q):tIf tt ta tb σ H Q:=q
end L2
local macro_rules | `(tactic| array_get_dec) => `(tactic| with_reducible refine L2.zP ?_)
namespace L2
open PySem PySem.Spec PyProof.Rows
section
variable {g:TG} {tb:TS} {nx:St->Hp->Prop} {rt:VK} {σ:St} {H:Hp}
end
theorem lC (x y:Str):(x++y).cps.toList=x.cps.toList++y.cps.toList:=by show (x.cps++y.cps).toList=_;simp
theorem gP (x y:Str):(x++y).length=x.length+y.length:=by show (x.cps++y.cps).size=_;simp [Str.length]
theorem C0 {a b:Str} (h:a.cps.toList=b.cps.toList):a=b:=by
 cases a;cases b
 congr 1
 exact Array.toList_inj.mp h
theorem CV {to ti:TE} {t:zq} {v:V} {σ:St} {H:Hp} {Q:St->Hp->Prop} (q:to σ H λ o H1=>ti σ H1 λ i H2=>t o i v H2 λ H3=>Q σ H3):DS to ti t v σ H Q:=q
end L2
local macro_rules | `(tactic| array_get_dec) => `(tactic| with_reducible refine L2.CV ?_)
namespace L2
open PySem PySem.Spec PyProof.Rows
structure DfD (K:PySem.W.Frag) (x qual:Str) (st:Stmt) (ps:List Str) where
 f:Addr
 fd:FuncData
 cdv:Value
 ex:∃ (oc:Value) (od:Option Addr) (dV kV doc pm:Value) (an:Option Addr) (ct:Value) (osl:Array (Option Value)),
  fd=PySem.W.fnOf x qual (bJ st) (bo st) (ar st) dV kV doc pm an cdv ct/\K.lookup f=some ⟨oc,od,.func fd,osl⟩/\PySem.W.codeIn K cdv qual=true
 kp:PySem.W.keepIn K (.ref f)=true
theorem qR (elt target iter:Expr) (ifs:List Expr) (scope:Scope) (pos:Pos) (it acc:Value) (env:Env):
  compTurn (.SetComp elt [⟨target,iter,ifs,0⟩] scope pos) 0 it acc env=(do
   standAt iter.pos
   match <- pyNext it with
   | none=>pure (.done .next)
   | some v=>
    letOwnedTupleGo target it v
    assign target env v
    let mut ok:=true
    for c in ifs do
     if ok then ok <- isTrue c env (eval c env)
    if ok then
     (do let v <- eval elt env;standAt elt.pos;let _ <- call (.builtin "set.add") [acc,v])
    again (.compLoop (.SetComp elt [⟨target,iter,ifs,0⟩] scope pos) 0 it acc env)):=by rfl
theorem jS {env:Env} (elt:Expr) (gens:List Comprehension) (scope:Scope) (pos:Pos):eval (.SetComp elt gens scope pos) env =
  comprehension (.SetComp elt gens scope pos) scope env (firstIterPos gens pos) (newSet (.type "set")) (firstAsync gens) (firstIter gens env):=rfl
section
variable {prog:Program} {w:World} {A:Around} {R:Result->Shared->Prop} {s:Shared}
theorem dE {elt target iter:Expr} {ifs:List Expr} {rest:List Comprehension} {scope:Scope} {pos:Pos} {it acc:Value} {env:Env}
  (h0:codeAny (model prog w) A (.compLoop (.SetComp elt (⟨target,iter,ifs,0⟩::rest) scope pos) 0 it acc env) R s)
  (h:wpAny (model prog w) A (pyIter it) (λ it' s'=>codeAny (model prog w) A (.compLoop (.SetComp elt (⟨target,iter,ifs,0⟩::rest) scope pos) 0 it' acc env) R s')
   (notedBy (model prog w) A env λ x s'=>R (.error x) s') s):
  codeAny (model prog w) A (.compStart (.SetComp elt (⟨target,iter,ifs,0⟩::rest) scope pos) 0 it acc env) R s:=by
 refine codeAny_of_tree ?_
 show wpAny _ A ((compStart (.SetComp elt (⟨target,iter,ifs,0⟩::rest) scope pos) 0 it acc env).onRaise (λ x=>do noteFrame x env;standAt theWindowsPlace)) _ _ s
 refine wpAny_notedAt ?_
 unfold compStart
 show wpAny _ A (ask >>= _) _ _ s
 refine wpAny_bind (wpAny_askSetting (wpAny_ite ?_))
 split
 ·first
   | exact wpAny_bind (wpAny_pure (wpAny_pure (And.intro rfl h0)))
   | exact wpAny_pure (And.intro rfl h0)
 ·first
   | exact wpAny_bind (wpAny_rule (wpAny_bind (wpAny_standAt (wpAny_bind (wpAny_mono h (λ it' s' h'=>wpAny_pure (And.intro rfl h')) λ _ _ x=>x)))))
   | (refine wpAny_bind (wpAny_rule ?_);show wpAny _ _ (standAt iter.pos >>= _) _ _ s;exact wpAny_bind (wpAny_standAt (wpAny_bind (wpAny_mono h (λ it' s' h'=>wpAny_pure (And.intro rfl h')) λ _ _ x=>x))))
end
theorem pY {k:Key} {v:Value} (r:RelV (kV k) v):fX k v=true:=by
 cases k with
 | inl i=>obtain ⟨t,rfl⟩:=r;simp [fX,Value.isInt]
 | inr x=>obtain ⟨t,rfl⟩:=r;simp [fX,Value.isStrOf]
def tSC (P:Program) (w:World) (nN:Nat) (fs:List (Nat×Nat)) (wi:TI) (g:TG) (tc:TT) (te:TE):TE:=λ σ H Q=>wi σ H λ J H1=>∀ D,H1 D=none->∃ (n:Nat) (W:Nat->List Key->Hp->Prop),n+1<scanBound/\W 0 [] (upd H1 D (bb P w D [])) /\
 ∀ i ys H2,i<=n->W i ys H2->H2 D=some (bb P w D ys)->(J.stop i H2/\Q (.ref D) H2)∨(i<n/\J.go i H2/\∀ x H3,J.yld i H2 x H3->g x (tau nN fs σ) H3 λ τ4 H4=>
  (∀ (j:Nat) v,(tau nN fs σ)[j]?=some (some v)->τ4[j]?=some (some v))/\tc τ4 H4 λ b H5=>
   if b=true then te τ4 H5 λ v H6=>∃ k:Key,v=kV k/\H6 D=some (bb P w D ys)/\W (i+1) (eo ys k) (upd H6 D (bb P w D (eo ys k))) else H5 D=some (bb P w D ys)/\W (i+1) ys H5)
section
variable {X:Cx} {scope:Scope} {N:List Str} {fs:List (Nat×Nat)} {tg elt iter:Expr} {ifs:List Expr} {pos cpos:Pos} {wi:TI} {g:TG} {tc:TT} {te:TE}
theorem sM {use:Option (Value->Sem Unit)} {R':Value->Shared->Prop} (S:jv X scope N fs) (hcalm:X.calm=true)
  (hi:PI X tg iter wi) (hg:∀ cl C s₀ H fp,PG (aX X scope cl C N s₀ H fp) tg g) (hc:∀ cl C s₀ H fp,PTs (aX X scope cl C N s₀ H fp) ifs tc) (he:∀ cl C s₀ H fp,PE (aX X scope cl C N s₀ H fp) elt te)
  (hs:∀ x,foldedSetIterable iter X.env x=pure x) {pins:List (Addr×Obj)} {s:Shared} {σ:St} {H:Hp} {Q:VK} (I:Inv X pins σ H s) (h:tSC X.prog X.w N.length fs wi g tc te σ H Q)
  (hfin:∀ (D C:Addr) (H2:Hp) (s':Shared),Inv X pins σ H2 s'->Q (.ref D) H2->(∃ m,s'.heap.Ns C m)->iA X pins H2 C->compPost (model X.prog X.w) X.A X.xe use R' (.ref D) C (.ok .next) s'):
  wpAny (model X.prog X.w) X.A (comprehension (.SetComp elt [⟨tg,iter,ifs,0⟩] scope pos) scope X.env cpos (newSet (.type "set")) false (eval iter X.env) use) R' X.xe s:=by
 have hfree:∀ y∈scope.names,y.2=.free->∃ c,X.env.cells.lookup y.1=some c:=λ y hy hf=>by
  have q:=List.all_eq_true.mp S.free y hy
  rw [hf] at q
  refine I.ok.has y.1 ?_
  simpa using q
 have hcell:∀ y∈scope.names,y.2≠.cell:=λ y hy=>by simpa using List.all_eq_true.mp S.cell y hy
 have hnames:∀ y∈scope.names,y.2=.local->scope.names.lookup y.1=some .local:=λ y hy hl=>by
  have q:=List.all_eq_true.mp S.own y hy
  rw [hl] at q
  simpa using q
 have hclo:=gZ hfree
 generalize hcl:ju scope.names X.env.cells []=cl at hclo
 have back:∀ {y c},cl.lookup y=some c->X.env.cells.lookup y=some c:=λ {y c} e=>eN (names:=scope.names) (acc:=[]) (λ z=>by cases z) (by rw [hcl];exact e)
 have hasc:∀ {y},scope.names.lookup y=some .free->∃ c,cl.lookup y=some c:=λ {y} e=>by
  have:=gc (cells:=X.env.cells) (acc:=[]) hfree (PySem.mem_of_lookup e)
  rw [hcl] at this
  exact Option.isSome_iff_exists.mp this
 refine wpAny_comprehension_free (use:=use) rfl hs hclo S.kind hnames (thn (hi pins s σ H _ I h) λ v s1 h1=>thn h1 λ itv s2 h2=>?_)
 obtain ⟨it,fp,tn,J,H1,e,I2,T,st2,f2,hq⟩:=h2
 subst e
 have hD:H1 s2.heap.objs.size=none:=I2.fresh
 obtain ⟨n,W,hn,w0,turn⟩:=hq _ hD
 refine vA λ led hled=>?_
 have I3:Inv X pins σ (upd H1 s2.heap.objs.size (bb X.prog X.w s2.heap.objs.size [])) { s2 with heap:=s2.heap.push (iC led),toks:=s2.toks }:=I2.laid (λ b u e=>Heap.get?_push_of_some _ e) (Nat.le_refl _) (qp hled (Heap.get?_push_size _ rfl)).ok
 have st3:tn 0 (s2.heap.push (iC led)):=T.keep _ _ _ st2 λ b hb o e=>Heap.get?_push_of_some _ e
 have fpD:∀ b∈fp,b≠s2.heap.objs.size:=λ b hb=>let ⟨_,e,_⟩:=T.obj _ _ st2 b hb;Nat.ne_of_lt (Heap.lt_size e)
 generalize hH3:upd H1 s2.heap.objs.size (bb X.prog X.w s2.heap.objs.size [])=H3 at I3 w0
 have fr3:∀ b∈fp,H3 b=none:=λ b hb=>by rw [<- hH3,aq (fpD b hb)];exact (f2 b hb).1
 have hD3:H3 s2.heap.objs.size=some (bb X.prog X.w s2.heap.objs.size []):=by rw [<- hH3];exact ae
 clear hH3
 generalize hhp:s2.heap.push (iC led)=h3 at I3 st3 ⊢
 have hc3:∀ (E:Value->Shared->Prop) (Q':Env->Shared->Prop),(∀ h4,h4.Ns h3.objs.size (λ _=>none)->(∀ b o,h3.get? b=some o->h4.get? b=some o)->h3.objs.size<h4.objs.size->Q' (newEnv scope h3.objs.size X.env.globals cl X.env.qual none .none (some X.env) X.env.builtins) { s2 with heap:=h4,toks:=s2.toks }) ->
   wpAny (model X.prog X.w) X.A (newFunctionEnv scope X.env.globals cl [] X.env.qual none .none (some X.env)) Q' E { s2 with heap:=h3 }:=λ E Q' k=>by
  refine wpAny_newFunctionEnv hcell (by intro y hy;cases hy) (λ h4 a b=>?_) S.kind
  exact k h4 a (λ b' o e=>b.extBut b' o (Nat.ne_of_lt (Heap.lt_size e)) (Heap.get?_push_of_some _ e)) (by rw [b.1,Heap.size_push];exact Nat.lt_succ_self _)
 refine hc3 _ _ λ h4 hns k4 s34=>?_
 have fpl:∀ b∈fp,b<h3.objs.size:=λ b hb=>let ⟨_,e,_⟩:=T.obj _ _ st3 b hb;Heap.lt_size e
 have fps:∀ b∈fp,b ∉ frs X.stack:=λ b hb z=>by
  rcases List.mem_cons.mp (I2.hW b z) with q | q
  ·exact (f2 b hb).2.1 q
  ·exact (f2 b hb).2.2.1 q
 have fst:∀ {H':Hp},(∀ b∈fp,H' b=none)->∀ b∈fp,iA (aX X scope cl h3.objs.size N { s2 with heap:=h3,toks:=s2.toks } H3 fp) [] H' b:=λ hn b hb=>
  ⟨hn b hb,Nat.ne_of_lt (fpl b hb),fps b hb,.inl hb,λ x c e=>(f2 b hb).2.2.2.2.1 x c (back e),λ q hq=>by cases hq⟩
 have hYok:(aX X scope cl h3.objs.size N { s2 with heap:=h3,toks:=s2.toks } H3 fp).Ok:=by
  refine ⟨I3.ok.mod,S.kind,I.ok.glob,I.ok.blt,Nat.le_refl _,λ x y c e1 e2=>I3.ok.inj x y c (back e1) (back e2),λ x hx=>?_,λ x c z=>(by cases z),λ _=>I.ok.hd hcalm,I.ok.frames,.inl rfl,
   λ b hb=>⟨Nat.ne_of_lt (fpl b hb),λ x c e=>(f2 b hb).2.2.2.2.1 x c (back e)⟩,I3.bs,Nat.le_trans I3.ok.bsz I3.sz,λ b o e hb=>?_,fps,I3.stack,I3.gh⟩
  ·have hx:(relabel scope X.env).names.lookup x=some .cell∨(relabel scope X.env).names.lookup x=some .free:=hx
   have hx2:scope.names.lookup x=some .cell∨scope.names.lookup x=some .free:=by
    rcases hx with z | z
    ·exact cw z
    ·exact (cw z).elim .inr .inr
   rcases hx2 with z | z
   ·exact absurd rfl (hcell _ (PySem.mem_of_lookup z))
   ·exact hasc z
  ·rcases (f2 b hb).2.2.2.1 with z | z
   ·exact I3.ok.mQ b o e z
   ·exact absurd (Nat.lt_of_lt_of_le (Heap.lt_size e) (Nat.le_trans I3.ok.bsz z)) (Nat.lt_irrefl _)
 have IY:Inv (aX X scope cl h3.objs.size N { s2 with heap:=h3,toks:=s2.toks } H3 fp) [] (tau N.length fs σ) H3 { s2 with heap:=h4,toks:=s2.toks }:=by
  refine ⟨hYok,rfl,I3.bare,Un.kept k4,⟨_,hns,λ i x v e1 e2 e3=>?_⟩,λ x c e=>?_,I3.hok.fresh (Nat.le_refl _),λ x c e=>I3.cH x c (back e),λ q hq=>(by cases hq),I3.hok.kept k4,mq _ _ _⟩
  ·obtain ⟨j,hj,hv⟩:=mn e2
   obtain ⟨x',q1,q2,q3,q4⟩:=S.fs.mem hj
   have e1:N[i]?=some x:=e1
   rw [e1] at q1
   cases q1
   obtain ⟨m,_,hl⟩:=I3.loc
   obtain ⟨u,ru,lk⟩:=hl j x v q2 hv (by rcases q4 with z | z;exact .inr (.inl z);exact .inr (.inr z))
   refine ⟨u,ru,.inr ⟨gG q3,?_⟩⟩
   rcases lk with ⟨z,_⟩ | ⟨_,c,e,hcc⟩
   ·rcases q4 with y | y <;> (rw [y] at z;cases z)
   ·obtain ⟨c',e'⟩:=hasc q3
    have z:=back e'
    rw [e] at z
    cases z
    obtain ⟨o,ho,hd⟩:=hcc
    exact ⟨c,e',o,k4 _ _ ho,hd⟩
  ·obtain ⟨v,o,ho,hd⟩:=I3.cell x c (back e)
   exact ⟨v,o,k4 _ _ ho,hd⟩
 have hg:=hg cl h3.objs.size { s2 with heap:=h3,toks:=s2.toks } H3 fp
 have hc:=hc cl h3.objs.size { s2 with heap:=h3,toks:=s2.toks } H3 fp
 have he:=he cl h3.objs.size { s2 with heap:=h3,toks:=s2.toks } H3 fp
 generalize hYd:aX X scope cl h3.objs.size N { s2 with heap:=h3,toks:=s2.toks } H3 fp=Y at hg hc he IY fst
 have eP:Y.prog=X.prog:=by rw [<- hYd];rfl
 have ew:Y.w=X.w:=by rw [<- hYd];rfl
 have eK:Y.K=X.K:=by rw [<- hYd];rfl
 have ec:Y.calm=true:=by rw [<- hYd];rfl
 have eA:Y.A=X.A:=by rw [<- hYd];rfl
 have ex:Y.xe=λ _ _=>False:=by rw [<- hYd];rfl
 have ee:Y.env=compEnvC scope cl h3.objs.size X.env:=by rw [<- hYd];rfl
 have outX:∀ {H':Hp} {τ':St} {s':Shared},Inv Y [] τ' H' s'->Inv X pins σ H' s':=λ {H' τ' s'} J=>by
  have J':=J
  rw [<- hYd] at J'
  refine I3.rG J'.os J'.base J'.hok J'.bare λ b hb=>?_
  obtain ⟨_,z1,z2,z3,z4,z5⟩:=f2 b hb
  exact ⟨z3,z1,z4,z5⟩
 have loop:codeAny (model X.prog X.w) X.A (.compLoop (.SetComp elt [⟨tg,iter,ifs,0⟩] scope pos) 0 (.ref it) (.ref s2.heap.objs.size) (compEnvC scope cl h3.objs.size X.env))
   (compPost (model X.prog X.w) X.A X.xe use R' (.ref s2.heap.objs.size) h3.objs.size) { s2 with heap:=h4,toks:=s2.toks }:=by
  refine codeAny_loop rfl (λ m s'=>∃ i ys H2,m=n - i/\i<=n/\ys.length<=i/\W i ys H2/\H2 s2.heap.objs.size=some (bb X.prog X.w s2.heap.objs.size ys)/\(∀ b∈fp,H2 b=none)/\Inv Y [] (tau N.length fs σ) H2 s'/\tn i s'.heap) ?_ n
   ⟨0,[],H3,rfl,Nat.zero_le _,Nat.le_refl _,w0,hD3,fr3,IY,T.keep _ _ _ st3 λ b _ o e=>k4 b o e⟩
  rintro m s5 ⟨i,ys,H2,rfl,hi,hy,w5,hD5,fr5,I5,st5⟩
  show wpAny _ X.A ((compTurn (.SetComp elt [⟨tg,iter,ifs,0⟩] scope pos) 0 (.ref it) (.ref s2.heap.objs.size) (compEnvC scope cl h3.objs.size X.env)).onRaise (λ x=>do noteFrame x (compEnvC scope cl h3.objs.size X.env);theTreesLotGoes x)) _ _ s5
  rw [qR];refine wpAny_noted (wpAny_bind (wpAny_standAt (wpAny_bind ?_)))
  rcases turn i ys H2 hi w5 hD5 with ⟨stop,q⟩ | ⟨hlt,go,step⟩
  ·have h6:=T.done Y eP ew eK ec i [] s5 _ H2 (λ _ _=>False) I5 (fst fr5) st5 stop
   rw [eA] at h6
   refine wpAny_mono h6 (λ r s6 z=>?_) λ _ _ f=>f.elim
   obtain ⟨hr,I6⟩:=z
   subst hr
   refine wpAny_pure (hfin _ _ H2 s6 (outX I6) q ?_ ?_)
   ·obtain ⟨m,hm,_⟩:=I6.loc
    rw [ee] at hm
    exact ⟨m,hm⟩
   ·have z:=I6.free
    rw [ee] at z
    exact I3.oH (Nat.le_refl _) z
  ·have h6:=T.item Y eP ew eK ec i [] s5 _ H2 (λ _ _=>False) I5 (fst fr5) st5 go
   rw [eA] at h6
   refine wpAny_mono h6 (λ r s6 z=>?_) λ _ _ f=>f.elim
   obtain ⟨v,hr,h7⟩:=z
   subst hr
   refine wpAny_bind (wpAny_mono h7 (λ _ s7 z=>?_) λ _ _ f=>f.elim)
   obtain ⟨x,H7,I7,rx,y7,st7,fr7⟩:=z
   have I7':=I7.pinned (fst fr7) (T.obj _ _ st7)
   have h8:=hg _ s7 _ H7 x v _ I7' rx (step x H7 y7)
   rw [eP,ew,eA,ee,ex] at h8
   refine wpAny_bind (wpAny_mono h8 (λ _ s8 z=>?_) λ _ _ f=>f.elim)
   obtain ⟨τ8,H8,I8,w8,q8⟩:=z
   have h9:=hc _ s8 τ8 H8 _ I8 q8
   rw [eP,ew,eA,ee,ex] at h9
   refine wpAny_bind (wpAny_mono h9 (λ ok s9 z=>?_) λ _ _ f=>f.elim)
   obtain ⟨H9,I9,q9⟩:=z
   have cK:∀ {H':Hp} {s':Shared},Inv Y ([]++iF fp s7.heap) τ8 H' s'->tn (i+1) s'.heap/\(∀ b∈fp,H' b=none)/\Inv Y [] (tau N.length fs σ) H' s':=λ {H' s'} J=>by
    refine ⟨T.keep _ _ _ st7 λ b hb o e=>(J.pin (b,o) (List.mem_append_right _ (List.mem_append_right _ (bE hb e)))).1,λ b hb=>?_,J.dY.weak (I5.len.trans J.len.symm) w8⟩
    obtain ⟨o,e,_⟩:=T.obj _ _ st7 b hb
    exact (J.pin (b,o) (List.mem_append_right _ (List.mem_append_right _ (bE hb e)))).2.1
   cases ok with
   | false=>
    obtain ⟨hD9,w9⟩:=(if_neg Bool.false_ne_true ▸ q9:_)
    obtain ⟨z1,z2,z3⟩:=cK I9
    exact wpAny_pure ⟨rfl,n - (i+1),by omega,i+1,ys,H9,rfl,hlt,by omega,w9,hD9,z2,z3,z1⟩
   | true=>
    have q9:=(if_pos rfl ▸ q9:_)
    have h10:=he _ s9 τ8 H9 _ I9 q9
    rw [eP,ew,eA,ee,ex] at h10
    refine wpAny_bind (wpAny_bind (wpAny_mono h10 (λ y s10 z=>?_) λ _ _ f=>f.elim))
    obtain ⟨y',H10,I10,ry,ky,ek,hD10,w10⟩:=z
    subst ek
    have S10:cF X.prog X.w s2.heap.objs.size ys s10.heap:=(I10.hok _ _ hD10).1
    refine wpAny_bind (wpAny_standAt (wpAny_bind ?_))
    refine jq (knd:=cE X.prog X.w) (k:=ky) (pY ry) (ou (pY ry)) S10.1 S10.2 (by omega) λ h' sb S2 X2=>?_
    have S3:=cF.add S2 X2
    have I11:Inv Y _ τ8 (upd H10 s2.heap.objs.size (bb X.prog X.w s2.heap.objs.size (eo ys ky))) { s10 with heap:=h',toks:=s10.toks+1 }:=
     I10.write (by rw [hD10];trivial) (.inl rfl) (λ b u hb e=>(sb.2 b hb).trans e) (let ⟨o,_,_,_,ho,_⟩:=S3.1;⟨o,ho⟩) (by rw [eP,ew];exact S3.ok)
    obtain ⟨z1,z2,z3⟩:=cK I11
    exact wpAny_pure (wpAny_pure ⟨rfl,n - (i+1),by omega,i+1,eo ys ky,_,rfl,hlt,by rw [nA];split <;> omega,w10,ae,z2,z3,z1⟩)
 exact dE loop (T.self _ 0 _ _ _ (T.keep _ _ _ st3 λ b _ o e=>k4 b o e) loop)
theorem Dr (S:jv X scope N fs) (hcalm:X.calm=true) (hi:PI X tg iter wi) (hg:∀ cl C s₀ H fp,PG (aX X scope cl C N s₀ H fp) tg g) (hc:∀ cl C s₀ H fp,PTs (aX X scope cl C N s₀ H fp) ifs tc)
  (he:∀ cl C s₀ H fp,PE (aX X scope cl C N s₀ H fp) elt te) (P:Program) (w:World) (hs:∀ x,foldedSetIterable iter X.env x=pure x:=by intro _;rfl) (hP:X.prog=P:=by rfl) (hw:X.w=w:=by rfl):
  PE X (.SetComp elt [⟨tg,iter,ifs,0⟩] scope pos) (tSC P w N.length fs wi g tc te):=by
 subst hP hw
 intro pins s σ H Q I h
 rw [jS]
 refine sM (use:=none) S hcalm hi hg hc he hs I h λ D C H2 s' I' q ⟨m,hm⟩ f=>⟨m,hm,λ h' hs'=>?_⟩
 exact ⟨.ref D,H2,I'.off f hs',rfl,q⟩
end
section
variable {X:Cx}
theorem oQ (P:Program) (w:World) (hP:X.prog=P:=by rfl) (hw:X.w=w:=by rfl):eg X (.builtin "len") (λ xs H Q=>∃ a L,xs=[.ref a]/\H a=some (bb P w a L)/\L.length<2 ^ 62/\Q (.int L.length) H):=by
 subst hP hw
 intro pins s σ H xs us Q I r h
 obtain ⟨a,L,rfl,hH,hl,q⟩:=h
 obtain ⟨u,rfl,rx⟩:=vals1 r
 cases rx
 obtain ⟨o,es,ep,t,ho,hex,hd,h1,h2,h3,h4,h5⟩:s.heap.SetOf (cE X.prog X.w) a (λ k=>decide (k∈L)) L.length:=(I.hok _ _ hH).1.1
 exact call_len_set ho hex hd h4 (by omega) ⟨.int L.length,H,I.tok _,⟨s.toks+1,by rw [h5]⟩,q⟩
theorem kK:∀ {ts:List Addr} {us:List Value},Vals (ts.map V.ref) us->us=ts.map Value.ref
 | [],_,h=>by cases h;rfl
 | t::ts,_,h=>by
  cases h with
  | cons a b=>rw [show _=Value.ref t from a,kK b];rfl
theorem CT (K:PySem.W.Frag) (hu:X.A.units<cLine) (hK:X.K=K:=by rfl):OpR X (compareOp .NotEq) (λ x y H Q=>∃ (a b:Addr) (ts:List Addr),x=.ref a/\y=.ref b/\SqL K H a (ts.map V.ref)/\SqL K H b (ts.map V.ref)/\Q (.bl false) H):=by
 subst hK
 intro pins s σ H x y v u Q I rx ry h
 obtain ⟨a,b,ts,rfl,rfl,h1,h2,q⟩:=h
 cases rx
 cases ry
 obtain ⟨us,r1,p1,_⟩:=I.list h1
 obtain ⟨vs,r2,p2,_⟩:=I.list h2
 obtain rfl:=kK r1
 obtain rfl:=kK r2
 refine SeqAt.RcNeAt.lists (e:=λ _=>true) p1.isList p2.isList rfl hu (λ j _ _=>SeqAt.EqAt.same _) _ _ _ _ (aQ I q ?_)
 simp
end
theorem Fw {P:Program} {w:World} {nN:Nat} {fs:List (Nat×Nat)} {wi:TI} {g:TG} {tc:TT} {te:TE} {σ:St} {H:Hp} {Q:VK} (q:wi σ H λ J H1=>∀ D,H1 D=none->∃ (n:Nat) (W:Nat->List Key->Hp->Prop),n+1<scanBound/\W 0 [] (upd H1 D (bb P w D [])) /\
 ∀ i ys H2,i<=n->W i ys H2->H2 D=some (bb P w D ys)->(J.stop i H2/\Q (.ref D) H2)∨(i<n/\J.go i H2/\∀ x H3,J.yld i H2 x H3->g x (tau nN fs σ) H3 λ τ4 H4=>
  (∀ (j:Nat) v,(tau nN fs σ)[j]?=some (some v)->τ4[j]?=some (some v))/\tc τ4 H4 λ b H5=>
   if b=true then te τ4 H5 λ v H6=>∃ k:Key,v=kV k/\H6 D=some (bb P w D ys)/\W (i+1) (eo ys k) (upd H6 D (bb P w D (eo ys k))) else H5 D=some (bb P w D ys)/\W (i+1) ys H5)):tSC P w nN fs wi g tc te σ H Q:=q
end L2
local macro_rules | `(tactic| array_get_dec) => `(tactic| with_reducible refine L2.Fw ?_)
namespace L2
open PySem PySem.Spec PyProof.Rows
theorem scL {P:Program} {w:World} {K:PySem.W.Frag} {nN:Nat} {fs:List (Nat×Nat)} {te:TE} {σ:St} {H:Hp} {QD:Addr->Hp->Prop} {a:Addr} {xs:List V} (f:Nat->Key) (hl:SqL K H a xs) (hz:xs.length+1<scanBound) (h1:(tau nN fs σ)[0]?=some none)
  (ht:∀ D L i (Qc:VK),H D=none->i<xs.length->Qc (kV (f i)) (upd H D (bb P w D L))->te ((tau nN fs σ).set 0 (some (xs.getD i .non))) (upd H D (bb P w D L)) Qc)
  (hQ:∀ D,H D=none->QD D (upd H D (bb P w D (cU ((List.range xs.length).map f))))):
  ∀ D,H D=none->∃ (n:Nat) (W:Nat->List Key->Hp->Prop),n+1<scanBound/\W 0 [] (upd H D (bb P w D [])) /\
   ∀ i ys H2,i<=n->W i ys H2->H2 D=some (bb P w D ys)->((Itl K a).stop i H2/\QD D H2)∨(i<n/\(Itl K a).go i H2/\∀ x H3,(Itl K a).yld i H2 x H3->dD 0 x (tau nN fs σ) H3 λ τ4 H4=>
    (∀ (j:Nat) v,(tau nN fs σ)[j]?=some (some v)->τ4[j]?=some (some v))/\C7 τ4 H4 λ b H5=>
     if b=true then te τ4 H5 λ v H6=>∃ k:Key,v=kV k/\H6 D=some (bb P w D ys)/\W (i+1) (eo ys k) (upd H6 D (bb P w D (eo ys k))) else H5 D=some (bb P w D ys)/\W (i+1) ys H5):=by
 intro D hD
 refine ⟨xs.length,λ i L H2=>H2=upd H D (bb P w D L)/\L=cU ((List.range i).map f),hz,⟨rfl,rfl⟩,?_⟩
 rintro i L _ hi ⟨rfl,e⟩ _
 have hl':=zd (o:=bb P w D L) hl hD
 rcases Nat.lt_or_ge i xs.length with hlt | hge
 ·refine .inr ⟨hlt,⟨xs,xs[i],hl',List.getElem?_eq_getElem hlt⟩,?_⟩
  rintro x H3 ⟨rfl,hx⟩
  have ex:x=xs.getD i .non:=by
   have:=hx xs hl'
   simp [List.getD,this]
  subst ex
  refine jL ⟨ik h1,?_⟩
  refine xr ?_
  refine zO ?_
  refine ht D L i _ hD hlt ⟨f i,rfl,ae,by rw [vc],?_⟩
  rw [List.range_succ,List.map_append,List.map_cons,List.map_nil,iW,e]
 ·have:i=xs.length:=by omega
  subst this
  refine .inl ⟨⟨xs,hl',Nat.le_refl _⟩,?_⟩
  rw [e]
  exact hQ D hD
section
variable {X:Cx}
end
section
variable {prog:Program} {w:World} {A:Around} {E:Value->Shared->Prop} {s:Shared}
end
section
variable {P:Program} {w:World} {A:Around} {R:Result->Shared->Prop} {I:Addr} {fp wr:List Addr} {G:Array GenState->Array GenState->Prop} {n:Nat} {Pv:Nat->Value->Prop} {St:Nat->Shared->Prop}
end
section
variable {X:Cx} {pins:List (Addr×Obj)} {σ:St} {H:Hp} {s:Shared}
end
section
variable {X:Cx}
end
section
variable {X:Cx}
end
section
variable {X:Cx}
end
section
variable {X:Cx}
theorem pQ (K:PySem.W.Frag) (hu:X.A.units<cLine) (hK:X.K=K:=by rfl):OpR X (compareOp .Eq) (λ x y H Q=>∃ (a b:Addr) (xs:List V),x=.ref a/\y=.ref b/\SqL K H a xs/\SqL K H b []/\Q (.bl xs.isEmpty) H):=by
 subst hK
 intro pins s σ H x y v u Q I rx ry h
 obtain ⟨a,b,xs,rfl,rfl,h1,h2,q⟩:=h
 cases rx
 cases ry
 obtain ⟨us,r1,p1,_⟩:=I.list h1
 obtain ⟨vs,r2,p2,_⟩:=I.list h2
 have l1:=r1.length
 cases r2
 cases xs with
 | nil=>
  cases r1
  exact SeqAt.eq_listAt (e:=λ _=>true) p1.isList p2.isList rfl hu (λ j k1 _=>absurd k1 (by simp)) (aQ I q rfl)
 | cons z zs=>exact SeqAt.eq_list_lengthsAt p1.isList p2.isList (by rw [List.size_toArray,<- l1];simp) hu (aQ I q rfl)
end
section
variable {X:Cx}
end
section
variable {prog:Program} {w:World} {A:Around} {E:Value->Shared->Prop}
end
section
variable {X:Cx} {pos:Pos}
end
theorem oF (elt target iter target2 iter2:Expr) (ifs2:List Expr) (scope:Scope) (pos:Pos) (it acc:Value) (env:Env):
  compTurn (.SetComp elt [⟨target,iter,[],0⟩,⟨target2,iter2,ifs2,0⟩] scope pos) 0 it acc env=(do
   standAt iter.pos
   match <- pyNext it with
   | none=>pure (.done .next)
   | some v=>
    letOwnedTupleGo target it v
    assign target env v
    let x <- eval iter2 env
    standAt iter2.pos
    let x <- foldedSetIterable iter2 env x
    let _ <- runOwn (.compStart (.SetComp elt [⟨target,iter,[],0⟩,⟨target2,iter2,ifs2,0⟩] scope pos) 1 (<- holding [x] (pyIter x)) acc env) env
    again (.compLoop (.SetComp elt [⟨target,iter,[],0⟩,⟨target2,iter2,ifs2,0⟩] scope pos) 0 it acc env)):=by rfl
theorem oK (elt target iter target2 iter2:Expr) (ifs2:List Expr) (scope:Scope) (pos:Pos) (it acc:Value) (env:Env):
  compTurn (.SetComp elt [⟨target,iter,[],0⟩,⟨target2,iter2,ifs2,0⟩] scope pos) 1 it acc env=(do
   standAt iter2.pos
   match <- pyNext it with
   | none=>pure (.done .next)
   | some v=>
    letOwnedTupleGo target2 it v
    assign target2 env v
    let mut ok:=true
    for c in ifs2 do
     if ok then ok <- isTrue c env (eval c env)
    if ok then
     (do let v <- eval elt env;standAt elt.pos;let _ <- call (.builtin "set.add") [acc,v])
    again (.compLoop (.SetComp elt [⟨target,iter,[],0⟩,⟨target2,iter2,ifs2,0⟩] scope pos) 1 it acc env)):=by rfl
section
variable {prog:Program} {w:World} {A:Around} {R:Result->Shared->Prop} {s:Shared}
theorem hZ {elt target iter target2 iter2:Expr} {ifs2:List Expr} {scope:Scope} {pos:Pos} {it acc:Value} {env:Env}
  (h0:codeAny (model prog w) A (.compLoop (.SetComp elt [⟨target,iter,[],0⟩,⟨target2,iter2,ifs2,0⟩] scope pos) 1 it acc env) R s)
  (h:wpAny (model prog w) A (pyIter it) (λ it' s'=>codeAny (model prog w) A (.compLoop (.SetComp elt [⟨target,iter,[],0⟩,⟨target2,iter2,ifs2,0⟩] scope pos) 1 it' acc env) R s')
   (notedBy (model prog w) A env λ x s'=>R (.error x) s') s):
  codeAny (model prog w) A (.compStart (.SetComp elt [⟨target,iter,[],0⟩,⟨target2,iter2,ifs2,0⟩] scope pos) 1 it acc env) R s:=by
 refine codeAny_of_tree ?_
 show wpAny _ A ((compStart (.SetComp elt [⟨target,iter,[],0⟩,⟨target2,iter2,ifs2,0⟩] scope pos) 1 it acc env).onRaise (λ x=>do noteFrame x env;standAt theWindowsPlace)) _ _ s
 refine wpAny_notedAt ?_
 unfold compStart
 show wpAny _ A (ask >>= _) _ _ s
 refine wpAny_bind (wpAny_askSetting (wpAny_ite ?_))
 split
 ·first
   | exact wpAny_bind (wpAny_pure (wpAny_pure (And.intro rfl h0)))
   | exact wpAny_pure (And.intro rfl h0)
 ·first
   | exact wpAny_bind (wpAny_rule (wpAny_bind (wpAny_standAt (wpAny_bind (wpAny_mono h (λ it' s' h'=>wpAny_pure (And.intro rfl h')) λ _ _ x=>x)))))
   | (refine wpAny_bind (wpAny_rule ?_);show wpAny _ _ (standAt iter2.pos >>= _) _ _ s;exact wpAny_bind (wpAny_standAt (wpAny_bind (wpAny_mono h (λ it' s' h'=>wpAny_pure (And.intro rfl h')) λ _ _ x=>x))))
end
def tSI (P:Program) (w:World) (D:Addr) (wi:TI) (g:TG) (tc:TT) (te:TE) (ys:List Key) (Q:List Key->Hp->Prop):St->Hp->Prop:=λ τ H=>wi τ H λ J H1=>∃ (n:Nat) (W:Nat->List Key->Hp->Prop),H1 D=some (bb P w D ys)/\W 0 ys H1 /\
 ∀ i zs H2,i<=n->W i zs H2->H2 D=some (bb P w D zs)->(J.stop i H2/\Q zs H2)∨(i<n/\J.go i H2/\∀ x H3,J.yld i H2 x H3->g x τ H3 λ τ4 H4=>
  (∀ (j:Nat) v,τ[j]?=some (some v)->τ4[j]?=some (some v))/\tc τ4 H4 λ b H5=>
   if b=true then te τ4 H5 λ v H6=>∃ k:Key,v=kV k/\zs.length+1<scanBound/\H6 D=some (bb P w D zs)/\W (i+1) (eo zs k) (upd H6 D (bb P w D (eo zs k))) else H5 D=some (bb P w D zs)/\W (i+1) zs H5)
section
variable {Y:Cx} {elt tg0 iter0 tg iter:Expr} {ifs:List Expr} {scope:Scope} {pos:Pos} {wi:TI} {g:TG} {tc:TT} {te:TE}
theorem vU (hcalm:Y.calm=true) (hxe:Y.xe=λ _ _=>False) (hi:PI Y tg iter wi) (hg:PG Y tg g) (hc:PTs Y ifs tc) (he:PE Y elt te) (hs:∀ x,foldedSetIterable iter Y.env x=pure x)
  {pins:List (Addr×Obj)} {s:Shared} {τ:St} {H:Hp} {D:Addr} {ys:List Key} {Q:List Key->Hp->Prop} (I:Inv Y pins τ H s) (h:tSI Y.prog Y.w D wi g tc te ys Q τ H) {β:Type} {kont:Sem β} {E:Value->Shared->Prop} {Q':β->Shared->Prop}
  (k:∀ zs H' s',Inv Y pins τ H' s'->Q zs H'->H' D=some (bb Y.prog Y.w D zs)->wpAny (model Y.prog Y.w) Y.A kont Q' E s'):
  wpAny (model Y.prog Y.w) Y.A (do
    let x <- eval iter Y.env
    standAt iter.pos
    let x <- foldedSetIterable iter Y.env x
    let _ <- runOwn (.compStart (.SetComp elt [⟨tg0,iter0,[],0⟩,⟨tg,iter,ifs,0⟩] scope pos) 1 (<- holding [x] (pyIter x)) (.ref D) Y.env) Y.env
    kont) Q' E s:=by
 have hi':=hi pins s τ H _ I h
 rw [hxe] at hi'
 refine wpAny_bind (wpAny_mono hi' (λ v s1 h1=>?_) λ _ _ f=>f.elim)
 refine wpAny_bind (wpAny_standAt ?_)
 rw [hs]
 refine wpAny_bind (wpAny_pure ?_)
 refine wpAny_bind (wpAny_holding (wpAny_mono h1 (λ itv s2 h2=>?_) λ _ _ f=>f.elim))
 obtain ⟨it,fp,tn,J,H1,e,I2,T,st2,f2,n,W,hD,w0,turn⟩:=h2
 subst e
 have fst:∀ {H':Hp},(∀ b∈fp,H' b=none)->∀ b∈fp,iA Y pins H' b:=λ hn b hb=>⟨hn b hb,(f2 b hb).2⟩
 refine wpAny_bind (wpAny_runOwn ?_ (by intro x;cases x))
 have loop:codeAny (model Y.prog Y.w) Y.A (.compLoop (.SetComp elt [⟨tg0,iter0,[],0⟩,⟨tg,iter,ifs,0⟩] scope pos) 1 (.ref it) (.ref D) Y.env)
   (λ r s'=>match r with | .ok f=>wpAny (model Y.prog Y.w) Y.A kont Q' E s' | .error e=>cameBackBy (model Y.prog Y.w) Y.A Y.env E e s') s2:=by
  refine codeAny_loop rfl (λ m s'=>∃ i zs H2,m=n - i/\i<=n/\W i zs H2/\H2 D=some (bb Y.prog Y.w D zs)/\(∀ b∈fp,H2 b=none)/\Inv Y pins τ H2 s'/\tn i s'.heap) ?_ n
   ⟨0,ys,H1,rfl,Nat.zero_le _,w0,hD,λ b hb=>(f2 b hb).1,I2,st2⟩
  rintro m s5 ⟨i,zs,H2,rfl,hi,w5,hD5,fr5,I5,st5⟩
  show wpAny _ Y.A ((compTurn (.SetComp elt [⟨tg0,iter0,[],0⟩,⟨tg,iter,ifs,0⟩] scope pos) 1 (.ref it) (.ref D) Y.env).onRaise (λ x=>do noteFrame x Y.env;theTreesLotGoes x)) _ _ s5
  rw [oK];refine wpAny_noted (wpAny_bind (wpAny_standAt (wpAny_bind ?_)))
  rcases turn i zs H2 hi w5 hD5 with ⟨stop,q⟩ | ⟨hlt,go,step⟩
  ·have h6:=T.done Y rfl rfl rfl hcalm i pins s5 _ H2 (λ _ _=>False) I5 (fst fr5) st5 stop
   refine wpAny_mono h6 (λ r s6 z=>?_) λ _ _ f=>f.elim
   obtain ⟨hr,I6⟩:=z
   subst hr
   exact wpAny_pure (k zs H2 s6 I6 q hD5)
  ·have h6:=T.item Y rfl rfl rfl hcalm i pins s5 _ H2 (λ _ _=>False) I5 (fst fr5) st5 go
   refine wpAny_mono h6 (λ r s6 z=>?_) λ _ _ f=>f.elim
   obtain ⟨v,hr,h7⟩:=z
   subst hr
   refine wpAny_bind (wpAny_mono h7 (λ _ s7 z=>?_) λ _ _ f=>f.elim)
   obtain ⟨x,H7,I7,rx,y7,st7,fr7⟩:=z
   have I7':=I7.pinned (fst fr7) (T.obj _ _ st7)
   have h8:=hg _ s7 _ H7 x v _ I7' rx (step x H7 y7)
   rw [hxe] at h8
   refine wpAny_bind (wpAny_mono h8 (λ _ s8 z=>?_) λ _ _ f=>f.elim)
   obtain ⟨τ8,H8,I8,w8,q8⟩:=z
   have h9:=hc _ s8 τ8 H8 _ I8 q8
   rw [hxe] at h9
   refine wpAny_bind (wpAny_mono h9 (λ ok s9 z=>?_) λ _ _ f=>f.elim)
   obtain ⟨H9,I9,q9⟩:=z
   have cK:∀ {H':Hp} {s':Shared},Inv Y (pins++iF fp s7.heap) τ8 H' s'->tn (i+1) s'.heap/\(∀ b∈fp,H' b=none)/\Inv Y pins τ H' s':=λ {H' s'} J=>by
    refine ⟨T.keep _ _ _ st7 λ b hb o e=>(J.pin (b,o) (List.mem_append_right _ (List.mem_append_right _ (bE hb e)))).1,λ b hb=>?_,J.dY.weak (I5.len.trans J.len.symm) w8⟩
    obtain ⟨o,e,_⟩:=T.obj _ _ st7 b hb
    exact (J.pin (b,o) (List.mem_append_right _ (List.mem_append_right _ (bE hb e)))).2.1
   cases ok with
   | false=>
    obtain ⟨hD9,w9⟩:=(if_neg Bool.false_ne_true ▸ q9:_)
    obtain ⟨z1,z2,z3⟩:=cK I9
    exact wpAny_pure ⟨rfl,n - (i+1),by omega,i+1,zs,H9,rfl,hlt,w9,hD9,z2,z3,z1⟩
   | true=>
    have q9:=(if_pos rfl ▸ q9:_)
    have h10:=he _ s9 τ8 H9 _ I9 q9
    rw [hxe] at h10
    refine wpAny_bind (wpAny_bind (wpAny_mono h10 (λ y s10 z=>?_) λ _ _ f=>f.elim))
    obtain ⟨y',H10,I10,ry,ky,ek,hsz,hD10,w10⟩:=z
    subst ek
    have S10:cF Y.prog Y.w D zs s10.heap:=(I10.hok _ _ hD10).1
    refine wpAny_bind (wpAny_standAt (wpAny_bind ?_))
    refine jq (knd:=cE Y.prog Y.w) (k:=ky) (pY ry) (ou (pY ry)) S10.1 S10.2 hsz λ h' sb S2 X2=>?_
    have S3:=cF.add S2 X2
    have I11:Inv Y _ τ8 (upd H10 D (bb Y.prog Y.w D (eo zs ky))) { s10 with heap:=h',toks:=s10.toks+1 }:=
     I10.write (by rw [hD10];trivial) (.inl rfl) (λ b u hb e=>(sb.2 b hb).trans e) (let ⟨o,_,_,_,ho,_⟩:=S3.1;⟨o,ho⟩) S3.ok
    obtain ⟨z1,z2,z3⟩:=cK I11
    exact wpAny_pure (wpAny_pure ⟨rfl,n - (i+1),by omega,i+1,eo zs ky,_,rfl,hlt,w10,ae,z2,z3,z1⟩)
 exact hZ loop (T.self _ 0 _ _ _ st2 loop)
end
def Bl (P:Program) (w:World) (nN:Nat) (fs:List (Nat×Nat)) (wi:TI) (g:TG) (wi2:TI) (g2:TG) (tc:TT) (te:TE):TE:=λ σ H Q=>wi σ H λ J H1=>∀ D,H1 D=none->∃ (n:Nat) (W:Nat->List Key->Hp->Prop),W 0 [] (upd H1 D (bb P w D [])) /\
 ∀ i ys H2,i<=n->W i ys H2->H2 D=some (bb P w D ys)->(J.stop i H2/\Q (.ref D) H2)∨(i<n/\J.go i H2/\∀ x H3,J.yld i H2 x H3->g x (tau nN fs σ) H3 λ τ4 H4=>
  (∀ (j:Nat) v,(tau nN fs σ)[j]?=some (some v)->τ4[j]?=some (some v))/\tSI P w D wi2 g2 tc te ys (λ zs H'=>W (i+1) zs H') τ4 H4)
section
variable {X:Cx} {scope:Scope} {N:List Str} {fs:List (Nat×Nat)} {tg elt iter tg2 iter2:Expr} {ifs:List Expr} {pos cpos:Pos} {wi wi2:TI} {g g2:TG} {tc:TT} {te:TE}
theorem rq {use:Option (Value->Sem Unit)} {R':Value->Shared->Prop} (S:jv X scope N fs) (hcalm:X.calm=true)
  (hi:PI X tg iter wi) (hg:∀ cl C s₀ H fp,PG (aX X scope cl C N s₀ H fp) tg g) (hi2:∀ cl C s₀ H fp,PI (aX X scope cl C N s₀ H fp) tg2 iter2 wi2) (hg2:∀ cl C s₀ H fp,PG (aX X scope cl C N s₀ H fp) tg2 g2) (hc:∀ cl C s₀ H fp,PTs (aX X scope cl C N s₀ H fp) ifs tc) (he:∀ cl C s₀ H fp,PE (aX X scope cl C N s₀ H fp) elt te)
  (hs:∀ x,foldedSetIterable iter X.env x=pure x) (hs2:∀ scope cl C x,foldedSetIterable iter2 (compEnvC scope cl C X.env) x=pure x) {pins:List (Addr×Obj)} {s:Shared} {σ:St} {H:Hp} {Q:VK} (I:Inv X pins σ H s) (h:Bl X.prog X.w N.length fs wi g wi2 g2 tc te σ H Q)
  (hfin:∀ (D C:Addr) (H2:Hp) (s':Shared),Inv X pins σ H2 s'->Q (.ref D) H2->(∃ m,s'.heap.Ns C m)->iA X pins H2 C->compPost (model X.prog X.w) X.A X.xe use R' (.ref D) C (.ok .next) s'):
  wpAny (model X.prog X.w) X.A (comprehension (.SetComp elt [⟨tg,iter,[],0⟩,⟨tg2,iter2,ifs,0⟩] scope pos) scope X.env cpos (newSet (.type "set")) false (eval iter X.env) use) R' X.xe s:=by
 have hfree:∀ y∈scope.names,y.2=.free->∃ c,X.env.cells.lookup y.1=some c:=λ y hy hf=>by
  have q:=List.all_eq_true.mp S.free y hy
  rw [hf] at q
  refine I.ok.has y.1 ?_
  simpa using q
 have hcell:∀ y∈scope.names,y.2≠.cell:=λ y hy=>by simpa using List.all_eq_true.mp S.cell y hy
 have hnames:∀ y∈scope.names,y.2=.local->scope.names.lookup y.1=some .local:=λ y hy hl=>by
  have q:=List.all_eq_true.mp S.own y hy
  rw [hl] at q
  simpa using q
 have hclo:=gZ hfree
 generalize hcl:ju scope.names X.env.cells []=cl at hclo
 have back:∀ {y c},cl.lookup y=some c->X.env.cells.lookup y=some c:=λ {y c} e=>eN (names:=scope.names) (acc:=[]) (λ z=>by cases z) (by rw [hcl];exact e)
 have hasc:∀ {y},scope.names.lookup y=some .free->∃ c,cl.lookup y=some c:=λ {y} e=>by
  have:=gc (cells:=X.env.cells) (acc:=[]) hfree (PySem.mem_of_lookup e)
  rw [hcl] at this
  exact Option.isSome_iff_exists.mp this
 refine wpAny_comprehension_free (use:=use) rfl hs hclo S.kind hnames (thn (hi pins s σ H _ I h) λ v s1 h1=>thn h1 λ itv s2 h2=>?_)
 obtain ⟨it,fp,tn,J,H1,e,I2,T,st2,f2,hq⟩:=h2
 subst e
 have hD:H1 s2.heap.objs.size=none:=I2.fresh
 obtain ⟨n,W,w0,turn⟩:=hq _ hD
 refine vA λ led hled=>?_
 have I3:Inv X pins σ (upd H1 s2.heap.objs.size (bb X.prog X.w s2.heap.objs.size [])) { s2 with heap:=s2.heap.push (iC led),toks:=s2.toks }:=I2.laid (λ b u e=>Heap.get?_push_of_some _ e) (Nat.le_refl _) (qp hled (Heap.get?_push_size _ rfl)).ok
 have st3:tn 0 (s2.heap.push (iC led)):=T.keep _ _ _ st2 λ b hb o e=>Heap.get?_push_of_some _ e
 have fpD:∀ b∈fp,b≠s2.heap.objs.size:=λ b hb=>let ⟨_,e,_⟩:=T.obj _ _ st2 b hb;Nat.ne_of_lt (Heap.lt_size e)
 generalize hH3:upd H1 s2.heap.objs.size (bb X.prog X.w s2.heap.objs.size [])=H3 at I3 w0
 have fr3:∀ b∈fp,H3 b=none:=λ b hb=>by rw [<- hH3,aq (fpD b hb)];exact (f2 b hb).1
 have hD3:H3 s2.heap.objs.size=some (bb X.prog X.w s2.heap.objs.size []):=by rw [<- hH3];exact ae
 clear hH3
 generalize hhp:s2.heap.push (iC led)=h3 at I3 st3 ⊢
 have hc3:∀ (E:Value->Shared->Prop) (Q':Env->Shared->Prop),(∀ h4,h4.Ns h3.objs.size (λ _=>none)->(∀ b o,h3.get? b=some o->h4.get? b=some o)->h3.objs.size<h4.objs.size->Q' (newEnv scope h3.objs.size X.env.globals cl X.env.qual none .none (some X.env) X.env.builtins) { s2 with heap:=h4,toks:=s2.toks }) ->
   wpAny (model X.prog X.w) X.A (newFunctionEnv scope X.env.globals cl [] X.env.qual none .none (some X.env)) Q' E { s2 with heap:=h3 }:=λ E Q' k=>by
  refine wpAny_newFunctionEnv hcell (by intro y hy;cases hy) (λ h4 a b=>?_) S.kind
  exact k h4 a (λ b' o e=>b.extBut b' o (Nat.ne_of_lt (Heap.lt_size e)) (Heap.get?_push_of_some _ e)) (by rw [b.1,Heap.size_push];exact Nat.lt_succ_self _)
 refine hc3 _ _ λ h4 hns k4 s34=>?_
 have fpl:∀ b∈fp,b<h3.objs.size:=λ b hb=>let ⟨_,e,_⟩:=T.obj _ _ st3 b hb;Heap.lt_size e
 have fps:∀ b∈fp,b ∉ frs X.stack:=λ b hb z=>by
  rcases List.mem_cons.mp (I2.hW b z) with q | q
  ·exact (f2 b hb).2.1 q
  ·exact (f2 b hb).2.2.1 q
 have fst:∀ {H':Hp},(∀ b∈fp,H' b=none)->∀ b∈fp,iA (aX X scope cl h3.objs.size N { s2 with heap:=h3,toks:=s2.toks } H3 fp) [] H' b:=λ hn b hb=>
  ⟨hn b hb,Nat.ne_of_lt (fpl b hb),fps b hb,.inl hb,λ x c e=>(f2 b hb).2.2.2.2.1 x c (back e),λ q hq=>by cases hq⟩
 have hYok:(aX X scope cl h3.objs.size N { s2 with heap:=h3,toks:=s2.toks } H3 fp).Ok:=by
  refine ⟨I3.ok.mod,S.kind,I.ok.glob,I.ok.blt,Nat.le_refl _,λ x y c e1 e2=>I3.ok.inj x y c (back e1) (back e2),λ x hx=>?_,λ x c z=>(by cases z),λ _=>I.ok.hd hcalm,I.ok.frames,.inl rfl,
   λ b hb=>⟨Nat.ne_of_lt (fpl b hb),λ x c e=>(f2 b hb).2.2.2.2.1 x c (back e)⟩,I3.bs,Nat.le_trans I3.ok.bsz I3.sz,λ b o e hb=>?_,fps,I3.stack,I3.gh⟩
  ·have hx:(relabel scope X.env).names.lookup x=some .cell∨(relabel scope X.env).names.lookup x=some .free:=hx
   have hx2:scope.names.lookup x=some .cell∨scope.names.lookup x=some .free:=by
    rcases hx with z | z
    ·exact cw z
    ·exact (cw z).elim .inr .inr
   rcases hx2 with z | z
   ·exact absurd rfl (hcell _ (PySem.mem_of_lookup z))
   ·exact hasc z
  ·rcases (f2 b hb).2.2.2.1 with z | z
   ·exact I3.ok.mQ b o e z
   ·exact absurd (Nat.lt_of_lt_of_le (Heap.lt_size e) (Nat.le_trans I3.ok.bsz z)) (Nat.lt_irrefl _)
 have IY:Inv (aX X scope cl h3.objs.size N { s2 with heap:=h3,toks:=s2.toks } H3 fp) [] (tau N.length fs σ) H3 { s2 with heap:=h4,toks:=s2.toks }:=by
  refine ⟨hYok,rfl,I3.bare,Un.kept k4,⟨_,hns,λ i x v e1 e2 e3=>?_⟩,λ x c e=>?_,I3.hok.fresh (Nat.le_refl _),λ x c e=>I3.cH x c (back e),λ q hq=>(by cases hq),I3.hok.kept k4,mq _ _ _⟩
  ·obtain ⟨j,hj,hv⟩:=mn e2
   obtain ⟨x',q1,q2,q3,q4⟩:=S.fs.mem hj
   have e1:N[i]?=some x:=e1
   rw [e1] at q1
   cases q1
   obtain ⟨m,_,hl⟩:=I3.loc
   obtain ⟨u,ru,lk⟩:=hl j x v q2 hv (by rcases q4 with z | z;exact .inr (.inl z);exact .inr (.inr z))
   refine ⟨u,ru,.inr ⟨gG q3,?_⟩⟩
   rcases lk with ⟨z,_⟩ | ⟨_,c,e,hcc⟩
   ·rcases q4 with y | y <;> (rw [y] at z;cases z)
   ·obtain ⟨c',e'⟩:=hasc q3
    have z:=back e'
    rw [e] at z
    cases z
    obtain ⟨o,ho,hd⟩:=hcc
    exact ⟨c,e',o,k4 _ _ ho,hd⟩
  ·obtain ⟨v,o,ho,hd⟩:=I3.cell x c (back e)
   exact ⟨v,o,k4 _ _ ho,hd⟩
 have hg:=hg cl h3.objs.size { s2 with heap:=h3,toks:=s2.toks } H3 fp
 have hi2:=hi2 cl h3.objs.size { s2 with heap:=h3,toks:=s2.toks } H3 fp
 have hg2:=hg2 cl h3.objs.size { s2 with heap:=h3,toks:=s2.toks } H3 fp
 have hc:=hc cl h3.objs.size { s2 with heap:=h3,toks:=s2.toks } H3 fp
 have he:=he cl h3.objs.size { s2 with heap:=h3,toks:=s2.toks } H3 fp
 generalize hYd:aX X scope cl h3.objs.size N { s2 with heap:=h3,toks:=s2.toks } H3 fp=Y at hg hi2 hg2 hc he IY fst
 have eP:Y.prog=X.prog:=by rw [<- hYd];rfl
 have ew:Y.w=X.w:=by rw [<- hYd];rfl
 have eK:Y.K=X.K:=by rw [<- hYd];rfl
 have ec:Y.calm=true:=by rw [<- hYd];rfl
 have eA:Y.A=X.A:=by rw [<- hYd];rfl
 have ex:Y.xe=λ _ _=>False:=by rw [<- hYd];rfl
 have ee:Y.env=compEnvC scope cl h3.objs.size X.env:=by rw [<- hYd];rfl
 have outX:∀ {H':Hp} {τ':St} {s':Shared},Inv Y [] τ' H' s'->Inv X pins σ H' s':=λ {H' τ' s'} J=>by
  have J':=J
  rw [<- hYd] at J'
  refine I3.rG J'.os J'.base J'.hok J'.bare λ b hb=>?_
  obtain ⟨_,z1,z2,z3,z4,z5⟩:=f2 b hb
  exact ⟨z3,z1,z4,z5⟩
 have loop:codeAny (model X.prog X.w) X.A (.compLoop (.SetComp elt [⟨tg,iter,[],0⟩,⟨tg2,iter2,ifs,0⟩] scope pos) 0 (.ref it) (.ref s2.heap.objs.size) (compEnvC scope cl h3.objs.size X.env))
   (compPost (model X.prog X.w) X.A X.xe use R' (.ref s2.heap.objs.size) h3.objs.size) { s2 with heap:=h4,toks:=s2.toks }:=by
  refine codeAny_loop rfl (λ m s'=>∃ i ys H2,m=n - i/\i<=n/\W i ys H2/\H2 s2.heap.objs.size=some (bb X.prog X.w s2.heap.objs.size ys)/\(∀ b∈fp,H2 b=none)/\Inv Y [] (tau N.length fs σ) H2 s'/\tn i s'.heap) ?_ n
   ⟨0,[],H3,rfl,Nat.zero_le _,w0,hD3,fr3,IY,T.keep _ _ _ st3 λ b _ o e=>k4 b o e⟩
  rintro m s5 ⟨i,ys,H2,rfl,hi,w5,hD5,fr5,I5,st5⟩
  show wpAny _ X.A ((compTurn (.SetComp elt [⟨tg,iter,[],0⟩,⟨tg2,iter2,ifs,0⟩] scope pos) 0 (.ref it) (.ref s2.heap.objs.size) (compEnvC scope cl h3.objs.size X.env)).onRaise (λ x=>do noteFrame x (compEnvC scope cl h3.objs.size X.env);theTreesLotGoes x)) _ _ s5
  rw [oF];refine wpAny_noted (wpAny_bind (wpAny_standAt (wpAny_bind ?_)))
  rcases turn i ys H2 hi w5 hD5 with ⟨stop,q⟩ | ⟨hlt,go,step⟩
  ·have h6:=T.done Y eP ew eK ec i [] s5 _ H2 (λ _ _=>False) I5 (fst fr5) st5 stop
   rw [eA] at h6
   refine wpAny_mono h6 (λ r s6 z=>?_) λ _ _ f=>f.elim
   obtain ⟨hr,I6⟩:=z
   subst hr
   refine wpAny_pure (hfin _ _ H2 s6 (outX I6) q ?_ ?_)
   ·obtain ⟨m,hm,_⟩:=I6.loc
    rw [ee] at hm
    exact ⟨m,hm⟩
   ·have z:=I6.free
    rw [ee] at z
    exact I3.oH (Nat.le_refl _) z
  ·have h6:=T.item Y eP ew eK ec i [] s5 _ H2 (λ _ _=>False) I5 (fst fr5) st5 go
   rw [eA] at h6
   refine wpAny_mono h6 (λ r s6 z=>?_) λ _ _ f=>f.elim
   obtain ⟨v,hr,h7⟩:=z
   subst hr
   refine wpAny_bind (wpAny_mono h7 (λ _ s7 z=>?_) λ _ _ f=>f.elim)
   obtain ⟨x,H7,I7,rx,y7,st7,fr7⟩:=z
   have I7':=I7.pinned (fst fr7) (T.obj _ _ st7)
   have h8:=hg _ s7 _ H7 x v _ I7' rx (step x H7 y7)
   rw [eP,ew,eA,ee,ex] at h8
   refine wpAny_bind (wpAny_mono h8 (λ _ s8 z=>?_) λ _ _ f=>f.elim)
   obtain ⟨τ8,H8,I8,w8,q8⟩:=z
   have cK:∀ {H':Hp} {s':Shared},Inv Y ([]++iF fp s7.heap) τ8 H' s'->tn (i+1) s'.heap/\(∀ b∈fp,H' b=none)/\Inv Y [] (tau N.length fs σ) H' s':=λ {H' s'} J=>by
    refine ⟨T.keep _ _ _ st7 λ b hb o e=>(J.pin (b,o) (List.mem_append_right _ (List.mem_append_right _ (bE hb e)))).1,λ b hb=>?_,J.dY.weak (I5.len.trans J.len.symm) w8⟩
    obtain ⟨o,e,_⟩:=T.obj _ _ st7 b hb
    exact (J.pin (b,o) (List.mem_append_right _ (List.mem_append_right _ (bE hb e)))).2.1
   rw [<- eP,<- ew,<- eA,<- ee]
   refine vU (D:=s2.heap.objs.size) (ys:=ys) (Q:=λ zs H'=>W (i+1) zs H') ec (by rw [<- hYd];rfl) hi2 hg2 hc he (by rw [ee];exact hs2 _ _ _) I8 (by rw [eP,ew];exact q8) (λ zs H9 s9 I9 w9 hD9=>?_)
   obtain ⟨z1,z2,z3⟩:=cK I9
   exact wpAny_pure ⟨by rw [ee],n - (i+1),by omega,i+1,zs,H9,rfl,hlt,w9,hD9,z2,z3,z1⟩
 exact dE (rest:=[⟨tg2,iter2,ifs,0⟩]) loop (T.self _ 0 _ _ _ (T.keep _ _ _ st3 λ b _ o e=>k4 b o e) loop)
theorem Cn (S:jv X scope N fs) (hcalm:X.calm=true) (hi:PI X tg iter wi) (hg:∀ cl C s₀ H fp,PG (aX X scope cl C N s₀ H fp) tg g) (hi2:∀ cl C s₀ H fp,PI (aX X scope cl C N s₀ H fp) tg2 iter2 wi2) (hg2:∀ cl C s₀ H fp,PG (aX X scope cl C N s₀ H fp) tg2 g2) (hc:∀ cl C s₀ H fp,PTs (aX X scope cl C N s₀ H fp) ifs tc)
  (he:∀ cl C s₀ H fp,PE (aX X scope cl C N s₀ H fp) elt te) (P:Program) (w:World) (hs:∀ x,foldedSetIterable iter X.env x=pure x:=by intro _;rfl) (hs2:∀ scope cl C x,foldedSetIterable iter2 (compEnvC scope cl C X.env) x=pure x:=by intro _ _ _ _;rfl) (hP:X.prog=P:=by rfl) (hw:X.w=w:=by rfl):
  PE X (.SetComp elt [⟨tg,iter,[],0⟩,⟨tg2,iter2,ifs,0⟩] scope pos) (Bl P w N.length fs wi g wi2 g2 tc te):=by
 subst hP hw
 intro pins s σ H Q I h
 rw [jS]
 refine rq (use:=none) S hcalm hi hg hi2 hg2 hc he hs hs2 I h λ D C H2 s' I' q ⟨m,hm⟩ f=>⟨m,hm,λ h' hs'=>?_⟩
 exact ⟨.ref D,H2,I'.off f hs',rfl,q⟩
end
end L2
namespace PySem.F
theorem lW:Manifest.owners.lookup (String.ofList ['r','o','t','a','r','e','t','i','_','t','e','s'].reverse)=some Manifest.sig_set_iterator:=by kernel_rfl
theorem aZ:Slot "set_iterator" "__next__" "set_iterator.__next__":=
 .of (owner:="set_iterator") (n:="__next__") (by rw [typeLookup_type,builtinLookup_eq_fast];kernel_rfl) (by decide +kernel) (by decide +kernel) (by decide +kernel)
  (by first | exact .inl (by decide +kernel) | exact .inr (by decide +kernel)) (by rw [isSubtype_type];kernel_rfl)
theorem cu:entryFor table "set_iterator.__next__"=some Builtin.«set_iterator.__next__»:=entryFor_of_tree (by kernel_rfl)
theorem cf (a:Value):argsOk "set_iterator.__next__" ⟨[a],[]⟩:=by
 unfold argsOk;rw [signature?_of (id:="set_iterator.__next__") (n:=['_','_','t','x','e','n','_','_']) (o:=['r','o','t','a','r','e','t','i','_','t','e','s']) (by kernel_rfl) lW];kernel_rfl
theorem ip:Slot "set_iterator" "__iter__" "set_iterator.__iter__":=
 .of (owner:="set_iterator") (n:="__iter__") (by rw [typeLookup_type,builtinLookup_eq_fast];kernel_rfl) (by decide +kernel) (by decide +kernel) (by decide +kernel)
  (by first | exact .inl (by decide +kernel) | exact .inr (by decide +kernel)) (by rw [isSubtype_type];kernel_rfl)
theorem oq:entryFor table "set.__iter__"=some Builtin.«frozenset.__iter__»:=entryFor_alias (id':="frozenset.__iter__") (by kernel_rfl) (by first | rfl | decide +kernel) (by decide +kernel) (by kernel_rfl)
end PySem.F
namespace PySem
theorem rp (a:Addr):setDrawn a=(do
  let (es,_,t) <- setState a
  let byText <- setsByText
  return !byText&&(!t.plain&&decide (es.size > 1))):=rfl
def mbl (es:Array (Int×Value)) (t:SetTable):Sem Unit:=do if !t.led&&!es.isEmpty then unsupported "set:maker-not-led"
theorem nZ (a:Addr) (slot given epochThen:Nat):setNext a slot given epochThen=(do
  let (es,epoch,t) <- setState a
  if <- setsByText then
   if epoch != epochThen then unsupported "set_iterator.__next__:elements-changed"
   return ((<- setWalk a)[given]?).map λ e=>(e.2,slot)
  if (!t.plain&&decide (es.size > 1)) then unsupported "set_iterator.__next__:the-table-is-plain-no-more"
  mbl es t
  let i:=SetTable.below t.place slot
  return match es[i]?,t.place[i]? with
   | some (_,x),some j=>some (x,j+1)
   | _,_=>none):=rfl
theorem jA {α:Type}:∀ (xs:List α) (i:Nat) (h:i<xs.length),(xs[i]::xs.eraseIdx i).Perm xs
 | x::xs,0,_=>.refl _
 | x::xs,i+1,h=>(List.Perm.swap _ _ _).trans ((jA xs i (by simpa using h)).cons x)
theorem oY {α:Type} (f:Nat->Nat):∀ (n k:Nat) (xs:List α) (out:Array α),xs.length=n->(pickOrder.go f n k xs out).toList.Perm (out.toList++xs)
 | 0,k,xs,out,h=>by
  have:xs=[]:=List.eq_nil_of_length_eq_zero h
  subst this
  simp [pickOrder.go]
 | n+1,k,xs,out,h=>by
  unfold pickOrder.go
  have hlt:f k % xs.length<xs.length:=Nat.mod_lt _ (by omega)
  rw [List.getElem?_eq_getElem hlt]
  dsimp only
  refine (oY f n (k+1) (xs.eraseIdx (f k % xs.length)) (out.push xs[f k % xs.length]) (by rw [List.length_eraseIdx,if_pos hlt];omega)).trans ?_
  rw [Array.toList_push,List.append_assoc]
  refine List.Perm.append_left _ ?_
  exact (jA _ _ hlt)
section
variable {P:Program} {w:World} {A:Around} {E:Value->Shared->Prop} {s:Shared}
theorem pR {src:Source} {n:Nat} {Q:Nat->Shared->Prop} (hn:n≠0) (h:∀ i d',i<n->Q i { s with drawn:=d' }):wpAny (model P w) A (choose src n) Q E s:=
 λ _ _ _=>⟨hn,h _ _ (Nat.mod_lt _ (Nat.pos_of_ne_zero hn))⟩
theorem iy:∀ (n:Nat) (xs:List Nat) {s:Shared} {Q:List Nat->Shared->Prop},xs.length=n ->
  (∀ ys d',ys.Perm xs->Q ys { s with drawn:=d' })->wpAny (model P w) A (drawOrder n xs) Q E s
 | 0,xs,s,Q,h,k=>by
  have:xs=[]:=List.eq_nil_of_length_eq_zero h
  subst this
  exact wpAny_pure (by have:=k [] s.drawn (.refl _);simpa using this)
 | n+1,[],s,Q,h,k=>by simp at h
 | n+1,x::xs,s,Q,h,k=>by
  unfold drawOrder
  refine wpAny_bind (pR (by simp) λ i d' hi=>?_)
  rw [List.getElem?_eq_getElem hi]
  dsimp only
  refine wpAny_bind (iy n ((x::xs).eraseIdx i) (by rw [List.length_eraseIdx,if_pos hi];omega) λ ys d2 hp=>?_)
  exact wpAny_pure (k _ _ ((hp.cons _).trans (jA _ _ hi)))
def bR (h:Heap) (it d:Addr) (first:Value) (i n ep:Nat):Prop:=∃ o,h.get? it=some o/\o.cls=.type "set_iterator"/\o.data=.fields #[first,.int i 0,.ref d,.int n 0,.int ep 0]
theorem bR.typeIs {it d:Addr} {first:Value} {i n ep:Nat} (x:bR s.heap it d first i n ep):s.TypeIs (.ref it) "set_iterator":=let ⟨o,ho,hc,_⟩:=x;⟨o,ho,hc⟩
theorem bR.at' {h h':Heap} {it d:Addr} {first:Value} {i n ep:Nat} (x:bR h it d first i n ep) (e:∀ o,h.get? it=some o->h'.get? it=some o):bR h' it d first i n ep:=let ⟨o,ho,r⟩:=x;⟨o,e _ ho,r⟩
structure fb (h:Heap) (d:Addr) (o:Obj) (es:Array (Int×Value)) (ep:Nat) (t:SetTable):Prop where
 ho:h.get? d=some o
 hd:o.data=.set es ep t
 hf:t.fits es.size=true
theorem fb.at' {h h':Heap} {d:Addr} {o:Obj} {es:Array (Int×Value)} {ep:Nat} {t:SetTable} (x:fb h d o es ep t) (e:∀ o,h.get? d=some o->h'.get? d=some o):fb h' d o es ep t:=⟨e _ x.ho,x.hd,x.hf⟩
section
variable {it d:Addr} {o:Obj} {es:Array (Int×Value)} {ep i:Nat} {t:SetTable}
theorem zt {h:Heap} {o:Obj} {vs:Array Value} {j:Nat} {x:Value} (ho:h.get? it=some o) (hd:o.data=.fields vs):
  ∃ o2,(h.update it (Obj.mapFields (·.setIfInBounds j x))).get? it=some o2/\o2.cls=o.cls/\o2.data=.fields (vs.setIfInBounds j x):=
 ⟨_,Heap.get?_update_self _ ho (Obj.isFreed_of_fields (Obj.data_mapFields hd _)),Obj.cls_mapFields ..,Obj.data_mapFields hd _⟩
theorem o4 {k nx:Nat} {x:Value} {Q:Option Value->Shared->Prop} (hit:bR s.heap it d (.int (k:Int) 0) i es.size ep) (hS:fb s.heap d o es ep t)
  (hn:∀ (A:Around) (E:Value->Shared->Prop) (Q:Option (Value×Nat)->Shared->Prop),Q (some (x,nx)) s->wpAny (model P w) A (setNext d k i ep) Q E s)
  (h:∀ h',bR h' it d (.int (nx:Int) 0) (i+1) es.size ep->Heap.SameBut it s.heap h'->Q (some x) { s with heap:=h' }):
  wpAny (model P w) A (pyNext (.ref it)) Q E s:=by
 (obtain ⟨oi,ho,hc,hd⟩:=id hit
  unfold pyNext
  refine wpAny_bind (wpAny_attempt (wpAny_callSpecial?_slot (name:=Str.ofString "__next__") hit.typeIs F.aZ
   (wpAny_call_entry F.aZ hit.typeIs F.cu ?_ (F.cf _))))
  unfold Builtin.«set_iterator.__next__»
  refine wpAny_bind (wpAny_pure ?_)
  refine wpAny_bind (wpAny_fieldsOf ho hd ?_)
  dsimp only
  refine wpAny_bind (wpAny_setEntries_of hS.ho hS.hd hS.hf ?_)
  rw [if_neg (by simp)]
  simp only [Int.toNat_natCast])
 refine wpAny_bind (hn _ _ _ ?_)
 dsimp only
 refine wpAny_bind (wpAny_setField ho hd (by simp) ?_)
 obtain ⟨o2,ho2,hc2,hd2⟩:=zt (j:=0) (x:=rawInt nx) ho hd
 refine wpAny_bind (wpAny_setField ho2 hd2 (by simp) ?_)
 obtain ⟨o3,ho3,hc3,hd3⟩:=zt (j:=1) (x:=rawInt ((i:Int)+1)) ho2 hd2
 refine wpAny_pure ⟨_,rfl,wpAny_pure (h _ ⟨o3,ho3,hc3.trans (hc2.trans hc),by rw [hd3];simp [rawInt]⟩ ((Heap.SameBut.update ..).trans (Heap.SameBut.update ..)))⟩
theorem jh {k:Nat} {Q:Option Value->Shared->Prop} (hh:A.handled=none) (hit:bR s.heap it d (.int (k:Int) 0) i es.size ep) (hS:fb s.heap d o es ep t)
  (hn:∀ (A:Around) (E:Value->Shared->Prop) (Q:Option (Value×Nat)->Shared->Prop),Q none s->wpAny (model P w) A (setNext d k i ep) Q E s)
  (h:∀ h',Heap.ExtBut it s.heap h'->Q none { s with heap:=h' }):
  wpAny (model P w) A (pyNext (.ref it)) Q E s:=by
 (obtain ⟨oi,ho,hc,hd⟩:=id hit
  unfold pyNext
  refine wpAny_bind (wpAny_attempt (wpAny_callSpecial?_slot (name:=Str.ofString "__next__") hit.typeIs F.aZ
   (wpAny_call_entry F.aZ hit.typeIs F.cu ?_ (F.cf _))))
  unfold Builtin.«set_iterator.__next__»
  refine wpAny_bind (wpAny_pure ?_)
  refine wpAny_bind (wpAny_fieldsOf ho hd ?_)
  dsimp only
  refine wpAny_bind (wpAny_setEntries_of hS.ho hS.hd hS.hf ?_)
  rw [if_neg (by simp)]
  simp only [Int.toNat_natCast])
 refine wpAny_bind (hn _ _ _ ?_)
 dsimp only
 refine wpAny_bind (wpAny_setField ho hd (by simp) ?_)
 (show wpAny _ _ (newExc (.type "StopIteration") [] >>= _) _ _ _
  refine wpAny_bind ?_
  simp only [newExc,newTuple]
  refine wpAny_bind (wpAny_newObj_type ?_ (by size_fits))
  refine wpAny_bind (m:=firstArgMember _ _) (wpAny_of_eq (a:=Value.none) (by first | rfl | (simp only [firstArgMember];rfl)) ?_)
  refine wpAny_newObj_type ?_ (by size_fits)
  simp only [raiseNew]
  refine wpAny_bind (wpAny_handled ?_)
  rw [show A.in1.handled=none from hh]
  refine wpAny_bind (wpAny_pure (wpAny_throw ?_))
  refine wpAny_bind (wpAny_isInstance (T:="StopIteration") (b:=true) ⟨_,Heap.get?_push_size _ rfl,rfl⟩ isSubtype_stop ?_))
 exact wpAny_pure (h _ (((Heap.SameBut.update ..).extBut.push _).push _))
theorem wa {tp:Addr} {ps:List Nat} {ot:Obj} {n0 j:Nat} {e:Int×Value} {Q:Option Value->Shared->Prop} (hit:bR s.heap it d (.ref tp) i es.size ep) (hS:fb s.heap d o es ep t)
  (ht:s.heap.get? tp=some ot) (hdt:ot.data=.seq (ps.map λ i:Nat=>rawInt i).toArray n0) (hj:ps[i]?=some j) (he:es[j]?=some e)
  (h:∀ h',bR h' it d (.ref tp) (i+1) es.size ep->Heap.SameBut it s.heap h'->Q (some e.2) { s with heap:=h' }):
  wpAny (model P w) A (pyNext (.ref it)) Q E s:=by
 (obtain ⟨oi,ho,hc,hd⟩:=id hit
  unfold pyNext
  refine wpAny_bind (wpAny_attempt (wpAny_callSpecial?_slot (name:=Str.ofString "__next__") hit.typeIs F.aZ
   (wpAny_call_entry F.aZ hit.typeIs F.cu ?_ (F.cf _))))
  unfold Builtin.«set_iterator.__next__»
  refine wpAny_bind (wpAny_pure ?_)
  refine wpAny_bind (wpAny_fieldsOf ho hd ?_)
  dsimp only
  refine wpAny_bind (wpAny_setEntries_of hS.ho hS.hd hS.hf ?_)
  rw [if_neg (by simp)]
  simp only [Int.toNat_natCast])
 unfold seqItems?
 refine wpAny_bind (wpAny_bind (wpAny_load ht ?_))
 rw [hdt]
 refine wpAny_pure ?_
 have e1:(ps.map λ i:Nat=>rawInt i).toArray[i]?=some (.int (j:Int) 0):=by simp [hj,rawInt]
 dsimp only
 rw [e1]
 dsimp only
 unfold setNextDrawn
 refine wpAny_bind (wpAny_bind (wpAny_setState_of hS.ho hS.hd hS.hf ?_))
 dsimp only
 rw [if_neg (by simp),Int.toNat_natCast,he]
 refine wpAny_pure ?_
 refine wpAny_bind (wpAny_setField ho hd (by simp) ?_)
 obtain ⟨o3,ho3,hc3,hd3⟩:=zt (j:=1) (x:=rawInt ((i:Int)+1)) ho hd
 refine wpAny_pure ⟨_,rfl,wpAny_pure (h _ ⟨o3,ho3,hc3.trans hc,by rw [hd3];simp [rawInt]⟩ (Heap.SameBut.update ..))⟩
theorem oP {tp:Addr} {ps:List Nat} {ot:Obj} {n0:Nat} {Q:Option Value->Shared->Prop} (hh:A.handled=none) (hit:bR s.heap it d (.ref tp) i es.size ep) (hS:fb s.heap d o es ep t)
  (ht:s.heap.get? tp=some ot) (hdt:ot.data=.seq (ps.map λ i:Nat=>rawInt i).toArray n0) (hj:ps.length<=i)
  (h:∀ h',Heap.ExtBut it s.heap h'->Q none { s with heap:=h' }):
  wpAny (model P w) A (pyNext (.ref it)) Q E s:=by
 (obtain ⟨oi,ho,hc,hd⟩:=id hit
  unfold pyNext
  refine wpAny_bind (wpAny_attempt (wpAny_callSpecial?_slot (name:=Str.ofString "__next__") hit.typeIs F.aZ
   (wpAny_call_entry F.aZ hit.typeIs F.cu ?_ (F.cf _))))
  unfold Builtin.«set_iterator.__next__»
  refine wpAny_bind (wpAny_pure ?_)
  refine wpAny_bind (wpAny_fieldsOf ho hd ?_)
  dsimp only
  refine wpAny_bind (wpAny_setEntries_of hS.ho hS.hd hS.hf ?_)
  rw [if_neg (by simp)]
  simp only [Int.toNat_natCast])
 unfold seqItems?
 refine wpAny_bind (wpAny_bind (wpAny_load ht ?_))
 rw [hdt]
 refine wpAny_pure ?_
 have e1:(ps.map λ i:Nat=>rawInt i).toArray[i]?=none:=by simp [hj]
 dsimp only
 rw [e1]
 dsimp only
 refine wpAny_bind (wpAny_setField ho hd (by simp) ?_)
 obtain ⟨o2,ho2,hc2,hd2⟩:=zt (j:=0) (x:=rawInt 0) ho hd
 refine wpAny_bind (wpAny_setField ho2 hd2 (by simp) ?_)
 (show wpAny _ _ (newExc (.type "StopIteration") [] >>= _) _ _ _
  refine wpAny_bind ?_
  simp only [newExc,newTuple]
  refine wpAny_bind (wpAny_newObj_type ?_ (by size_fits))
  refine wpAny_bind (m:=firstArgMember _ _) (wpAny_of_eq (a:=Value.none) (by first | rfl | (simp only [firstArgMember];rfl)) ?_)
  refine wpAny_newObj_type ?_ (by size_fits)
  simp only [raiseNew]
  refine wpAny_bind (wpAny_handled ?_)
  rw [show A.in1.handled=none from hh]
  refine wpAny_bind (wpAny_pure (wpAny_throw ?_))
  refine wpAny_bind (wpAny_isInstance (T:="StopIteration") (b:=true) ⟨_,Heap.get?_push_size _ rfl,rfl⟩ isSubtype_stop ?_))
 exact wpAny_pure (h _ (((((Heap.SameBut.update ..).trans (Heap.SameBut.update ..)).extBut).push _).push _))
end
end
end PySem
namespace PySem
open PyProof.Rows
theorem BW (j:Nat):SetTable.below #[j] 0=0:=by
 unfold SetTable.below SetTable.below.go
 simp [SetTable.below.go]
theorem De (j:Nat):SetTable.below #[j] (j+1)=1:=by
 unfold SetTable.below SetTable.below.go
 simp [SetTable.below.go]
section
variable {P:Program} {w:World} {A:Around} {E:Value->Shared->Prop} {s:Shared} {d:Addr} {o:Obj} {es:Array (Int×Value)} {ep:Nat} {t:SetTable}
abbrev PiV (π:List (Int×Value)):Nat->Value->Prop:=λ i v=>∃ e,π[i]?=some e/\v=e.2
theorem lE:entryFor table "set_iterator.__iter__"=some Builtin.«dict_keyiterator.__iter__»:=entryFor_alias (id':="dict_keyiterator.__iter__") (by kernel_rfl) rfl (by decide +kernel) (by kernel_rfl)
theorem kj (a:Value):argsOk "set_iterator.__iter__" ⟨[a],[]⟩:=by
 unfold argsOk;rw [signature?_of (id:="set_iterator.__iter__") (n:=['_','_','r','e','t','i','_','_']) (o:=['r','o','t','a','r','e','t','i','_','t','e','s']) (by kernel_rfl) F.lW];kernel_rfl
theorem jw {it:Addr} {first:Value} {i n:Nat} {Q:Value->Shared->Prop} (hit:bR s.heap it d first i n ep) (h:Q (.ref it) s):wpAny (model P w) A (pyIter (.ref it)) Q E s:=by
 refine wpAny_pyIter_slot hit.typeIs F.ip (wpAny_call_entry F.ip hit.typeIs lE ?_ (kj _))
 show wpAny _ _ (ret (.ref it)) _ _ s
 exact wpAny_pure ⟨_,rfl,"set_iterator",_,hit.typeIs,F.aZ.lookup,h⟩
theorem tY (hh:A.handled=none) (I:Addr) (hne:d≠I) (hb:w.params.followText "set-order"=true):
  ∃ π:List (Int×Value),π.Perm es.toList/\Walks P w A I [I,d] [I] es.size (PiV π) (λ i h=>bR h I d (.int (0:Nat) 0) i es.size ep/\fb h d o es ep t):=by
 have hp:=oY (w.params.setOrder d ep) es.size 0 es.toList #[] (by simp)
 have hp:(pickOrder (w.params.setOrder d ep) es).toList.Perm es.toList:=by simpa [pickOrder] using hp
 have key:∀ (s:Shared) (i:Nat),fb s.heap d o es ep t->∀ (A:Around) (E:Value->Shared->Prop) (Q:Option (Value×Nat)->Shared->Prop),Q (((pickOrder (w.params.setOrder d ep) es)[i]?).map λ e=>(e.2,0)) s->wpAny (model P w) A (setNext d 0 i ep) Q E s:=by
  intro s i hS A E Q q
  rw [nZ]
  refine wpAny_bind (wpAny_setState_of hS.ho hS.hd hS.hf ?_)
  unfold setsByText
  refine wpAny_bind (wpAny_bind (wpAny_askSetting (wpAny_pure ?_)))
  dsimp only
  rw [show (model P w).w.params.followText "set-order"=true from hb,if_pos rfl,if_neg (by simp)]
  unfold setWalk setsByText
  refine wpAny_bind (wpAny_bind (wpAny_setState_of hS.ho hS.hd hS.hf ?_))
  refine wpAny_bind (wpAny_bind (wpAny_askSetting (wpAny_pure ?_)))
  dsimp only
  rw [show (model P w).w.params.followText "set-order"=true from hb,if_pos rfl]
  refine wpAny_bind (wpAny_askSetting (wpAny_pure ?_))
  exact wpAny_pure q
 refine ⟨(pickOrder (w.params.setOrder d ep) es).toList,hp,⟨λ b hb=>by simp at hb;simp [hb],λ _ _ _ st hk=>⟨st.1.at' λ o e=>hk I (by simp) o e,st.2.at' λ o e=>hk d (by simp) o e⟩,λ i s Q E hi st hQ=>?_,λ s Q E st hQ=>?_,λ _ _ _ _ st hQ=>?_⟩⟩
 ·have hi':i<(pickOrder (w.params.setOrder d ep) es).toList.length:=by rw [hp.length_eq,Array.length_toList];exact hi
  have ei:(pickOrder (w.params.setOrder d ep) es)[i]?=some ((pickOrder (w.params.setOrder d ep) es).toList[i]):=by rw [<- Array.getElem?_toList,List.getElem?_eq_getElem hi']
  refine o4 (nx:=0) (x:=((pickOrder (w.params.setOrder d ep) es).toList[i]).2) st.1 st.2 (λ A E Q q=>key s i st.2 A E Q (by rw [ei];exact q)) λ h' it' sb=>?_
  exact hQ _ h' s.toks ⟨_,List.getElem?_eq_getElem hi',rfl⟩ ⟨it',st.2.at' λ o e=>(sb.2 d hne).trans e⟩ λ b o hb e=>(sb.2 b (λ h=>hb (by simp [h]))).trans e
 ·have en:(pickOrder (w.params.setOrder d ep) es)[es.size]?=none:=by
   rw [<- Array.getElem?_toList,List.getElem?_eq_none];rw [hp.length_eq,Array.length_toList];exact Nat.le_refl _
  refine jh hh st.1 st.2 (λ A E Q q=>key s es.size st.2 A E Q (by rw [en];exact q)) λ h' he=>?_
  exact hQ h' s.toks λ b o hb e=>he b o (λ h=>hb (by simp [h])) e
 ·exact jw st.1 hQ
theorem sv (hh:A.handled=none) (I:Addr) (hne:d≠I) (hb:w.params.followText "set-order"=false) (hs:es.size<=1) (hl:t.led=true) (hf:t.fits es.size=true):
  Walks P w A I [I,d] [I] es.size (PiV es.toList) (λ i h=>(∃ k:Nat,bR h I d (.int (k:Int) 0) i es.size ep/\(i=0->k=0)/\(i=1->∃ j,t.place=#[j]/\k=j+1))/\fb h d o es ep t):=by
 have hpl:t.place.size=es.size:=by
  unfold SetTable.fits at hf
  simp at hf
  exact hf.1
 have key:∀ (s:Shared) (k i:Nat),fb s.heap d o es ep t->∀ (A:Around) (E:Value->Shared->Prop) (Q:Option (Value×Nat)->Shared->Prop),
   Q (match es[SetTable.below t.place k]?,t.place[SetTable.below t.place k]? with | some (_,x),some j=>some (x,j+1) | _,_=>none) s->wpAny (model P w) A (setNext d k i ep) Q E s:=by
  intro s k i hS A E Q q
  rw [nZ]
  refine wpAny_bind (wpAny_setState_of hS.ho hS.hd hS.hf ?_)
  unfold setsByText
  refine wpAny_bind (wpAny_bind (wpAny_askSetting (wpAny_pure ?_)))
  dsimp only
  rw [show (model P w).w.params.followText "set-order"=false from hb,if_neg Bool.false_ne_true,if_neg (by simp;intro _;omega)]
  unfold mbl
  refine wpAny_bind ?_
  rw [if_neg (by simp [hl])]
  exact wpAny_pure (wpAny_pure q)
 refine ⟨λ b hb=>by simp at hb;simp [hb],λ _ _ _ st hk=>⟨let ⟨k,x,y⟩:=st.1;⟨k,x.at' λ o e=>hk I (by simp) o e,y⟩,st.2.at' λ o e=>hk d (by simp) o e⟩,λ i s Q E hi st hQ=>?_,λ s Q E st hQ=>?_,λ _ _ _ _ st hQ=>?_⟩
 ·have hi0:i=0:=by omega
  subst hi0
  obtain ⟨⟨k,it0,k0,_⟩,hS⟩:=st
  obtain rfl:=k0 rfl
  have h1:es.size=1:=by omega
  obtain ⟨j,hj⟩:∃ j,t.place=#[j]:=by
   have:t.place.toList.length=1:=by rw [Array.length_toList,hpl,h1]
   obtain ⟨j,e⟩:=List.length_eq_one_iff.mp this
   exact ⟨j,by apply Array.toList_inj.mp;rw [e]⟩
  obtain ⟨e,he⟩:∃ e,es[0]?=some e:=⟨es[0],Array.getElem?_eq_getElem (by omega)⟩
  refine o4 (nx:=j+1) (x:=e.2) it0 hS (λ A E Q q=>key s 0 0 hS A E Q (by rw [hj,BW,he];exact q)) λ h' it' sb=>?_
  exact hQ _ h' s.toks ⟨e,by rw [Array.getElem?_toList];exact he,rfl⟩ ⟨⟨j+1,it',λ z=>(nomatch z),λ _=>⟨j,hj,rfl⟩⟩,hS.at' λ o e=>(sb.2 d hne).trans e⟩ λ b o hb e=>(sb.2 b (λ h=>hb (by simp [h]))).trans e
 ·obtain ⟨⟨k,it0,k0,k1⟩,hS⟩:=st
  refine jh hh it0 hS (λ A E Q q=>key s k es.size hS A E Q ?_) λ h' he=>hQ h' s.toks λ b o hb e=>he b o (λ h=>hb (by simp [h])) e
  rcases Nat.lt_or_ge es.size 1 with z | z
  ·have:es=#[]:=by apply Array.toList_inj.mp;exact List.eq_nil_of_length_eq_zero (by rw [Array.length_toList];omega)
   rw [this];exact q
  ·obtain ⟨j,hj,rfl⟩:=k1 (by omega)
   rw [hj,De,Array.getElem?_eq_none (by omega)]
   exact q
 ·obtain ⟨⟨k,it0,_⟩,_⟩:=st
  exact jw it0 hQ
theorem xf {α β:Type} {f:α->Option β} {g:α->β}:∀ (l:List α),(∀ x∈l,f x=some (g x))->l.filterMap f=l.map g
 | [],_=>rfl
 | x::l,h=>by rw [List.filterMap_cons_some (h x (.head _)),List.map_cons,xf l λ y hy=>h y (.tail _ hy)]
theorem rS (hh:A.handled=none) (I tp:Addr) (hne:d≠I) (hne2:tp≠I) (ps:List Nat) (hp:ps.Perm (List.range es.size)) (ot:Obj) (n0:Nat) (hdt:ot.data=.seq (ps.map λ i:Nat=>rawInt i).toArray n0):
  ∃ π:List (Int×Value),π.Perm es.toList/\Walks P w A I [I,d,tp] [I] es.size (PiV π) (λ i h=>bR h I d (.ref tp) i es.size ep/\fb h d o es ep t/\h.get? tp=some ot):=by
 have hlen:ps.length=es.size:=by rw [hp.length_eq,List.length_range]
 refine ⟨ps.filterMap (λ i=>es[i]?),(hp.filterMap _).trans (by rw [filterMap_getElem?_range]),⟨λ b hb=>by simp at hb;simp [hb],λ _ _ _ st hk=>⟨st.1.at' λ o e=>hk I (by simp) o e,st.2.1.at' λ o e=>hk d (by simp) o e,hk tp (by simp) _ st.2.2⟩,λ i s Q E hi st hQ=>?_,λ s Q E st hQ=>?_,λ _ _ _ _ st hQ=>?_⟩⟩
 ·have hi':i<ps.length:=by omega
  have hm:ps[i]<es.size:=List.mem_range.mp (hp.mem_iff.mp (List.getElem_mem hi'))
  have eall:ps.filterMap (λ i=>es[i]?)=ps.map (λ i=>es.getD i default):=by
   refine xf _ λ x hx=>?_
   have:x<es.size:=List.mem_range.mp (hp.mem_iff.mp hx)
   rw [Array.getElem?_eq_getElem this]
   simp [Array.getD,this]
  refine wa (j:=ps[i]) (e:=es[ps[i]]) st.1 st.2.1 st.2.2 hdt (List.getElem?_eq_getElem hi') (Array.getElem?_eq_getElem hm) λ h' it' sb=>?_
  refine hQ _ h' s.toks ⟨es[ps[i]],?_,rfl⟩ ⟨it',st.2.1.at' λ o e=>(sb.2 d hne).trans e,(sb.2 tp hne2).trans st.2.2⟩ λ b o hb e=>(sb.2 b (λ h=>hb (by simp [h]))).trans e
  rw [eall,List.getElem?_map,List.getElem?_eq_getElem hi']
  simp [Array.getD,hm]
 ·exact oP hh st.1 st.2.1 st.2.2 hdt (by omega) λ h' he=>hQ h' s.toks λ b o hb e=>he b o (λ h=>hb (by simp [h])) e
 ·exact jw st.1 hQ
theorem sR {Q:Value->Shared->Prop} (hh:A.handled=none) (hT:s.TypeIs (.ref d) "set") (hS:fb s.heap d o es ep t) (tx:TX w es t) (hall:∀ e∈es.toList,plainKind e.2=false) (hz:es.size<=4096)
  (h:∀ (it:Addr) (h':Heap) (dr:Drawn) (fp:List Addr) (π:List (Int×Value)) (St:Nat->Heap->Prop),π.Perm es.toList->Walks P w A it fp [it] es.size (PiV π) St->St 0 h'->(∀ b o,s.heap.get? b=some o->h'.get? b=some o) ->
   s.heap.objs.size<=it->(∀ b∈fp,b=d∨s.heap.objs.size<=b)->Q (.ref it) { s with heap:=h',drawn:=dr }):
  wpAny (model P w) A (pyIter (.ref d)) Q E s:=by
 have ld:d<s.heap.objs.size:=Heap.lt_size hS.ho
 refine wpAny_pyIter_slot hT F.slot_set_iter (wpAny_call_entry F.slot_set_iter hT F.oq ?_ (F.args_set_iter_1 _))
 unfold Builtin.«frozenset.__iter__» Builtin.Frozenset.slot0 slotArgs
 simp only [List.isEmpty_nil,Bool.not_true,Bool.false_eq_true,↓reduceIte,bind_assoc,List.length_nil,bne_self_eq_false]
 unfold Builtin.Frozenset.addrOf Builtin.Frozenset.sizeOf
 refine wpAny_bind (wpAny_pure ?_)
 try dsimp only
 refine wpAny_bind (wpAny_pure ?_)
 refine wpAny_bind (wpAny_bind (wpAny_setEntries_of hS.ho hS.hd hS.hf (wpAny_pure ?_)))
 rw [rp]
 refine wpAny_bind (wpAny_bind (wpAny_setState_of hS.ho hS.hd hS.hf ?_))
 unfold setsByText
 refine wpAny_bind (wpAny_bind (wpAny_askSetting (wpAny_pure ?_)))
 dsimp only
 refine wpAny_pure ?_
 have fin:∀ (first:Value) (s2:Shared) (fp:List Addr) (π:List (Int×Value)) (St:Nat->Heap->Prop),s2={ s with heap:=s2.heap,drawn:=s2.drawn }->(∀ b o,s.heap.get? b=some o->s2.heap.get? b=some o)->s.heap.objs.size<=s2.heap.objs.size ->
   π.Perm es.toList->Walks P w A s2.heap.objs.size fp [s2.heap.objs.size] es.size (PiV π) St->(∀ h',bR h' s2.heap.objs.size d first 0 es.size ep->(∀ b o,s2.heap.get? b=some o->h'.get? b=some o)->St 0 h')->(∀ b∈fp,b=d∨s.heap.objs.size<=b) ->
   wpAny (model P w) A.in1 (do ret (<- newFields "set_iterator" [first,rawInt 0,.ref d,rawInt es.size,rawInt (<- setEpoch d)])) (λ fin s'=>∃ r,fin=.done (.ret r)/\∃ T' r',s'.TypeIs r T'/\typeLookup (.type T') "__next__"=pure (some r')/\Q r s') E s2:=by
  intro first s2 fp π St e2 k2 z2 hp W st hfp
  refine wpAny_bind (wpAny_setEpoch_of (k2 _ _ hS.ho) hS.hd hS.hf ?_)
  unfold newFields
  refine wpAny_bind (wpAny_newObj_type ?_ (by size_fits))
  refine wpAny_pure ⟨_,rfl,"set_iterator",_,⟨_,Heap.get?_push_size _ rfl,rfl⟩,F.aZ.lookup,?_⟩
  have:=h s2.heap.objs.size (s2.heap.push { cls:=.type "set_iterator",data:=.fields #[first,rawInt 0,.ref d,rawInt es.size,rawInt ep] }) s2.drawn fp π St hp W (st _ ⟨_,Heap.get?_push_size _ rfl,rfl,rfl⟩ λ b o e=>Heap.get?_push_of_some _ e) (λ b o e=>Heap.get?_push_of_some _ (k2 b o e)) z2 hfp
  rw [e2]
  exact this
 cases hb:w.params.followText "set-order" with
 | true=>
  rw [show (model P w).w.params.followText "set-order"=true from hb]
  simp only [Bool.not_true,Bool.false_and,Bool.false_eq_true,if_false]
  refine wpAny_bind (wpAny_pure ?_)
  obtain ⟨π,hp,W⟩:=tY (P:=P) (w:=w) (A:=A) (d:=d) (o:=o) (es:=es) (ep:=ep) (t:=t) hh s.heap.objs.size (Nat.ne_of_lt ld) hb
  exact fin (rawInt 0) s _ π _ (by cases s;rfl) (λ _ _ e=>e) (Nat.le_refl _) hp W (λ h' i k=>⟨i,hS.at' λ o e=>k _ _ e⟩) (λ b hb=>by simp only [List.mem_cons,List.not_mem_nil,or_false] at hb;rcases hb with rfl | rfl;exact .inr (Nat.le_refl _);exact .inl rfl)
 | false=>
  rw [show (model P w).w.params.followText "set-order"=false from hb]
  have hled:t.led=true:=by rw [tx.1,hb];rfl
  by_cases h1:es.size > 1
  ·have hpl:t.plain=false:=by
    have hm:es[0]∈es.toList:=by simp
    exact tx.2 _ hm (hall _ hm)
   simp only [hpl,h1,Bool.not_false,Bool.true_and,decide_true,if_true]
   refine wpAny_bind (iy es.size (List.range es.size) (by simp) λ ps d' hp=>?_)
   have hpl2:ps.length=es.size:=by rw [hp.length_eq,List.length_range]
   refine wpAny_bind (wpAny_newTuple ?_ (by rw [List.length_map,hpl2];exact Nat.le_trans hz (by decide)))
   obtain ⟨π,hp2,W⟩:=rS (P:=P) (w:=w) (A:=A) (d:=d) (o:=o) (es:=es) (ep:=ep) (t:=t) hh (s.heap.objs.size+1) s.heap.objs.size (Nat.ne_of_lt (Nat.lt_succ_of_lt ld)) (Nat.ne_of_lt (Nat.lt_succ_self _)) ps hp
    { cls:=.type "tuple",data:=.seq (ps.map λ i:Nat=>rawInt i).toArray } 0 rfl
   refine fin (.ref s.heap.objs.size) { s with heap:=s.heap.push { cls:=.type "tuple",data:=.seq (ps.map λ i:Nat=>rawInt i).toArray },drawn:=d' } _ π _ rfl (λ _ _ e=>Heap.get?_push_of_some _ e) (by show _<=(Heap.push _ _).objs.size;rw [PyProof.Rows.size_push'];exact Nat.le_succ _) hp2 (by rw [show (s.heap.push _).objs.size=s.heap.objs.size+1 from PyProof.Rows.size_push' ..];exact W) (λ h' i k=>?_) (λ b hb=>by simp only [List.mem_cons,List.not_mem_nil,or_false] at hb;rcases hb with rfl | rfl | rfl;exact .inr (Nat.le_succ _);exact .inl rfl;exact .inr (Nat.le_refl _))
   have i':=i
   rw [show ({ s with heap:=s.heap.push { cls:=.type "tuple",data:=.seq (ps.map λ i:Nat=>rawInt i).toArray },drawn:=d' }:Shared).heap.objs.size=s.heap.objs.size+1 from PyProof.Rows.size_push' ..] at i'
   exact ⟨i',hS.at' λ o e=>k _ _ (Heap.get?_push_of_some _ e),k _ _ (Heap.get?_push_size _ rfl)⟩
  ·rw [if_neg (by simp [h1])]
   refine wpAny_bind (wpAny_pure ?_)
   have W:=sv (P:=P) (w:=w) (A:=A) (d:=d) (o:=o) (es:=es) (ep:=ep) (t:=t) hh s.heap.objs.size (Nat.ne_of_lt ld) hb (by omega) hled hS.hf
   exact fin (rawInt 0) s _ es.toList _ (by cases s;rfl) (λ _ _ e=>e) (Nat.le_refl _) (.refl _) W (λ h' i k=>⟨⟨0,i,λ _=>rfl,λ z=>(nomatch z)⟩,hS.at' λ o e=>k _ _ e⟩) (λ b hb=>by simp only [List.mem_cons,List.not_mem_nil,or_false] at hb;rcases hb with rfl | rfl;exact .inr (Nat.le_refl _);exact .inl rfl)
end
end PySem
namespace L2
theorem lV {α:Type} [DecidableEq α]:∀ {l m:List α},l.Nodup->(∀ x∈l,x∈m)->m.length<=l.length->l.Perm m
 | [],m,_,_,h=>by rw [List.eq_nil_of_length_eq_zero (Nat.le_zero.mp h)]
 | x::l,m,nd,hs,h=>by
  have hx:=hs x (.head _)
  obtain ⟨n1,n2⟩:=List.nodup_cons.mp nd
  have p:=List.perm_cons_erase hx
  refine ((lV (m:=m.erase x) n2 (λ y hy=>?_) ?_).cons x).trans p.symm
  ·exact (List.mem_erase_of_ne (λ e:y=x=>n1 (by rw [<- e];exact hy))).mpr (hs y (.tail _ hy))
  ·rw [List.length_erase_of_mem hx];simp only [List.length_cons] at h;omega
end L2
namespace PySem
open PyProof.Rows PySem.W PySem.Spec
section
variable {P:Program} {w:World} {A:Around} {E:Value->Shared->Prop} {s:Shared} {d:Addr} {o:Obj} {es:Array (Int×Value)} {ep:Nat} {t:SetTable}
theorem xu {r:Addr} {Q:Bool->Shared->Prop} (hT:s.TypeIs (.ref r) "set") (h:Q false s):wpAny (model P w) A (Builtin.List.listLengthHint (.ref r)) Q E s:=by
 unfold Builtin.List.listLengthHint
 refine wpAny_bind (wpAny_specialOf hT PySem.F.slot_set_len.lookup ?_)
 generalize hid:("set.__len__":String)=id0
 wp_delta
 rw [show splitId id0=some ("set","__len__") from by subst hid;decide +kernel]
 subst hid
 refine wpAny_bind (wpAny_isInstance (T:="set") (b:=true) hT (by rw [isSubtype_type];kernel_rfl) ?_)
 refine wpAny_ite_split (λ hab=>absurd hab (by decide)) (λ _=>?_)
 refine wpAny_ite_split (λ _=>?_) (λ hab=>absurd (by decide +kernel) hab)
 refine wpAny_bind (wpAny_typeOf hT ?_)
 exact wpAny_pure h
theorem tH {R:Result->Shared->Prop} (hh:A.handled=none) (hT:s.TypeIs (.ref d) "set") (hS:fb s.heap d o es ep t) (tx:TX w es t) (hall:∀ e∈es.toList,plainKind e.2=false) (hz:es.size<=4096)
  (S:Addr) (hSd:S≠d) (res:Value) (c₀:Nat) (hL:s.heap.get? S=some { cls:=.type "list",data:=.seq #[] c₀ })
  (hR:∀ h' tk dr acc' c' π,(∀ b o,b≠S->s.heap.get? b=some o->h'.get? b=some o)->h'.get? S=some { cls:=.type "list",dict:=none,data:=.seq acc' c',slots:=#[] }->π.Perm es.toList->ItemsOf (PiV π) acc' es.size->R (.ok (.ret res)) { s with heap:=h',toks:=tk,drawn:=dr }):
  wpAny (model P w) A.in1 (Builtin.List.listExtendWith (.ref S) (.ref d) res)
   (λ fin s'=>match fin with | .done f=>R (.ok f) s' | .again c'=>c'.quiet=true/\codeAny (model P w) A c' R s') (λ e s'=>R (.error e) s') s:=by
 have hn:es.size<=sizeLine:=Nat.le_trans hz (by decide)
 have lS:=Heap.lt_size hL
 unfold Builtin.List.listExtendWith
 refine wpAny_bind (wpAny_typeOf (T:="set") hT ?_)
 have h1:Builtin.List.listSameRef (.ref S) (.ref d)=false:=by simp [Builtin.List.listSameRef,hSd]
 have h2:(Value.type "set"==Value.type "list")=false:=by decide
 have h3:(Value.type "set"==Value.type "tuple")=false:=by decide
 simp only [h1,h2,h3,Bool.or_false,Bool.false_eq_true,if_false]
 refine wpAny_bind (sR (A:=A.in1) (by simpa using hh) hT hS tx hall hz λ I h' dr fp π St hp W st kp hI hfp=>?_)
 have hSf:S ∉ fp:=λ hm=>(hfp S hm).elim hSd λ z=>absurd (Nat.lt_of_lt_of_le lS z) (Nat.lt_irrefl _)
 have key:∀ (h2:Heap) (c₁ tk:Nat),St 0 h2->(∀ b o,b≠S->s.heap.get? b=some o->h2.get? b=some o) ->
   h2.get? S=some { cls:=.type "list",data:=.seq #[] c₁ }->codeAny (model P w) A (.builtin "list.extend.loop" ⟨[.ref S,.ref I,res],[]⟩) R { s with heap:=h2,toks:=tk,drawn:=dr }:=by
  intro h2 c₁ tk hst hk hS₁
  refine codeAny_extend_loopS W.toS hn S hSf res es.size 0 _ #[] c₁ rfl (Nat.zero_le _) hst hS₁ (ItemsOf.nil _) λ s' acc' c' hm hS' hacc=>?_
  rw [Moved.eq_with hm]
  refine hR s'.heap s'.toks dr acc' c' π (λ b o hb e=>hm.heap b o (λ hmem=>?_) (hk b o hb e)) hS' hp hacc
  rcases List.mem_cons.mp hmem with e' | hmem
  ·exact hb e'
  ·rw [List.mem_singleton.mp hmem] at e
   exact absurd (Nat.lt_of_lt_of_le (Heap.lt_size e) hI) (Nat.lt_irrefl _)
 have hS₁:=kp _ _ hL
 refine wpAny_bind (wpAny_holding (xu (let ⟨o,a,b⟩:=hT;⟨o,kp _ _ a,b⟩) ?_))
 refine wpAny_ite_split (λ _=>?_) (λ _=>wpAny_pure ⟨plainId_quiet PySem.F.plain_extend_loop _,key _ c₀ _ st (λ b o _ e=>kp b o e) hS₁⟩)
 refine wpAny_bind (wpAny_rule ?_)
 refine wpAny_bind ?_
 show wpAny _ _ (updateSeq S (·.push .none) >>= λ _=>updateSeq S (·.pop)) _ _ _
 refine wpAny_bind (wpAny_updateSeq hS₁ rfl ?_)
 have hS₂:=Heap.get?_update_self (Obj.mapSeq (·.push Value.none)) hS₁ rfl
 refine wpAny_updateSeq (hz:=by seq_fits) hS₂ rfl ?_
 have hS₃:=Heap.get?_update_self (Obj.mapSeq (·.pop)) hS₂ rfl
 refine wpAny_pure ⟨plainId_quiet PySem.F.plain_extend_loop _,key _ _ _ ?_ (λ b o hb e=>?_) hS₃⟩
 ·refine W.frame 0 _ _ st λ b hb o e=>?_
  have hbS:b≠S:=λ h=>hSf (h ▸ hb)
  exact (Heap.get?_update_other _ _ (Ne.symm hbS)).trans ((Heap.get?_update_other _ _ (Ne.symm hbS)).trans e)
 ·exact (Heap.get?_update_other _ _ (Ne.symm hb)).trans ((Heap.get?_update_other _ _ (Ne.symm hb)).trans (kp b o e))
theorem rZ {R:List Value->Shared->Prop} (hh:A.handled=none) (hT:s.TypeIs (.ref d) "set") (hS:fb s.heap d o es ep t) (tx:TX w es t) (hall:∀ e∈es.toList,plainKind e.2=false) (hz:es.size<=4096)
  (h:∀ (h':Heap) (tk:Nat) (dr:Drawn) (acc:List Value),(∀ b o,s.heap.get? b=some o->h'.get? b=some o)->s.heap.objs.size<h'.objs.size->acc.Perm (es.toList.map (·.2))->R acc { s with heap:=h',toks:=tk,drawn:=dr }):
  wpAny (model P w) A (collect (.ref d)) R E s:=by
 have ld:d<s.heap.objs.size:=Heap.lt_size hS.ho
 unfold collect
 refine wpAny_bind (wpAny_runValue (codeAny_builtin entry_proto_collect' ?_))
 rw [Around.under_plainId PySem.F.plain_proto_collect _]
 show wpAny _ A.in1 (newList [] >>= λ l=>again (.builtin "list.__iadd__" ⟨[l,.ref d],[]⟩)) _ _ s
 refine wpAny_bind (wpAny_newObj_type ?_)
 refine wpAny_pure ⟨plainId_quiet PySem.F.plain_list_iadd _,codeAny_builtin entry_list_iadd' ?_⟩
 rw [Around.under_plainId PySem.F.plain_list_iadd _]
 have hS₁:(s.heap.push { cls:=.type "list",data:=.seq ([]:List Value).toArray }).get? s.heap.objs.size=some { cls:=.type "list",data:=.seq #[] }:=Heap.get?_push_size _ rfl
 show wpAny _ A.in1 (Builtin.List.listExtendWith (.ref s.heap.objs.size) (.ref d) (.ref s.heap.objs.size)) _ _ _
 have key:=tH (P:=P) (w:=w) (A:=A) (s:={ s with heap:=s.heap.push { cls:=.type "list",data:=.seq ([]:List Value).toArray } })
  (R:=λ (q:Result) (s':Shared)=>∃ (h':Heap) (tk:Nat) (dr:Drawn) (acc':Array Value) (c':Nat),q=.ok (.ret (.ref s.heap.objs.size))/\s'={ s with heap:=h',toks:=tk,drawn:=dr } /\
   (∀ b o,s.heap.get? b=some o->h'.get? b=some o)/\h'.get? s.heap.objs.size=some { cls:=.type "list",dict:=none,data:=.seq acc' c',slots:=#[] }/\acc'.toList.Perm (es.toList.map (·.2)))
  hh (let ⟨o,a,b⟩:=hT;⟨o,Heap.get?_push_of_some _ a,b⟩) (hS.at' λ o e=>Heap.get?_push_of_some _ e) tx hall hz s.heap.objs.size (Nat.ne_of_gt ld) (.ref s.heap.objs.size) 0 hS₁
  (λ h' tk dr acc' c' π hk hS' hp hacc=>⟨h',tk,dr,acc',c',rfl,rfl,λ b o e=>hk b o (Nat.ne_of_lt (Heap.lt_size e)) (Heap.get?_push_of_some _ e),hS',by
   have e:acc'.toList=π.map (·.2):=by
    refine List.ext_getElem? λ i=>?_
    have h1:=hacc.1
    have lp:π.length=es.size:=by rw [hp.length_eq,Array.length_toList]
    rcases Nat.lt_or_ge i es.size with z | z
    ·have hi:i<acc'.size:=by omega
     obtain ⟨e,e1,e2⟩:=hacc.2 i acc'[i] (Array.getElem?_eq_getElem hi)
     rw [Array.getElem?_toList,Array.getElem?_eq_getElem hi,List.getElem?_map,e1,e2];rfl
    ·rw [List.getElem?_eq_none (by rw [Array.length_toList];omega),List.getElem?_eq_none (by rw [List.length_map];omega)]
   rw [e];exact hp.map _⟩)
 refine wpAny_mono key (λ fin s' x=>?_) λ e s' x=>?_
 ·cases fin with
  | done f=>
   obtain ⟨h',tk,dr,acc',c',e,rfl,hk,hS',hacc⟩:=x
   cases e
   show wpAny _ A (load s.heap.objs.size >>= _) _ _ _
   refine wpAny_bind (wpAny_load hS' ?_)
   exact wpAny_pure (h h' tk dr acc'.toList hk (Heap.lt_size hS') hacc)
  | again c₁=>
   refine ⟨x.1,codeAny_mono x.2 λ q s₂ y=>?_⟩
   obtain ⟨h',tk,dr,acc',c',rfl,rfl,hk,hS',hacc⟩:=y
   show wpAny _ A (load s.heap.objs.size >>= _) _ _ _
   refine wpAny_bind (wpAny_load hS' ?_)
   exact wpAny_pure (h h' tk dr acc'.toList hk (Heap.lt_size hS') hacc)
 ·obtain ⟨_,_,_,_,_,e',_⟩:=x
  cases e'
theorem sY {L:List Str} {Q:Value->Shared->Prop} (hh:A.handled=none) (hS:L2.cF P w d (L.map Sum.inr) s.heap) (nd:L.Nodup) (h64:L.length<64)
  (h:∀ (D:Addr) (h':Heap) (tk:Nat) (dr:Drawn) (out:Array Value) (e:Nat) (zs:List Str),(∀ b o,s.heap.get? b=some o->h'.get? b=some o)->s.heap.objs.size<=D->h'.get? D=some (seqObj "list" out e)->StrsAre out.toList zs->zs.Perm L->sortedS zs=true ->
   Q (.ref D) { s with heap:=h',toks:=tk,drawn:=dr }):
  wpAny (model P w) A (call (.builtin "sorted") [.ref d]) Q E s:=by
 obtain ⟨⟨o,es,ep,t,ho,hex,hd,hel,hmem,hb,hf,hn⟩,o',es',ep',t',ho',hd',tx⟩:=hS
 rw [ho] at ho';cases ho'
 rw [hd] at hd';cases hd'
 have stx:∀ e∈es.toList,∃ x tk,e.2=.str x tk/\x∈L:=λ e he=>by
  obtain ⟨⟨k,hk,_⟩,_⟩:=hel e he
  have:decide (k∈L.map Sum.inr)=true:=(hmem k).mpr ⟨e,he,hk⟩
  obtain ⟨x,hx,rfl⟩:=List.mem_map.mp (of_decide_eq_true this)
  obtain ⟨tk,e2⟩:∃ tk,e.2=.str x tk:=by
   rcases L2.bg (show L2.fX (Sum.inr x) e.2=true from hk) with ⟨i,t,z,q⟩ | ⟨i,t,z,q⟩
   ·cases z
   ·cases z;exact ⟨t,q⟩
  exact ⟨x,tk,e2,hx⟩
 refine Calls.call_function_entry kind_sorted plain_sorted entry_sorted (args_sorted1 _) ?_
 unfold Builtin.«sorted»
 refine wpAny_bind (m:=checkCount "sorted" 1 1 _) (wpAny_pure ?_)
 refine wpAny_bind (rZ (A:=A.in1) (by simpa using hh) ⟨o,ho,hex.1⟩ ⟨ho,hd,hf⟩ tx (λ e he=>by obtain ⟨x,tk,e2,_⟩:=stx e he;rw [e2];rfl) (Nat.le_of_lt hb) λ h1 tk dr acc kp kz hp=>?_)
 have hlen:acc.length=L.length:=by rw [hp.length_eq,List.length_map,Array.length_toList,hn,List.length_map]
 refine wpAny_bind (wpAny_newList ?_ (by rw [hlen];exact Nat.le_trans (Nat.le_of_lt h64) (by decide)))
 have sa:StrsAre acc (acc.map strOf):=by
  refine strsAre_map _ λ v hv=>?_
  obtain ⟨e,he,rfl⟩:=List.mem_map.mp (hp.mem_iff.mp hv)
  obtain ⟨x,tk,e2,_⟩:=stx e he
  exact ⟨x,tk,e2⟩
 have pm:(acc.map strOf).Perm L:=by
  refine List.Perm.trans (hp.map strOf) ?_
  rw [List.map_map]
  refine (L2.lV nd (λ x hx=>?_) ?_).symm
  ·have:decide (Sum.inr x∈L.map (Sum.inr:Str->L2.Key))=true:=decide_eq_true (List.mem_map.mpr ⟨x,hx,rfl⟩)
   obtain ⟨e,he,ke⟩:=(hmem (.inr x)).mp this
   refine List.mem_map.mpr ⟨e,he,?_⟩
   rcases L2.bg (show L2.fX (Sum.inr x) e.2=true from ke) with ⟨i,t,z,q⟩ | ⟨i,t,z,q⟩
   ·cases z
   ·cases z;show strOf e.2=x;rw [q];rfl
  ·rw [List.length_map,Array.length_toList,hn,List.length_map];exact Nat.le_refl _
 have ho2:(h1.push { cls:=.type "list",data:=.seq acc.toArray }).get? h1.objs.size=some (seqObj "list" acc.toArray 0):=Heap.get?_push_size _ rfl
 have kp1:s.heap.objs.size<=h1.objs.size:=Nat.le_of_lt kz
 refine wpAny_bind (wpAny_holding (wpAny_call_entry slot_list_sort ⟨_,ho2,rfl⟩ entry_list_sort (list_sort_treeK strKind_oneLt ho2 sa.keysOf (λ v₁ v₂ rest e=>keyKind_strs (by rw [<- e];exact sa)) (by rw [hlen];exact h64) λ st' a1 a2=>⟨_,rfl,?_⟩) (args_list_sort _)))
 obtain ⟨zs,b1,b2,b3⟩:=sorted_out_str sa a1 a2
 obtain ⟨e,he⟩:=sortedHeap_at (out:=(arrOf st').map (·.2)) ho2
 refine wpAny_pure ⟨_,rfl,h h1.objs.size _ tk dr ((arrOf st').map (·.2)) e zs (λ b o hb=>?_) kp1 he b1 (b2.trans pm) b3⟩
 have lb:=Heap.lt_size (kp _ _ hb)
 rw [sortedHeap_old (Nat.ne_of_lt lb) (by show b<(Heap.push _ _).objs.size;rw [size_push'];exact Nat.lt_succ_of_lt lb)]
 exact Heap.get?_push_of_some _ (kp _ _ hb)
end
end PySem
namespace L2
open PySem PySem.Spec PyProof.Rows
section
variable {X:Cx}
theorem Inv.draws {pins:List (Addr×Obj)} {σ:St} {H:Hp} {s:Shared} {d':Drawn} (I:Inv X pins σ H s):Inv X pins σ H { s with drawn:=d' }:=
 I.step (g':=s.gens) (d':=d') (t':=s.toks) (ch:=[]) (λ _ z=>nomatch z) (λ b o _ _ _ e _=>e) (λ b o _ _ _ e _=>⟨o.slots,e⟩) (λ b o _ _ n=>n) (λ b o _ e=>⟨o,e⟩) (λ _ _ x=>x) (λ _ _ _ x=>x) (λ b ps x=>⟨#[],by simpa using x⟩) (λ _ x=>x) I.hok I.bare
theorem iH (P:Program) (w:World) (hh:X.A.handled=none) (hP:X.prog=P:=by rfl) (hw:X.w=w:=by rfl):eg X (.builtin "sorted") (λ xs H Q=>∃ d L,xs=[.ref d]/\H d=some (bb P w d (L.map Sum.inr))/\L.Nodup/\L.length<64/\∀ l zs,H l=none->zs.Perm L->sortedS zs=true->Q (.ref l) (upd H l (.lst (zs.map V.str)))):=by
 subst hP hw
 intro pins s σ H xs us Q I r h
 obtain ⟨d,L,rfl,hd,nd,hl,q⟩:=h
 obtain ⟨u,rfl,rx⟩:=vals1 r
 cases rx
 refine sY hh (I.hok _ _ hd).1 nd hl λ D h' tk dr out e zs kp hD he hs hp hz=>?_
 have nD:H D=none:=I.hok.fresh hD
 refine ⟨.ref D,_,(I.laid (t':=tk) kp hD (show b5 X.prog X.w _ h' _ (.lst (zs.map V.str)) from ⟨?_,out.toList,e,o7 hs,?_⟩)).draws (d':=dr),rfl,q D zs nD hp hz⟩
 ·rw [List.length_map,hp.length_eq];exact Nat.le_trans (Nat.le_of_lt hl) (by decide)
 ·rw [Array.toArray_toList];exact he
end
section
variable {X:Cx}
theorem wU (K:PySem.W.Frag) {tg l:Expr} {tl:TE} (hl:PE X l tl) (hK:X.K=K:=by rfl):PI X tg l (xB K tl):=by subst hK;exact bx hl
end
theorem Ds {P:Program} {w:World} {nN:Nat} {fs:List (Nat×Nat)} {wi:TI} {g:TG} {wi2:TI} {g2:TG} {tc:TT} {te:TE} {σ:St} {H:Hp} {Q:VK} (q:wi σ H λ J H1=>∀ D,H1 D=none->∃ (n:Nat) (W:Nat->List Key->Hp->Prop),W 0 [] (upd H1 D (bb P w D [])) /\
 ∀ i ys H2,i<=n->W i ys H2->H2 D=some (bb P w D ys)->(J.stop i H2/\Q (.ref D) H2)∨(i<n/\J.go i H2/\∀ x H3,J.yld i H2 x H3->g x (tau nN fs σ) H3 λ τ4 H4=>
  (∀ (j:Nat) v,(tau nN fs σ)[j]?=some (some v)->τ4[j]?=some (some v))/\tSI P w D wi2 g2 tc te ys (λ zs H'=>W (i+1) zs H') τ4 H4)):Bl P w nN fs wi g wi2 g2 tc te σ H Q:=q
end L2
local macro_rules | `(tactic| array_get_dec) => `(tactic| with_reducible refine L2.Ds ?_)
namespace L2
open PySem PySem.Spec PyProof.Rows
theorem Fp {P:Program} {w:World} {D:Addr} {wi:TI} {g:TG} {tc:TT} {te:TE} {ys:List Key} {Q:List Key->Hp->Prop} {τ:St} {H:Hp} (q:wi τ H λ J H1=>∃ (n:Nat) (W:Nat->List Key->Hp->Prop),H1 D=some (bb P w D ys)/\W 0 ys H1 /\
 ∀ i zs H2,i<=n->W i zs H2->H2 D=some (bb P w D zs)->(J.stop i H2/\Q zs H2)∨(i<n/\J.go i H2/\∀ x H3,J.yld i H2 x H3->g x τ H3 λ τ4 H4=>
  (∀ (j:Nat) v,τ[j]?=some (some v)->τ4[j]?=some (some v))/\tc τ4 H4 λ b H5=>
   if b=true then te τ4 H5 λ v H6=>∃ k:Key,v=kV k/\zs.length+1<scanBound/\H6 D=some (bb P w D zs)/\W (i+1) (eo zs k) (upd H6 D (bb P w D (eo zs k))) else H5 D=some (bb P w D zs)/\W (i+1) zs H5)):tSI P w D wi g tc te ys Q τ H:=q
end L2
local macro_rules | `(tactic| array_get_dec) => `(tactic| with_reducible refine L2.Fp ?_)
namespace L2
open PySem PySem.Spec PyProof.Rows
section
variable {X:Cx}
end
section
variable {X:Cx}
theorem jk (K:PySem.W.Frag) (hK:X.K=K:=by rfl):eg X (.builtin "len") (λ xs H Q=>∃ p ys,xs=[.ref p]/\(SqL K H p ys∨SqT K H p ys)/\Q (.int ys.length) H):=by subst hK;exact bt
end
def Cx.jg (X:Cx) (pins:List (Addr×Obj)) (E:XK):Cx:={ X with pn:=X.pn++pins,xe:=λ e s'=>∃ ps σ,Flew X (pins++ps) σ E e s' }
section
variable {X:Cx} {pins ps:List (Addr×Obj)} {σ:St} {H:Hp} {s:Shared} {E E':XK}
theorem Cx.Ok.jg (ok:X.Ok):(X.jg pins E).Ok:=
 ⟨ok.mod,ok.kind,ok.glob,ok.blt,ok.above,ok.inj,ok.has,ok.cab,ok.hd,ok.frames,ok.stk,ok.exf,ok.bs,ok.bsz,ok.mQ,ok.uf,ok.jx,ok.frf⟩
theorem Cx.Ok.mr (ok:(X.jg pins E).Ok):X.Ok:=
 ⟨ok.mod,ok.kind,ok.glob,ok.blt,ok.above,ok.inj,ok.has,ok.cab,ok.hd,ok.frames,ok.stk,ok.exf,ok.bs,ok.bsz,ok.mQ,ok.uf,ok.jx,ok.frf⟩
theorem Inv.jg (I:Inv X pins σ H s):Inv (X.jg pins E) [] σ H s:=⟨I.ok.jg,I.os,I.bare,I.base,I.loc,I.cell,I.free,I.cH,λ p hp=>I.pin p (by rw [List.append_nil] at hp;exact hp),I.hok,I.len⟩
theorem Inv.mr (I:Inv (X.jg pins E) ps σ H s):Inv X (pins++ps) σ H s:=⟨I.ok.mr,I.os,I.bare,I.base,I.loc,I.cell,I.free,I.cH,λ p hp=>I.pin p (by show p∈(X.pn++pins)++ps;rw [List.append_assoc];exact hp),I.hok,I.len⟩
theorem Inv.less (I:Inv X (pins++ps) σ H s):Inv X pins σ H s:=⟨I.ok,I.os,I.bare,I.base,I.loc,I.cell,I.free,I.cH,λ p hp=>I.pin p (by rcases List.mem_append.mp hp with h | h;exact List.mem_append_left _ h;exact List.mem_append_right _ (List.mem_append_left _ h)),I.hok,I.len⟩
theorem nO {P:Program} {w:World} (h:∀ C d H',E' C d H'->E C d H') (hP:X.prog=P:=by rfl) (hw:X.w=w:=by rfl):Passes (CXE P w) (X.jg pins E) E':=by
 subst hP hw
 intro ps σ H1 s1 e s' I hx
 obtain ⟨a,C,t,B,H',e1,fl,cov,un,hok,na,nb,bare,os,q⟩:=hx
 exact ⟨ps,σ,H1,s1,I.mr,a,C,t,B,H',e1,fl,cov,un,hok,na,nb,bare,os,h _ _ _ q⟩
end
section
variable {X:Cx}
end
theorem DfD.okE {P:Program} {w:World} {K:PySem.W.Frag} {mg:Str->Option Value} {base:Heap} {x qual:Str} {st:Stmt} {N ps:List Str} {k:Nat} {sp:Sp} (D:DfD K x qual st ps) (S:aH N ps (ar st)) (len:∀ vs H Q E,sp vs H Q E->vs.length=ps.length)
  (hbody:∀ (A:Around) (outer:List Env) (s:Shared) (H:Hp) (vs:List V) (Q:VK) (E:XK),bN k (A.deeper (envOfC qual (ar st) s.heap.objs.size D.f D.cdv))->sp vs H Q E ->
   ∃ t,PSs (ix (CXE P w) P w K mg base N qual (ar st) D.f D.cdv A outer s H E) (bo st) t/\t ⟨λ _ H'=>Q .non H',Q,λ _ _=>False,λ _ _=>False⟩ (start N vs) H):c9 P w K mg base (CXE P w) (k+1) D.f D.fd ps sp:=by
 obtain ⟨f,fd,cdv,⟨oc,od,dV,kV,doc,pm,an,ct,osl,rfl,lk,hcd⟩,kp⟩:=D
 exact xH lk hcd S len λ A outer s H vs Q E hr hsp=>hbody A outer s H vs Q E hr hsp
def wL (C:Addr) (sp:Sp) (gV:List V->List V->List V) (E:XK) (t tk:TA):TE:=λ σ H Q=>t σ H λ vs H1=>tk σ H1 λ zs H2=>∀ x dx,H2 x=none->H2 dx=none->dx≠x->sp (gV (.ref x::vs) zs) (upd (upd H2 dx (.own x)) x (.ins C dx [])) (λ v H3=>v=.non/\Q (.ref x) H3) E
section
variable {X:Cx} {CX:CXT} {k:Nat} {f C:Addr} {fd:FuncData} {ps ks:List Str} {sp:Sp} {E:XK} {x:Str} {p pos:Pos} {e:Expr} {es:List Expr} {kws:List Keyword} {t tk:TA} {g:List Value->List Value->List Value} {gV:List V->List V->List V}
theorem vS {pins:List (Addr×Obj)} {σ:St} {H:Hp} {s:Shared} {Q:VK} {us ws:List Value} {vs zs:List V} (M:Mk X.K C f) (F:c9 X.prog X.w X.K X.mg X.base CX k f fd ps sp) (hr:bN (k+1) X.A) (hb:ft X.K fd ps ks g gV)
  (hx:Passes CX X E) (I:Inv X pins σ H s) (r:Vals vs us) (rz:Vals zs ws)
  (h:∀ x dx,H x=none->H dx=none->dx≠x->sp (gV (.ref x::vs) zs) (upd (upd H dx (.own x)) x (.ins C dx [])) (λ v H2=>v=.non/\Q (.ref x) H2) E):
  wpAny (model X.prog X.w) X.A (call (.ref C) us (ks.zip ws)) (EP X pins σ Q) X.xe s:=by
 have hq:=h (s.heap.objs.size+1) s.heap.objs.size (I.hok.fresh (Nat.le_succ _)) (I.hok.fresh (Nat.le_refl _)) (Nat.ne_of_lt (Nat.lt_succ_self _))
 have I2:=Inv.made (C:=C) I
 have r2:Vals (gV (V.ref (s.heap.objs.size+1)::vs) zs) (g (Value.ref (s.heap.objs.size+1)::us) ws):=hb.rel (.cons rfl r) rz
 have hl:(g (Value.ref (s.heap.objs.size+1)::us) ws).length=ps.length:=by rw [<- r2.length];exact F.len _ _ _ _ hq
 refine wpAny_call (sq (f:=f) I.kIn M.makes M.init (beq_iff_eq.mp M.fn) (codeAny_mono (F.run _ X.stack _ _ ⟨Value.ref (s.heap.objs.size+1)::us,ks.zip ws⟩ (g (Value.ref (s.heap.objs.size+1)::us) ws) _ _ E (hr.make C us (ks.zip ws))
  (I2.Di.make C us (ks.zip ws)) (hb.to _ (Value.ref (s.heap.objs.size+1)::us) ws I2.kIn hl) r2 hq) λ r s' hq'=>?_))
 cases r with
 | error e=>exact hx pins σ _ _ e s' I2 hq'
 | ok fl=>
  cases fl with
  | ret u=>
   obtain ⟨v,H',I3,rv,ev,q3⟩:=I2.after hq'
   subst ev
   exact ⟨rv,⟨V.ref (s.heap.objs.size+1),H',I3,rfl,q3⟩⟩
  | next=>exact False.elim hq'
  | brk=>exact False.elim hq'
  | cont=>exact False.elim hq'
theorem mY (M:Mk X.K C f) (F:c9 X.prog X.w X.K X.mg X.base CX k f fd ps sp) (hr:bN (k+1) X.A) (hg:Gl X x) (hm:X.mg x=some (.ref C)) (hb:ft X.K fd ps ks g gV) (hx:Passes CX X E)
  (ha:PA X (e::es) t) (hkw:PK X kws tk) (hall:(backToKw pos (keywordEach kws X.env)).all (·.1.isSome)=true:=by rfl) (hks:(backToKw pos (keywordEach kws X.env)).filterMap (·.1)=ks:=by rfl)
  (hdb:(x==("__debug__":Str))=false:=by decide) (he:starEach (e::es) X.env=(false,eval e X.env)::starEach es X.env:=by rfl)
  (hpl:((backTo pos (starEach (e::es) X.env)).any (·.1)||(backToKw pos (keywordEach kws X.env)).any (·.1.isNone))=false:=by rfl):
  PE X (.Call (.Name x p) (e::es) kws pos) (wL C sp gV E t tk):=by
 intro pins s σ H Q I h
 refine wpAny_Call_Name_kw (gI I hg hm ?_ hdb)
 refine PySem.W.callWith_KW (h₀:=X.base) I.ok.mod.kin M.kp hall (thn (ha pos pins s σ H _ I h) λ us s1 ⟨vs,H1,I1,r,q⟩=>?_) hpl he
 refine thn (hkw pos pins s1 σ H1 _ I1 q) λ ws s2 ⟨zs,H2,I2,rz,q2⟩=>⟨I2.kIn,?_⟩
 rw [hks]
 exact vS M F hr hb hx I2 r rz q2
end
theorem Ah {C:Addr} {sp:Sp} {gV:List V->List V->List V} {E:XK} {t tk:TA} {σ:St} {H:Hp} {Q:VK} (q:t σ H λ vs H1=>tk σ H1 λ zs H2=>∀ x dx,H2 x=none->H2 dx=none->dx≠x->sp (gV (.ref x::vs) zs) (upd (upd H2 dx (.own x)) x (.ins C dx [])) (λ v H3=>v=.non/\Q (.ref x) H3) E):wL C sp gV E t tk σ H Q:=q
end L2
local macro_rules | `(tactic| array_get_dec) => `(tactic| with_reducible refine L2.Ah ?_)
namespace L2
open PySem PySem.Spec PyProof.Rows
def mj (K:PySem.W.Frag) (C:Addr) (bmB:List Value) (newId:String):Bool:=match K.lookup C with
 | some ⟨.type "type",_,.cls cd,sl⟩=>(match cd.mro,sl.toList with
  | .ref C'::bm,[_,_,_,_,some (.builtin n),_]=>C'==C&&n==newId&&!cd.hasDel&&PySem.W.tailIn K bmB bm&&PySem.W.nsOkIn K cd.ns
  | _,_=>false)
 | _=>false
theorem mG {K:PySem.W.Frag} {h:Heap} {C:Addr} {bmB:List Value} {newId:String} (X:K.In h) (q:L2.mj K C bmB newId=true):
  ∃ bm N nm q bs hdct sn sub ab col dd k0 k1 k2 k3 k5 mN,h.get? C=some (excClassObj nm q C N bs bm hdct sn sub ab col dd k0 k1 k2 k3 k5 newId)/\h.Ns N mN/\OwnTail h bmB bm:=by
 unfold L2.mj at q
 split at q
 ·rename_i dd cd sl ho
  split at q
  ·rename_i C' bm k0 k1 k2 k3 n k5 hm hs
   simp only [Bool.and_eq_true,beq_iff_eq,Bool.not_eq_true'] at q
   obtain ⟨⟨⟨⟨rfl,rfl⟩,hdel⟩,ht⟩,hok⟩:=q
   obtain ⟨nm,bs,mro,ns,qn,hd,sn,sub,ab,col,del⟩:=cd
   dsimp only at hm hdel hok
   subst hm hdel
   obtain ⟨l⟩:=sl
   simp only at hs
   subst hs
   exact ⟨bm,ns,nm,qn,bs,hd,sn,sub,ab,col,dd,k0,k1,k2,k3,k5,_,X _ _ ho,.of_isNs (PySem.W.isNs_of_in X hok),PySem.W.tail_of_in X ht⟩
  ·cases q
 ·cases q
theorem zx {K:PySem.W.Frag} {C:Addr} {bmB:List Value} {newId:String} (q:PySem.W.excIn K C bmB newId=true):mj K C bmB newId=true:=by
 unfold PySem.W.excIn at q
 unfold mj
 split at q
 ·rename_i ho
  rw [ho]
  split at q
  ·rename_i h1 h2
   simp only [h1,h2]
   simp only [Bool.and_eq_true] at q ⊢
   exact q.1
  ·cases q
 ·cases q
end L2
namespace L2
open PySem PySem.W PyProof.Rows
theorem yu {prog:Program} {w:World} {A:Around} {E:Value->Shared->Prop} {s:Shared} {K:Frag} {a C:Addr} {o:Obj} {vs:Array Value} {bmB:List Value} {B newId:String} {Q:Option Value->Shared->Prop} (X:K.In s.heap) (FB:ExcAttrBase B bmB) (hC:L2.mj K C bmB newId=true)
  (hga:findIn K (.ref C) "__getattribute__"=some (some (.builtin "BaseException.__getattribute__"))) (hgt:findIn K (.ref C) "__getattr__"=some none)
  (ha:findIn K (.ref C) "__class__"=some (some (.builtin "object.__class__")))
  (hn:specialIn K (.builtin "object.__class__") "__get__"=some (some (.builtin "getset_descriptor.__get__"))) (htk:takesIn K (.builtin "object.__class__")=some true) (hm:mroIn K C (.type "object")=some true)
  (hob:bmB.contains (.type "object")=true) (hx:s.heap.get? a=some o) (hc:o.cls=.ref C) (hd:o.data=.fields vs) (k:Q (some (.ref C)) { s with toks:=s.toks+1 }):wpAny (model prog w) A (getAttr? (.ref a) "__class__") Q E s:=by
 obtain ⟨h,g,d,t,os⟩:=s
 obtain ⟨bm,Nn,nm,q,bs,hdct,sn,sub,ab,col,dd,k0,k1,k2,k3,k5,mN,hCo,hN,T⟩:=mG X hC
 have L0:Looks (model prog w) h (typeOf (.ref a)) (.ref C):=hc ▸ (Looks.ld hx).andThen .now
 have L1:=looks_findIn (M:=model prog w) X hga
 have L2:=looks_findIn (M:=model prog w) X hgt
 have L3:=looks_findIn (M:=model prog w) X ha
 have f3:=FB.ga.bind (.ref a)
 unfold getAttr? getAttrBy? getAttrBy
 refine wpAny_bind (wpAny_mkText (wpAny_bind (wpAny_attempt (wpAny_holding (wpAny_bind (L0.at (wpAny_bind (L1.at ?_))))))))
 have hx2:(Value.builtin "BaseException.__getattribute__"==Value.builtin "object.__getattribute__")=false:=by decide +kernel
 have hx1:(onTheHeap (Value.ref C)&&Value.builtin "BaseException.__getattribute__"==Value.builtin "object.__getattribute__")=false:=by rw [hx2];rfl
 repeat (any_goals (first | assumption | with_reducible refine wpAny_bind (L2.at ?_) | wp_step))
 refine codeAny_call_builtin FB.ga.plain F.entry_bexc_ga ?_
 have hob:bmB.contains (.type "object")=true:=hob
 have hcB:(Value.ref C::bm).contains (.type "BaseException")=true:=by rw [List.contains_cons,T.hasType FB.hasBase];rfl
 have hkd:builtinKind "BaseException.__getattribute__"=some .slot:=by decide +kernel
 have hsp:splitId "BaseException.__getattribute__"=some ("BaseException","__getattribute__"):=by decide +kernel
 have hag:=F.args_bexc_ga (.ref a) (.str "__class__" t)
 simp only [checkBuiltinCall,hkd,hsp]
 refine wpAny_bind ?_
 unfold isInstance
 repeat (first | (with_reducible refine wpAny_loadPart_at hx ?_;rw [hc]) | (with_reducible refine wpAny_isSubtype_exc hCo ?_;rw [hcB]) | wp_step)
 have f5:=F.typeOf_object_class
 have f6:=F.slot_gs_get.lookup
 have f7:=F.slot_gs_set.lookup
 repeat (any_goals (first | assumption | (with_reducible refine wpAny_loadPart_at hx ?_;rw [hc]) | with_reducible refine L3.at ?_ | wp_step))
 refine ji hCo T hob hx hc (wpAny_pure ?_)
 exact handed_on rfl (wpAny_pure k)
section
variable {M:Model} {A:Around} {E:Value->Shared->Prop}
theorem qO {K:PySem.W.Frag} {bmC bmS:List Value} {nC nS:String} {C S a:Addr} {s:Shared} {oe:Obj} {Q:Bool->Shared->Prop} (KX:K.In s.heap) (hC:L2.mj K C bmC nC=true) (hS:PySem.W.excIn K S bmS nS=true) (hbS:bmS.contains (.type "BaseException")=true)
  (hsub:j9 K C S=true) (he:s.heap.get? a=some oe) (hc:oe.cls=.ref C) (hq:Q true s):wpAny M A (excMatches (.ref a) (.ref S)) Q E s:=by
 obtain ⟨bm,N,nm,q,bs,hdct,sn,sub,ab,col,dd,k0,k1,k2,k3,k5,mN,h1,_,_⟩:=mG KX hC
 obtain ⟨bm',N',nm',q',bs',hdct',sn',sub',ab',col',dd',k0',k1',k2',k3',k5',mN',h2,_,_,T⟩:=nQ KX hS
 have c1:(Value.ref C::bm).contains (.ref S)=true:=by
  unfold j9 at hsub
  unfold L2.mj at hC
  split at hC
  ·rename_i ho
   rw [ho] at hsub
   have z:=KX _ _ ho
   rw [h1] at z
   cases z
   exact hsub
  ·cases hC
 have c2:(Value.ref S::bm').contains (.type "BaseException")=true:=by rw [List.contains_cons,T.hasType hbS,Bool.or_true]
 have f:=tc_notTuple
 obtain ⟨hh,g,d,t,os⟩:=s
 unfold excMatches
 repeat (first | (with_reducible refine wpAny_loadPart_at he ?_;rw [hc]) | with_reducible refine wpAny_loadPart_at h2 ?_ | (with_reducible refine wpAny_isSubtype_exc h2 ?_;rw [c2]) | (with_reducible refine wpAny_isSubtype_exc h1 ?_;rw [c1]) | wp_step)
 exact hq
end
section
variable {X:Cx}
structure xq (K:PySem.W.Frag) (C:Addr):Prop where
 ex:L2.mj K C [.type "ValueError",.type "Exception",.type "BaseException",.type "object"] "ValueError.__new__"=true
 ga:PySem.W.findIn K (.ref C) "__getattribute__"=some (some (.builtin "BaseException.__getattribute__"))
 gt:PySem.W.findIn K (.ref C) "__getattr__"=some none
 cl:PySem.W.findIn K (.ref C) "__class__"=some (some (.builtin "object.__class__"))
 gs:PySem.W.specialIn K (.builtin "object.__class__") "__get__"=some (some (.builtin "getset_descriptor.__get__"))
 tk:PySem.W.takesIn K (.builtin "object.__class__")=some true
 ob:PySem.W.mroIn K C (.type "object")=some true
theorem oM.w {K:PySem.W.Frag} {C:Addr} (e:oM K C):xq K C:=⟨zx e.ex,e.ga,e.gt,e.cl,e.gs,e.tk,e.ob⟩
theorem pB {K:PySem.W.Frag} {a C:Addr} (e:xq K C):PySem.W.KitX K (.ref a) (.ref C) (excφ a C) where
 ty:=λ M h _ p=>by
  obtain ⟨o,vs,h1,h2,_⟩:=p
  exact h2 ▸ (PySem.W.Looks.ld h1).andThen .now
 it:=λ M h X p=>by
  obtain ⟨bm,N,nm,q,bs,hdct,sn,sub,ab,col,dd,k0,k1,k2,k3,k5,mN,hC,_⟩:=mG X e.ex
  intro A' Q' E' s' k q
  unfold isType loadHead
  exact wpAny_bind (wpAny_loadPart (k _ _ hC) (wpAny_pure q))
 ne:=λ h tp dd' its n sl X htp=>by
  obtain ⟨bm,N,nm,q,bs,hdct,sn,sub,ab,col,dd,k0,k1,k2,k3,k5,mN,hC,_⟩:=mG X e.ex
  refine Bool.eq_false_iff.mpr λ z=>?_
  have e:C=tp:=Value.ref.inj (beq_iff_eq.mp z)
  subst e
  rw [hC] at htp
  have z2:=congrArg Obj.cls (Option.some.inj htp)
  exact absurd z2 (by simp)
 ca:=λ {prog w A E Q s} X p k=>by
  obtain ⟨o,vs,h1,h2,h3⟩:=p
  exact yu X PySem.F.attrBase_ValueError e.ex e.ga e.gt e.cl e.gs e.tk e.ob rfl h1 h2 h3 k
inductive TyW (K:PySem.W.Frag) (H:Hp):V->Value->Prop where
 | v {x:V} {t:Value} (h:kB K H x t):TyW K H x t
 | ex {a C:Addr} (h:H a=some (Ex a C)) (e:xq K C):TyW K H (.ref a) (.ref C)
theorem i4:eg X (.builtin "isinstance") (λ xs H Q=>∃ x c t cv b,xs=[x,c]/\TyW X.K H x t/\y8 c=some cv/\PySem.W.kitOne X.K t cv=some b/\Q (.bl b) H):=by
 intro pins s σ H xs us Q I r h
 obtain ⟨x,c,t,cv,b,rfl,ty,hc,hk,q⟩:=h
 obtain ⟨u,w,rfl,rx,rc⟩:=vals2 r
 cases nB hc rc
 cases ty with
 | v ty=>exact o8 I rx ty hk λ tk=>⟨.bl b,H,I.tok _,rfl,q⟩
 | @ex a C hH e=>
  cases (show u=Value.ref a from rx)
  exact PySem.W.kia_one (pB e) I.kIn (I.hok a _ hH).1 hk (λ z=>nomatch z) λ tk=>⟨.bl b,H,I.tok _,rfl,q⟩
theorem ug:eg X (.builtin "isinstance") (λ xs H Q=>∃ a C p cs cvs b,xs=[.ref a,.ref p]/\H a=some (Ex a C)/\xq X.K C/\H p=some (.tup cs)/\cs.map y8=cvs.map some/\PySem.W.kitAny X.K (.ref C) cvs=some b/\Q (.bl b) H):=by
 intro pins s σ H xs us Q I r h
 obtain ⟨a,C,p,cs,cvs,b,rfl,hH,e,hp,hcs,hk,q⟩:=h
 obtain ⟨u,w,rfl,rx,rc⟩:=vals2 r
 cases (show u=Value.ref a from rx)
 cases (show w=Value.ref p from rc)
 obtain ⟨hlen,its,rv,o,ho,hc,n,hd⟩:=I.hok p _ hp
 have ei:its=cvs:=by
  clear hk hp hd hlen
  induction rv generalizing cvs with
  | nil=>
   cases cvs with
   | nil=>rfl
   | cons _ _=>cases hcs
  | cons r _ ih=>
   cases cvs with
   | nil=>cases hcs
   | cons c2 r2=>
    rw [List.map_cons,List.map_cons] at hcs
    injection hcs with h1 h2
    rw [nB h1 r,ih r2 h2]
 subst ei
 obtain ⟨c0,d0,dt,sl⟩:=o
 cases hc
 have hd:dt=.seq its.toArray n:=hd
 subst hd
 exact PySem.W.kia_tup (pB e) I.kIn (I.hok a _ hH).1 ho hk (λ z=>nomatch z) λ tk=>⟨.bl b,H,I.tok _,rfl,q⟩
end
def AH (K:PySem.W.Frag) (S:Addr) (i j n:Nat) (tb:XK->TS):TS:=λ D σ H=>tb (λ C _ H'=>∃ c bm nw,C=.ref c/\L2.mj K c bm nw=true/\j9 K c S=true/\∀ a (σ':St),H' a=none->σ'.length=n->D.nx ((σ'.set i (some (.ref a))).set j none) (upd H' a (Ex a c)))
 ⟨D.nx,λ _ _=>False,λ _ _=>False,λ _ _=>False⟩ σ H
section
variable {X:Cx}
theorem Af {i j:Nat} {n v x:Str} {S:Addr} {bmS:List Value} {nS:String} {body:List Stmt} {tb:XK->TS} {p3 p4 p5 p6 p7 p8:Pos} (hN:X.N.Nodup) (hi:X.N[i]?=some n) (hj:X.N[j]?=some v) (hn:X.env.scope.names.lookup n=some .local) (hv:X.env.scope.names.lookup v=some .local)
  (hij:i≠j) (hst:X.stack=X.env::X.outer/\X.env.frame=some X.env.locals) (hH0:X.ex=[]) (hg:Gl X x) (hm:X.mg x=some (.ref S)) (hS:PySem.W.excIn X.K S bmS nS=true) (hbS:bmS.contains (.type "BaseException")=true)
  (hb:∀ (E:XK) (pins:List (Addr×Obj)),PSs (X.jg pins E) body (tb E))
  (hs2:swapsWith (.Name v p4) (some (.Name n p3)) p5.line X.env=pure false:=by rfl) (hdb:(x==("__debug__":Str))=false:=by decide) (hvd:(v==("__debug__":Str))=false:=by decide) (hvc:(v==("__classdict__":Str))=false:=by decide):
  PS X (.Try body [.ExceptHandler (some (.Name x p6)) (some v) [.Assign [.Name n p3] (.Name v p4) p5] p7] [] [] p8) (AH X.K S i j X.N.length tb):=by
 intro pins s σ H D I h
 refine wpAny_Try_except (wpAny_mono (hb _ pins [] s σ H _ I.jg h) (λ fl s1 z=>?_) λ e s1 z=>?_)
 ·cases fl with
  | next=>
   obtain ⟨σ',H',I',q⟩:=z
   exact wpAny_execs_nil ⟨σ',H',I'.mr.less,q⟩
  | brk=>obtain ⟨_,_,_,f⟩:=z;exact f.elim
  | cont=>obtain ⟨_,_,_,f⟩:=z;exact f.elim
  | ret u=>obtain ⟨_,_,_,_,_,f⟩:=z;exact f.elim
 ·obtain ⟨ps',σ,H2,s2,I2,a,c0,t,B,H',rfl,fl,cov,un,hok,na,nb,bare,os,c,bm,nw,ec,hC,hsub,q⟩:=z
  have I2:=I2.less
  have I:=I2
  cases ec
  have fr:X.A.frames=some (X.env::X.outer):=by rw [<- hst.1];exact I.ok.frames
  rw [hst.1] at fl
  refine wpAny_looks_onW fr hst.2 fl λ h4 held sm4=>wpAny_landsW held λ h5 fl5 sm5=>?_
  rw [hst.1] at cov un
  have u5:=iT un hok cov fl.1 fl5.1 fl.2.2.1 (sm4.trans sm5)
  have toX:∀ {h6:Heap},Un (frs (X.env::X.outer)) [] H2 H' s2.heap h6/\HOk X.prog X.w H' h6->Inv X pins σ H' { s1 with heap:=h6 }:=λ {h6} z=>
   I2.rG (s':={ s1 with heap:=h6 }) (ch:=[]) os (by rw [hst.1];exact z.1) z.2 bare λ b hb=>by cases hb
  have I5:=toX u5
  refine wpAny_handleBy_cons (codeAny_handlers_test ?_) (by intro z;cases z)
  have I5m:=I5.mark (.ref a)
  refine gI (X:=X.marked (.ref a)) I5m hg hm ?_ hdb
  obtain ⟨oe,vs5,e5,hc5,hd5,_⟩:=fl5.first
  refine qO (K:=X.K) I5.kIn hC hS hbS hsub e5 hc5 (codeAny_handlers_suite_as ?_)
  refine lands_againW fl5 λ h6 fl6 sm6=>?_
  have I6:=toX (iT un hok cov fl.1 fl6.1 fl.2.2.1 ((sm4.trans sm5).trans sm6))
  have n0:X.s₀.heap.get? a=none:=by
   cases z:X.s₀.heap.get? a with
   | none=>rfl
   | some o=>
    obtain ⟨o1,e1⟩:=I2.base.there a o z (by rw [hH0];simp)
    rw [nb] at e1
    cases e1
  obtain ⟨oe6,vs6,e6,hc6,hd6,_⟩:=fl6.first
  have I7:Inv X pins σ (upd H' a (Ex a c0)) { s1 with heap:=h6 }:=by
   refine I6.wN na n0 (λ z=>?_) (λ y c' ec z=>?_) (λ p hp z=>?_) ⟨⟨oe6,vs6,e6,hc6,hd6⟩,⟨oe6,e6⟩,excφ_stay⟩
   ·obtain ⟨m,⟨o,_,_,ho,_⟩,_⟩:=I2.loc
    rw [z,ho] at nb
    cases nb
   ·obtain ⟨v',o,ho,_⟩:=I2.cell y c' ec
    rw [z,nb] at ho
    cases ho
   ·have:=(I2.pin p hp).1
    rw [z,nb] at this
    cases this
  have I7m:=I7.mark (.ref a)
  refine ni (X:=X.marked (.ref a)) I7m hN hj (.inl hv) (show RelV (.ref a) (.ref a) from rfl) (λ s8 I8=>?_) (.inr hv)
  have suite:PSs (X.marked (.ref a)) [.Assign [.Name n p3] (.Name v p4) p5] (wX (xM j) (dD i)):=aj (ay hN hi (.inl hn) (yA hj (.inl hv) hvd hvc) hs2 (.inr hn))
  have hjl:j<σ.length:=by rw [I.len];exact (List.getElem?_eq_some_iff.mp hj).1
  refine wpAny_mono (suite pins s8 _ _ { nx:=λ σ9 H9=>σ9=(σ.set j (some (.ref a))).set i (some (.ref a))/\H9=upd H' a (Ex a c0),rt:=λ _ _=>False } I8 ⟨_,List.getElem?_set_self hjl,rfl,rfl⟩) (λ fl9 s9 z=>?_) λ _ _ f=>f.elim
  cases fl9 with
  | next=>
   obtain ⟨σ9,H9,I9,e9,e9'⟩:=z
   subst e9 e9'
   have I9:=I9.unmark I.ok
   obtain ⟨m,hm9,lk⟩:=I9.loc
   refine wpAny_nameGoes_keeps hv hm9 (by rw [I.ok.kind];rfl) λ h10 w hm10 sb=>⟨(σ.set i (some (.ref a))).set j none,_,?_,q a σ na I2.len⟩
   obtain ⟨oL,_,_,hoL,_⟩:=hm9
   have neL:∀ b o,X.s₀.heap.get? b=some o->b≠X.env.locals:=λ b o e=>Nat.ne_of_lt (Nat.lt_of_lt_of_le (Heap.lt_size e) I.ok.above)
   have kb:∀ b o,b≠X.env.locals->s9.heap.get? b=some o->h10.get? b=some o:=λ b o hb e=>(sb.2 b hb).trans e
   refine ⟨I.ok,I9.os,I9.bare,⟨λ b o e n' hb hx=>kb b o (neL b o e) (I9.base.keep b o e n' hb hx),λ b o e n' hb hx=>?_,I9.base.free,λ b o e hx=>?_,I9.base.jB,I9.base.je,I9.base.jH⟩,⟨_,hm10,λ k y u e1 e2 e3=>?_⟩,λ y c' ec=>?_,I9.free,I9.cH,λ p hp=>?_,λ b u e=>?_,?_⟩
   ·obtain ⟨sl,e1⟩:=I9.base.slot b o e n' hb hx
    exact ⟨sl,kb b _ (neL b o e) e1⟩
   ·obtain ⟨o',e1⟩:=I9.base.there b o e hx
    exact ⟨o',kb b _ (neL b o e) e1⟩
   ·have hkj:k≠j:=λ z=>by
     subst z
     rw [List.getElem?_set_self (by rw [List.length_set];exact hjl)] at e2
     cases e2
    rw [List.getElem?_set_ne (Ne.symm hkj)] at e2
    have e2':((σ.set j (some (.ref a))).set i (some (.ref a)))[k]?=some (some u):=by
     by_cases hki:k=i
     ·subst hki
      have hil:k<σ.length:=by rw [I.len];exact (List.getElem?_eq_some_iff.mp hi).1
      rw [List.getElem?_set_self hil] at e2
      rw [List.getElem?_set_self (by rw [List.length_set];exact hil)]
      exact e2
     ·rw [List.getElem?_set_ne (Ne.symm hki)] at e2 ⊢
      rw [List.getElem?_set_ne (Ne.symm hkj)]
      exact e2
    obtain ⟨u',ru,z⟩:=lk k y u e1 e2' e3
    refine ⟨u',ru,?_⟩
    have yv:y≠v:=λ z=>hkj (oh hN e1 (z ▸ hj))
    rcases z with ⟨z1,z2⟩ | ⟨z1,c',z2,z3⟩
    ·exact .inl ⟨z1,by simp only [if_neg yv];exact z2⟩
    ·exact .inr ⟨z1,c',z2,z3.sameBut sb (I9.cne y c' z2)⟩
   ·obtain ⟨w',z⟩:=I9.cell y c' ec
    exact ⟨w',z.sameBut sb (I9.cne y c' ec)⟩
   ·obtain ⟨z1,z2,z3,z4,z5⟩:=I9.pin p hp
    exact ⟨kb _ _ z3 z1,z2,z3,z4,z5⟩
   ·refine (I9.hok b u e).cK (λ c' v' hc' q'=>kb c' v' ?_ q') (λ _ q'=>q') λ _ _ q'=>q'
    rintro rfl
    rcases hc' with z | z
    ·rw [<- z,I9.free] at e
     cases e
    ·rw [I9.free] at z
     cases z
   ·simp only [List.length_set]
    exact I.len
  | ret v=>exact z.elim (λ _ h=>by obtain ⟨_,_,_,_,f⟩:=h;exact f.elim)
  | brk=>obtain ⟨_,_,_,f⟩:=z;exact f.elim
  | cont=>obtain ⟨_,_,_,f⟩:=z;exact f.elim
end
theorem CI {K:PySem.W.Frag} {S:Addr} {i j n:Nat} {tb:XK->TS} {nx bk ct:St->Hp->Prop} {rt:VK} {σ:St} {H:Hp}
  (q:tb (λ C _ H'=>∃ c bm nw,C=.ref c/\L2.mj K c bm nw=true/\j9 K c S=true/\∀ a (σ':St),H' a=none->σ'.length=n->nx ((σ'.set i (some (.ref a))).set j none) (upd H' a (Ex a c))) ⟨nx,λ _ _=>False,λ _ _=>False,λ _ _=>False⟩ σ H):AH K S i j n tb ⟨nx,rt,bk,ct⟩ σ H:=q
inductive DE (H:Hp):Nat->V->V->Prop
 | int {n:Nat} (i:Int):DE H n (.int i) (.int i)
 | str {n:Nat} (x:Str):DE H n (.str x) (.str x)
 | same {n:Nat} (a:Addr):DE H n (.ref a) (.ref a)
 | lst {n:Nat} {a b:Addr} {xs ys:List V} (ha:H a=some (.lst xs)) (hb:H b=some (.lst ys)) (hl:xs.length=ys.length) (h:∀ (i:Nat) x y,xs[i]?=some x->ys[i]?=some y->DE H n x y):DE H (n+1) (.ref a) (.ref b)
 | tup {n:Nat} {a b:Addr} {xs ys:List V} (ha:H a=some (.tup xs)) (hb:H b=some (.tup ys)) (hl:xs.length=ys.length) (h:∀ (i:Nat) x y,xs[i]?=some x->ys[i]?=some y->DE H n x y):DE H (n+1) (.ref a) (.ref b)
theorem DE.heap {H H':Hp} {n:Nat} {v w:V} (h:DE H n v w) (s:ak H H'):DE H' n v w:=by
 induction h with
 | int i=>exact .int i
 | str x=>exact .str x
 | same a=>exact .same a
 | lst ha hb hl _ ih=>exact .lst (s _ _ ha) (s _ _ hb) hl ih
 | tup ha hb hl _ ih=>exact .tup (s _ _ ha) (s _ _ hb) hl ih
section
variable {X:Cx} {pins:List (Addr×Obj)} {σ:St} {H:Hp} {s:Shared}
theorem all_true (n:Nat):((List.range n).all λ _=>true)=true:=by simp
theorem DE.eq (I:Inv X pins σ H s) {n:Nat} {v w:V} (h:DE H n v w):∀ (A:Around),A.units+n<cLine->∀ {u u':Value},RelV v u->RelV w u'->SeqAt.EqAt A s u u' true:=by
 induction h with
 | int i=>
  intro A _ u u' r r'
  obtain ⟨t,rfl⟩:=r
  obtain ⟨t',rfl⟩:=r'
  exact (beq_self_eq_true i) ▸ SeqAt.EqAt.int_int i t i t'
 | str x=>
  intro A _ u u' r r'
  obtain ⟨t,rfl⟩:=r
  obtain ⟨t',rfl⟩:=r'
  exact (beq_self_eq_true x) ▸ SeqAt.EqAt.str_str x t x t'
 | same a=>
  intro A _ u u' r r'
  cases r;cases r'
  exact SeqAt.EqAt.same _
 | @lst n a b xs ys ha hb hl h ih=>
  intro A hu u u' r r'
  cases r;cases r'
  by_cases z:a=b
  ·subst z;exact SeqAt.EqAt.same _
  obtain ⟨vs,r1,q1,_⟩:=I.list (SqL.of ha)
  obtain ⟨ws,r2,q2,_⟩:=I.list (SqL.of hb)
  refine SeqAt.EqAt.of_refs z ?_
  have:=SeqAt.RcAt.lists (A:=A) (e:=λ _=>true) q1.isList q2.isList (by simp [<- r1.length,<- r2.length,hl]) (Nat.lt_of_le_of_lt (Nat.le_add_right _ _) hu) (λ j k1 k2=>by
   have k1:j<vs.length:=by simpa using k1
   have k2:j<ws.length:=by simpa using k2
   have l1:j<xs.length:=by rw [r1.length];exact k1
   have l2:j<ys.length:=by rw [r2.length];exact k2
   obtain ⟨x1,e1,rx⟩:=r1.get (List.getElem?_eq_getElem l1)
   obtain ⟨y1,e2,ry⟩:=r2.get (List.getElem?_eq_getElem l2)
   rw [List.getElem?_eq_getElem k1] at e1
   rw [List.getElem?_eq_getElem k2] at e2
   have g:=ih j _ _ (List.getElem?_eq_getElem l1) (List.getElem?_eq_getElem l2) A.in1 (show A.units+1+n<cLine by omega) rx ry
   rw [<- Option.some.inj e1,<- Option.some.inj e2] at g
   simpa using g)
  rw [all_true] at this
  exact this
 | @tup n a b xs ys ha hb hl h ih=>
  intro A hu u u' r r'
  cases r;cases r'
  by_cases z:a=b
  ·subst z;exact SeqAt.EqAt.same _
  obtain ⟨vs,r1,q1,_⟩:=I.tuple (SqT.of ha)
  obtain ⟨ws,r2,q2,_⟩:=I.tuple (SqT.of hb)
  refine SeqAt.EqAt.of_refs z ?_
  have ll:vs.length=ws.length:=by rw [<- r1.length,<- r2.length,hl]
  have:=SeqAt.RcAt.tuples (A:=A) (e:=λ _=>true) (show s.heap.IsTuple a _ from q1) (show s.heap.IsTuple b _ from q2) (Nat.lt_of_le_of_lt (Nat.le_add_right _ _) hu) (λ j k1 k2=>by
   have k1:j<vs.length:=by simpa using k1
   have k2:j<ws.length:=by simpa using k2
   have l1:j<xs.length:=by rw [r1.length];exact k1
   have l2:j<ys.length:=by rw [r2.length];exact k2
   obtain ⟨x1,e1,rx⟩:=r1.get (List.getElem?_eq_getElem l1)
   obtain ⟨y1,e2,ry⟩:=r2.get (List.getElem?_eq_getElem l2)
   rw [List.getElem?_eq_getElem k1] at e1
   rw [List.getElem?_eq_getElem k2] at e2
   have g:=ih j _ _ (List.getElem?_eq_getElem l1) (List.getElem?_eq_getElem l2) A.in1 (show A.units+1+n<cLine by omega) rx ry
   rw [<- Option.some.inj e1,<- Option.some.inj e2] at g
   simpa using g)
  rw [all_true,show (vs.toArray.size==ws.toArray.size)=true by simp [ll]] at this
  exact this
theorem zo (hu:X.A.units+64<cLine):OpR X (compareOp .NotEq) (λ x y H Q=>∃ (n:Nat) (a b:Addr) (xs ys:List V),x=.ref a/\y=.ref b/\H a=some (.tup xs)/\H b=some (.tup ys)/\xs.length=ys.length/\n<=60/\(∀ (i:Nat) x y,xs[i]?=some x->ys[i]?=some y->DE H n x y)/\Q (.bl false) H):=by
 intro pins s σ H x y v u Q I rx ry h
 obtain ⟨n,a,b,xs,ys,rfl,rfl,ha,hb,hl,n60,hd,q⟩:=h
 cases rx
 cases ry
 obtain ⟨vs,r1,q1,_⟩:=I.tuple (SqT.of ha)
 obtain ⟨ws,r2,q2,_⟩:=I.tuple (SqT.of hb)
 have ll:vs.length=ws.length:=by rw [<- r1.length,<- r2.length,hl]
 refine SeqAt.RcNeAt.tuples (A:=X.A) (e:=λ _=>true) (show s.heap.IsTuple a _ from q1) (show s.heap.IsTuple b _ from q2) (by omega) (λ j k1 k2=>?_) _ _ _ _ (aQ I q (by rw [all_true,show (vs.toArray.size==ws.toArray.size)=true by simp [ll]];rfl))
 have k1:j<vs.length:=by simpa using k1
 have k2:j<ws.length:=by simpa using k2
 have l1:j<xs.length:=by rw [r1.length];exact k1
 have l2:j<ys.length:=by rw [r2.length];exact k2
 obtain ⟨x1,e1,rx⟩:=r1.get (List.getElem?_eq_getElem l1)
 obtain ⟨y1,e2,ry⟩:=r2.get (List.getElem?_eq_getElem l2)
 rw [List.getElem?_eq_getElem k1] at e1
 rw [List.getElem?_eq_getElem k2] at e2
 have g:=DE.eq I (hd j _ _ (List.getElem?_eq_getElem l1) (List.getElem?_eq_getElem l2)) X.A.in1 (show X.A.units+1+n<cLine by omega) rx ry
 rw [<- Option.some.inj e1,<- Option.some.inj e2] at g
 simpa using g
theorem zp (hu:X.A.units+64<cLine):OpR X (compareOp .Eq) (λ x y H Q=>∃ (n:Nat) (a b:Addr) (xs ys:List V),x=.ref a/\y=.ref b/\H a=some (.tup xs)/\H b=some (.tup ys)/\xs.length=ys.length/\n<=60/\(∀ (i:Nat) x y,xs[i]?=some x->ys[i]?=some y->DE H n x y)/\Q (.bl true) H):=by
 intro pins s σ H x y v u Q I rx ry h
 obtain ⟨n,a,b,xs,ys,rfl,rfl,ha,hb,hl,n60,hd,q⟩:=h
 cases rx
 cases ry
 obtain ⟨vs,r1,q1,_⟩:=I.tuple (SqT.of ha)
 obtain ⟨ws,r2,q2,_⟩:=I.tuple (SqT.of hb)
 have ll:vs.length=ws.length:=by rw [<- r1.length,<- r2.length,hl]
 refine SeqAt.RcAt.tuples (A:=X.A) (e:=λ _=>true) (show s.heap.IsTuple a _ from q1) (show s.heap.IsTuple b _ from q2) (by omega) (λ j k1 k2=>?_) _ _ _ _ (aQ I q (by rw [all_true,show (vs.toArray.size==ws.toArray.size)=true by simp [ll]];rfl))
 have k1:j<vs.length:=by simpa using k1
 have k2:j<ws.length:=by simpa using k2
 have l1:j<xs.length:=by rw [r1.length];exact k1
 have l2:j<ys.length:=by rw [r2.length];exact k2
 obtain ⟨x1,e1,rx⟩:=r1.get (List.getElem?_eq_getElem l1)
 obtain ⟨y1,e2,ry⟩:=r2.get (List.getElem?_eq_getElem l2)
 rw [List.getElem?_eq_getElem k1] at e1
 rw [List.getElem?_eq_getElem k2] at e2
 have g:=DE.eq I (hd j _ _ (List.getElem?_eq_getElem l1) (List.getElem?_eq_getElem l2)) X.A.in1 (show X.A.units+1+n<cLine by omega) rx ry
 rw [<- Option.some.inj e1,<- Option.some.inj e2] at g
 simpa using g
end
theorem Cz {A:Around} {k:Nat} (hr:bN k A):A.units+64<cLine:=hr.units
end L2
namespace PySem
section
variable {prog:Program} {w:World} {A:Around} {E:Value->Shared->Prop} {h:Heap} {g:Array GenState} {d:Drawn} {t:Nat} {os:OsState}
variable {nm q:Str} {C N:Addr} {bs bm bmB:List Value} {hdct:Bool} {sn:List Str} {sub:List Value} {ab:Bool} {col:Option Bool} {dd:Option Addr} {k0 k1 k2 k3 k5:Option Value} {B newId initId:String}
theorem jd (F:ExcBaseFacts B newId initId bmB) (T:OwnTail h bmB bm) {mN:Str->Option Value} {rest:List Value} {fI:Addr} {oI:Obj} {Q:Fin->Shared->Prop}
  (hC:h.get? C=some (excClassObj nm q C N bs bm hdct sn sub ab col dd k0 k1 k2 k3 k5 newId)) (hn:h.Ns N mN) (hi:mN "__init__"=some (.ref fI))
  (hfI:h.get? fI=some oI) (hfc:oI.cls=.type "function")
  (hq:∀ h' e,Heap.MadeExcOf h h' e (.ref C) rest ->
   wpAny (model prog w) A (call (.ref fI) (.ref e::rest)) (λ r s'=>r=.none/\Q (.done (.ret (.ref e))) s') E ⟨h',g,d,t,os⟩) (hrest:rest.length<=sizeLine:=by size_fits):
  wpAny (model prog w) A (Builtin.«type.__call__» ⟨.ref C::rest,[]⟩) Q E ⟨h,g,d,t,os⟩:=by
 repeat (first | with_reducible refine wpAny_loadPart_at hC ?_ | with_reducible refine wpAny_madeBy_exc hC ?_ | wp_step)
 refine codeAny_call_builtin_code (Code.quiet_builtin _ F.quiet) (wpAny_check_new_subT F T hC ?_)
 refine codeAny_exc_new_subT F T hC ?_ hrest
 show wpAny _ _ _ _ _ _
 have hC₁:=Heap.get?_push_of_some { cls:=.ref C,data:=.fields #[.ref h.objs.size,.none,.none,.none,.bool false,.none] }
  (Heap.get?_push_of_some { cls:=.type "tuple",data:=.seq rest.toArray } hC)
 have hfI₁:=Heap.get?_push_of_some { cls:=.ref C,data:=.fields #[.ref h.objs.size,.none,.none,.none,.bool false,.none] }
  (Heap.get?_push_of_some { cls:=.type "tuple",data:=.seq rest.toArray } hfI)
 have hn₁:((h.push { cls:=.type "tuple",data:=.seq rest.toArray }).push { cls:=.ref C,data:=.fields #[.ref h.objs.size,.none,.none,.none,.bool false,.none] }).Ns N mN:=
  let ⟨o,es,ep,e,r⟩:=hn;⟨o,es,ep,Heap.get?_push_of_some _ (Heap.get?_push_of_some _ e),r⟩
 have hget:((h.push { cls:=.type "tuple",data:=.seq rest.toArray }).push
   { cls:=.ref C,data:=.fields #[.ref h.objs.size,.none,.none,.none,.bool false,.none] }).get? (h.objs.size+1)=some
   { cls:=.ref C,data:=.fields #[.ref h.objs.size,.none,.none,.none,.bool false,.none] }:=by heap_get
 have hcC:(Value.ref C::bm).contains (.ref C)=true:=by simp
 have T₁:=T.keeps (h':=(h.push { cls:=.type "tuple",data:=.seq rest.toArray }).push { cls:=.ref C,data:=.fields #[.ref h.objs.size,.none,.none,.none,.bool false,.none] })
  λ b o e=>Heap.get?_push_of_some _ (Heap.get?_push_of_some _ e)
 unfold isInstance
 repeat (first | with_reducible refine wpAny_loadPart_at hget ?_ | (with_reducible refine wpAny_isSubtype_exc hC₁ ?_;rw [hcC]) | wp_step)
 show wpAny _ _ (typeLookup (.ref C) _) _ _ _
 refine wpAny_typeLookup_tail hC₁ hn₁ T₁ F.mroIs F.init.lookup ?_
 rw [hi]
 refine wpAny_holding (wpAny_bind ?_)
 unfold bindSpecial
 refine wpAny_bind (wpAny_typeOf (T:="function") ⟨_,hfI₁,hfc⟩ ?_)
 rw [if_pos (by decide)]
 refine wpAny_pure (wpAny_bind (wpAny_mono (hq _ (h.objs.size+1) ⟨λ b o hb=>Heap.get?_push_of_some _ (Heap.get?_push_of_some _ hb),Heap.get?_none_of_le (Nat.le_succ _),h.objs.size,hget,Heap.get?_none_of_le (Nat.le_refl _),?_⟩) (λ r s' hr=>?_) λ _ _ x=>x))
 ·exact Heap.get?_push_of_some _ (Heap.get?_push_at rfl rfl)
 ·obtain ⟨rfl,hQ⟩:=hr
  wp_walk
  exact hQ
theorem mR (F:ExcBaseFacts B newId initId bmB) (T:OwnTail h bmB bm) {mN:Str->Option Value} {rest:List Value} {fI:Addr} {oI:Obj} {Q:Value->Shared->Prop}
  (hC:h.get? C=some (excClassObj nm q C N bs bm hdct sn sub ab col dd k0 k1 k2 k3 k5 newId)) (hn:h.Ns N mN) (hi:mN "__init__"=some (.ref fI))
  (hfI:h.get? fI=some oI) (hfc:oI.cls=.type "function")
  (hq:∀ h' e,Heap.MadeExcOf h h' e (.ref C) rest ->
   wpAny (model prog w) (A.under (.builtin "type.__call__" ⟨.ref C::rest,[]⟩)) (call (.ref fI) (.ref e::rest)) (λ r s'=>r=.none/\Q (.ref e) s') E ⟨h',g,d,t,os⟩) (hrest:rest.length<=sizeLine:=by size_fits):
  wpAny (model prog w) A (call (.ref C) rest) Q E ⟨h,g,d,t,os⟩:=by
 have f1:=tc_lookup
 have f2:=tc_bind (.ref C)
 have hT:(⟨h,g,d,t,os⟩:Shared).TypeIs (.ref C) "type":=⟨_,hC,rfl⟩
 refine wpAny_call (codeAny_of_tree ?_)
 show wpAny _ _ (callAny (.ref C) _) _ _ _
 repeat (any_goals (first | assumption | with_reducible refine wpAny_loadPart_at hC ?_ | wp_step))
 refine ⟨rfl,?_⟩
 refine codeAny_call_builtin_at (Code.quiet_builtin _ (by decide +kernel)) entry_typeCall (wpAny_check_type_call_sub hC (jd (hrest:=hrest) F T hC hn hi hfI hfc λ h' e hm=>?_))
 exact hq h' e hm
end
end PySem
namespace PySem
open PySem.W
theorem lQ:Slot "wrapper_descriptor" "__get__" "wrapper_descriptor.__get__":=.of (owner:="wrapper_descriptor") (n:="__get__") (by rw [typeLookup_type,builtinLookup_eq_fast];kernel_rfl) (by decide +kernel) (by decide +kernel) (by decide +kernel)
 (by first | exact .inl (by decide +kernel) | exact .inr (by decide +kernel)) (by rw [isSubtype_type];kernel_rfl)
theorem qh:entryFor table "wrapper_descriptor.__get__"=some Builtin.«wrapper_descriptor.__get__»:=entryFor_of_tree (by kernel_rfl)
theorem rd (a b c:Value):argsOk "wrapper_descriptor.__get__" ⟨[a,b,c],[]⟩:=by unfold argsOk;kernel_rfl
theorem uS:typeOf (.builtin "ValueError.__init__")=pure (.type "wrapper_descriptor"):=by kernel_rfl
section
variable {prog:Program} {w:World} {M:Model} {A:Around} {E:Value->Shared->Prop} {h:Heap} {g:Array GenState} {d:Drawn} {t:Nat} {os:OsState}
variable {nm q:Str} {C N:Addr} {bs bm bmB:List Value} {hdct:Bool} {sn:List Str} {sub:List Value} {ab:Bool} {col:Option Bool} {dd:Option Addr} {k0 k1 k2 k3 k5:Option Value} {B newId initId:String}
theorem rY {so D x:Addr} {ox:Obj} {l₀ l:List Value} {K:Frag} {name:Str} {tk:Tok} {Q:Fin->Shared->Prop}
  (hso:h.get? so=some { cls:=.type "super",dict:=none,data:=.fields #[.ref D,.ref x,.ref C],slots:=#[] }) (hno:Looks (model prog w) h (opaqueClassAbove (.ref C)) none)
  (hC:h.get? C=some (excClassObj nm q C N bs bm hdct sn sub ab col dd k0 k1 k2 k3 k5 newId)) (hcV:(Value.ref C::bm).contains (.type "ValueError")=true)
  (hm:Looks (model prog w) h (mroOf (.ref C)) l₀) (hl:(l₀.dropWhile (· != .ref D)).drop 1=l) (X:K.In h)
  (hf:alongIn K name l=some (some (.builtin "ValueError.__init__"))) (hx:h.get? x=some ox) (hxc:ox.cls=.ref C) (hxC:x≠C) (hn:(name==("__class__":Str))=false)
  (hq:Q (.done (.ret (.ref h.objs.size))) ⟨h.push { cls:=.type "method-wrapper",data:=.fields #[.builtin "ValueError.__init__",.ref x] },g,d,t,os⟩):
  wpAny (model prog w) A (Builtin.«super.__getattribute__» ⟨[.ref so,.str name tk],[]⟩) Q E ⟨h,g,d,t,os⟩:=by
 have hlk:=lQ.lookup
 have hty:=uS
 have how:(".".intercalate ("ValueError.__init__".cutAt '.').dropLast)="ValueError":=by decide +kernel
 have hTf:(⟨h,g,d,t,os⟩:Shared).TypeIs (.builtin "ValueError.__init__") "wrapper_descriptor":=uS
 have hne:(Value.ref x==Value.ref C)=false:=by simp [hxC]
 have hdt:({ cls:=.type "super",dict:=none,data:=.fields #[.ref D,.ref x,.ref C],slots:=#[] }:Obj).data=.fields #[.ref D,.ref x,.ref C]:=rfl
 have f0:(#[.ref D,.ref x,.ref C]:Array Value)[0]?=some (.ref D):=rfl
 have f1:(#[.ref D,.ref x,.ref C]:Array Value)[1]?=some (.ref x):=rfl
 have f2:(#[.ref D,.ref x,.ref C]:Array Value)[2]?=some (.ref C):=rfl
 unfold Builtin.«super.__getattribute__»
 repeat (first
  | (with_reducible refine wpAny_field hso hdt f0 ?_) | (with_reducible refine wpAny_field hso hdt f1 ?_) | (with_reducible refine wpAny_field hso hdt f2 ?_)
  | (with_reducible refine ks_wpAny_notOpaque hno ?_)
  | (with_reducible refine Looks.at hm ?_;rw [hl])
  | (refine ks_forIn_along X (λ _ _=>rfl) rfl ?_ hf)
  | (with_reducible refine wpAny_typeOf hTf ?_)
  | (with_reducible refine wpAny_call_entry lQ hTf qh ?_ (rd _ _ _))
  | (with_reducible refine wpAny_loadPart_at hx ?_;rw [hxc])
  | (rw [how];with_reducible refine wpAny_isSubtype_exc hC ?_;rw [hcV])
  | (with_reducible refine wpAny_isSubtype_exc hC ?_;rw [hcV])
  | (with_reducible refine ⟨_,rfl,?_⟩)
  | (simp only [hn,hne,Bool.or_false,Bool.false_eq_true,if_false])
  | wp_step
  | dsimp only)
 all_goals exact hq
end
end PySem
namespace PySem
open PySem.W
section
variable {prog:Program} {w:World} {M:Model} {A:Around} {E:Value->Shared->Prop} {h:Heap} {g:Array GenState} {d:Drawn} {t:Nat} {os:OsState}
variable {nm q:Str} {C N:Addr} {bs bm bmB:List Value} {hdct:Bool} {sn:List Str} {sub:List Value} {ab:Bool} {col:Option Bool} {dd:Option Addr} {k0 k1 k2 k3 k5:Option Value} {B newId initId:String}
abbrev jW (x:Addr):Obj:={ cls:=.type "method-wrapper",data:=.fields #[.builtin "ValueError.__init__",.ref x] }
theorem qm {so D x:Addr} {ox:Obj} {l₀ l:List Value} {K:Frag} {name:Str} {pl:Sem Bool} {Q:Value×List Value->Shared->Prop}
  (hso:h.get? so=some { cls:=.type "super",dict:=none,data:=.fields #[.ref D,.ref x,.ref C],slots:=#[] }) (hno:Looks (model prog w) h (opaqueClassAbove (.ref C)) none)
  (hC:h.get? C=some (excClassObj nm q C N bs bm hdct sn sub ab col dd k0 k1 k2 k3 k5 newId)) (hcV:(Value.ref C::bm).contains (.type "ValueError")=true)
  (hm:Looks (model prog w) h (mroOf (.ref C)) l₀) (hl:(l₀.dropWhile (· != .ref D)).drop 1=l) (X:K.In h)
  (hf:alongIn K name l=some (some (.builtin "ValueError.__init__"))) (hx:h.get? x=some ox) (hxc:ox.cls=.ref C) (hxC:x≠C) (hn:(name==("__class__":Str))=false)
  (hq:Q (.ref h.objs.size,[]) ⟨h.push (jW x),g,d,t+1,os⟩):
  wpAny (model prog w) A (getMethod (.ref so) name pl) Q E ⟨h,g,d,t,os⟩:=by
 have hlk:=F.ks_slot_super_ga.lookup
 have hcan:=F.ks_canon_super_ga
 have hT:∀ t',(⟨h,g,d,t',os⟩:Shared).TypeIs (.ref so) "super":=λ _=>⟨_,hso,rfl⟩
 unfold getMethod
 refine wpAny_bind (wpAny_specialOf (hT _) hlk ?_)
 show wpAny _ _ (if (Manifest.canonical "super.__getattribute__" != "object.__getattribute__")=true then _ else _) _ _ _
 rw [if_pos hcan]
 unfold getAttr getAttrBy
 refine wpAny_bind (wpAny_bind (wpAny_mkText (wpAny_holding (wpAny_bind (wpAny_typeOf (hT _) (wpAny_bind (wpAny_of_eq hlk ?_)))))))
 show wpAny _ _ (getAttrByItsOwn (.ref so) (.str name t) (.type "super") (.builtin "super.__getattribute__") true false) _ _ _
 unfold getAttrByItsOwn hookBefore callGetattribute boundAndCalled
 refine wpAny_bind (wpAny_of_eq (show (if onTheHeap (.type "super") then typeLookup (.type "super") "__getattr__" else pure none)=pure none from rfl) ?_)
 refine wpAny_bind (wpAny_attempt (wpAny_holding ?_))
 show wpAny _ _ (bindSpecial (.builtin "super.__getattribute__") (.ref so) >>= _) _ _ _
 refine wpAny_bind (wpAny_of_eq (F.ks_slot_super_ga.bind _) ?_)
 refine wpAny_mono (Q:=λ v s'=>v=.ref h.objs.size/\s'=⟨h.push (jW x),g,d,t+1,os⟩) (E:=λ _ _=>False)
  (wpAny_call_entry F.ks_slot_super_ga (hT _) F.ks_entry_super_ga (rY hso hno hC hcV hm hl X hf hx hxc hxC hn ⟨_,rfl,rfl,rfl⟩) (F.ks_gaArgs_super _ _)) (λ v s' hv=>?_) λ _ _ z=>z.elim
 obtain ⟨rfl,rfl⟩:=hv
 exact wpAny_pure (wpAny_pure hq)
theorem xc {x:Addr} {ox:Obj} {v:Value} {Q:Unit->Shared->Prop} (F:ExcBaseFacts "ValueError" newId "ValueError.__init__" bmB)
  (hC:h.get? C=some (excClassObj nm q C N bs bm hdct sn sub ab col dd k0 k1 k2 k3 k5 newId)) (hx:h.get? x=some ox) (hcls:ox.cls=.ref C) (hq:Q () ⟨h,g,d,t,os⟩):wpAny M A (checkBoundCall "ValueError.__init__" ⟨[.ref x,v],[]⟩) Q E ⟨h,g,d,t,os⟩:=by
 have hshort:=F.noStar
 unfold checkBoundCall
 simp only [F.initKind,F.initRow]
 unfold Bind.checkArgs
 repeat (first | (with_reducible refine wpAny_loadPart_at hx ?_;rw [hcls]) | with_reducible refine wpAny_loadPart_at hC ?_ | wp_step)
 exact hq
theorem zk {x t0:Addr} {b:Addr} {f1 f2 f3 f4 f5:Value} {dct:Option Addr} {sl:Array (Option Value)} {v:Value} {R:Result->Shared->Prop} (F:ExcBaseFacts "ValueError" newId "ValueError.__init__" bmB)
  (hC:h.get? C=some (excClassObj nm q C N bs bm hdct sn sub ab col dd k0 k1 k2 k3 k5 newId)) (hb:h.get? b=some (jW x)) (hx:h.get? x=some { cls:=.ref C,dict:=dct,data:=.fields #[.ref t0,f1,f2,f3,f4,f5],slots:=sl })
  (hq:R (.ok (.ret .none)) ⟨(h.push { cls:=.type "tuple",data:=.seq #[v] }).update x (Obj.mapFields λ x=>x.setIfInBounds 0 (.ref h.objs.size)),g,d,t,os⟩):
  codeAny (model prog w) A (.call (.ref b) ⟨[v],[]⟩) R ⟨h,g,d,t,os⟩:=by
 refine codeAny_of_tree ?_
 show wpAny _ A.in1 (callAny (.ref b) _) _ _ _
 unfold callAny
 refine wpAny_bind (wpAny_load hb ?_)
 show wpAny _ _ (checkBoundCall "ValueError.__init__" ⟨[.ref x,v],[]⟩ >>= _) _ _ _
 refine wpAny_bind (xc F hC hx rfl (wpAny_pure ⟨plainId_quiet F.init.plain _,codeAny_builtin F.initEntry ?_⟩))
 wp_walk
 exact hq
end
end PySem
namespace PySem
open PySem.W PySem.Builtin PySem.Builtin.ObjectAttr
inductive cb (h:Heap) (bmB:List Value) (n:Str):List Value->Prop
 | base:cb h bmB n bmB
 | own {A:Addr} {c0:Value} {dd:Option Addr} {cd:ClassData} {sl:Array (Option Value)} {mA:Str->Option Value} {tl:List Value}:
   h.get? A=some { cls:=c0,dict:=dd,data:=.cls cd,slots:=sl }->h.Ns cd.ns mA->mA n=none->cb h bmB n tl->cb h bmB n (.ref A::tl)
theorem cb.keeps {h h':Heap} {bmB tl:List Value} {n:Str} (T:cb h bmB n tl) (hk:∀ b o,h.get? b=some o->h'.get? b=some o):cb h' bmB n tl:=by
 induction T with
 | base=>exact .base
 | own hA hN hni _ ih=>exact .own (hk _ _ hA) (hN.keeps hk) hni ih
theorem qf {h h':Heap} {a:Addr} {m:Str->Option Value} (n:h.Ns a m) (hk:∀ b o,h.get? b=some o->(∀ vs,o.data≠.fields vs)->h'.get? b=some o):h'.Ns a m:=
 let ⟨o,es,ep,e,r,z⟩:=n;⟨o,es,ep,hk _ _ e (λ vs y=>by rw [r] at y;cases y),r,z⟩
theorem cb.cK {h h':Heap} {bmB tl:List Value} {n:Str} (T:cb h bmB n tl) (hk:∀ b o,h.get? b=some o->(∀ vs,o.data≠.fields vs)->h'.get? b=some o):cb h' bmB n tl:=by
 induction T with
 | base=>exact .base
 | own hA hN hni _ ih=>exact .own (hk _ _ hA λ vs y=>by cases y) (qf hN hk) hni ih
theorem cb.hasType {h:Heap} {bmB tl:List Value} {n:Str} (T:cb h bmB n tl) {X:String} {b:Bool} (hb:bmB.contains (.type X)=b):tl.contains (.type X)=b:=by
 induction T with
 | base=>exact hb
 | own _ _ _ _ ih=>rw [List.contains_cons,ih];rfl
theorem cb.passes {h:Heap} {bmB tl:List Value} {n:Str} (T:cb h bmB n tl) {self:Value} (hb:refuseLoop self "__setattr__" bmB=pure ()):refuseLoop self "__setattr__" tl=pure ():=by
 induction T with
 | base=>exact hb
 | own _ _ _ _ ih=>rw [refuseLoop_ref];exact ih
section
variable {prog:Program} {w:World} {M:Model} {A:Around} {E:Value->Shared->Prop} {h:Heap} {g:Array GenState} {d:Drawn} {t:Nat} {os:OsState}
variable {nm q:Str} {C N x:Addr} {bs bm bmB:List Value} {hdct:Bool} {sn:List Str} {sub:List Value} {ab:Bool} {col:Option Bool} {dd:Option Addr} {k0 k1 k2 k3 k5:Option Value} {B newId sa owner:String} {mN:Str->Option Value} {name:Str} {v:Value}
theorem wb {tl:List Value} {y:Option Value} {Q:Option Value->Shared->Prop} (T:cb h bmB name tl) (hrest:lookupAlong bmB name=pure y) (hq:Q y ⟨h,g,d,t,os⟩):
  wpAny M A (lookupAlong tl name) Q E ⟨h,g,d,t,os⟩:=by
 induction T with
 | base=>rw [hrest];exact wpAny_pure hq
 | own hA hN hni _ ih=>
  rw [lookupAlong_cons]
  refine wpAny_bind (wpAny_classOwn_cls hA hN ?_)
  rw [hni]
  exact ih
theorem fW {y:Option Value} {Q:Option Value->Shared->Prop}
  (hC:h.get? C=some (excClassObj nm q C N bs bm hdct sn sub ab col dd k0 k1 k2 k3 k5 newId)) (hn:h.Ns N mN) (T:cb h bmB name bm) (hbm:mroOf (.type B)=pure bmB) (hB:typeLookup (.type B) name=pure y)
  (hq:Q (match mN name with | some v=>some v | none=>y) ⟨h,g,d,t,os⟩):wpAny M A (typeLookup (.ref C) name) Q E ⟨h,g,d,t,os⟩:=by
 have hrest:lookupAlong bmB name=pure y:=by rw [typeLookup_eq,hbm] at hB;exact hB
 rw [typeLookup_eq]
 refine wpAny_bind (wpAny_mroOf_exc hC ?_)
 rw [lookupAlong_cons]
 refine wpAny_bind (wpAny_classOwn_exc hC hn ?_)
 cases hv:mN name with
 | some v=>rw [hv] at hq;exact wpAny_pure hq
 | none=>rw [hv] at hq;exact wb T hrest hq
theorem sr {o:Obj} {nameV:Value} {Q:Unit->Shared->Prop} (SF:StoreFacts B bmB sa owner) (T:cb h bmB name bm)
  (hC:h.get? C=some (excClassObj nm q C N bs bm true sn sub ab col dd k0 k1 k2 k3 k5 newId)) (hx:h.get? x=some o) (hc:o.cls=.ref C) (hq:Q () ⟨h,g,d,t,os⟩):
  wpAny M A (checkBuiltinCall sa ⟨[.ref x,nameV,v],[]⟩) Q E ⟨h,g,d,t,os⟩:=by
 have hcB:(Value.ref C::bm).contains (.type owner)=true:=by rw [List.contains_cons,T.hasType SF.hasOwner,Bool.or_true]
 have ha:=SF.args (.ref x) nameV v
 simp only [checkBuiltinCall,SF.kind,SF.split]
 refine wpAny_bind ?_
 ·unfold isInstance
  repeat (first | (with_reducible refine wpAny_loadPart_at hx ?_;rw [hc]) | (with_reducible refine wpAny_isSubtype_exc hC ?_;rw [hcB]) | wp_step)
  cases hsig:Manifest.signature? sa with
  | none=>exact wpAny_pure hq
  | some sig=>
   simp only [argsOk,hsig] at ha
   have h2:Bind.checkArgs sa sig ⟨[.ref x,nameV,v],[]⟩=pure ():=ha
   show wpAny M A (Bind.checkArgs sa sig ⟨[.ref x,nameV,v],[]⟩) Q E _
   rw [h2];exact wpAny_pure hq
theorem nH {o:Obj} {tk:Tok} {Q:Fin->Shared->Prop} (SF:StoreFacts B bmB sa owner) (T:cb h bmB name bm)
  (hC:h.get? C=some (excClassObj nm q C N bs bm true sn sub ab col dd k0 k1 k2 k3 k5 newId)) (hn:h.Ns N mN) (hna:mN name=none)
  (hB:typeLookup (.type B) name=pure none) (hx:h.get? x=some o) (hc:o.cls=.ref C) (hnc:∀ c,o.data≠.cls c) (hdn:o.dict=none)
  (hq:∀ h' tk' dx,h'.get? x=some { cls:=o.cls,dict:=some dx,data:=o.data,slots:=o.slots }->(∀ b o,b≠x->h.get? b=some o->h'.get? b=some o)->Q (.done (.ret .none)) ⟨h',g,d,tk',os⟩):
  wpAny (model prog w) A (Builtin.«object.__setattr__» ⟨[.ref x,.str name tk,v],[]⟩) Q E ⟨h,g,d,t,os⟩:=by
 have hpass:=T.passes (SF.passes (.ref x))
 unfold Builtin.«object.__setattr__»
 repeat (first | rw [refuse_eq] | (rw [refuseLoop_ref,hpass]) | (with_reducible refine wpAny_loadPart_at hx ?_;rw [hc]) | with_reducible refine wpAny_mroOf_exc hC ?_ | (with_reducible refine fW hC hn T SF.mro hB ?_;rw [hna]) | wp_step)
 rw [hdn,if_neg (by simp [typeHasDict])]
 split
 ·rename_i hcd
  cases hcd
 split
 ·rename_i c hcd
  exact absurd hcd (hnc c)
 ·have hx₁:(h.push { cls:=.type "dict",data:=.dict #[] }).get? x=some o:=Heap.get?_push_of_some _ hx
  have hxs:x≠h.objs.size:=Nat.ne_of_lt (Heap.lt_size hx)
  refine wpAny_bind (wpAny_alloc' ?_)
  refine wpAny_bind (wpAny_update' hx₁ ?_)
  refine wpAny_pure ?_
  have hgd:((h.push { cls:=.type "dict",data:=.dict #[] }).update x λ o=>{ cls:=o.cls,dict:=some h.objs.size,data:=o.data,slots:=o.slots }).get? h.objs.size
    = some { cls:=.type "dict",data:=.dict #[] }:=
   (Heap.get?_update_ne _ _ _ _ hxs.symm).trans (Heap.get?_push_at rfl rfl)
  have hnd:((h.push { cls:=.type "dict",data:=.dict #[] }).update x λ o=>{ cls:=o.cls,dict:=some h.objs.size,data:=o.data,slots:=o.slots }).Ns h.objs.size (λ _=>none):=
   ⟨_,#[],_,hgd,rfl,λ e he=>absurd he (by simp),λ _=>rfl⟩
  show wpAny _ _ (storeInDict h.objs.size (.str name tk) name v) _ _ _
  unfold storeInDict newKeyGuard
  refine wpAny_bind (wpAny_pure (wpAny_bind (wpAny_nsSet1 (Heap.Ns1.of_empty hnd) λ h' hn' hs=>?_)))
  obtain ⟨oD,esD,epD,hoD,hdD,hcD⟩:=hn'.count (Within.cons name v Within.nil)
  refine wpAny_bind (wpAny_lookBehind hoD (by rw [hdD];exact pastItsLine_dict (Nat.le_trans hcD (by rw [List.length_cons,List.length_nil,sizeLine_eq];omega))) ?_)
  wp_walk
  refine hq h' _ h.objs.size ?_ (λ b ob hbx hb=>?_)
  ·refine (hs.2 x hxs).trans (Heap.get?_update_self _ hx₁ ?_)
   have hfr:=(Heap.get?_some_iff.mp hx).2
   obtain ⟨oc,od,odt,osl⟩:=o
   cases odt <;> first | rfl | exact hfr
  ·exact (hs.2 b (Nat.ne_of_lt (Heap.lt_size hb))).trans ((Heap.get?_update_ne _ _ _ _ hbx).trans (Heap.get?_push_of_some _ hb))
theorem tQ {o:Obj} {Q:Unit->Shared->Prop} (SF:StoreFacts B bmB sa owner) (T:cb h bmB name bm) (T2:cb h bmB "__setattr__" bm)
  (hC:h.get? C=some (excClassObj nm q C N bs bm true sn sub ab col dd k0 k1 k2 k3 k5 newId)) (hn:h.Ns N mN) (hns:mN "__setattr__"=none) (hna:mN name=none)
  (hB:typeLookup (.type B) name=pure none) (hx:h.get? x=some o) (hc:o.cls=.ref C) (hnc:∀ c,o.data≠.cls c) (hdn:o.dict=none)
  (hq:∀ h' tk' dx,h'.get? x=some { cls:=o.cls,dict:=some dx,data:=o.data,slots:=o.slots }->(∀ b o,b≠x->h.get? b=some o->h'.get? b=some o)->Q () ⟨h',g,d,tk',os⟩):
  wpAny (model prog w) A (setAttr (.ref x) name v) Q E ⟨h,g,d,t,os⟩:=by
 have f3:=SF.slot.bind (.ref x)
 unfold setAttr callSpecial? specialOf
 repeat (any_goals (first | assumption | (with_reducible refine wpAny_loadPart_at hx ?_;rw [hc]) | (with_reducible refine fW hC hn T2 SF.mro SF.slot.lookup ?_;rw [hns]) | wp_step))
 refine codeAny_call_builtin SF.slot.plain SF.entry (sr SF T hC hx hc (nH SF T hC hn hna hB hx hc hnc hdn λ h' tk' dx hx' hk=>?_))
 repeat (any_goals (first | assumption | wp_step))
 exact hq h' tk' dx hx' hk
end
end PySem
namespace K04
open PySem PySem.Spec PyProof.Rows L2
abbrev F0 (P:Program) (w:World) (base:Heap) {K:PySem.W.Frag} {mg:Str->Option Value} {x q:Str} {st:Stmt} {ps:List Str} (n:Nat) (D:Df K mg x q st ps) (sp:Sp):Prop:=c9 P w K mg base CX0 n D.f D.fd ps sp
abbrev F1 (P:Program) (w:World) (base:Heap) {K:PySem.W.Frag} {mg:Str->Option Value} {x q:Str} {st:Stmt} {ps:List Str} (n:Nat) (D:Df K mg x q st ps) (sp:Sp):Prop:=c9 P w K mg base (CXE P w) n D.f D.fd ps sp
def top (i:Nat):Stmt:=PySem.Challenge.pw_numbersay_k04_tongues_made.main.body.getD i (.Pass ⟨0,0,0,0⟩)
structure Ad where
 fv:Addr
 ba:Addr
 jQ:Addr
 eC:Addr
 ig:Addr
 ff:Addr
 ic:Addr
 jo:Addr
 Kind:Addr
 gw:Addr
 kn:Addr
 j6:Addr
 qA:Addr
 mE:Addr
 qD:Addr
 pW:Addr
 mH:Addr
 uX:Addr
 iU:Addr
 jI:Addr
 tSL:Addr
 tCP:Addr
 tTF:Addr
 tHA:Addr
 tTI:Addr
 tWP:Addr
structure ExQ (K:PySem.W.Frag) (a:Ad) (C:Addr) (b1 b2 b3:Bool):Prop where
 x:xq K C
 val:PySem.W.kitOne K (.ref C) (.type "ValueError")=some true
 sub:j9 K C a.jQ=true
 no:PySem.W.kitAny K (.ref C) [.ref a.gw,.ref a.kn,.ref a.j6,.ref a.qA,.ref a.eC,.ref a.mE,.ref a.qD,.ref a.pW,.ref a.ig,.ref a.mH]=some false
 q1:PySem.W.kitOne K (.ref C) (.ref a.ff)=some b1
 q2:PySem.W.kitOne K (.ref C) (.ref a.ic)=some b2
 q3:PySem.W.kitOne K (.ref C) (.ref a.jo)=some b3
def sV (l:List Str):List V:=l.map V.str
structure Txt (K:PySem.W.Frag) (mg:Str->Option Value) (a:Ad):Prop where
 cg:mg "len"=none
 aO:mg "isinstance"=none
 oU:mg "str"=none
 n8:mg "int"=none
 cj:mg "list"=none
 gC:mg "tuple"=none
 jV:mg "all"=none
 kE:mg "any"=none
 dh:mg "range"=none
 oz:mg "zip"=none
 pj:mg "max"=none
 pz:mg "min"=none
 iO:mg "divmod"=none
 bW:mg "enumerate"=none
 fh:mg "reversed"=none
 rR:mg "sum"=none
 oS:mg "set"=none
 eY:mg "sorted"=none
 nv:mg "dict"=none
 uw:∃ t,mg "TIE"=some (.str "+" t)
 uU:∃ t,mg "MOST_PIECES"=some (.int 8 t)
 gU:mg "SIGNS"=some (.ref a.uX)
 b8:mg "TIMES_SIGNS"=some (.ref a.iU)
 cy:mg "REST_SIGNS"=some (.ref a.jI)
 mI:∀ H,SqT K H a.uX (sV ["Q","N","W","U","R","K"])
 qQ:∀ H,SqT K H a.iU (sV ["Q","N","W","U"])
 x8:∀ H,SqT K H a.jI (sV ["R","K"])
 kZ:mg "Rule"=some (.ref a.fv)
 bU:mg "Tongue"=some (.ref a.ba)
 dJ:mg "SayError"=some (.ref a.jQ)
 a5:mg "BadRule"=some (.ref a.eC)
 cA:mg "NotCovered"=some (.ref a.ig)
 cW:mg "BadBound"=some (.ref a.ff)
 dO:mg "BadMelt"=some (.ref a.ic)
 hU:mg "Twice"=some (.ref a.jo)
 fY:mg "BadRow"=some (.ref a.qA)
 kY:mg "Kind"=some (.ref a.Kind)
 cC:mg "BadKind"=some (.ref a.gw)
 dR:mg "BadPairs"=some (.ref a.kn)
 dP:mg "BadParts"=some (.ref a.j6)
 eQ:mg "BadText"=some (.ref a.mE)
 f9:mg "NoKind"=some (.ref a.qD)
 gd:mg "NoName"=some (.ref a.pW)
 eU:mg "Unclear"=some (.ref a.mH)
 bA:oM K a.eC
 iZ:oM K a.gw
 mT:oM K a.ff
 pH:oM K a.ic
 dM:ExQ K a a.ff true false false
 i5:ExQ K a a.ic false true false
 mx:ExQ K a a.jo false false true
 nj:PySem.W.excIn K a.jQ [.type "ValueError",.type "Exception",.type "BaseException",.type "object"] "ValueError.__new__"=true
 wZ:PySem.W.kitOne K (.type "tuple") (.type "tuple")=some true
 uQ:PySem.W.kitOne K (.type "list") (.type "list")=some true
 EK:PySem.W.kitOne K (.type "int") (.type "int")=some true
 EH:PySem.W.kitOne K (.type "int") (.type "bool")=some false
 AB:PySem.W.kitOne K (.type "str") (.type "str")=some true
 Fu:PySem.W.kitOne K (.type "bool") (.type "bool")=some true
 DA:PySem.W.kitOne K (.ref a.ba) (.ref a.ba)=some true
 clR:Cls K a.fv
 cl:Cls K a.ba
 iu:bO K a.fv "low"
 fe:bO K a.fv "high"
 dq:bO K a.fv "base"
 dk:bO K a.fv "first"
 fg:bO K a.fv "last"
 cL:bO K a.fv "pieces"
 fw:bO K a.ba "bound"
 dX:bO K a.ba "rules"
 eL:bO K a.ba "melts"
 eD:bO K a.ba "kinds"
 clK:Cls K a.Kind
 dW:bO K a.Kind "title"
 eZ:bO K a.Kind "ending"
 fA:bO K a.Kind "turns"
def jZ (c:Nat):Bool:=decide (97<=c)&&decide (c<=122)
def jc (x:Str):Bool:=x.cps.toList.all jZ
def aP (x:Str):Bool:=decide (2<=x.length)&&decide (x.length<=10)&&jc x
def Pure (v:V) (H:Hp) (Q:VK):Prop:=∀ H',ak H H'->Q v H'
section
variable {P:Program} {w:World} {K:PySem.W.Frag} {mg:Str->Option Value} {base:Heap} {a:Ad}
abbrev nR (K:PySem.W.Frag) (mg:Str->Option Value):=Df K mg "small_letters" "small_letters" (top 21) ["text","least","most"]
def jN (T:Addr):Sp:=λ vs H Q _=>∃ (x:Str) (i j:Int),vs=[.str x,.int i,.int j]/\x.length<=sizeLine/\H T=some (Tb T)/\Q (.bl (decide (i<=x.length)&&decide ((x.length:Int)<=j)&&jc x)) H
theorem zu:aH ["text","least","most"] ["text","least","most"] (ar (top 21)):=⟨rfl,rfl,rfl,by decide +kernel,rfl,by decide +kernel,by decide +kernel⟩
theorem le1 (c d:Nat):(!decide ([c]<[d]))=decide (d<=c):=by
 rw [<- decide_not]
 exact decide_eq_decide.mpr (by rw [List.cons_lt_cons_iff];simp)
theorem xW (D:nR K mg) {t:Addr} (cP:cq K D.cdv t) (hB:jK base) (T:Txt K mg a):F0 P w base 2 D (jN t):=by
 refine Df.ok (k:=1) D.ex zu (λ vs H Q E h=>?_) (λ A outer s H vs Q E hr h=>?_)
 ·obtain ⟨x,i,j,rfl,_⟩:=h;rfl
 ·obtain ⟨x,i,j,rfl,hx,ht,k⟩:=h
  refine ⟨_,(ah (aY (pw_or (bK (bu (aF ef (by rfl) T.aO boot_isinstance (ag (pv 0) (ag (fB (v:=.ty "str") (by rfl) T.oU (by rfl) rfl) aa))))) (pw_or1 (bK (iG fK fK (pv 1) (aF bX (by rfl) T.cg boot_len (ag (pv 0) aa)) (pv 2))))).pt
 (aj (aN iQ))
 aE)
 (aj (aN (mF (N:=["letter"]) (fs:=[]) (⟨rfl,rfl,rfl,by rfl,by rfl,trivial⟩) hB cP (hr.mono (by decide):bN (0+1) _) (by rfl) T.jV (C8 (pv 0)) (λ _ _ _ _ _ _ _=>(aA (i:=0) (show List.Nodup (["letter"]:List Str) from by decide +kernel) rfl (Or.inl rfl))) (λ _ _ _ _ _ _ _ hr=>(oy pK pK aD (pv 0) aD)))))),?_⟩
  lia
  refine ⟨_,_,_,_,_,rfl,.v (.str x),rfl,T.AB,?_⟩
  lia
  refine ⟨_,rfl,hx,?_⟩
  lia
  refine w_ite (λ e1=>?_) (λ e1=>?_)
  ·lia
   rw [e1] at k
   refine w_ite (λ e2=>?_) (λ e2=>?_)
   ·rw [Bool.not_eq_true'] at e2
    rw [e2] at k
    lia
    exact k
   ·have e2:decide ((x.length:Int)<=j)=true:=by simpa using e2
    rw [e2] at k
    lia
    refine ⟨x,rfl,DZ jZ ht rfl (λ c hc=>?_) k⟩
    lia
    refine ⟨_,_,rfl,rfl,?_⟩
    lia
    show if (!decide ([c]<[97]))=true then _ else _
    rw [le1]
    refine w_ite (λ e3=>?_) (λ e3=>?_)
    ·lia
     refine ⟨_,_,rfl,rfl,rfl,?_⟩
     show V.bl (!decide ([122]<[c]))=.bl (decide (97<=c)&&decide (c<=122))
     rw [le1,e3];rfl
    ·refine ⟨rfl,?_⟩
     show V.bl false=.bl (decide (97<=c)&&decide (c<=122))
     rw [e3];rfl
  ·lia
   rw [e1] at k
   exact k
abbrev mL (K:PySem.W.Frag) (mg:Str->Option Value):=Df K mg "is_word" "is_word" (top 22) ["text"]
abbrev uA (K:PySem.W.Frag) (mg:Str->Option Value):=Df K mg "is_piece" "is_piece" (top 26) ["text"]
def jy (t:Addr):Sp:=λ vs H Q _=>∃ (x:Str),vs=[.str x]/\x.length<=sizeLine/\H t=some (Tb t)/\Q (.bl (aP x)) H
theorem BM:aH ["text"] ["text"] (ar (top 22)):=⟨rfl,rfl,rfl,by decide +kernel,rfl,by decide +kernel,by decide +kernel⟩
theorem zL (D:mL K mg) (aw:nR K mg) {t:Addr} (bC:F0 P w base 2 aw (jN t)):F0 P w base 3 D (jy t):=by
 refine Df.ok (k:=2) D.ex BM (λ vs H Q E h=>?_) (λ A outer s H vs Q E hr h=>?_)
 ·obtain ⟨x,rfl,_⟩:=h;rfl
 ·obtain ⟨x,rfl,hx,ht,k⟩:=h
  refine ⟨_,(aj (aN (av bC (hr.mono (by decide)) (by rfl) aw.mg aw.kp aw.bd .nil aT (ag (pv 0) (ag af (ag af aa)))))),?_⟩
  lia
  refine ⟨x,2,10,rfl,hx,ht,?_⟩
  have e:(decide ((2:Int)<=x.length)&&decide ((x.length:Int)<=10)&&jc x)=aP x:=by
   unfold aP
   congr 1;congr 1
   ·exact decide_eq_decide.mpr (by omega)
   ·exact decide_eq_decide.mpr (by omega)
  rw [e]
  exact k
def sig:List Str:=["Q","N","W","U","R","K"]
def gY (x:Str):Bool:=decide (x="+")||inV (.str x) (sV sig)||aP x
def qy (t:Addr):Sp:=λ vs H Q _=>∃ (x:Str),vs=[.str x]/\x.length<=sizeLine/\H t=some (Tb t)/\Q (.bl (gY x)) H
theorem yU:aH ["text"] ["text"] (ar (top 26)):=⟨rfl,rfl,rfl,by decide +kernel,rfl,by decide +kernel,by decide +kernel⟩
theorem yj (D:uA K mg) (aL:mL K mg) {t:Addr} (b6:F0 P w base 3 aL (jy t)) (T:Txt K mg a):F0 P w base 4 D (qy t):=by
 refine Df.ok (k:=3) D.ex yU (λ vs H Q E h=>?_) (λ A outer s H vs Q E hr h=>?_)
 ·obtain ⟨x,rfl,_⟩:=h;rfl
 ·obtain ⟨x,rfl,hx,ht,k⟩:=h
  obtain ⟨tt,hT⟩:=T.uw
  refine ⟨_,(aj (aN (AN (cx dg (pv 0) (a9 (v:=.str "+") (by rfl) hT ⟨_,rfl⟩) (aC _)) (AN (cx lN (pv 0) (a9 (v:=.ref a.uX) (by rfl) T.gU rfl) (by with_unfolding_all rfl)) (kL (av b6 (hr.mono (by decide)) (by rfl) aL.mg aL.kp aL.bd .nil aT (ag (pv 0) aa))))))),?_⟩
  lia
  unfold gY at k
  refine w_ite (λ e1=>?_) (λ e1=>?_)
  ·rw [e1] at k;exact k
  ·rw [e1,Bool.false_or] at k
   lia
   refine ⟨_,_,rfl,.inr (T.mI _),rfl,rfl,?_⟩
   lia
   refine w_ite (λ e2=>?_) (λ e2=>?_)
   ·have e2:inV (.str x) (sV sig)=true:=e2
    rw [e2] at k;exact k
   ·have e2:inV (.str x) (sV sig)=false:=e2
    rw [e2] at k
    lia
    exact ⟨x,rfl,hx,ht,k⟩
structure Fl (fs:List (Str×V)) (l h b f e:Int):Prop where
 low:fs.lookup ("low":Str)=some (.int l)
 high:fs.lookup ("high":Str)=some (.int h)
 base:fs.lookup ("base":Str)=some (.int b)
 first:fs.lookup ("first":Str)=some (.int f)
 last:fs.lookup ("last":Str)=some (.int e)
structure eV (a:Ad) (H:Hp) (p:Addr) (l h b f e:Int) (ps:Addr):Prop where
 ob:∃ dx fs,H p=some (.ins a.fv dx fs)/\Fl fs l h b f e/\fs.lookup ("pieces":Str)=some (.ref ps)
theorem eV.same {H H':Hp} {p ps:Addr} {l h b f e:Int} (R:eV a H p l h b f e ps) (s:ak H H'):eV a H' p l h b f e ps:=by
 obtain ⟨dx,fs,h1,h2⟩:=R.ob
 exact ⟨dx,fs,s _ _ h1,h2⟩
def tJ (a:Ad) (H:Hp):Prop:=H a.tSL=some (Tb a.tSL)/\H a.tCP=some (Tb a.tCP)/\H a.tTF=some (Tb a.tTF)/\H a.tHA=some (Tb a.tHA)
theorem tJ.same {H H':Hp} (t:tJ a H) (s:ak H H'):tJ a H':=⟨s _ _ t.1,s _ _ t.2.1,s _ _ t.2.2.1,s _ _ t.2.2.2⟩
def nJ (l h b f e:Int):Bool:=!decide (l<0)&&!decide (h<l)&&!decide (b<2)&&!decide (f<0)&&!decide (e<f)&&!decide (b<=e)
abbrev yG (K:PySem.W.Frag) (mg:Str->Option Value):=Df K mg "check_numbers" "check_numbers" (top 24) ["rule"]
def uD (a:Ad):Sp:=λ vs H Q E=>∃ (p:Addr) (l h b f e:Int) (ps:Addr),vs=[.ref p]/\eV a H p l h b f e ps/\if nJ l h b f e=true then Q .non H else E (.ref a.eC) none H
theorem B6:aH ["rule"] ["rule"] (ar (top 24)):=⟨rfl,rfl,rfl,by decide +kernel,rfl,by decide +kernel,by decide +kernel⟩
theorem z7 (D:yG K mg) (T:Txt K mg a):F1 P w base 1 D (uD a):=by
 refine Df.okE (k:=0) D.ex B6 (λ vs H Q E h=>?_) (λ A outer s H vs Q E hr h=>?_)
 ·obtain ⟨p,l,h,b,f,e,ps,rfl,_⟩:=h;rfl
 ·obtain ⟨p,l,h,b,f,e,ps,rfl,R,k⟩:=h
  obtain ⟨dx,fs,hp,N,_⟩:=R.ob
  have hh:A.handled=none:=hr.hd
  unfold nJ at k
  refine ⟨_,(ah (aY (aB iq (aS (pv 0) (by rfl)) af (aC _))
 (aj (bp PySem.F.excBase_ValueError T.bA.ex T.a5 hh (by rfl) (ag aD aa) (hl:=λ _ _ _ z=>⟨by decide,z⟩)))
 aE)
 (ah (aY (aB iq (aS (pv 0) (by rfl)) (aS (pv 0) (by rfl)) (aC _))
 (aj (bp PySem.F.excBase_ValueError T.bA.ex T.a5 hh (by rfl) (ag aD aa) (hl:=λ _ _ _ z=>⟨by decide,z⟩)))
 aE)
 (ah (aY (aB iq (aS (pv 0) (by rfl)) af (aC _))
 (aj (bp PySem.F.excBase_ValueError T.bA.ex T.a5 hh (by rfl) (ag aD aa) (hl:=λ _ _ _ z=>⟨by decide,z⟩)))
 aE)
 (ah (aY (aB iq (aS (pv 0) (by rfl)) af (aC _))
 (aj (bp PySem.F.excBase_ValueError T.bA.ex T.a5 hh (by rfl) (ag aD aa) (hl:=λ _ _ _ z=>⟨by decide,z⟩)))
 aE)
 (ah (aY (aB iq (aS (pv 0) (by rfl)) (aS (pv 0) (by rfl)) (aC _))
 (aj (bp PySem.F.excBase_ValueError T.bA.ex T.a5 hh (by rfl) (ag aD aa) (hl:=λ _ _ _ z=>⟨by decide,z⟩)))
 aE)
 (aj (aY (aB Aw (aS (pv 0) (by rfl)) (aS (pv 0) (by rfl)) (aC _))
 (aj (bp PySem.F.excBase_ValueError T.bA.ex T.a5 hh (by rfl) (ag aD aa) (hl:=λ _ _ _ z=>⟨by decide,z⟩)))
 aE))))))),?_⟩
  lia
  refine ⟨p,_,dx,fs,_,rfl,hp,T.clR,T.iu,N.low,?_⟩
  lia
  refine w_ite (λ z=>?_) (λ z=>?_)
  ·lia
   simpa [z] using k
  simp only [z,Bool.not_false,Bool.true_and] at k
  lia
  refine ⟨p,_,dx,fs,_,rfl,hp,T.clR,T.fe,N.high,?_⟩
  lia
  refine ⟨p,_,dx,fs,_,rfl,hp,T.clR,T.iu,N.low,?_⟩
  lia
  refine w_ite (λ z=>?_) (λ z=>?_)
  ·lia
   simpa [z] using k
  simp only [z,Bool.not_false,Bool.true_and] at k
  lia
  refine ⟨p,_,dx,fs,_,rfl,hp,T.clR,T.dq,N.base,?_⟩
  lia
  refine w_ite (λ z=>?_) (λ z=>?_)
  ·lia
   simpa [z] using k
  simp only [z,Bool.not_false,Bool.true_and] at k
  lia
  refine ⟨p,_,dx,fs,_,rfl,hp,T.clR,T.dk,N.first,?_⟩
  lia
  refine w_ite (λ z=>?_) (λ z=>?_)
  ·lia
   simpa [z] using k
  simp only [z,Bool.not_false,Bool.true_and] at k
  lia
  refine ⟨p,_,dx,fs,_,rfl,hp,T.clR,T.fg,N.last,?_⟩
  lia
  refine ⟨p,_,dx,fs,_,rfl,hp,T.clR,T.dk,N.first,?_⟩
  lia
  refine w_ite (λ z=>?_) (λ z=>?_)
  ·lia
   simpa [z] using k
  simp only [z,Bool.not_false,Bool.true_and] at k
  lia
  refine ⟨p,_,dx,fs,_,rfl,hp,T.clR,T.fg,N.last,?_⟩
  lia
  refine ⟨p,_,dx,fs,_,rfl,hp,T.clR,T.dq,N.base,?_⟩
  lia
  refine w_ite (λ z=>?_) (λ z=>?_)
  ·lia
   simpa [z] using k
  ·lia
   simpa [z] using k
abbrev Dd (K:PySem.W.Frag) (mg:Str->Option Value):=Df K mg "has_any" "has_any" (top 29) ["rule","signs"]
def oO (sg ys:List Str):Bool:=sg.any λ x=>inV (.str x) (ys.map V.str)
theorem b7 (ys:List Str):(ys.map V.str).all dw=true:=by
 rw [List.all_map]
 exact List.all_eq_true.mpr λ _ _=>rfl
def xv (K:PySem.W.Frag) (a:Ad):Sp:=λ vs H Q _=>∃ (p:Addr) (l h b f e:Int) (ps:Addr) (ys:List Str) (q:Addr) (sg:List Str),vs=[.ref p,.ref q]/\eV a H p l h b f e ps/\H ps=some (.lst (ys.map .str))/\(∀ H,SqT K H q (sV sg))/\H a.tHA=some (Tb a.tHA)/\Q (.bl (oO sg ys)) H
theorem EF:aH ["rule","signs"] ["rule","signs"] (ar (top 29)):=⟨rfl,rfl,rfl,by decide +kernel,rfl,by decide +kernel,by decide +kernel⟩
theorem Bj (D:Dd K mg) (cP:cq K D.cdv a.tHA) (hB:jK base) (T:Txt K mg a):F0 P w base 2 D (xv K a):=by
 refine Df.ok (k:=1) D.ex EF (λ vs H Q E h=>?_) (λ A outer s H vs Q E hr h=>?_)
 ·obtain ⟨p,l,h,b,f,e,ps,ys,q,sg,rfl,_⟩:=h;rfl
 ·obtain ⟨p,l,h,b,f,e,ps,ys,q,sg,rfl,R,hys,hq,ht,k⟩:=h
  obtain ⟨dx,fs,hp,N,hps⟩:=R.ob
  refine ⟨_,(aj (aN (mC (N:=["sign","rule"]) (fs:=[(1,0)]) (⟨rfl,rfl,rfl,by rfl,by rfl,⟨⟨_,rfl,rfl,rfl,Or.inl rfl⟩,trivial⟩⟩) hB cP (hr.mono (by decide):bN (0+1) _) (by rfl) T.kE (tR (pv 1)) (λ _ _ _ _ _ _ _=>(aA (i:=0) (show List.Nodup (["sign","rule"]:List Str) from by decide +kernel) rfl (Or.inl rfl))) (λ _ _ _ _ _ _ _ hr=>(cx (uO K) (pv 0) (jR K (pv 1)) (by with_unfolding_all rfl)))))),?_⟩
  lia
  refine ⟨q,rfl,⟨_,hq _⟩,Ao (λ v=>inV v (ys.map V.str)) (hq _) ht rfl (λ v hv=>?_) ?_⟩
  ·obtain ⟨x,_,rfl⟩:=List.mem_map.mp hv
   lia
   refine ⟨p,_,dx,fs,_,rfl,hp,T.clR,T.cL,hps,?_⟩
   lia
   exact ⟨_,_,rfl,.inl (SqL.of hys),rfl,b7 _,rfl,rfl⟩
  ·have z:(sV sg).any (λ v=>inV v (ys.map V.str))=oO sg ys:=by
    unfold sV oO
    rw [List.any_map]
    rfl
   rw [z]
   exact k
def pU (l h b f e:Int) (ys:List Str):Bool:=!(!decide (f=e)&&!oO ["R","K"] ys)&&!(!decide (l / b=h / b)&&!oO ["Q","N","W","U"] ys)
abbrev yf (K:PySem.W.Frag) (mg:Str->Option Value):=Df K mg "check_telling" "check_telling" (top 28) ["rule"]
def tN (a:Ad):Sp:=λ vs H Q E=>∃ (p:Addr) (l h b f e:Int) (ps:Addr) (ys:List Str),vs=[.ref p]/\eV a H p l h b f e ps/\H ps=some (.lst (ys.map .str))/\H a.tHA=some (Tb a.tHA)/\0<b/\b.natAbs.log2<9000 /\
 if pU l h b f e ys=true then Q .non H else E (.ref a.eC) none H
theorem B7:aH ["rule"] ["rule"] (ar (top 28)):=⟨rfl,rfl,rfl,by decide +kernel,rfl,by decide +kernel,by decide +kernel⟩
theorem Aa (D:yf K mg) (dQ:Dd K mg) (pC:F0 P w base 2 dQ (xv K a)) (T:Txt K mg a):F1 P w base 3 D (tN a):=by
 refine Df.okE (k:=2) D.ex B7 (λ vs H Q E h=>?_) (λ A outer s H vs Q E hr h=>?_)
 ·obtain ⟨p,l,h,b,f,e,ps,ys,rfl,_⟩:=h;rfl
 ·obtain ⟨p,l,h,b,f,e,ps,ys,rfl,R,hys,ht,hb,hl,k⟩:=h
  obtain ⟨dx,fs,hp,N,hps⟩:=id R.ob
  have hh:A.handled=none:=hr.hd
  unfold pU at k
  refine ⟨_,(ah (aY (pw_and (aB vb (aS (pv 0) (by rfl)) (aS (pv 0) (by rfl)) (aC _)) (pw_and1 (bK (bu (av pC (hr.mono (by decide)) (by rfl) dQ.mg dQ.kp dQ.bd .nil aT (ag (pv 0) (ag (a9 (v:=.ref a.jI) (by rfl) T.cy rfl) aa))))))).pt
 (aj (bp PySem.F.excBase_ValueError T.bA.ex T.a5 hh (by rfl) (ag aD aa) (hl:=λ _ _ _ z=>⟨by decide,z⟩)))
 aE)
 (aj (aY (pw_and (aB vb (ai kg (aS (pv 0) (by rfl)) (aS (pv 0) (by rfl))) (ai kg (aS (pv 0) (by rfl)) (aS (pv 0) (by rfl))) (aC _)) (pw_and1 (bK (bu (av pC (hr.mono (by decide)) (by rfl) dQ.mg dQ.kp dQ.bd .nil aT (ag (pv 0) (ag (a9 (v:=.ref a.iU) (by rfl) T.b8 rfl) aa))))))).pt
 (aj (bp PySem.F.excBase_ValueError T.bA.ex T.a5 hh (by rfl) (ag aD aa) (hl:=λ _ _ _ z=>⟨by decide,z⟩)))
 aE))),?_⟩
  lia
  refine ⟨p,_,dx,fs,_,rfl,hp,T.clR,T.dk,N.first,?_⟩
  lia
  refine ⟨p,_,dx,fs,_,rfl,hp,T.clR,T.fg,N.last,?_⟩
  lia
  refine w_ite (λ z1=>?_) (λ z1=>?_)
  ·lia
   refine ⟨p,l,h,b,f,e,ps,ys,_,_,rfl,R,hys,T.x8,ht,?_⟩
   lia
   refine w_ite (λ z2=>?_) (λ z2=>?_)
   ·lia
    simpa [z1,z2] using k
   ·simp only [z1,z2,Bool.and_false,Bool.not_false,Bool.true_and] at k
    (lia
     refine ⟨p,_,dx,fs,_,rfl,hp,T.clR,T.iu,N.low,?_⟩
     lia
     refine ⟨p,_,dx,fs,_,rfl,hp,T.clR,T.dq,N.base,?_⟩
     refine w_I ⟨hb,hl⟩ ?_
     lia
     refine ⟨p,_,dx,fs,_,rfl,hp,T.clR,T.fe,N.high,?_⟩
     lia
     refine ⟨p,_,dx,fs,_,rfl,hp,T.clR,T.dq,N.base,?_⟩
     refine w_I ⟨hb,hl⟩ ?_
     lia
     refine w_ite (λ y1=>?_) (λ y1=>?_)
     ·lia
      refine ⟨p,l,h,b,f,e,ps,ys,_,_,rfl,R,hys,T.qQ,ht,?_⟩
      lia
      refine w_ite (λ y2=>?_) (λ y2=>?_)
      ·lia
       simpa [y1,y2] using k
      ·lia
       simpa [y1,y2] using k
     ·lia
      simpa [y1] using k)
  ·simp only [z1,Bool.false_and,Bool.not_false,Bool.true_and] at k
   (lia
    refine ⟨p,_,dx,fs,_,rfl,hp,T.clR,T.iu,N.low,?_⟩
    lia
    refine ⟨p,_,dx,fs,_,rfl,hp,T.clR,T.dq,N.base,?_⟩
    refine w_I ⟨hb,hl⟩ ?_
    lia
    refine ⟨p,_,dx,fs,_,rfl,hp,T.clR,T.fe,N.high,?_⟩
    lia
    refine ⟨p,_,dx,fs,_,rfl,hp,T.clR,T.dq,N.base,?_⟩
    refine w_I ⟨hb,hl⟩ ?_
    lia
    refine w_ite (λ y1=>?_) (λ y1=>?_)
    ·lia
     refine ⟨p,l,h,b,f,e,ps,ys,_,_,rfl,R,hys,T.qQ,ht,?_⟩
     lia
     refine w_ite (λ y2=>?_) (λ y2=>?_)
     ·lia
      simpa [y1,y2] using k
     ·lia
      simpa [y1,y2] using k
    ·lia
     simpa [y1] using k)
def eW (o:Option Str):Bool:=match o with | some x=>decide (x="+") | none=>false
def BL (ys:List Str):Bool:=(List.range (ys.length - 1)).any λ i=>eW ys[i]?&&eW ys[i+1]?
def gW (ys:List Str):Bool:=!(eW ys.head?||eW ys.getLast?)&&!BL ys
theorem zB (xs:List V):eG xs (some 1) none=xs.drop 1:=by
 unfold eG
 rw [HT.kI,show HT.sIx xs.length 0 (some 1)=min 1 xs.length from HT.mD _ _ 1]
 cases xs with
 | nil=>rfl
 | cons x r=>simp
abbrev xZ (K:PySem.W.Frag) (mg:Str->Option Value):=Df K mg "ties_fit" "ties_fit" (top 27) ["pieces"]
def uN (a:Ad):Sp:=λ vs H Q _=>∃ (l:Addr) (ys:List Str),vs=[.ref l]/\H l=some (.lst (ys.map .str))/\ys≠[]/\H a.tTF=some (Tb a.tTF)/\Pure (.bl (gW ys)) H Q
theorem BB:aH ["pieces"] ["pieces"] (ar (top 27)):=⟨rfl,rfl,rfl,by decide +kernel,rfl,by decide +kernel,by decide +kernel⟩
theorem vY {ys:List Str} (h:ys≠[]):atI (ys.map V.str) (-1)=some (.str (ys.getLast h)):=by
 have e:ys.map V.str=(ys.dropLast).map V.str++[.str (ys.getLast h)]:=by
  conv=>lhs;rw [<- List.dropLast_concat_getLast h]
  rw [List.map_append];rfl
 rw [e]
 exact xI _ _
theorem zW (D:xZ K mg) (cP:cq K D.cdv a.tTF) (hB:jK base) (T:Txt K mg a):F0 P w base 2 D (uN a):=by
 refine Df.ok (k:=1) D.ex BB (λ vs H Q E h=>?_) (λ A outer s H vs Q E hr h=>?_)
 ·obtain ⟨l,ys,rfl,_⟩:=h;rfl
 ·obtain ⟨l,ys,rfl,hl,hne,ht,k⟩:=h
  obtain ⟨tt,hT⟩:=T.uw
  obtain ⟨y0,r,rfl⟩:∃ y0 r,ys=y0::r:=by
   cases ys with
   | nil=>exact absurd rfl hne
   | cons y r=>exact ⟨y,r,rfl⟩
  refine ⟨_,(ah (aY (pw_or (aB dg (aV a7 (pv 0) af (λ _ _=>rfl)) (a9 (v:=.str "+") (by rfl) hT ⟨_,rfl⟩) (aC _)) (pw_or1 (aB dg (aV a7 (pv 0) (lZ iB af) (λ _ _=>rfl)) (a9 (v:=.str "+") (by rfl) hT ⟨_,rfl⟩) (aC _)))).pt
 (aj (aN iQ))
 aE)
 (aj (aN (wR (mC (N:=["ahead","behind"]) (fs:=[]) (⟨rfl,rfl,rfl,by rfl,by rfl,trivial⟩) hB cP (hr.mono (by decide):bN (0+1) _) (by rfl) T.kE (xx (by rfl) T.oz boot_zip (ag (pv 0) (ag (bq ez (pv 0) (bz af) bS) aa))) (λ _ _ _ _ _ _ _=>(qw K (n:=2) rfl (bf (aA (i:=0) (show List.Nodup (["ahead","behind"]:List Str) from by decide +kernel) rfl (Or.inl rfl)) (bf (aA (i:=1) (show List.Nodup (["ahead","behind"]:List Str) from by decide +kernel) rfl (Or.inl rfl)) fE)))) (λ _ _ _ _ _ _ _ hr=>(jz (cx dg (pv 0) (a9 (v:=.str "+") (by rfl) hT ⟨_,rfl⟩) (aC _)) (kL (cx dg (pv 1) (a9 (v:=.str "+") (by rfl) hT ⟨_,rfl⟩) (aC _)))))))))),?_⟩
  lia
  refine ⟨l,_,0,.str y0,rfl,rfl,SqL.of hl,eE (j:=0) rfl,?_⟩
  lia
  have kF:decide (y0="+")=true∨decide ((y0::r).getLast hne="+")=true->Q (.bl false) H:=λ z=>by
   have e:gW (y0::r)=false:=by
    unfold gW
    rw [List.getLast?_eq_some_getLast hne]
    rcases z with z | z
    ·simp [eW,z,of_decide_eq_true z]
    ·simp [eW,of_decide_eq_true z]
   have:=k H (ak.refl H)
   rw [e] at this
   exact this
  refine w_ite (λ z1=>?_) (λ z1=>?_)
  ·lia
   exact kF (.inl z1)
  lia
  refine ⟨l,_,-1,_,rfl,rfl,SqL.of hl,vY hne,?_⟩
  lia
  refine w_ite (λ z2=>?_) (λ z2=>?_)
  ·lia
   exact kF (.inr z2)
  lia
  refine ⟨l,_,rfl,SqL.of hl,λ p hp=>?_⟩
  lia
  have s1:ak H (upd H p (.lst (eG ((y0::r).map V.str) (some 1) none))):=ak.upd hp
  refine ⟨l,p,rfl,⟨_,SqL.of (s1 _ _ hl)⟩,⟨_,SqL.of ae⟩,EB (K:=K) (Q:=λ v H2=>∃ c,v=.bl c/\Q (.bl !c) H2) (n:=r.length) (λ i=>eW (y0::r)[i]?&&eW (y0::r)[i+1]?) (SqL.of (s1 _ _ hl)) (SqL.of ae) (by simp) (by rw [zB];simp) (.inr (by rw [zB];simp)) (s1 _ _ ht) (λ i x y H5 hi e1 e2 s5=>?_) (λ H2 s2=>?_)⟩
  ·rw [zB,List.getElem?_drop,List.getElem?_map] at e2
   rw [List.getElem?_map] at e1
   obtain ⟨u,hu,rfl⟩:=Option.map_eq_some_iff.mp e1
   obtain ⟨v,hv,rfl⟩:=Option.map_eq_some_iff.mp e2
   have hv:(y0::r)[i+1]?=some v:=by rw [Nat.add_comm];exact hv
   show xA _ _ _ _ _
   rw [hu,hv]
   lia
   refine w_ite (λ z3=>?_) (λ z3=>?_)
   ·lia
    exact ⟨s5,by show V.bl _=V.bl (decide (u="+")&&decide (v="+"));rw [z3];rfl⟩
   ·exact ⟨s5,by show V.bl _=V.bl (decide (u="+")&&decide (v="+"));rw [z3];rfl⟩
  ·lia
   have e:gW (y0::r)=!oE r.length (λ i=>eW (y0::r)[i]?&&eW (y0::r)[i+1]?):=by
    have y1:eW (y0::r).head?=false:=z1
    have y2:eW (y0::r).getLast?=false:=by rw [List.getLast?_eq_some_getLast hne];exact z2
    unfold gW
    rw [y1,y2]
    rfl
   rw [<- e]
   exact k H2 (s1.trans s2)
def qP (v:V):Bool:=match v with | .str x=>gY x | _=>false
def qW (v:V):Bool:=match v with | .str x=>aP x | _=>false
def qT (ys:List Str) (v:V):Bool:=decide ((1:Int)<((ys.map V.str).countP λ z=>eqV z v:Nat))
def fV (ys:List Str):Bool:=decide (1<=ys.length)&&decide (ys.length<=8)&&ys.all gY&&ys.any aP&&!((sV sig).any (qT ys))&&gW ys
abbrev qH (K:PySem.W.Frag) (mg:Str->Option Value):=Df K mg "check_pieces" "check_pieces" (top 25) ["pieces"]
def n5 (a:Ad):Sp:=λ vs H Q E=>∃ (l:Addr) (ys:List Str),vs=[.ref l]/\H l=some (.lst (ys.map .str))/\(∀ y∈ys,y.length<=sizeLine)/\tJ a H /\
 ∀ H',ak H H'->if fV ys=true then Q .non H' else E (.ref a.eC) none H'
theorem xR:aH ["pieces"] ["pieces"] (ar (top 25)):=⟨rfl,rfl,rfl,by decide +kernel,rfl,by decide +kernel,by decide +kernel⟩
theorem wo (D:qH K mg) (cP:cq K D.cdv a.tCP) (hB:jK base) (gO:uA K mg) (sT:F0 P w base 4 gO (qy a.tSL)) (aL:mL K mg) (b6:F0 P w base 3 aL (jy a.tSL))
  (gQ:xZ K mg) (sO:F0 P w base 2 gQ (uN a)) (T:Txt K mg a):F1 P w base 7 D (n5 a):=by
 refine Df.okE (k:=6) D.ex xR (λ vs H Q E h=>?_) (λ A outer s H vs Q E hr h=>?_)
 ·obtain ⟨l,ys,rfl,_⟩:=h;rfl
 ·obtain ⟨l,ys,rfl,hl,hz,ht,k0⟩:=h
  obtain ⟨tt,hM⟩:=T.uU
  have hh:A.handled=none:=hr.hd
  have k:=k0 H (ak.refl H)
  unfold fV at k k0
  refine ⟨_,(ah (aY (bK (iG fK fK af (aF bt (by rfl) T.cg boot_len (ag (pv 0) aa)) (a9 (v:=.int 8) (by rfl) hM ⟨_,rfl⟩)))
 (aj (bp PySem.F.excBase_ValueError T.bA.ex T.a5 hh (by rfl) (ag aD aa) (hl:=λ _ _ _ z=>⟨by decide,z⟩)))
 aE)
 (ah (aY (bK (bu (mF (N:=["piece"]) (fs:=[]) (⟨rfl,rfl,rfl,by rfl,by rfl,trivial⟩) hB cP (hr.mono (by decide):bN (5+1) _) (by rfl) T.jV (bx (pv 0)) (λ _ _ _ _ _ _ _=>(aA (i:=0) (show List.Nodup (["piece"]:List Str) from by decide +kernel) rfl (Or.inl rfl))) (λ _ _ _ _ _ _ _ hr=>(av sT (hr.mono (by decide)) (by rfl) gO.mg gO.kp gO.bd .nil aT (ag (pv 0) aa))))))
 (aj (bp PySem.F.excBase_ValueError T.bA.ex T.a5 hh (by rfl) (ag aD aa) (hl:=λ _ _ _ z=>⟨by decide,z⟩)))
 aE)
 (ah (aY (bK (bu (mC (N:=["piece"]) (fs:=[]) (⟨rfl,rfl,rfl,by rfl,by rfl,trivial⟩) hB cP (hr.mono (by decide):bN (5+1) _) (by rfl) T.kE (bx (pv 0)) (λ _ _ _ _ _ _ _=>(aA (i:=0) (show List.Nodup (["piece"]:List Str) from by decide +kernel) rfl (Or.inl rfl))) (λ _ _ _ _ _ _ _ hr=>(av b6 (hr.mono (by decide)) (by rfl) aL.mg aL.kp aL.bd .nil aT (ag (pv 0) aa))))))
 (aj (bp PySem.F.excBase_ValueError T.bA.ex T.a5 hh (by rfl) (ag aD aa) (hl:=λ _ _ _ z=>⟨by decide,z⟩)))
 aE)
 (ah (aY (bu (mC (N:=["sign","pieces"]) (fs:=[(1,0)]) (⟨rfl,rfl,rfl,by rfl,by rfl,⟨⟨_,rfl,rfl,rfl,Or.inl rfl⟩,trivial⟩⟩) hB cP (hr.mono (by decide):bN (5+1) _) (by rfl) T.kE (tR (a9 (v:=.ref a.uX) (by rfl) T.gU rfl)) (λ _ _ _ _ _ _ _=>(aA (i:=0) (show List.Nodup (["sign","pieces"]:List Str) from by decide +kernel) rfl (Or.inl rfl))) (λ _ _ _ _ _ _ _ hr=>(cx yy (Cj K PySem.F.plainAttrs_list PySem.F.slot_list_count PySem.F.type_list_count (vD K) (pv 1) (ag (pv 0) aa)) af (aC _)))))
 (aj (bp PySem.F.excBase_ValueError T.bA.ex T.a5 hh (by rfl) (ag aD aa) (hl:=λ _ _ _ z=>⟨by decide,z⟩)))
 aE)
 (aj (aY (bK (bu (av sO (hr.mono (by decide)) (by rfl) gQ.mg gQ.kp gQ.bd .nil aT (ag (pv 0) aa))))
 (aj (bp PySem.F.excBase_ValueError T.bA.ex T.a5 hh (by rfl) (ag aD aa) (hl:=λ _ _ _ z=>⟨by decide,z⟩)))
 aE)))))),?_⟩
  lia
  refine ⟨l,_,rfl,.inl (SqL.of hl),?_⟩
  lia
  have e1:decide ((1:Int)<=((ys.map V.str).length:Nat))=decide (1<=ys.length):=decide_eq_decide.mpr (by rw [List.length_map];omega)
  have e2:decide (((ys.map V.str).length:Int)<=8)=decide (ys.length<=8):=decide_eq_decide.mpr (by rw [List.length_map];omega)
  rw [e1]
  refine w_ite (λ z1=>?_) (λ z1=>?_)
  case refine_2=>
   lia
   simpa [z1] using k
  lia
  rw [e2]
  refine w_ite (λ z2=>?_) (λ z2=>?_)
  ·lia
   rw [Bool.not_eq_true'] at z2
   simpa [z1,z2] using k
  have z2:decide (ys.length<=8)=true:=by simpa using z2
  simp only [z1,z2,Bool.true_and] at k k0
  lia
  refine ⟨l,rfl,⟨_,SqL.of hl⟩,sy (K:=K) qP (SqL.of hl) ht.2.1 rfl (λ v hv=>?_) ?_⟩
  ·obtain ⟨x,hx,rfl⟩:=List.mem_map.mp hv
   lia
   exact ⟨x,rfl,hz x hx,ht.1,rfl,rfl⟩
  rw [show (ys.map V.str).all qP=ys.all gY by rw [List.all_map];rfl]
  refine w_ite (λ z3=>?_) (λ z3=>?_)
  ·lia
   rw [Bool.not_eq_true'] at z3
   simpa [z3] using k
  have z3:ys.all gY=true:=by simpa using z3
  simp only [z3,Bool.true_and] at k k0
  lia
  refine ⟨l,rfl,⟨_,SqL.of hl⟩,CO (K:=K) qW (SqL.of hl) ht.2.1 rfl (λ v hv=>?_) ?_⟩
  ·obtain ⟨x,hx,rfl⟩:=List.mem_map.mp hv
   lia
   exact ⟨x,rfl,hz x hx,ht.1,rfl,rfl⟩
  rw [show (ys.map V.str).any qW=ys.any aP by rw [List.any_map];rfl]
  refine w_ite (λ z4=>?_) (λ z4=>?_)
  ·lia
   rw [Bool.not_eq_true'] at z4
   simpa [z4] using k
  have z4:ys.any aP=true:=by simpa using z4
  simp only [z4,Bool.true_and] at k k0
  lia
  refine ⟨_,rfl,⟨_,T.mI _⟩,CG (K:=K) (qT ys) (T.mI _) ht.2.1 rfl (λ v hv=>?_) ?_⟩
  ·obtain ⟨x,hx,rfl⟩:=List.mem_map.mp hv
   lia
   refine ⟨.inl ⟨rfl,_,SqL.of hl⟩,?_⟩
   lia
   refine ⟨l,_,_,rfl,rfl,hl,b7 _,rfl,?_⟩
   lia
   exact ⟨rfl,rfl⟩
  refine w_ite (λ z5=>?_) (λ z5=>?_)
  ·lia
   have z5:(sV sig).any (qT ys)=true:=z5
   simpa [z5] using k
  have z5:(sV sig).any (qT ys)=false:=z5
  simp only [z5,Bool.not_false,Bool.true_and] at k k0
  lia
  refine ⟨l,ys,rfl,hl,(λ z=>by rw [z] at z1;exact absurd z1 (by decide)),ht.2.2.1,λ H' s'=>?_⟩
  lia
  have k:=k0 H' s'
  refine w_ite (λ z6=>?_) (λ z6=>?_)
  ·lia
   rw [Bool.not_eq_true'] at z6
   simpa [z6] using k
  ·lia
   have z6:gW ys=true:=by simpa using z6
   simpa [z6] using k
def nE (l h b f e:Int) (ys:List Str):Bool:=nJ l h b f e&&fV ys&&pU l h b f e ys
abbrev sk:Stmt:=inClass (top 23) 0
def fl6 (l h b f e:Int) (q:Addr):List (Str×V):=[("low",.int l),("high",.int h),("base",.int b),("first",.int f),("last",.int e),("pieces",.ref q)]
def sG (a:Ad):Sp:=λ vs H Q E=>∃ (p dx:Addr) (l h b f e:Int) (q:Addr) (ys:List Str),vs=[.ref p,.int l,.int h,.int b,.int f,.int e,.ref q]/\H p=some (.ins a.fv dx [])/\H q=some (.lst (ys.map .str))/\(∀ y∈ys,y.length<=sizeLine)/\b.natAbs.log2<9000/\tJ a H /\
 ∀ H' n,H n=none->(∀ c o,H c=some o->c≠p->H' c=some o)->eV a H' p l h b f e n->H' n=some (.lst (ys.map .str))->if nE l h b f e ys=true then Q .non H' else E (.ref a.eC) none H'
theorem Dk:aH ["self","low","high","base","first","last","pieces"] ["self","low","high","base","first","last","pieces"] (ar sk):=⟨rfl,rfl,rfl,by decide +kernel,rfl,by decide +kernel,by decide +kernel⟩
abbrev xk (K:PySem.W.Frag):=DfM K "__init__" "Rule.__init__" sk ["self","low","high","base","first","last","pieces"]
theorem zY (D:xk K) (cO:yG K mg) (mi:F1 P w base 1 cO (uD a)) (dj:qH K mg) (mK:F1 P w base 7 dj (n5 a))
  (cQ:yf K mg) (mf:F1 P w base 3 cQ (tN a)) (T:Txt K mg a):c9 P w K mg base (CXE P w) 8 D.f D.fd ["self","low","high","base","first","last","pieces"] (sG a):=by
 refine Df.okE (k:=7) D.ex Dk (λ vs H Q E h=>?_) (λ A outer s H vs Q E hr h=>?_)
 ·obtain ⟨p,dx,l,h,b,f,e,q,ys,rfl,_⟩:=h;rfl
 ·obtain ⟨p,dx,l,h,b,f,e,q,ys,rfl,hp,hq,hz,hb,ht,k⟩:=h
  have npq:q≠p:=nG hq hp (by intro z;cases z)
  refine ⟨_,(ah (dS (pv 0) (pv 1) (by rfl))
 (ah (dS (pv 0) (pv 2) (by rfl))
 (ah (dS (pv 0) (pv 3) (by rfl))
 (ah (dS (pv 0) (pv 4) (by rfl))
 (ah (dS (pv 0) (pv 5) (by rfl))
 (ah (dS (pv 0) (bL bM (by rfl) T.cj boot_list (ag (pv 6) aa)) (by rfl))
 (ah (bj (av mi (hr.mono (by decide)) (by rfl) cO.mg cO.kp cO.bd .nil (vy λ _ _ _ z=>z) (ag (pv 0) aa)))
 (ah (bj (av mK (hr.mono (by decide)) (by rfl) dj.mg dj.kp dj.bd .nil (vy λ _ _ _ z=>z) (ag (aS (pv 0) (by rfl)) aa)))
 (aj (bj (av mf (hr.mono (by decide)) (by rfl) cQ.mg cQ.kp cQ.bd .nil (vy λ _ _ _ z=>z) (ag (pv 0) aa)))))))))))),?_⟩
  lia
  refine ⟨p,a.fv,dx,_,rfl,hp,T.clR,T.iu,(by show 0<1000;decide),?_⟩
  lia
  refine ⟨p,a.fv,dx,_,rfl,ae,T.clR,T.fe,(by show 1<1000;decide),?_⟩
  lia
  refine ⟨p,a.fv,dx,_,rfl,ae,T.clR,T.dq,(by show 2<1000;decide),?_⟩
  lia
  refine ⟨p,a.fv,dx,_,rfl,ae,T.clR,T.dk,(by show 3<1000;decide),?_⟩
  lia
  refine ⟨p,a.fv,dx,_,rfl,ae,T.clR,T.fg,(by show 4<1000;decide),?_⟩
  lia
  generalize hH5:upd (upd (upd (upd (upd H p _) p _) p _) p _) p _=H5
  have k5:∀ c,c≠p->H5 c=H c:=λ c hc=>by rw [<- hH5,aq hc,aq hc,aq hc,aq hc,aq hc]
  have p5:H5 p=some (.ins a.fv dx (bQ "last" (.int e) (bQ "first" (.int f) (bQ "base" (.int b) (bQ "high" (.int h) (bQ "low" (.int l) [])))))):=by rw [<- hH5];exact ae
  refine ⟨q,_,rfl,.inl (SqL.of ((k5 q npq).trans hq)),λ n hn=>?_⟩
  have npn:n≠p:=λ z=>by rw [z,p5] at hn;cases hn
  have hn0:H n=none:=(k5 n npn).symm.trans hn
  lia
  refine ⟨p,a.fv,dx,_,rfl,(by rw [aq (Ne.symm npn)];exact p5),T.clR,T.cL,(by show 5<1000;decide),?_⟩
  lia
  generalize hH7:upd (upd H5 n _) p _=H7
  have k7:∀ c o,H c=some o->c≠p->H7 c=some o:=λ c o hc hcp=>by rw [<- hH7,aq hcp,aq (ao hc hn0),k5 c hcp];exact hc
  have R:eV a H7 p l h b f e n:=⟨dx,_,by rw [<- hH7];exact ae,⟨rfl,rfl,rfl,rfl,rfl⟩,rfl⟩
  have n7:H7 n=some (.lst (ys.map .str)):=by rw [<- hH7,aq npn];exact ae
  have nt:∀ t,H t=some (Tb t)->t≠p:=λ t e=>nG e hp (by intro z;cases z)
  have t7:tJ a H7:=⟨k7 _ _ ht.1 (nt _ ht.1),k7 _ _ ht.2.1 (nt _ ht.2.1),k7 _ _ ht.2.2.1 (nt _ ht.2.2.1),k7 _ _ ht.2.2.2 (nt _ ht.2.2.2)⟩
  have kk:=k H7 n hn0 k7 R n7
  unfold nE at k kk
  refine ⟨p,l,h,b,f,e,n,rfl,R,w_ite (λ z1=>?_) (λ z1=>?_)⟩
  case refine_2=>simpa [z1] using kk
  lia
  obtain ⟨dx',fs,r1,r2,r3⟩:=id R.ob
  refine ⟨p,a.fv,dx',fs,_,rfl,r1,T.clR,T.cL,r3,?_⟩
  lia
  refine ⟨n,ys,rfl,n7,hz,t7,λ H8 s8=>w_ite (λ z2=>?_) (λ z2=>?_)⟩
  ·have z2':fV ys=true:=z2
   lia
   have hb2:0<b:=by
    unfold nJ at z1
    simp at z1
    omega
   have k8:=k H8 n hn0 (λ c o hc hcp=>s8 _ _ (k7 c o hc hcp)) (R.same s8) (s8 _ _ n7)
   rw [z1,z2',Bool.true_and,Bool.true_and] at k8
   exact ⟨p,l,h,b,f,e,n,ys,rfl,R.same s8,s8 _ _ n7,s8 _ _ t7.2.2.2,hb2,hb,k8⟩
  ·have k8:=k H8 n hn0 (λ c o hc hcp=>s8 _ _ (k7 c o hc hcp)) (R.same s8) (s8 _ _ n7)
   simpa [z2] using k8
abbrev Bz (K:PySem.W.Frag) (mg:Str->Option Value):=Df K mg "own_list" "own_list" (top 33) ["given"]
def xT (K:PySem.W.Frag):Sp:=λ vs H Q _=>∃ (v:V) (xs:List V),vs=[v]/\((v=.non/\xs=[])∨∃ p,v=.ref p/\SqL K H p xs)/\∀ l,H l=none->Q (.ref l) (upd H l (.lst xs))
theorem ET:aH ["given"] ["given"] (ar (top 33)):=⟨rfl,rfl,rfl,by decide +kernel,rfl,by decide +kernel,by decide +kernel⟩
theorem B8 (D:Bz K mg) (T:Txt K mg a):F0 P w base 1 D (xT K):=by
 refine Df.ok (k:=0) D.ex ET (λ vs H Q E h=>?_) (λ A outer s H vs Q E hr h=>?_)
 ·obtain ⟨v,xs,rfl,_⟩:=h;rfl
 ·obtain ⟨v,xs,rfl,hv,k⟩:=h
  refine ⟨_,(aj (aN (xj (aB Ci (pv 0) fN (aC _)) (aM aa) (bL bM (by rfl) T.cj boot_list (ag (pv 0) aa))))),?_⟩
  lia
  refine ⟨rfl,?_⟩
  rcases hv with ⟨rfl,rfl⟩ | ⟨p,rfl,hp⟩
  ·rw [decide_eq_true rfl]
   lia
   exact ⟨by show 0<=sizeLine;decide,k⟩
  ·rw [decide_eq_false (by intro z;cases z)]
   lia
   exact ⟨p,xs,rfl,.inl hp,k⟩
def low (i j:Nat) (x:Str):Bool:=decide (i<=x.length)&&decide (x.length<=j)&&jc x
def bh (m:Str×Str×Str):Bool:=low 1 3 m.1&&low 1 3 m.2.1&&low 1 6 m.2.2&&decide (m.1.length+m.2.1.length<=m.2.2.length+1)
def eX (m:Str×Str×Str):HO:=.tup [.str m.1,.str m.2.1,.str m.2.2]
abbrev yn (K:PySem.W.Frag) (mg:Str->Option Value):=Df K mg "is_melt" "is_melt" (top 34) ["melt"]
def uB (a:Ad):Sp:=λ vs H Q _=>∃ (t:Addr) (m:Str×Str×Str),vs=[.ref t]/\H t=some (eX m)/\(m.1.length<=10000/\m.2.1.length<=10000/\m.2.2.length<=10000)/\H a.tSL=some (Tb a.tSL)/\Q (.bl (bh m)) H
theorem CZ:aH ["melt","ahead","behind","made"] ["melt"] (ar (top 34)):=⟨rfl,rfl,rfl,by decide +kernel,rfl,by decide +kernel,by decide +kernel⟩
theorem ub (i j:Nat) (x:Str):(decide ((i:Int)<=x.length)&&decide ((x.length:Int)<=j)&&jc x)=low i j x:=by
 unfold low
 rw [show decide ((i:Int)<=x.length)=decide (i<=x.length) from decide_eq_decide.mpr (by omega),show decide ((x.length:Int)<=j)=decide (x.length<=j) from decide_eq_decide.mpr (by omega)]
theorem aW {n:Nat} (h:n<=10000):n<=sizeLine:=Nat.le_trans h (by decide)
theorem zj (D:yn K mg) (aw:nR K mg) (bC:F0 P w base 2 aw (jN a.tSL)) (T:Txt K mg a):F0 P w base 3 D (uB a):=by
 refine Df.ok (k:=2) D.ex CZ (λ vs H Q E h=>?_) (λ A outer s H vs Q E hr h=>?_)
 ·obtain ⟨t,m,rfl,_⟩:=h;rfl
 ·obtain ⟨t,⟨x,y,z⟩,rfl,ht,⟨l1,l2,l3⟩,tSL,k⟩:=h
  dsimp only at l1 l2 l3
  have ht:H t=some (.tup [.str x,.str y,.str z]):=ht
  unfold bh at k
  dsimp only at k
  refine ⟨_,(ah (aY (pw_or (bK (bu (aF ef (by rfl) T.aO boot_isinstance (ag (pv 0) (ag (fB (v:=.ty "tuple") (by rfl) T.gC (by rfl) rfl) aa))))) (pw_or1 (aB vb (aF bt (by rfl) T.cg boot_len (ag (pv 0) aa)) af (aC _)))).pt
 (aj (aN iQ))
 aE)
 (ah (uc (pv 0) (lg (n:=3) rfl (bf (aA (i:=1) (show List.Nodup (["melt","ahead","behind","made"]:List Str) from by decide +kernel) rfl (Or.inl rfl)) (bf (aA (i:=2) (show List.Nodup (["melt","ahead","behind","made"]:List Str) from by decide +kernel) rfl (Or.inl rfl)) (bf (aA (i:=3) (show List.Nodup (["melt","ahead","behind","made"]:List Str) from by decide +kernel) rfl (Or.inl rfl)) fE)))))
 (ah (aY (bK (pw_and (bu (av bC (hr.mono (by decide)) (by rfl) aw.mg aw.kp aw.bd .nil aT (ag (pv 1) (ag af (ag af aa))))) (pw_and (bu (av bC (hr.mono (by decide)) (by rfl) aw.mg aw.kp aw.bd .nil aT (ag (pv 2) (ag af (ag af aa))))) (pw_and1 (bu (av bC (hr.mono (by decide)) (by rfl) aw.mg aw.kp aw.bd .nil aT (ag (pv 3) (ag af (ag af aa)))))))).pt)
 (aj (aN iQ))
 aE)
 (aj (aN (cx Aw (aF bX (by rfl) T.cg boot_len (ag (pv 3) aa)) (ai fc (ai aU (aF bX (by rfl) T.cg boot_len (ag (pv 1) aa)) (aF bX (by rfl) T.cg boot_len (ag (pv 2) aa))) af) (aC _))))))),?_⟩
  lia
  refine ⟨_,_,_,_,_,rfl,.v (.tup ht),rfl,T.wZ,?_⟩
  lia
  refine ⟨t,_,rfl,.inr (SqT.of ht),?_⟩
  lia
  refine w_ite (λ e=>absurd e (by simp)) (λ _=>?_)
  lia
  refine gB (SqT.of ht) rfl ?_
  refine ⟨_,_,rfl,_,_,rfl,_,_,rfl,rfl,?_⟩
  show wG _ _ _ [some (V.ref t),some (V.str x),some (V.str y),some (V.str z)] H
  lia
  refine ⟨x,1,3,rfl,aW l1,tSL,?_⟩
  rw [show (decide ((1:Int)<=x.length)&&decide ((x.length:Int)<=3)&&jc x)=low 1 3 x from ub 1 3 x]
  cases m1:low 1 3 x with
  | false=>
   rw [m1] at k
   lia
   exact k
  | true=>
   lia
   refine ⟨y,1,3,rfl,aW l2,tSL,?_⟩
   rw [show (decide ((1:Int)<=y.length)&&decide ((y.length:Int)<=3)&&jc y)=low 1 3 y from ub 1 3 y]
   cases m2:low 1 3 y with
   | false=>
    rw [m1,m2] at k
    lia
    exact k
   | true=>
    lia
    refine ⟨z,1,6,rfl,aW l3,tSL,?_⟩
    rw [show (decide ((1:Int)<=z.length)&&decide ((z.length:Int)<=6)&&jc z)=low 1 6 z from ub 1 6 z]
    cases m3:low 1 6 z with
    | false=>
     rw [m1,m2,m3] at k
     lia
     exact k
    | true=>
     rw [m1,m2,m3] at k
     lia
     refine ⟨z,rfl,aW l3,?_⟩
     lia
     refine ⟨x,rfl,aW l1,?_⟩
     lia
     refine ⟨y,rfl,aW l2,?_⟩
     lia
     rw [show decide ((x.length:Int)+y.length - 1<=z.length)=decide (x.length+y.length<=z.length+1) from decide_eq_decide.mpr (by omega)]
     exact k
end
theorem kh {xs:List V} (h:xs.all dw=true):eqL xs xs=true:=by
 unfold eqL
 rw [beq_self_eq_true,Bool.true_and,List.all_eq_true]
 intro p hp
 have e:p.1=p.2:=by
  induction xs with
  | nil=>cases hp
  | cons y r ih=>
   rw [List.zip_cons_cons] at hp
   rcases List.mem_cons.mp hp with e | hp
   ·rw [e]
   ·exact ih (by rw [List.all_cons,Bool.and_eq_true] at h;exact h.2) hp
 rw [<- e]
 exact xw (List.all_eq_true.mp h _ (List.of_mem_zip hp).1)
section
variable {P:Program} {w:World} {K:PySem.W.Frag} {mg:Str->Option Value} {base:Heap} {a:Ad}
def lU (m:Str×Str):HO:=.tup [.str m.1,.str m.2]
def fS (m:Str×Str):Bool:=aP m.1&&aP m.2
abbrev BZ (K:PySem.W.Frag) (mg:Str->Option Value):=Df K mg "is_word_pair" "is_word_pair" (top 40) ["pair"]
def w6 (a:Ad):Sp:=λ vs H Q _=>∃ (t:Addr) (m:Str×Str),vs=[.ref t]/\H t=some (lU m)/\m.1.length<=1000/\m.2.length<=1000/\H a.tSL=some (Tb a.tSL)/\Q (.bl (fS m)) H
theorem Bb:aH ["pair"] ["pair"] (ar (top 40)):=⟨rfl,rfl,rfl,by decide +kernel,rfl,by decide +kernel,by decide +kernel⟩
theorem Cr (D:BZ K mg) (aL:mL K mg) (b6:F0 P w base 3 aL (jy a.tSL)) (T:Txt K mg a):F0 P w base 4 D (w6 a):=by
 refine Df.ok (k:=3) D.ex Bb (λ vs H Q E h=>?_) (λ A outer s H vs Q E hr h=>?_)
 ·obtain ⟨t,m,rfl,_⟩:=h;rfl
 ·obtain ⟨t,m,rfl,ht,l1,l2,tSL,q⟩:=h
  have nd:=Bb.nd
  obtain ⟨x,y⟩:=m
  have ht:H t=some (.tup [.str x,.str y]):=ht
  have l1:x.length<=1000:=l1
  have l2:y.length<=1000:=l2
  have line:1000<sizeLine:=by decide
  refine ⟨_,(aj (aN (jz (aF ef (by rfl) T.aO boot_isinstance (ag (pv 0) (ag (fB (v:=.ty "tuple") (by rfl) T.gC (by rfl) rfl) aa))) (jz (cx dg (aF bt (by rfl) T.cg boot_len (ag (pv 0) aa)) af (aC _)) (jz (av b6 (hr.mono (by decide)) (by rfl) aL.mg aL.kp aL.bd .nil aT (ag (aV b9 (pv 0) af (λ _ _=>rfl)) aa)) (kL (av b6 (hr.mono (by decide)) (by rfl) aL.mg aL.kp aL.bd .nil aT (ag (aV b9 (pv 0) af (λ _ _=>rfl)) aa)))))))),?_⟩
  lia
  refine ⟨_,_,_,_,_,rfl,.v (.tup ht),rfl,T.wZ,?_⟩
  lia
  refine ⟨t,_,rfl,.inr (SqT.of ht),?_⟩
  lia
  refine w_ite (λ _=>?_) (λ z=>absurd z (by simp))
  lia
  refine ⟨t,_,0,_,rfl,rfl,SqT.of ht,eE (j:=0) rfl,?_⟩
  lia
  refine ⟨x,rfl,by omega,tSL,?_⟩
  lia
  have e:fS (x,y)=(aP x&&aP y):=rfl
  rw [e] at q
  refine w_ite (λ z=>?_) (λ z=>?_)
  ·lia
   refine ⟨t,_,1,_,rfl,rfl,SqT.of ht,eE (j:=1) rfl,?_⟩
   lia
   refine ⟨y,rfl,by omega,tSL,?_⟩
   lia
   rw [z,Bool.true_and] at q
   exact q
  ·skip
   rw [z,Bool.false_and] at q
   exact q
end
theorem lX {α:Type} [DecidableEq α]:∀ {l:List α},¬ l.Nodup->∃ l1 k l2,l=l1++k::l2/\k∈l2
 | [],h=>absurd List.nodup_nil h
 | y::r,h=>by
  by_cases hy:y∈r
  ·exact ⟨[],y,r,rfl,hy⟩
  ·have:¬ r.Nodup:=λ z=>h (List.nodup_cons.mpr ⟨hy,z⟩)
   obtain ⟨l1,k,l2,e,m⟩:=lX this
   exact ⟨y::l1,k,l2,by rw [e];rfl,m⟩
theorem zi {ks:List Key} (h:¬ ks.Nodup):(cU ks).length<ks.length:=by
 obtain ⟨l1,k,l2,e,m⟩:=lX h
 have:(cU ks).length<=(l1++l2).length:=lq (u7 ks) λ x hx=>by
  rw [jY,e,List.mem_append,List.mem_cons] at hx
  rw [List.mem_append]
  rcases hx with z | z | z
  ·exact .inl z
  ·rw [z];exact .inr m
  ·exact .inr z
 have e2:=congrArg List.length e
 simp only [List.length_append,List.length_cons] at this e2
 omega
theorem xK (ks:List Key):decide (((cU ks).length:Int)=ks.length)=decide ks.Nodup:=by
 refine decide_eq_decide.mpr ⟨λ h=>?_,λ h=>by rw [zU h]⟩
 by_cases z:ks.Nodup
 ·exact z
 ·have:=zi z;omega
def vo (H:Hp) (l:Addr) (ms:List (Str×Str)):Prop:=∃ ts:List Addr,H l=some (.lst (ts.map .ref))/\ts.length=ms.length/\∀ (i:Nat) t m,ts[i]?=some t->ms[i]?=some m->H t=some (lU m)
def kq (ms:List (Str×Str)):List Key:=ms.map λ m=>.inr m.1
def pairsOk (ms:List (Str×Str)):Bool:=ms.all fS&&decide (kq ms).Nodup
def ve (H:Hp):V->Bool
 | .ref t=>match H t with
  | some (.tup [.str x,.str y])=>fS (x,y)
  | _=>false
 | _=>false
theorem nW {H:Hp} {t:Addr} {m:Str×Str} (h:H t=some (lU m)):ve H (.ref t)=fS m:=by
 unfold ve
 simp only [h,lU]
theorem vX {H:Hp} {ts:List Addr} {ms:List (Str×Str)} (hl:ts.length=ms.length) (h:∀ (i:Nat) t m,ts[i]?=some t->ms[i]?=some m->H t=some (lU m)):(ts.map V.ref).all (ve H)=ms.all fS:=by
 rw [Bool.eq_iff_iff,List.all_eq_true,List.all_eq_true]
 constructor
 ·intro z m hm
  obtain ⟨i,hi,e⟩:=List.mem_iff_getElem.mp hm
  have hi':i<ts.length:=by omega
  rw [<- nW (h i ts[i] m (List.getElem?_eq_getElem hi') (by rw [List.getElem?_eq_getElem hi,e]))]
  exact z _ (List.mem_map.mpr ⟨ts[i],List.getElem_mem hi',rfl⟩)
 ·intro z v hv
  obtain ⟨t,ht,rfl⟩:=List.mem_map.mp hv
  obtain ⟨i,hi,e⟩:=List.mem_iff_getElem.mp ht
  have hi':i<ms.length:=by omega
  rw [nW (h i t ms[i] (by rw [List.getElem?_eq_getElem hi,e]) (List.getElem?_eq_getElem hi'))]
  exact z _ (List.getElem_mem hi')
section
variable {P:Program} {w:World} {K:PySem.W.Frag} {mg:Str->Option Value} {base:Heap} {a:Ad}
abbrev Cf (K:PySem.W.Frag) (mg:Str->Option Value):=Df K mg "are_word_pairs" "are_word_pairs" (top 39) ["pairs"]
def xV (a:Ad):Sp:=λ vs H Q _=>∃ (l:Addr) (ms:List (Str×Str)),vs=[.ref l]/\vo H l ms/\ms.length<=1000/\(∀ m∈ms,m.1.length<=1000/\m.2.length<=1000)/\H a.tSL=some (Tb a.tSL)/\H a.tWP=some (Tb a.tWP)/\Pure (.bl (pairsOk ms)) H Q
theorem Ar:aH ["pairs"] ["pairs"] (ar (top 39)):=⟨rfl,rfl,rfl,by decide +kernel,rfl,by decide +kernel,by decide +kernel⟩
theorem CK (D:Cf K mg) (cP:cq K D.cdv a.tWP) (hB:jK base) (di:BZ K mg) (n6:F0 P w base 4 di (w6 a)) (T:Txt K mg a):F0 P w base 6 D (xV a):=by
 refine Df.ok (k:=5) D.ex Ar (λ vs H Q E h=>?_) (λ A outer s H vs Q E hr h=>?_)
 ·obtain ⟨l,ms,rfl,_⟩:=h;rfl
 ·obtain ⟨l,ms,rfl,hp,hn,hm,tSL,tWP,q⟩:=h
  have nd:=Ar.nd
  obtain ⟨ts,h1,h2,h3⟩:=id hp
  have line:1000<sizeLine:=by decide
  refine ⟨_,(ah (aY (bK (bu (mF (N:=["pair"]) (fs:=[]) (⟨rfl,rfl,rfl,by rfl,by rfl,trivial⟩) hB cP (hr.mono (by decide):bN (4+1) _) (by rfl) T.jV (bx (pv 0)) (λ _ _ _ _ _ _ _=>by exact (aA (i:=0) (show List.Nodup (["pair"]:List Str) from by decide +kernel) rfl (Or.inl rfl))) (λ _ _ _ _ _ _ _ hr=>by exact (av n6 (hr.mono (by decide)) (by rfl) di.mg di.kp di.bd .nil aT (ag (pv 0) aa))))))
 (aj (aN iQ))
 aE)
 (aj (aN (cx dg (aF (oQ P w) (by rfl) T.cg boot_len (ag (Dr (N:=["pair"]) (fs:=[]) (⟨rfl,by rfl,by rfl,by rfl,trivial⟩) rfl (bx (pv 0)) (λ _ _ _ _ _=>(aA (i:=0) (show List.Nodup (["pair"]:List Str) from by decide +kernel) rfl (Or.inl rfl))) (λ _ _ _ _ _=>by exact dU) (λ _ _ _ _ _=>by exact (aV (gH K) (pv 0) af (λ _ _=>rfl))) P w) aa)) (aF bt (by rfl) T.cg boot_len (ag (pv 0) aa)) (aC _))))),?_⟩
  lia
  refine ⟨l,rfl,⟨_,SqL.of h1⟩,sy (ve H) (SqL.of h1) tWP rfl (λ v hv=>?_) ?_⟩
  ·obtain ⟨t,ht,rfl⟩:=List.mem_map.mp hv
   obtain ⟨i,hi,e⟩:=List.mem_iff_getElem.mp ht
   have hi':i<ms.length:=by omega
   have hp:=h3 i t ms[i] (by rw [List.getElem?_eq_getElem hi,e]) (List.getElem?_eq_getElem hi')
   have hl:=hm _ (List.getElem_mem hi')
   lia
   exact ⟨t,ms[i],rfl,hp,hl.1,hl.2,tSL,rfl,by rw [nW hp]⟩
  ·rw [vX h2 h3]
   lia
   refine w_ite (λ z=>?_) (λ z=>?_)
   ·rw [Bool.not_eq_true'] at z
    lia
    unfold pairsOk at q
    rw [z,Bool.false_and] at q
    exact q H (ak.refl _)
   ·have z:ms.all fS=true:=by simpa using z
    lia
    refine ⟨l,rfl,⟨_,SqL.of h1⟩,scL (λ i=>.inr (ms.getD i ("","")).1) (SqL.of h1) (by rw [List.length_map];show _<4096;omega) rfl (λ D' L i Qc hD hi hq=>?_) (λ D' hD=>?_)⟩
    ·rw [List.length_map] at hi
     have hi':i<ms.length:=by omega
     have e1:(ts.map V.ref).getD i .non=V.ref ts[i]:=by simp [List.getD_eq_getElem?_getD,hi]
     have e2:ms.getD i ("","")=ms[i]:=by simp [List.getD_eq_getElem?_getD,hi']
     have ht:=h3 i ts[i] ms[i] (List.getElem?_eq_getElem hi) (List.getElem?_eq_getElem hi')
     rw [e1]
     rw [e2] at hq
     lia
     refine ⟨ts[i],_,0,_,rfl,rfl,SqT.of (show upd H D' _ ts[i]=_ by rw [aq (ao ht hD)];exact ht),eE (j:=0) rfl,hq⟩
    ·have ek:(List.range (ts.map V.ref).length).map (λ i=>(Sum.inr (ms.getD i ("","")).1:Key))=kq ms:=by
      rw [List.length_map,h2]
      refine List.ext_getElem (by simp [kq]) λ i u1 u2=>?_
      have:i<ms.length:=by simpa using u1
      simp [kq,List.getD_eq_getElem?_getD,this]
     rw [ek]
     have s1:ak H (upd H D' (bb P w D' (cU (kq ms)))):=ak.upd hD
     lia
     refine ⟨D',_,rfl,ae,?_,?_⟩
     ·have:=gb (kq ms);have:(kq ms).length=ms.length:=by unfold kq;rw [List.length_map]
      omega
     lia
     refine ⟨l,_,rfl,.inl (SqL.of (s1 _ _ h1)),?_⟩
     lia
     unfold pairsOk at q
     rw [z,Bool.true_and,<- xK] at q
     have e:((ts.map V.ref).length:Int)=(kq ms).length:=by unfold kq;rw [List.length_map,List.length_map,h2]
     rw [e]
     exact q _ s1
structure Fz (fs:List (Str×V)) (t e:Str) (n:Addr):Prop where
 title:fs.lookup ("title":Str)=some (.str t)
 BJ:fs.lookup ("ending":Str)=some (.str e)
 turns:fs.lookup ("turns":Str)=some (.ref n)
structure iP (a:Ad) (H:Hp) (p:Addr) (t e:Str) (n:Addr):Prop where
 ob:∃ dx fs,H p=some (.ins a.Kind dx fs)/\Fz fs t e n
theorem iP.same {H H':Hp} {p:Addr} {t e:Str} {n:Addr} (R:iP a H p t e n) (s:ak H H'):iP a H' p t e n:=by
 obtain ⟨dx,fs,h1,h2⟩:=R.ob
 exact ⟨dx,fs,s _ _ h1,h2⟩
def j5 (t:Str):Bool:=decide ((1:Int)<=t.length)&&decide ((t.length:Int)<=8)&&jc t
def kR (t e:Str) (ms:List (Str×Str)):Bool:=j5 t&&(aP e&&pairsOk ms)
abbrev sKI:Stmt:=inClass (top 42) 0
abbrev pKI:List Str:=["self","title","ending","turns"]
abbrev DKI (K:PySem.W.Frag):=DfM K "__init__" "Kind.__init__" sKI pKI
def AM (a:Ad) (H:Hp):Prop:=H a.tSL=some (Tb a.tSL)/\H a.tWP=some (Tb a.tWP)
def Short (ms:List (Str×Str)):Prop:=ms.length<=1000/\∀ m∈ms,m.1.length<=1000/\m.2.length<=1000
def Cp (a:Ad):Sp:=λ vs H Q E=>∃ (p dx:Addr) (t e:Str) (q:Addr) (ts:List Addr) (ms:List (Str×Str)),vs=[.ref p,.str t,.str e,.ref q]/\H p=some (.ins a.Kind dx [])/\H q=some (.lst (ts.map .ref))/\ts.length=ms.length/\(∀ (i:Nat) u m,ts[i]?=some u->ms[i]?=some m->H u=some (lU m)) /\
 t.length<=1000/\e.length<=1000/\Short ms/\AM a H /\
 ∀ H' n,H n=none->(∀ c o,H c=some o->c≠p->H' c=some o)->iP a H' p t e n->H' n=some (.lst (ts.map .ref))->if kR t e ms=true then Q .non H' else E (.ref a.gw) none H'
theorem E5:aH pKI pKI (ar sKI):=⟨rfl,rfl,rfl,by decide +kernel,rfl,by decide +kernel,by decide +kernel⟩
theorem El (D:DKI K) (aw:nR K mg) (bC:F0 P w base 2 aw (jN a.tSL)) (aL:mL K mg) (b6:F0 P w base 3 aL (jy a.tSL))
  (cB:Cf K mg) (kO:F0 P w base 6 cB (xV a)) (T:Txt K mg a):c9 P w K mg base (CXE P w) 7 D.f D.fd pKI (Cp a):=by
 refine Df.okE (k:=6) D.ex E5 (λ vs H Q E h=>?_) (λ A outer s H vs Q E hr h=>?_)
 ·obtain ⟨p,dx,t,e,q,ts,ms,rfl,_⟩:=h;rfl
 ·obtain ⟨p,dx,t,e,q,ts,ms,rfl,hp,hq,hl,hm,lt,le,sh,tb,k⟩:=h
  have nd:=E5.nd
  have hh:A.handled=none:=hr.hd
  have line:1000<sizeLine:=by decide
  have npq:q≠p:=nG hq hp (by intro z;cases z)
  refine ⟨_,(ah (dS (pv 0) (pv 1) (by rfl))
 (ah (dS (pv 0) (pv 2) (by rfl))
 (ah (dS (pv 0) (bL bM (by rfl) T.cj boot_list (ag (pv 3) aa)) (by rfl))
 (ah (aY (bK (bu (av bC (hr.mono (by decide)) (by rfl) aw.mg aw.kp aw.bd .nil aT (ag (pv 1) (ag af (ag af aa))))))
 (aj (bp PySem.F.excBase_ValueError T.iZ.ex T.cC hh (by rfl) (ag aD aa) (hl:=λ _ _ _ z=>⟨by decide,z⟩)))
 aE)
 (ah (aY (bK (bu (av b6 (hr.mono (by decide)) (by rfl) aL.mg aL.kp aL.bd .nil aT (ag (pv 2) aa))))
 (aj (bp PySem.F.excBase_ValueError T.iZ.ex T.cC hh (by rfl) (ag aD aa) (hl:=λ _ _ _ z=>⟨by decide,z⟩)))
 aE)
 (aj (aY (bK (bu (av kO (hr.mono (by decide)) (by rfl) cB.mg cB.kp cB.bd .nil aT (ag (aS (pv 0) (by rfl)) aa))))
 (aj (bp PySem.F.excBase_ValueError T.iZ.ex T.cC hh (by rfl) (ag aD aa) (hl:=λ _ _ _ z=>⟨by decide,z⟩)))
 aE))))))),?_⟩
  lia
  refine ⟨p,a.Kind,dx,_,rfl,hp,T.clK,T.dW,(by show 0<1000;decide),?_⟩
  lia
  refine ⟨p,a.Kind,dx,_,rfl,ae,T.clK,T.eZ,(by show 1<1000;decide),?_⟩
  lia
  generalize hH5:upd (upd H p _) p _=H5
  have k5:∀ c,c≠p->H5 c=H c:=λ c hc=>by rw [<- hH5,aq hc,aq hc]
  have p5:H5 p=some (.ins a.Kind dx (bQ "ending" (.str e) (bQ "title" (.str t) []))):=by rw [<- hH5];exact ae
  refine ⟨q,_,rfl,.inl (SqL.of ((k5 q npq).trans hq)),λ n hn=>?_⟩
  have npn:n≠p:=λ z=>by rw [z,p5] at hn;cases hn
  have hn0:H n=none:=(k5 n npn).symm.trans hn
  lia
  refine ⟨p,a.Kind,dx,_,rfl,(by rw [aq (Ne.symm npn)];exact p5),T.clK,T.fA,(by show 2<1000;decide),?_⟩
  lia
  generalize hH7:upd (upd H5 n _) p _=H7
  have k7:∀ c o,H c=some o->c≠p->H7 c=some o:=λ c o hc hcp=>by rw [<- hH7,aq hcp,aq (ao hc hn0),k5 c hcp];exact hc
  have R:iP a H7 p t e n:=⟨dx,_,by rw [<- hH7];exact ae,⟨rfl,rfl,rfl⟩⟩
  have n7:H7 n=some (.lst (ts.map .ref)):=by rw [<- hH7,aq npn];exact ae
  have nt:∀ t,H t=some (Tb t)->t≠p:=λ t e=>nG e hp (by intro z;cases z)
  have t7:AM a H7:=⟨k7 _ _ tb.1 (nt _ tb.1),k7 _ _ tb.2 (nt _ tb.2)⟩
  have m7:vo H7 n ms:=⟨ts,n7,hl,λ i u m x y=>k7 _ _ (hm i u m x y) (nG (hm i u m x y) hp (by intro z;cases z))⟩
  have kk:∀ H8,ak H7 H8->if kR t e ms=true then Q .non H8 else E (.ref a.gw) none H8:=λ H8 s8=>k H8 n hn0 (λ c o hc hcp=>s8 _ _ (k7 c o hc hcp)) (R.same s8) (s8 _ _ n7)
  clear hH7 hH5 k5 p5 hn
  unfold kR at kk
  refine ⟨t,1,8,rfl,by omega,t7.1,?_⟩
  show _
  rw [show (decide ((1:Int)<=t.length)&&decide ((t.length:Int)<=8)&&jc t)=j5 t from rfl]
  lia
  refine w_ite (λ z1=>?_) (λ z1=>?_)
  ·rw [Bool.not_eq_true'] at z1
   lia
   have k7:=kk H7 (ak.refl _)
   rw [z1,Bool.false_and,if_neg Bool.false_ne_true] at k7
   exact k7
  ·have z1:j5 t=true:=by simpa using z1
   rw [z1,Bool.true_and] at kk
   lia
   refine ⟨e,rfl,by omega,t7.1,?_⟩
   lia
   refine w_ite (λ z2=>?_) (λ z2=>?_)
   ·rw [Bool.not_eq_true'] at z2
    lia
    have k7:=kk H7 (ak.refl _)
    rw [z2,Bool.false_and,if_neg Bool.false_ne_true] at k7
    exact k7
   ·have z2:aP e=true:=by simpa using z2
    rw [z2,Bool.true_and] at kk
    lia
    obtain ⟨dx',fs,r1,r2⟩:=id R.ob
    refine ⟨p,a.Kind,dx',fs,_,rfl,r1,T.clK,T.fA,r2.turns,?_⟩
    lia
    refine ⟨n,ms,rfl,m7,sh.1,sh.2,t7.1,t7.2,λ H8 s8=>?_⟩
    have k8:=kk H8 s8
    lia
    refine w_ite (λ z3=>?_) (λ z3=>?_)
    ·rw [Bool.not_eq_true'] at z3
     lia
     rw [z3,if_neg Bool.false_ne_true] at k8
     exact k8
    ·have z3:pairsOk ms=true:=by simpa using z3
     rw [z3,if_pos rfl] at k8
     lia
     exact k8
end
end K04
namespace K04
open PySem PySem.Spec PyProof.Rows L2 PySem.W PySem.Calls
abbrev sTw:Stmt:=inClass (top 7) 0
abbrev Ak (dT:Addr) (kV doc pm:Value) (an:Option Addr) (cda:Addr) (ct:Value) (cc:Addr):FuncData:=ksFn "__init__" "Twice.__init__" (bJ sTw) (bo sTw) (ar sTw) (.ref dT) kV doc pm an (.ref cda) ct cc
section
variable {prog:Program} {w:World} {A:Around} {E:Value->Shared->Prop} {h:Heap} {g:Array GenState} {d:Drawn} {t:Nat} {os:OsState} {K:Frag}
variable {nm q:Str} {C N x:Addr} {bs bm bmB:List Value} {sn:List Str} {sub:List Value} {ab:Bool} {col:Option Bool} {dd:Option Addr} {k0 k1 k2 k3 k5:Option Value} {newId sa owner:String} {mN mg mb:Str->Option Value} {v:Value}
theorem wu {M:Model} {b x:Addr} {Q:Keeper->Shared->Prop} {s:Shared} (hb:s.heap.get? b=some (jW x)) (hq:Q .machine s):wpAny M A (keeperOf (.ref b)) Q E s:=by
 unfold keeperOf
 exact wpAny_bind (wpAny_load hb (wpAny_pure hq))
theorem zh {kV doc pm ct oc ccl cl dv0:Value} {dT:Addr} {odT:Option Addr} {nT:Nat} {slT:Array (Option Value)} {an od cdd cld:Option Addr} {osl ccs csl:Array (Option Value)} {fI cda cc:Addr} {vs:Array Value} {file:Str} {tf:Tok} {t0:Addr} {Q:Value->Shared->Prop}
  (F:ExcBaseFacts "ValueError" newId "ValueError.__init__" bmB) (SF:StoreFacts "ValueError" bmB sa owner) (X:K.In h)
  (hC:h.get? C=some (excClassObj nm q C N bs bm true sn sub ab col dd k0 k1 k2 k3 k5 newId)) (hn:h.Ns N mN) (hns:mN "__setattr__"=none) (hna:mN "title"=none) (T:cb h bmB "title" bm) (T2:cb h bmB "__setattr__" bm)
  (hx:h.get? x=some { cls:=.ref C,data:=.fields #[.ref t0,.none,.none,.none,.bool false,.none] })
  (hroom:A.depth<recursionLimit) (hlim:h.NoLimit) (hg:h.Ns mainGlobals mg) (hb:h.Ns builtinsNs mb) (hbb:mb "super"=some (.type "super")) (hsg:mg "super"=none)
  (hf:K.lookup fI=some ⟨oc,od,.func (Ak dT kV doc pm an cda ct cc),osl⟩) (hcd:codeIn K (.ref cda) "Twice.__init__"=true)
  (hdT:K.lookup dT=some ⟨.type "tuple",odT,.seq #[dv0] nT,slT⟩)
  (hcode:K.lookup cda=some ⟨ccl,cdd,.fields vs,ccs⟩) (hvs:vs[2]?=some (.str file tf)) (hfile:((prog.main.file:Str)==file)=true) (hcell:K.lookup cc=some ⟨cl,cld,.cell (some (.ref C)),csl⟩)
  (hsub:mroIn K C (.ref C)=some true) (hm:ks_superIn K C C "__init__"=some (some (.builtin "ValueError.__init__"))) (hop:nsIn K cStatics "thirdparty.any"=some none)
  (htop:(prog.main.scope.names.lookup ("super":Str)).isSome=false)
  (hq:∀ h' tk' dx t1,h'.get? x=some { cls:=.ref C,dict:=some dx,data:=.fields #[.ref t1,.none,.none,.none,.bool false,.none] }->(∀ b o,b≠x->h.get? b=some o->h'.get? b=some o)->Q .none ⟨h',g,d,tk',os⟩):
  wpAny (model prog w) A (call (.ref fI) [.ref x,v]) Q E ⟨h,g,d,t,os⟩:=by
 refine wpAny_call ?_
 refine ks_codeAny_call_defAt (fd:=Ak dT kV doc pm an cda ct cc) (body:=bo sTw) (binds:=[("self",.ref x),("title",v)])
  hroom (X _ _ hf) rfl hlim (codeRec_of X hcd) rfl (.of_defaults rfl (X _ _ hdT) rfl rfl rfl) (show ∀ y∈(ar sTw).names,y.2≠.cell by decide +kernel) (λ y hy=>?_) (λ h1 hns1 k1=>?_) rfl rfl rfl
 ·rcases List.mem_cons.mp hy with rfl | hy
  ·exact rfl
  ·rw [List.mem_singleton.mp hy];exact rfl
 have X1:=X.keeps k1
 have hC1:=k1 _ _ hC
 have hx1:=k1 _ _ hx
 refine ks_wpAt_execs_cons (ks_wpAt_Expr_any (ks_wpAt_MethodCall ?_))
 refine ks_wpAt_super_base (f:=fI) (cc:=cda) (file:=file) (vs:=vs) rfl rfl (by decide) rfl (X1 _ _ hf) rfl rfl rfl (X1 _ _ hcode) rfl hvs hfile htop ?_
 refine ks_loadName_global rfl rfl (loadGlobal_builtin (hg.keeps k1) hsg (hb.keeps k1) hbb ⟨rfl,?_⟩)
 refine wpAny_loadName_free rfl rfl rfl ⟨_,X1 _ _ hcell,rfl⟩ ?_
 refine wpAny_loadName_local rfl rfl hns1 rfl ?_
 refine ks_wpAny_isType_cls hC1 rfl ⟨rfl,?_⟩
 refine ks_wpAny_call_super hC1 rfl hx1 rfl (λ c e=>by cases e) (looks_mroIn X1 hsub) (λ h2 e2 k2=>?_)
 have X2:=X1.keeps k2
 have hC2:=k2 _ _ hC1
 have hx2:=k2 _ _ hx1
 have hxC:x≠C:=λ e=>by rw [e,hC] at hx;cases hx
 have hcV:(Value.ref C::bm).contains (.type "ValueError")=true:=by rw [List.contains_cons,T.hasType F.hasB,Bool.or_true]
 cases hc:clsIn K C with
 | none=>unfold ks_superIn at hm;rw [hc] at hm;cases hm
 | some cd=>
 unfold ks_superIn at hm
 rw [hc] at hm
 refine qm e2 (looks_opaque X2 hop) hC2 hcV (l₀:=cd.mro) (λ A Q E s k q=>wpAny_bind ((looks_clsIn X2 hc) A _ E s k (wpAny_pure q))) rfl X2 hm hx2 rfl hxC (by decide) ?_
 have k3:∀ y o,h2.get? y=some o->(h2.push (jW x)).get? y=some o:=λ y o e=>Heap.get?_push_of_some _ e
 have hC3:=k3 _ _ hC2
 have hx3:=k3 _ _ hx2
 have hm3:(h2.push (jW x)).get? h2.objs.size=some (jW x):=Heap.get?_push_at rfl rfl
 have hns3:=(hns1.keeps k2).keeps k3
 have k13:∀ y o,h1.get? y=some o->(h2.push (jW x)).get? y=some o:=λ y o e=>k3 y o (k2 y o e)
 generalize h2.push (jW x)=h3 at hC3 hx3 hm3 hns3 k13 ⊢
 generalize h2.objs.size=mw at hm3 ⊢
 unfold callWith
 refine wpAny_bind (wpAny_holding (evalArgs_plain (spliced_cons ?_)))
 rw [if_neg Bool.false_ne_true]
 refine Constant_str (spliced_nil (wpAny_bind (wpAny_standAt ?_)))
 refine wpAny_bind (wu hm3 ?_)
 refine wpAny_bind (wpAny_call (zk F hC3 hm3 hx3 ?_))
 refine wpAny_bind (wpAny_holding (wpAny_point (wpAny_pure ?_)))
 have cK:∀ b o,h3.get? b=some o->b≠x->((h3.push { cls:=.type "tuple",data:=.seq #[.str "two kinds have the same title" (t+2+1)] }).update x (Obj.mapFields λ x=>x.setIfInBounds 0 (.ref h3.objs.size))).get? b=some o:=λ b o e n=>by
  rw [Heap.get?_update_ne _ _ _ _ n];exact Heap.get?_push_of_some _ e
 have hx4:((h3.push { cls:=.type "tuple",data:=.seq #[.str "two kinds have the same title" (t+2+1)] }).update x (Obj.mapFields λ x=>x.setIfInBounds 0 (.ref h3.objs.size))).get? x=some { cls:=.ref C,data:=.fields #[.ref h3.objs.size,.none,.none,.none,.bool false,.none] }:=by
  rw [Heap.get?_update_self _ (Heap.get?_push_of_some _ hx3) rfl];rfl
 show PySem.wpAt (model prog w) _ _ (execs _ _) _ _ (⟨(h3.push { cls:=.type "tuple",data:=.seq #[.str "two kinds have the same title" (t+2+1)] }).update x (Obj.mapFields λ x=>x.setIfInBounds 0 (.ref h3.objs.size)),g,d,t+2+1+1,os⟩:Shared)
 generalize (h3.push { cls:=.type "tuple",data:=.seq #[.str "two kinds have the same title" (t+2+1)] }).update x _=h4 at cK hx4 ⊢
 have stay':∀ b o,h.get? b=some o->(∀ vs,o.data≠.fields vs)->h4.get? b=some o:=λ b o e n=>cK _ _ (k13 _ _ (k1 _ _ e)) λ z=>by
  rw [z,hx] at e;cases e;exact n _ rfl
 have hns4:h4.Ns h.objs.size λ y=>List.lookup y [("title",v),("self",Value.ref x)]:=qf hns3 λ b o e n=>cK b o e λ z=>by
  rw [z,hx3] at e;cases e;exact n _ rfl
 refine ks_wpAt_execs_cons (ks_wpAt_Assign_Attr (wpAt_of_wpAny (wpAny_Name (wpAny_loadName_local rfl rfl hns4 rfl ?_))))
 refine wpAny_Name (wpAny_loadName_local rfl rfl hns4 rfl ?_)
 refine tQ SF (T.cK stay') (T2.cK stay') (stay' _ _ hC λ vs y=>by cases y) (qf hn stay') hns hna (by rw [typeLookup_type,builtinLookup_eq_fast];kernel_rfl) hx4 rfl (λ c y=>by cases y) rfl (λ h5 tk5 dx hx5 k5=>?_)
 have fin:Q .none ⟨h5,g,d,tk5,os⟩:=hq h5 tk5 dx _ hx5 λ b o n e=>k5 b o n (cK _ _ (k13 _ _ (k1 _ _ e)) n)
 exact wpAt_of_wpAny (wpAny_pure fin)
end
abbrev bmV:List Value:=[.type "ValueError",.type "Exception",.type "BaseException",.type "object"]
def j7 (K:Frag) (bmB:List Value) (n:Str):List Value->Bool
 | []=>bmB==[]
 | v::r=>(v::r)==bmB||match v with
  | .ref A=>(match K.lookup A with
   | some ⟨_,_,.cls cd,_⟩=>nsOkIn K cd.ns&&nsIn K cd.ns n==some none&&j7 K bmB n r
   | _=>false)
  | _=>false
theorem iK {K:Frag} {h:Heap} {bmB:List Value} {n:Str} (X:K.In h):∀ {l:List Value},j7 K bmB n l=true->cb h bmB n l
 | [],e=>by rw [<- beq_iff_eq.mp e];exact .base
 | v::r,e=>by
  unfold j7 at e
  rcases Bool.or_eq_true_iff.mp e with q | q
  ·rw [beq_iff_eq.mp q];exact .base
  ·split at q
   ·split at q
    ·rename_i ho
     simp only [Bool.and_eq_true,beq_iff_eq] at q
     exact .own (X _ _ ho) (.of_isNs (isNs_of_in X q.1.1)) (nsMap_none_of_in X q.1.1 q.1.2) (iK X q.2)
    ·cases q
   ·cases q
def vd (K:Frag) (C fI:Addr):Bool:=match K.lookup C with
 | some ⟨.type "type",_,.cls cd,sl⟩=>(match cd.mro,sl.toList with
  | .ref C'::bm,[_,_,_,_,some (.builtin n),_]=>C'==C&&n=="ValueError.__new__"&&!cd.hasDel&&cd.hasDict&&tailIn K bmV bm&&j7 K bmV "__setattr__" bm&&j7 K bmV "title" bm&&nsOkIn K cd.ns&&nsIn K cd.ns "__init__"==some (some (.ref fI))&&nsIn K cd.ns "__setattr__"==some none&&nsIn K cd.ns "title"==some none
  | _,_=>false)
 | _=>false
theorem sW {K:Frag} {h:Heap} {N:Addr} {m:Str->Option Value} {n:Str} {v:Value} (X:K.In h) (G:h.Ns N m) (e:nsIn K N n=some (some v)):m n=some v:=by
 obtain ⟨o,es,ep,ho,hd,_,hf⟩:=G
 unfold nsIn at e
 split at e
 ·rename_i c d es' n' sl q
  have:=X _ _ q
  rw [ho] at this
  cases this
  cases hd
  split at e
  ·rename_i en he
   cases e
   rw [<- hf]
   unfold nsFind findBy
   rw [<- Array.find?_toList,he]
   rfl
  ·split at e <;> cases e
 ·cases e
theorem xS {K:Frag} {h:Heap} {C fI:Addr} (X:K.In h) (z:vd K C fI=true):
  ∃ bm N nm q bs sn sub ab col dd k0 k1 k2 k3 k5 mN,h.get? C=some (excClassObj nm q C N bs bm true sn sub ab col dd k0 k1 k2 k3 k5 "ValueError.__new__")/\h.Ns N mN/\mN "__init__"=some (.ref fI)/\mN "__setattr__"=none/\mN "title"=none/\OwnTail h bmV bm/\cb h bmV "__setattr__" bm/\cb h bmV "title" bm:=by
 unfold vd at z
 split at z
 ·rename_i dd cd sl ho
  split at z
  ·rename_i C' bm k0 k1 k2 k3 n k5 hm hs
   simp only [Bool.and_eq_true,beq_iff_eq,Bool.not_eq_true'] at z
   obtain ⟨⟨⟨⟨⟨⟨⟨⟨⟨⟨rfl,rfl⟩,hdel⟩,hdi⟩,ht⟩,ht1⟩,ht2⟩,hok⟩,z1⟩,z2⟩,z3⟩:=z
   obtain ⟨nm,bs,mro,ns,qn,hd,sn,sub,ab,col,del⟩:=cd
   dsimp only at hm hdel hdi hok z1 z2 z3
   subst hm hdel hdi
   obtain ⟨l⟩:=sl
   simp only at hs
   subst hs
   have G:h.Ns ns (h.nsMap ns):=.of_isNs (isNs_of_in X hok)
   exact ⟨bm,ns,nm,qn,bs,sn,sub,ab,col,dd,k0,k1,k2,k3,k5,_,X _ _ ho,G,sW X G z1,ns_none_of X G z2,ns_none_of X G z3,tail_of_in X ht,iK X ht1,iK X ht2⟩
  ·cases z
 ·cases z
structure TwC (P:Program) (K:Frag) (mg:Str->Option Value) (C:Addr):Prop where
 fn:∃ (fI dT cda cc:Addr) (kV doc pm ct ccl cl dv0:Value) (an od odT cdd cld:Option Addr) (nT:Nat) (slT osl ccs csl:Array (Option Value)) (vs:Array Value) (file:Str) (tf:Tok),vd K C fI=true /\
  K.lookup fI=some ⟨.type "function",od,.func (Ak dT kV doc pm an cda ct cc),osl⟩/\codeIn K (.ref cda) "Twice.__init__"=true/\K.lookup dT=some ⟨.type "tuple",odT,.seq #[dv0] nT,slT⟩/\K.lookup cda=some ⟨ccl,cdd,.fields vs,ccs⟩/\vs[2]?=some (.str file tf)/\((P.main.file:Str)==file)=true /\
  K.lookup cc=some ⟨cl,cld,.cell (some (.ref C)),csl⟩
 sub:mroIn K C (.ref C)=some true
 sup:ks_superIn K C C "__init__"=some (some (.builtin "ValueError.__init__"))
 opq:nsIn K cStatics "thirdparty.any"=some none
 top:(P.main.scope.names.lookup ("super":Str)).isSome=false
 sg:mg "super"=none
section
variable {M:Model} {A:Around} {E:Value->Shared->Prop} {env:Env}
variable {nm q:Str} {C N:Addr} {bs bm:List Value} {hdct:Bool} {sn:List Str} {sub:List Value} {ab:Bool} {col:Option Bool} {dd:Option Addr} {k0 k1 k2 k3 k5:Option Value} {newId:String}
theorem tE {s:Shared} {x:Sem Value} {Q:Flow->Shared->Prop} (hbase:bm.contains (.type "BaseException")=true) (hh:A.handled=none)
  (h:wpAny M A x (λ v s₁=>∃ e t dct,v=.ref e/\s₁.heap.get? C=some (excClassObj nm q C N bs bm hdct sn sub ab col dd k0 k1 k2 k3 k5 newId)/\s₁.heap.get? e=some { cls:=.ref C,dict:=dct,data:=.fields #[.ref t,.none,.none,.none,.bool false,.none] }/\E (.ref e) s₁) E s):
  wpAny M A (raiseStmt env (some x) none) Q E s:=by
 have hcB:(Value.ref C::bm).contains (.type "BaseException")=true:=by rw [List.contains_cons,hbase,Bool.or_true]
 unfold raiseStmt
 refine wpAny_bind (wpAny_mono h (λ v s₁ h₁=>?_) λ _ _ x=>x)
 obtain ⟨e,t,dct,rfl,hC,he,hE⟩:=h₁
 obtain ⟨hp,g,d,tk,os⟩:=s₁
 repeat (first | with_reducible refine wpAny_loadPart_at he ?_ | with_reducible refine wpAny_loadPart_at hC ?_ | (with_reducible refine wpAny_isSubtype_exc hC ?_;rw [hcB]) | wp_step)
 exact wpAny_raiseNew_none hh hE
end
section
variable {prog:Program} {w:World} {A:Around} {E:Value->Shared->Prop} {s:Shared} {env:Env}
variable {nm q:Str} {C N:Addr} {bs bm bmB:List Value} {hdct:Bool} {sn:List Str} {sub:List Value} {ab:Bool} {col:Option Bool} {dd:Option Addr} {k0 k1 k2 k3 k5:Option Value} {B newId initId:String}
theorem sf (F:ExcBaseFacts B newId initId bmB) {mN:Str->Option Value} {x:Str} {np cpos pos:Pos} {args:List Expr} {Q:Flow->Shared->Prop} {fI:Addr}
  (hbase:bm.contains (.type "BaseException")=true) (hh:A.handled=none) (hplain:(backTo cpos (starEach args env)).any (·.1)=false) (hni:mN "__init__"=some (.ref fI))
  (h:wpAny (model prog w) A (eval (.Name x np) env) (λ f s₁=>f=.ref C/\wpAny (model prog w) A (evalArgs (.ref C) true (backTo cpos (starEach args env)) [])
   (λ a s₂=>a.kw=[]/\a.pos.length<=sizeLine/\s₂.heap.get? C=some (excClassObj nm q C N bs bm hdct sn sub ab col dd k0 k1 k2 k3 k5 newId)/\s₂.heap.Ns N mN/\OwnTail s₂.heap bmB bm/\(∃ oI,s₂.heap.get? fI=some oI/\oI.cls=.type "function") /\
    ∀ h' e,Heap.MadeExcOf s₂.heap h' e (.ref C) a.pos->wpAny (model prog w) (A.under (.builtin "type.__call__" ⟨.ref C::a.pos,[]⟩)) (call (.ref fI) (.ref e::a.pos)) (λ r s'=>r=.none/\∃ t dct,s'.heap.get? C=some (excClassObj nm q C N bs bm hdct sn sub ab col dd k0 k1 k2 k3 k5 newId)/\s'.heap.get? e=some { cls:=.ref C,dict:=dct,data:=.fields #[.ref t,.none,.none,.none,.bool false,.none] }/\E (.ref e) s') E { s₂ with heap:=h' }) E s₁) E s):
  wpAny (model prog w) A (exec (.Raise (some (.Call (.Name x np) args [] cpos)) none pos) env) Q E s:=by
 rw [arm_exec_Raise]
 refine wpAny_bind (wpAny_standAt (tE (C:=C) (nm:=nm) (q:=q) (N:=N) (bs:=bs) (bm:=bm) (hdct:=hdct) (sn:=sn) (sub:=sub) (ab:=ab) (col:=col) (dd:=dd) (k0:=k0) (k1:=k1) (k2:=k2) (k3:=k3) (k5:=k5) (newId:=newId) hbase hh (wpAny_bind (wpAny_mono (wpAny_Call_ofName (wpAny_mono h (λ f s₁ h₁=>?_) λ _ _ x=>x)) (λ v s₃ h₃=>wpAny_bind (wpAny_standAt (wpAny_pure h₃))) λ _ _ x=>x))))
 obtain ⟨rfl,h₁⟩:=h₁
 unfold callWith
 refine wpAny_bind (wpAny_holding (wpAny_mono h₁ (λ a s₂ h₂=>wpAny_bind (wpAny_standAt ?_)) λ _ _ x=>x))
 obtain ⟨apos,akw⟩:=a
 obtain ⟨hkw,hlen,hC,hn,T,⟨oI,hfI,hfc⟩,h₂⟩:=h₂
 obtain rfl:akw=[]:=hkw
 obtain ⟨hp,g,d,tk,os⟩:=s₂
 simp only [hplain]
 refine wpAny_bind (wpAny_keeperOf_exc hC ?_)
 refine wpAny_bind (mR (hrest:=hlen) F T hC hn hni hfI hfc λ h' e hm=>wpAny_mono (h₂ h' e hm) (λ r s' z=>?_) λ _ _ x=>x)
 obtain ⟨rfl,t,dct,z1,z2,z3⟩:=z
 exact ⟨rfl,wpAny_bind (wpAny_holding (wpAny_point (wpAny_pure ⟨e,t,dct,rfl,z1,z2,z3⟩)))⟩
end
section
variable {P:Program} {w:World} {K:PySem.W.Frag} {mg:Str->Option Value} {base:Heap} {N:List Str} {qual:Str} {scope:Scope} {f:Addr} {cd:Value} {A:Around} {outer:List Env} {s:Shared} {H:Hp} {E:XK}
theorem uI {x:Str} {C:Addr} {np cpos pos:Pos} {e:Expr} {ta:TA} (TW:TwC P K mg C) (hm:mg x=some (.ref C)) (hh:A.handled=none) (hroom:(A.deeper (envOfC qual scope s.heap.objs.size f cd)).depth+2<recursionLimit)
  (hg:Gl (ix (CXE P w) P w K mg base N qual scope f cd A outer s H E) x) (ha:PA (ix (CXE P w) P w K mg base N qual scope f cd A outer s H E) [e] ta) (hd:(x==("__debug__":Str))=false:=by decide)
  (he:starEach [e] (envOfC qual scope s.heap.objs.size f cd)=(false,eval e (envOfC qual scope s.heap.objs.size f cd))::starEach [] (envOfC qual scope s.heap.objs.size f cd):=by rfl)
  (hl:∀ σ H Q,ta σ H Q->ta σ H λ xs H1=>xs.length<=sizeLine/\(∃ y,xs=[y])/\Q xs H1):
  PS (ix (CXE P w) P w K mg base N qual scope f cd A outer s H E) (.Raise (some (.Call (.Name x np) [e] [] cpos)) none pos) (tO C E ta):=by
 intro pins s1 σ H1 D I h
 obtain ⟨fI,dT,cda,cc,kV,doc,pm,ct,ccl,cl,dv0,an,od,odT,cdd,cld,nT,slT,osl,ccs,csl,vs0,file,tf,z,lf,lc,ld,lk,lv,lfile,lcell⟩:=TW.fn
 obtain ⟨bm,Nn,nm,q,bs,sn,sub,ab,col,dd,k0,k1,k2,k3,k5,mN,hCo,hN,hni,hns,hna,T,T2,T3⟩:=xS I.ok.mod.kin z
 have kb:∀ {s2:Shared} {H2:Hp},Inv (ix (CXE P w) P w K mg base N qual scope f cd A outer s H E) pins σ H2 s2->∀ b o,base.get? b=some o->s2.heap.get? b=some o:=λ J=>J.bk
 have FB:=PySem.F.excBase_ValueError
 refine sf (C:=C) (nm:=nm) (q:=q) (N:=Nn) (bs:=bs) (bm:=bm) (hdct:=true) (sn:=sn) (sub:=sub) (ab:=ab) (col:=col) (dd:=dd) (k0:=k0) (k1:=k1) (k2:=k2) (k3:=k3) (k5:=k5) FB (mN:=mN) (T.hasType FB.hasBase)
  (show (A.deeper _).handled=none from hh) (by
   show (backTo cpos (starEach [e] (envOfC qual scope s.heap.objs.size f cd))).any (·.1)=false
   rw [he];rfl) hni (gI I hg hm ⟨rfl,?_⟩ hd)
 have ha':=thn (ha cpos pins s1 σ H1 _ I (hl _ _ _ h)) λ us s2 (z:AP _ _ _ _ us s2)=>z
 show wpAny _ _ (evalArgs (.ref C) true (backTo cpos (starEach [e] (envOfC qual scope s.heap.objs.size f cd))) []) _ _ s1
 have ha'':wpAny (model P w) (A.deeper (envOfC qual scope s.heap.objs.size f cd)) (spliced (backTo cpos (starEach [e] (envOfC qual scope s.heap.objs.size f cd)))) _ _ s1:=ha'
 rw [he] at ha'' ⊢
 refine Calls.evalArgs_plain (thn ha'' λ us s2 z=>?_)
 obtain ⟨vs,H2,I2,rv,hz,⟨yv,ey⟩,hE⟩:=z
 subst ey
 obtain ⟨u,rfl,ru⟩:=rv.one
 have kb2:=kb I2
 refine ⟨rfl,hz,kb2 _ _ hCo,hN.keeps kb2,T.keeps kb2,⟨_,kb2 _ _ (I.ok.mod.kin _ _ lf),rfl⟩,λ h' a hx=>?_⟩
 obtain ⟨t0,hx0,_,_⟩:=hx.there
 have kb3:∀ b o,base.get? b=some o->h'.get? b=some o:=λ b o e=>hx.keeps _ _ (kb2 b o e)
 obtain ⟨mb,hmb,hbb⟩:=I.ok.mod.blt
 have ab:∀ b o,s2.heap.get? b=some o->b≠a:=λ b o e n=>by rw [n,hx.new] at e;cases e
 refine zh FB PySem.F.store_ValueError (I.ok.mod.kin.keeps kb3) (kb3 _ _ hCo) (hN.keeps kb3) hns hna (T3.keeps kb3) (T2.keeps kb3) hx0 ?_ (I.ok.mod.nolimit.keeps kb3) (I.ok.mod.glob.keeps kb3) (hmb.keeps kb3) ((hbb "super" (by decide)).trans ?_) TW.sg lf lc ld lk lv lfile lcell TW.sub TW.sup TW.opq TW.top (λ h5 tk5 dx t1 hx5 k5=>?_)
 ·refine Nat.lt_of_le_of_lt (Nat.le_of_eq nU) ?_
  show (A.deeper (envOfC qual scope s.heap.objs.size f cd)).depth+1<recursionLimit
  omega
 ·exact rfl
 have keep5:∀ b o,s2.heap.get? b=some o->h5.get? b=some o:=λ b o e=>k5 b o (ab b o e) (hx.keeps b o e)
 refine ⟨rfl,t1,some dx,keep5 _ _ (kb2 _ _ hCo),hx5,?_⟩
 show wpAny _ _ (leaving (envOfC qual scope s.heap.objs.size f cd) (.ref a)) _ _ _
 have hin:∀ env∈(envOfC qual scope s.heap.objs.size f cd::outer),∀ b,env.frame=some b->b∈frs (envOfC qual scope s.heap.objs.size f cd::outer):=λ env he b hb=>List.mem_filterMap.mpr ⟨env,he,hb⟩
 have FF:s2.heap.FunFrames (PySem.W.hideAll s2.heap (frs (envOfC qual scope s.heap.objs.size f cd::outer))) (envOfC qual scope s.heap.objs.size f cd::outer):=PySem.W.funFrames_hide I2.stack hin
 have hen:(PySem.W.hideAll s2.heap (frs (envOfC qual scope s.heap.objs.size f cd::outer))).get? a=none:=by
  cases z:(PySem.W.hideAll s2.heap (frs (envOfC qual scope s.heap.objs.size f cd::outer))).get? a with
  | none=>rfl
  | some o=>have:=PySem.W.of_hideAll _ z;rw [hx.new] at this;cases this
 refine wpAny_leaving_firstW (a0:=.ref t1) I.ok.frames (FF.of_keeps λ b o hb _=>⟨o,keep5 b o hb,rfl⟩) rfl hx5 (λ b o hb=>keep5 b o (PySem.W.of_hideAll _ hb)) hen rfl rfl rfl λ h2 hL=>?_
 obtain ⟨l1,⟨_,_,l2⟩,l3,sm⟩:=hL
 have fl:Heap.FlyingW (PySem.W.hideAll s2.heap (frs (envOfC qual scope s.heap.objs.size f cd::outer))) outer a (.ref C) (.ref t1) h2:=⟨l1,hen,l2,l3⟩
 have ib:Un (frs outer) [] H H2 s.heap s2.heap:=I2.base
 have oldL:∀ b o,s.heap.get? b=some o->b ∉ frs outer->b ∉ frs (envOfC qual scope s.heap.objs.size f cd::outer):=λ b o e hb z=>by
  rcases List.mem_cons.mp (I2.hW b z) with y | y
  ·have:b=s.heap.objs.size:=y
   exact absurd (Heap.lt_size e) (by rw [this];exact Nat.lt_irrefl _)
  ·exact hb y
 have cov:Cov (PySem.W.hideAll s2.heap (frs (envOfC qual scope s.heap.objs.size f cd::outer))) outer H2 s.heap:=by
  refine ⟨λ b o e hb=>?_,λ b u e=>?_⟩
  ·obtain ⟨o1,e1⟩:=ib.there b o e (by simp)
   exact ⟨o1,PySem.W.hideAll_get _ e1 (oldL b o e hb)⟩
  ·obtain ⟨o1,e1⟩:=(I2.hok b u e).there
   refine ⟨o1,PySem.W.hideAll_get _ e1 λ z=>?_⟩
   rw [I2.gh b z] at e
   cases e
 have f2:h5.FunFrames (PySem.W.hideAll s2.heap (frs (envOfC qual scope s.heap.objs.size f cd::outer))) outer:=by
  have z:h5.FunFrames (PySem.W.hideAll s2.heap (frs (envOfC qual scope s.heap.objs.size f cd::outer))) (envOfC qual scope s.heap.objs.size f cd::outer):=FF.of_keeps λ b o hb _=>⟨o,keep5 b o hb,rfl⟩
  obtain ⟨_,_,z⟩:=z
  exact z
 have u1:Un (frs outer) [] H H2 s.heap h5:=⟨λ b o e n hb hx'=>keep5 _ _ (ib.keep b o e n hb hx'),λ b o e n hb hx'=>let ⟨sl,z⟩:=ib.slot b o e n hb hx';⟨sl,keep5 _ _ z⟩,ib.free,λ b o e hx'=>let ⟨o1,z⟩:=ib.there b o e hx';⟨o1,keep5 _ _ z⟩,ib.jB,ib.je,ib.jH⟩
 have na2:∀ {b:Addr},s2.heap.get? b=none->H2 b=none:=λ {b} e=>by
  cases z:H2 b with
  | none=>rfl
  | some u=>
   obtain ⟨o1,e1⟩:=(I2.hok b u z).there
   rw [e] at e1
   cases e1
 obtain ⟨un2,hok2⟩:=iT u1 (I2.hok.kept keep5) cov (λ b o z=>keep5 _ _ (PySem.W.of_hideAll _ z)) fl.1 f2 sm
 refine ⟨a,C,t1,_,H2,rfl,fl,cov,un2,hok2,na2 hx.new,?_,I2.bare,I2.os,hE⟩
 cases z:s.heap.get? a with
 | none=>rfl
 | some o=>
  obtain ⟨o1,e1⟩:=ib.there a o z (by simp)
  rw [hx.new] at e1
  cases e1
end
theorem qJ {x:Str} {l:List Str}:inV (.str x) (l.map V.str)=true↔x∈l:=by
 unfold inV
 rw [List.any_map,List.any_eq_true]
 constructor
 ·rintro ⟨y,hy,e⟩
  have e:(y==x)=true:=e
  rw [<- beq_iff_eq.mp e];exact hy
 ·intro h
  exact ⟨x,h,beq_self_eq_true x⟩
theorem wQ (x:Str) (l:List Str):inV (.str x) (l.map V.str)=decide (x∈l):=by
 rw [Bool.eq_iff_iff,qJ,decide_eq_true_eq]
section
variable {P:Program} {w:World} {K:PySem.W.Frag} {mg:Str->Option Value} {base:Heap} {a:Ad}
def fm (a:Ad) (H:Hp) (zs:List Addr) (tt:List Str):Prop:=zs.length=tt.length/\∀ (i:Nat) o t,zs[i]?=some o->tt[i]?=some t->∃ e n,iP a H o t e n
theorem fm.same {H H':Hp} {zs:List Addr} {tt:List Str} (h:fm a H zs tt) (s:ak H H'):fm a H' zs tt:=⟨h.1,λ i o t x y=>by
 obtain ⟨e,n,k⟩:=h.2 i o t x y
 exact ⟨e,n,k.same s⟩⟩
abbrev BF (K:PySem.W.Frag) (mg:Str->Option Value):=Df K mg "check_titles" "check_titles" (top 35) ["kinds"]
def yE (a:Ad):Sp:=λ vs H Q E=>∃ (l:Addr) (ts:List Addr) (ks:List Str),vs=[.ref l]/\H l=some (.lst (ts.map .ref))/\fm a H ts ks/\ks.length<=1000/\(ks.Nodup->Pure .non H Q)/\(¬ ks.Nodup->∀ H',ak H H'->E (.ref a.jo) none H')
theorem Bg:aH ["kinds","titles","kind"] ["kinds"] (ar (top 35)):=⟨rfl,rfl,rfl,by decide +kernel,rfl,by decide +kernel,by decide +kernel⟩
theorem BY (D:BF K mg) (TW:TwC P K mg a.jo) (T:Txt K mg a):F1 P w base 1 D (yE a):=by
 refine Df.okE (k:=0) D.ex Bg (λ vs H Q E h=>?_) (λ A outer s H vs Q E hr h=>?_)
 ·obtain ⟨l,ts,ks,rfl,_⟩:=h;rfl
 ·obtain ⟨l,ts,ks,rfl,h1,⟨h2,h3⟩,hlen,k,ke⟩:=h
  have nd:=Bg.nd
  have hh:A.handled=none:=hr.hd
  have line:1000<sizeLine:=by decide
  refine ⟨_,(ah (ay (i:=1) nd rfl (Or.inl rfl) (aM aa))
 (aj (dH PassesOwn.leaving rfl (bx (pv 0)) (aA (i:=2) nd rfl (Or.inl rfl))
 (ah (aY (aB lN (aS (pv 2) (by rfl)) (pv 1) (by with_unfolding_all rfl))
 (aj (uI TW T.hU hh (by have:=hr.dp;omega) (by rfl) (ag (aS (pv 2) (by rfl)) aa) (hl:=λ _ _ _ ⟨x,hx,p,C,dx,fs,v,h1,h2,h3,h4,h5,q⟩=>⟨x,hx,p,C,dx,fs,v,h1,h2,h3,h4,h5,by show 1<=sizeLine;decide,⟨_,rfl⟩,q⟩)))
 aE)
 (aj (bj (cN PySem.F.plainAttrs_list PySem.F.slot_list_append PySem.F.type_list_append br (pv 1) (ag (aS (pv 2) (by rfl)) aa)))))))),?_⟩
  lia
  refine ⟨by show 0<=sizeLine;decide,λ t ht=>?_⟩
  lia
  have nlt:l≠t:=ao h1 ht
  refine ⟨l,rfl,⟨_,SqL.of (by rw [aq nlt];exact h1)⟩,forL (K:=K) (a:=l) (xs:=ts.map V.ref) (λ i σ H2=>∃ v2,σ=[some (V.ref l),some (V.ref t),v2]/\(∀ c o,H c=some o->H2 c=some o)/\H2 t=some (.lst ((ks.take i).map .str))/\(ks.take i).Nodup)
   ⟨none,rfl,λ c o e=>by rw [aq (ao e ht)];exact e,ae,List.nodup_nil⟩ (λ i σ H2 _ ⟨_,_,e,_⟩=>SqL.of (e _ _ h1)) ?_ ?_⟩
  ·rintro i v σ H2 hv ⟨v2,rfl,kp,g2,hnd⟩
   rw [List.getElem?_map] at hv
   obtain ⟨p,hp,rfl⟩:=Option.map_eq_some_iff.mp hv
   have hi:i<ts.length:=(List.getElem?_eq_some_iff.mp hp).1
   have hi':i<ks.length:=by omega
   have hki:ks[i]?=some ks[i]:=List.getElem?_eq_getElem hi'
   obtain ⟨_,n,kf⟩:=h3 i p ks[i] hp hki
   obtain ⟨dx,fs,r1,r2⟩:=(kf.same kp).ob
   have et:ks.take (i+1)=ks.take i++[ks[i]]:=by rw [List.take_succ,hki];rfl
   lia
   refine ⟨p,a.Kind,dx,fs,_,rfl,r1,T.clK,T.dW,r2.title,?_⟩
   lia
   refine ⟨t,_,rfl,.inl (SqL.of g2),rfl,b7 _,?_⟩
   rw [if_neg Bool.false_ne_true,wQ]
   by_cases nin:ks[i]∈ks.take i
   ·rw [decide_eq_true nin]
    lia
    refine ⟨p,a.Kind,dx,fs,_,rfl,r1,T.clK,T.dW,r2.title,?_⟩
    refine ke (λ z=>?_) H2 kp
    have:=z.sublist (List.take_sublist (i+1) ks)
    rw [et,List.nodup_append] at this
    exact this.2.2 _ nin _ (.head _) rfl
   rw [decide_eq_false nin]
   lia
   refine ⟨.inl ⟨rfl,_,SqL.of g2⟩,?_⟩
   lia
   refine ⟨p,a.Kind,dx,fs,_,rfl,r1,T.clK,T.dW,r2.title,?_⟩
   lia
   refine ⟨t,_,_,rfl,rfl,g2,by rw [List.length_map,List.length_take];omega,?_⟩
   refine ⟨_,rfl,λ c o e=>by rw [aq (ao e ht)];exact kp c o e,?_,?_⟩
   ·rw [ae,et,List.map_append]
    rfl
   ·rw [et,List.nodup_append]
    exact ⟨hnd,by simp,λ x hx y hy e=>nin (by rw [List.mem_singleton.mp hy] at e;exact e ▸ hx)⟩
  ·rintro σ H2 ⟨v2,rfl,kp,g2,hnd⟩
   rw [List.length_map,h2,List.take_length] at hnd
   exact k hnd H2 kp
structure CC (fs:List (Str×V)) (b:Int) (r q k:Addr):Prop where
 bound:fs.lookup ("bound":Str)=some (.int b)
 rules:fs.lookup ("rules":Str)=some (.ref r)
 x4:fs.lookup ("melts":Str)=some (.ref q)
 kinds:fs.lookup ("kinds":Str)=some (.ref k)
noncomputable def meltV (H:Hp) (v:V):Bool:=match v with
 | .ref t=>match H t with
  | some (.tup [.str x,.str y,.str z])=>bh (x,y,z)
  | _=>false
 | _=>false
theorem rW {H:Hp} {t:Addr} {m:Str×Str×Str} (h:H t=some (eX m)):meltV H (.ref t)=bh m:=by
 unfold meltV eX at *
 simp only [h]
theorem oW {H:Hp}:∀ {ts:List Addr} {ms:List (Str×Str×Str)},ts.length=ms.length->(∀ (i:Nat) t m,ts[i]?=some t->ms[i]?=some m->H t=some (eX m))->((ts.map V.ref).all λ v=>meltV H v)=ms.all bh
 | [],[],_,_=>rfl
 | t::ts,m::ms,hl,h=>by
  rw [List.map_cons,List.all_cons,List.all_cons,rW (h 0 t m rfl rfl),oW (Nat.succ.inj hl) λ i t m a b=>h (i+1) t m a b]
abbrev sTI:Stmt:=inClass (top 32) 0
abbrev pTI:List Str:=["self","bound","rules","melts","kinds"]
abbrev x9 (K:PySem.W.Frag):=DfD K "__init__" "Tongue.__init__" sTI pTI
structure TgX (a:Ad) (H:Hp) (p:Addr) (b:Int) (r q k:Addr):Prop where
 ob:∃ dx fs,H p=some (.ins a.ba dx fs)/\CC fs b r q k
theorem TgX.same {H H':Hp} {p:Addr} {b:Int} {r q k:Addr} (R:TgX a H p b r q k) (s:ak H H'):TgX a H' p b r q k:=by
 obtain ⟨dx,fs,h1,h2⟩:=R.ob
 exact ⟨dx,fs,s _ _ h1,h2⟩
def qj (a:Ad):Sp:=λ vs H Q E=>∃ (p dx:Addr) (b:Int) (r:Addr) (vq vk:V) (rs ts ks:List Addr) (ms:List (Str×Str×Str)) (tt:List Str),vs=[.ref p,.int b,.ref r,vq,vk]/\H p=some (.ins a.ba dx [])/\H r=some (.lst (rs.map .ref))/\((vq=.non/\ts=[])∨∃ q,vq=.ref q/\H q=some (.lst (ts.map .ref)))/\((vk=.non/\ks=[])∨∃ q,vk=.ref q/\H q=some (.lst (ks.map .ref)))/\fm a H ks tt/\tt.length<=1000/\(ts.length=ms.length/\∀ (i:Nat) t m,ts[i]?=some t->ms[i]?=some m->H t=some (eX m))/\(∀ m∈ms,m.1.length<=10000/\m.2.1.length<=10000/\m.2.2.length<=10000)/\H a.tSL=some (Tb a.tSL)/\H a.tTI=some (Tb a.tTI) /\
 (b<0->∀ H',(∀ c o,H c=some o->c≠p->H' c=some o)->E (.ref a.ff) none H')/\(0<=b->ms.all bh=false->∀ H',(∀ c o,H c=some o->c≠p->H' c=some o)->E (.ref a.ic) none H')/\(0<=b->ms.all bh=true->¬ tt.Nodup->∀ H',(∀ c o,H c=some o->c≠p->H' c=some o)->E (.ref a.jo) none H') /\
 (0<=b->ms.all bh=true->tt.Nodup->∀ H' r' q' k',H r'=none->H q'=none->H k'=none->(∀ c o,H c=some o->c≠p->H' c=some o)->TgX a H' p b r' q' k'->H' r'=some (.lst (rs.map .ref))->H' q'=some (.lst (ts.map .ref))->H' k'=some (.lst (ks.map .ref))->Q .non H')
theorem C9:aH pTI pTI (ar sTI):=⟨rfl,rfl,rfl,by decide +kernel,rfl,by decide +kernel,by decide +kernel⟩
theorem zK (D:x9 K) (cP:cq K D.cdv a.tTI) (hB:jK base) (cY:Bz K mg) (mZ:F0 P w base 1 cY (xT K)) (i9:yn K mg) (vC:F0 P w base 3 i9 (uB a))
  (df:BF K mg) (mO:F1 P w base 1 df (yE a)) (T:Txt K mg a):c9 P w K mg base (CXE P w) 6 D.f D.fd pTI (qj a):=by
 refine DfD.okE (k:=5) D C9 (λ vs H Q E h=>?_) (λ A outer s H vs Q E hr h=>?_)
 ·obtain ⟨p,dx,b,r,vq,vk,rs,ts,ks,ms,tt,rfl,_⟩:=h;rfl
 ·obtain ⟨p,dx,b,r,vq,vk,rs,ts,ks,ms,tt,rfl,hp,hr0,hq1,hk1,hta,htl,⟨hml,hq3⟩,hms,tSL,tTI,kb,km,kt,k⟩:=h
  have hh:A.handled=none:=hr.hd
  have no:∀ {c:Addr} {o:HO},H c=some o->(o≠.ins a.ba dx [])->c≠p:=λ e n=>nG e hp n
  refine ⟨_,(ah (dS (pv 0) (pv 1) (by rfl))
 (ah (dS (pv 0) (bL bM (by rfl) T.cj boot_list (ag (pv 2) aa)) (by rfl))
 (ah (dS (pv 0) (av mZ (hr.mono (by decide)) (by rfl) cY.mg cY.kp cY.bd .nil aT (ag (pv 3) aa)) (by rfl))
 (ah (dS (pv 0) (av mZ (hr.mono (by decide)) (by rfl) cY.mg cY.kp cY.bd .nil aT (ag (pv 4) aa)) (by rfl))
 (ah (aY (aB iq (pv 1) af (aC _))
 (aj (bp PySem.F.excBase_ValueError T.mT.ex T.cW hh (by rfl) (ag aD aa) (hl:=λ _ _ _ z=>⟨by decide,z⟩)))
 aE)
 (ah (aY (bK (bu (mF (N:=["melt"]) (fs:=[]) (⟨rfl,rfl,rfl,by rfl,by rfl,trivial⟩) hB cP (hr.mono (by decide):bN (4+1) _) (by rfl) T.jV (bx (aS (pv 0) (by rfl))) (λ _ _ _ _ _ _ _=>by exact (aA (i:=0) (show List.Nodup (["melt"]:List Str) from by decide +kernel) rfl (Or.inl rfl))) (λ _ _ _ _ _ _ _ hr=>by exact (av vC (hr.mono (by decide)) (by rfl) i9.mg i9.kp i9.bd .nil aT (ag (pv 0) aa))))))
 (aj (bp PySem.F.excBase_ValueError T.pH.ex T.dO hh (by rfl) (ag aD aa) (hl:=λ _ _ _ z=>⟨by decide,z⟩)))
 aE)
 (aj (bj (av mO (hr.mono (by decide)) (by rfl) df.mg df.kp df.bd .nil (vy λ _ _ _ z=>z) (ag (aS (pv 0) (by rfl)) aa)))))))))),?_⟩
  lia
  refine ⟨p,a.ba,dx,_,rfl,hp,T.cl,T.fw,(by show 0<1000;decide),?_⟩
  lia
  generalize hH1:upd H p _=H1
  have k1:∀ c,c≠p->H1 c=H c:=λ c hc=>by rw [<- hH1,aq hc]
  have p1:H1 p=some (.ins a.ba dx (bQ "bound" (.int b) [])):=by rw [<- hH1];exact ae
  have r1:H1 r=some (.lst (rs.map .ref)):=(k1 r (no hr0 (by intro z;cases z))).trans hr0
  refine ⟨r,_,rfl,.inl (SqL.of r1),λ n2 h2=>?_⟩
  lia
  have np2:p≠n2:=ao p1 h2
  refine ⟨p,a.ba,dx,_,rfl,(by rw [aq np2];exact p1),T.cl,T.dX,(by show 1<1000;decide),?_⟩
  lia
  generalize hH2:upd (upd H1 n2 _) p _=H2
  have f2:H n2=none:=(k1 n2 (Ne.symm np2)).symm.trans h2
  have k2:∀ c o,H c=some o->c≠p->H2 c=some o:=λ c o hc n=>by
   have h1c:H1 c=some o:=(k1 c n).trans hc
   rw [<- hH2,aq n,aq (ao h1c h2)];exact h1c
  have p2:H2 p=some (.ins a.ba dx (bQ "rules" (.ref n2) (bQ "bound" (.int b) []))):=by rw [<- hH2];exact ae
  have g2:H2 n2=some (.lst (rs.map .ref)):=by rw [<- hH2,aq (Ne.symm np2)];exact ae
  clear hH2 hH1 h2
  refine ⟨vq,ts.map .ref,rfl,?_,λ n3 h3=>?_⟩
  ·rcases hq1 with ⟨rfl,rfl⟩ | ⟨q,rfl,hq1⟩
   ·exact .inl ⟨rfl,rfl⟩
   ·exact .inr ⟨q,rfl,SqL.of (k2 _ _ hq1 (no hq1 (by intro z;cases z)))⟩
  lia
  have np3:p≠n3:=ao p2 h3
  refine ⟨p,a.ba,dx,_,rfl,(by rw [aq np3];exact p2),T.cl,T.eL,(by show 2<1000;decide),?_⟩
  lia
  generalize hH3:upd (upd H2 n3 _) p _=H3
  have f3:H n3=none:=by
   cases e:H n3 with
   | none=>rfl
   | some o=>rw [k2 _ _ e (Ne.symm np3)] at h3;cases h3
  have k23:∀ c o,H2 c=some o->c≠p->H3 c=some o:=λ c o hc n=>by rw [<- hH3,aq n,aq (ao hc h3)];exact hc
  have p3:H3 p=some (.ins a.ba dx (bQ "melts" (.ref n3) (bQ "rules" (.ref n2) (bQ "bound" (.int b) [])))):=by rw [<- hH3];exact ae
  have g3:H3 n3=some (.lst (ts.map .ref)):=by rw [<- hH3,aq (Ne.symm np3)];exact ae
  clear hH3 h3
  refine ⟨vk,ks.map .ref,rfl,?_,λ n4 h4=>?_⟩
  ·rcases hk1 with ⟨rfl,rfl⟩ | ⟨q,rfl,hk1⟩
   ·exact .inl ⟨rfl,rfl⟩
   ·have nq:q≠p:=no hk1 (by intro z;cases z)
    exact .inr ⟨q,rfl,SqL.of (k23 _ _ (k2 _ _ hk1 nq) nq)⟩
  lia
  have np4:p≠n4:=ao p3 h4
  refine ⟨p,a.ba,dx,_,rfl,(by rw [aq np4];exact p3),T.cl,T.eD,(by show 3<1000;decide),?_⟩
  generalize hH4:upd (upd H3 n4 _) p _=H4
  have f4:H n4=none:=by
   cases e:H n4 with
   | none=>rfl
   | some o=>rw [k23 _ _ (k2 _ _ e (Ne.symm np4)) (Ne.symm np4)] at h4;cases h4
  have k34:∀ c o,H3 c=some o->c≠p->H4 c=some o:=λ c o hc n=>by rw [<- hH4,aq n,aq (ao hc h4)];exact hc
  have p4:H4 p=some (.ins a.ba dx (bQ "kinds" (.ref n4) (bQ "melts" (.ref n3) (bQ "rules" (.ref n2) (bQ "bound" (.int b) []))))):=by rw [<- hH4];exact ae
  have g4:H4 n4=some (.lst (ks.map .ref)):=by rw [<- hH4,aq (Ne.symm np4)];exact ae
  clear hH4 h4
  have k04:∀ c o,H c=some o->c≠p->H4 c=some o:=λ c o hc n=>k34 _ _ (k23 _ _ (k2 _ _ hc n) n) n
  have g34:=k34 _ _ g3 (Ne.symm np3)
  have fl:CC (bQ "kinds" (.ref n4) (bQ "melts" (.ref n3) (bQ "rules" (.ref n2) (bQ "bound" (.int b) [])))) b n2 n3 n4:=⟨rfl,rfl,rfl,rfl⟩
  generalize bQ "kinds" (.ref n4) (bQ "melts" (.ref n3) (bQ "rules" (.ref n2) (bQ "bound" (.int b) [])))=fs at p4 fl
  have KA:fm a H4 ks tt:=⟨hta.1,λ i o t x y=>by
   obtain ⟨e,n,kx⟩:=hta.2 i o t x y
   obtain ⟨dx',fs',r1',r2'⟩:=kx.ob
   exact ⟨e,n,⟨dx',fs',k04 _ _ r1' (λ e=>by rw [e,hp] at r1';injection r1' with r1';injection r1' with _ _ r3;rw [<- r3] at r2';cases r2'.title),r2'⟩⟩⟩
  have TA:TgX a H4 p b n2 n3 n4:=⟨dx,fs,p4,fl⟩
  have g24:=k34 _ _ (k23 _ _ g2 (Ne.symm np2)) (Ne.symm np2)
  have t4:H4 a.tTI=some (Tb a.tTI):=k04 _ _ tTI (no tTI (by intro z;cases z))
  have s4:H4 a.tSL=some (Tb a.tSL):=k04 _ _ tSL (no tSL (by intro z;cases z))
  lia
  by_cases b0:b<0
  ·rw [decide_eq_true b0]
   lia
   exact kb b0 _ k04
  rw [decide_eq_false b0]
  have b0:0<=b:=by omega
  lia
  refine ⟨p,_,dx,fs,_,rfl,p4,T.cl,T.eL,fl.x4,?_⟩
  have okv:∀ v∈ts.map V.ref,∃ t m,v=V.ref t/\H t=some (eX m)/\m∈ms:=λ v hv=>by
   obtain ⟨t,ht,rfl⟩:=List.mem_map.mp hv
   obtain ⟨i,hi⟩:=List.getElem?_of_mem ht
   have hi2:i<ms.length:=by rw [<- hml];exact (List.getElem?_eq_some_iff.mp hi).1
   exact ⟨t,ms[i],rfl,hq3 i t ms[i] hi (List.getElem?_eq_getElem hi2),List.getElem_mem hi2⟩
  refine ⟨n3,rfl,⟨_,SqL.of g34⟩,sy (λ v=>meltV H v) (SqL.of g34) t4 rfl (λ v hv=>?_) ?_⟩
  ·obtain ⟨t,m,rfl,hm1,hm2⟩:=okv v hv
   lia
   refine ⟨t,m,rfl,k04 _ _ hm1 (no hm1 (by intro z;cases z)),hms m hm2,s4,?_⟩
   rw [rW hm1]
   exact ⟨rfl,rfl⟩
  rw [oW hml hq3]
  cases hall:ms.all bh with
  | false=>
   lia
   exact km b0 hall _ k04
  | true=>
   lia
   refine ⟨p,_,dx,fs,_,rfl,p4,T.cl,T.eD,fl.kinds,?_⟩
   lia
   exact ⟨n4,ks,tt,rfl,g4,KA,htl,λ htn H5 s5=>k b0 hall htn H5 n2 n3 n4 f2 f3 f4 (λ c o hc n=>s5 _ _ (k04 _ _ hc n)) (TA.same s5) (s5 _ _ g24) (s5 _ _ g34) (s5 _ _ g4),λ htn H5 s5=>kt b0 hall htn H5 λ c o hc n=>s5 _ _ (k04 _ _ hc n)⟩
end
theorem bF (i:Int) {j:Int} (h:0<j):0<=i % j:=Int.emod_nonneg _ (by omega)
theorem mod_lt (i:Int) {j:Int} (h:0<j):i % j<j:=Int.emod_lt_of_pos _ h
section
variable {P:Program} {w:World} {K:PySem.W.Frag} {mg:Str->Option Value} {base:Heap} {a:Ad}
theorem rC:(("abcdefghijklmnopqrstuvwxyz":Str).cps.toList.all jZ)=true:=by decide +kernel
theorem Am {x:Str} (h2:2<=x.cps.toList.length) (h10:x.cps.toList.length<=10) (hl:∀ c∈x.cps.toList,jZ c=true):aP x=true:=by
 rw [<- Co] at h2 h10
 unfold aP jc
 rw [decide_eq_true h2,decide_eq_true h10,List.all_eq_true.mpr hl];rfl
theorem uJ (i:Int):∃ c,jZ c=true/\L2.atI ("abcdefghijklmnopqrstuvwxyz":Str).cps.toList (i % 26)=some c:=by
 obtain ⟨c,hc,e⟩:=uk (xs:=("abcdefghijklmnopqrstuvwxyz":Str).cps.toList) (bF i (show (0:Int)<26 by decide)) (mod_lt i (show (0:Int)<26 by decide))
 exact ⟨c,List.all_eq_true.mp rC c hc,e⟩
theorem iL {x:Str} (h:aP x=true):2<=x.length/\x.length<=10:=by
 unfold aP at h
 simp only [Bool.and_eq_true,decide_eq_true_eq] at h
 exact h.1
theorem vH:∀ j:Fin 26,("abcdefghijklmnopqrstuvwxyz":Str).cps.toList[j.val]?=some (97+j.val):=by decide +kernel
theorem Ai (i:Int):∃ c,c=97+(i % 26).toNat/\jZ c=true/\L2.atI ("abcdefghijklmnopqrstuvwxyz":Str).cps.toList (i % 26)=some c:=by
 have h0:=bF i (show (0:Int)<26 by decide)
 have h1:=mod_lt i (show (0:Int)<26 by decide)
 have e:=vH ⟨(i % 26).toNat,by omega⟩
 have e2:L2.atI ("abcdefghijklmnopqrstuvwxyz":Str).cps.toList (((i % 26).toNat:Nat):Int)=some (97+(i % 26).toNat):=eE (j:=(i % 26).toNat) e
 rw [show (((i % 26).toNat:Nat):Int)=i % 26 by omega] at e2
 refine ⟨_,rfl,?_,e2⟩
 unfold jZ
 rw [decide_eq_true (by omega),decide_eq_true (by omega)];rfl
end
theorem vg {x:Str} (h:x∈sig):x.length=1:=by
 unfold sig at h
 simp only [List.mem_cons,List.not_mem_nil,or_false] at h
 rcases h with rfl | rfl | rfl | rfl | rfl | rfl <;> decide +kernel
theorem uW:(("+":Str)).length=1:=by decide +kernel
theorem vt:¬ (("+":Str))∈sig:=by unfold sig;decide +kernel
theorem mM {x:Str} (h:aP x=true):x≠"+":=λ e=>by
 have:=(iL h).1
 rw [e,uW] at this
 omega
theorem nX {x:Str} (h:aP x=true):¬ x∈sig:=λ e=>by
 have:=(iL h).1
 rw [vg e] at this
 omega
def Pc (x:Str):Prop:=aP x=true∨x∈sig∨x="+"
theorem Pc.DD {x:Str} (h:Pc x):gY x=true:=by
 unfold gY
 rcases h with h | h | h
 ·rw [h];simp
 ·rw [show inV (.str x) (sV sig)=true from qJ.mpr h];simp
 ·rw [h];simp
theorem Pc.len {x:Str} (h:Pc x):x.length<=10:=by
 rcases h with h | h | h
 ·exact (iL h).2
 ·rw [vg h];decide
 ·rw [h,uW];decide
structure Ok (ys:List Str):Prop where
 pc:∀ y∈ys,Pc y
 ct:∀ s∈sig,ys.count s<=1
 na:∀ i:Nat,ys[i]?=some ("+":Str)->ys[i+1]?≠some ("+":Str)
 hd:ys.head?≠some ("+":Str)
theorem Ok.nil:Ok []:=⟨λ _ h=>(nomatch h),λ _ _=>by simp,λ _ h=>by simp at h,by simp⟩
theorem Ok.snoc {ys:List Str} {x:Str} (h:Ok ys) (px:Pc x) (c:x∈sig->¬ x∈ys) (t:x="+"->ys≠[]/\ys.getLast?≠some ("+":Str)):Ok (ys++[x]):=by
 refine ⟨λ y hy=>?_,λ s hs=>?_,λ i hi=>?_,?_⟩
 ·rcases List.mem_append.mp hy with hy | hy
  ·exact h.pc y hy
  ·rw [List.mem_singleton.mp hy];exact px
 ·rw [List.count_append]
  by_cases e:x=s
  ·subst e
   rw [List.count_eq_zero.mpr (c hs),List.count_singleton_self]
   decide
  ·have:[x].count s=0:=List.count_eq_zero.mpr λ m=>e (List.mem_singleton.mp m).symm
   rw [this];exact h.ct s hs
 ·intro hi2
  rcases Nat.lt_trichotomy (i+1) ys.length with z | z | z
  ·rw [List.getElem?_append_left (by omega)] at hi
   rw [List.getElem?_append_left z] at hi2
   exact h.na i hi hi2
  ·rw [List.getElem?_append_left (by omega)] at hi
   rw [z,List.getElem?_concat_length] at hi2
   have:=(t (Option.some.inj hi2)).2
   rw [List.getLast?_eq_getElem?,show ys.length - 1=i by omega] at this
   exact this hi
  ·rw [List.getElem?_eq_none (by rw [List.length_append,List.length_singleton];omega)] at hi2
   cases hi2
 ·intro e
  cases ys with
  | nil=>
   have:x="+":=Option.some.inj e
   exact (t this).1 rfl
  | cons y r=>exact h.hd e
structure Its (ys:List Str) (n:Nat):Prop where
 ok:Ok ys
 ne:ys≠[]
 lt:ys.getLast?≠some ("+":Str)
 wd:∃ y∈ys,aP y=true
 le:ys.length<=n
theorem xh (s:Str):∀ ys:List Str,((ys.map V.str).countP λ z=>eqV z (.str s))=ys.count s
 | []=>rfl
 | y::r=>by
  rw [List.map_cons,List.countP_cons,List.count_cons,xh s r]
  rfl
theorem Its.pieces {ys:List Str} (h:Its ys 8):fV ys=true:=by
 unfold fV
 have h1:decide (1<=ys.length)=true:=decide_eq_true (List.length_pos_iff.mpr h.ne)
 have h2:decide (ys.length<=8)=true:=decide_eq_true h.le
 have h3:ys.all gY=true:=List.all_eq_true.mpr λ y hy=>(h.ok.pc y hy).DD
 have h4:ys.any aP=true:=List.any_eq_true.mpr (let ⟨y,a,b⟩:=h.wd;⟨y,a,b⟩)
 have h5:(sV sig).any (qT ys)=false:=by
  rw [Bool.eq_false_iff]
  intro z
  obtain ⟨v,hv,e⟩:=List.any_eq_true.mp z
  obtain ⟨s,hs,rfl⟩:=List.mem_map.mp hv
  unfold qT at e
  rw [xh] at e
  have:=h.ok.ct s hs
  have e:=of_decide_eq_true e
  omega
 have h6:gW ys=true:=by
  unfold gW
  have g1:eW ys.head?=false:=by
   have:=h.ok.hd
   cases e:ys.head? with
   | none=>rfl
   | some x=>
    rw [e] at this
    exact decide_eq_false λ z=>this (by rw [z])
  have g2:eW ys.getLast?=false:=by
   have:=h.lt
   cases e:ys.getLast? with
   | none=>rfl
   | some x=>
    rw [e] at this
    exact decide_eq_false λ z=>this (by rw [z])
  have g3:BL ys=false:=by
   unfold BL
   rw [Bool.eq_false_iff]
   intro z
   obtain ⟨i,_,e⟩:=List.any_eq_true.mp z
   rw [Bool.and_eq_true] at e
   have tie:∀ o:Option Str,eW o=true->o=some ("+":Str):=λ o ho=>by
    cases o with
    | none=>cases ho
    | some x=>exact congrArg some (of_decide_eq_true ho)
   exact h.ok.na i (tie _ e.1) (tie _ e.2)
  rw [g1,g2,g3];rfl
 rw [h1,h2,h3,h4,h5,h6];rfl
theorem Cm {b:Int} (h:b.natAbs<2 ^ 250):b.natAbs.log2<9000:=by
 rcases Nat.eq_zero_or_pos b.natAbs with z | z
 ·rw [z];decide
 ·exact Nat.lt_trans ((Nat.log2_lt (by omega)).mpr h) (by decide)
theorem yO {b:Int} (h2:2<=b) (h:b<2 ^ 200):b.natAbs.log2<9000:=by
 refine Cm ?_
 have e:((2:Int) ^ 200).natAbs<2 ^ 250:=by decide
 omega
section
variable {P:Program} {w:World} {K:PySem.W.Frag} {mg:Str->Option Value} {base:Heap} {a:Ad}
def Bi (l h b f e x:Int):Bool:=decide (l<=x)&&decide (x<=h)&&(decide (f<=x % b)&&decide (x % b<=e))
abbrev Dm (K:PySem.W.Frag) (mg:Str->Option Value):=Df K mg "covers" "covers" (top 30) ["rule","number"]
def ye (a:Ad):Sp:=λ vs H Q _=>∃ (p ps:Addr) (l h b f e x:Int),vs=[.ref p,.int x]/\eV a H p l h b f e ps/\0<b/\Q (.bl (Bi l h b f e x)) H
theorem ER:aH ["rule","number"] ["rule","number"] (ar (top 30)):=⟨rfl,rfl,rfl,by decide +kernel,rfl,by decide +kernel,by decide +kernel⟩
theorem Dg (D:Dm K mg) (T:Txt K mg a):F0 P w base 1 D (ye a):=by
 refine Df.ok (k:=0) D.ex ER (λ vs H Q E h=>?_) (λ A outer s H vs Q E hr h=>?_)
 ·obtain ⟨p,ps,l,h,b,f,e,x,rfl,_⟩:=h;rfl
 ·obtain ⟨p,ps,l,h,b,f,e,x,rfl,R,b0,q⟩:=h
  obtain ⟨dx,fs,hp,N,hps⟩:=R.ob
  refine ⟨_,(aj (aN (jz (oy fK fK (aS (pv 0) (by rfl)) (pv 1) (aS (pv 0) (by rfl))) (kL (oy fK fK (aS (pv 0) (by rfl)) (ai az (pv 1) (aS (pv 0) (by rfl))) (aS (pv 0) (by rfl))))))),?_⟩
  unfold Bi at q
  lia
  refine ⟨p,_,dx,fs,_,rfl,hp,T.clR,T.iu,N.low,?_⟩
  lia
  refine w_ite (λ z1=>?_) (λ z1=>?_)
  case refine_2=>
   rw [z1] at q
   exact ⟨_,rfl,zZ q⟩
  lia
  refine ⟨p,_,dx,fs,_,rfl,hp,T.clR,T.fe,N.high,?_⟩
  lia
  rw [z1,Bool.true_and] at q
  refine w_ite (λ z2=>?_) (λ z2=>?_)
  case refine_2=>
   rw [z2] at q
   exact q
  rw [z2,Bool.true_and] at q
  lia
  refine ⟨p,_,dx,fs,_,rfl,hp,T.clR,T.dk,N.first,?_⟩
  lia
  refine ⟨p,_,dx,fs,_,rfl,hp,T.clR,T.dq,N.base,?_⟩
  refine w_mod b0 ?_
  lia
  refine w_ite (λ z3=>?_) (λ z3=>?_)
  case refine_2=>
   rw [z3] at q
   exact q
  rw [z3,Bool.true_and] at q
  lia
  refine ⟨p,_,dx,fs,_,rfl,hp,T.clR,T.fg,N.last,?_⟩
  lia
  exact q
end
structure RV where
 l:Int
 h:Int
 b:Int
 f:Int
 e:Int
 ys:List Str
def RV.cov (r:RV) (x:Int):Bool:=Bi r.l r.h r.b r.f r.e x
structure RV.Ok (r:RV):Prop where
 it:Its r.ys 8
 b2:2<=r.b
 Cs:r.b<2 ^ 200
def gn (bnd:Int) (rs:List RV) (x:Int):Option Nat:=if 0<=x/\x<=bnd then rs.findIdx? (·.cov x) else none
theorem AF {X:Cx} {P:Program} {w:World}:Passes (CXE P w) X E0:=λ _ _ _ _ _ _ _ h=>by
 obtain ⟨_,_,_,_,_,_,_,_,_,_,_,_,_,_,q⟩:=h
 exact q.elim
section
variable {P:Program} {w:World} {K:PySem.W.Frag} {mg:Str->Option Value} {base:Heap} {a:Ad}
def jC (a:Ad) (H:Hp) (o:Addr) (r:RV):Prop:=∃ n,eV a H o r.l r.h r.b r.f r.e n/\H n=some (.lst (r.ys.map .str))
theorem jC.same {H H':Hp} {o:Addr} {r:RV} (h:jC a H o r) (s:ak H H'):jC a H' o r:=let ⟨n,x,y⟩:=h;⟨n,x.same s,s _ _ y⟩
structure TgR (a:Ad) (H:Hp) (x:Addr) (bnd:Int) (rs:List RV):Prop where
 ob:∃ (dx:Addr) (fs:List (Str×V)) (r q k:Addr) (os:List Addr),H x=some (.ins a.ba dx fs)/\CC fs bnd r q k/\H r=some (.lst (os.map .ref))/\os.length=rs.length/\∀ (i:Nat) o v,os[i]?=some o->rs[i]?=some v->jC a H o v
theorem TgR.same {H H':Hp} {x:Addr} {bnd:Int} {rs:List RV} (h:TgR a H x bnd rs) (s:ak H H'):TgR a H' x bnd rs:=by
 obtain ⟨dx,fs,r,q,k,os,h1,h2,h3,h4,h5⟩:=h.ob
 exact ⟨dx,fs,r,q,k,os,s _ _ h1,h2,s _ _ h3,h4,λ i o v x y=>(h5 i o v x y).same s⟩
abbrev DRF (K:PySem.W.Frag) (mg:Str->Option Value):=Df K mg "rule_for" "rule_for" (top 36) ["tongue","number"]
def zN:Option Nat->V
 | none=>.non
 | some k=>.int k
def BX (a:Ad):Sp:=λ vs H Q _=>∃ (x:Addr) (n bnd:Int) (rs:List RV),vs=[.ref x,.int n]/\TgR a H x bnd rs/\(∀ r∈rs,r.Ok)/\Pure (zN (gn bnd rs n)) H Q
abbrev nRF:List Str:=["tongue","number","place","rule"]
theorem Ea:aH nRF ["tongue","number"] (ar (top 36)):=⟨rfl,rfl,rfl,by decide +kernel,rfl,by decide +kernel,by decide +kernel⟩
theorem Fe (D:DRF K mg) (kc:Dm K mg) (yP:F0 P w base 1 kc (ye a)) (T:Txt K mg a):F0 P w base 2 D (BX a):=by
 refine Df.ok (k:=1) D.ex Ea (λ vs H Q E h=>?_) (λ A outer s H vs Q E hr h=>?_)
 ·obtain ⟨x,n,bnd,rs,rfl,_⟩:=h;rfl
 ·obtain ⟨x,n,bnd,rs,rfl,tg,ro,k⟩:=h
  obtain ⟨dx,fs,r,q,kk,os,hx,fl,hr',ol,of_⟩:=id tg.ob
  have nd:=Ea.nd
  refine ⟨_,(ah (aY (bK (iG fK fK af (pv 1) (aS (pv 0) (by rfl))))
 (aj (aN fN))
 aE)
 (ah (dH PassesOwn.never rfl (qi (by rfl) T.bW (by decide +kernel) (ag (aS (pv 0) (by rfl)) aa)) (lg (n:=2) rfl (bf (aA (i:=2) nd rfl (Or.inl rfl)) (bf (aA (i:=3) nd rfl (Or.inl rfl)) fE)))
 (aj (aY (bu (av yP (hr.mono (by decide)) (by rfl) kc.mg kc.kp kc.bd .nil aT (ag (pv 3) (ag (pv 1) aa))))
 (aj (aN (pv 2)))
 aE)))
 (aj (aN fN)))),?_⟩
  unfold gn at k
  lia
  refine w_ite (λ z1=>?_) (λ z1=>?_)
  case refine_2=>
   have z1:=of_decide_eq_false z1
   rw [if_neg (λ h=>z1 h.1)] at k
   lia
   exact k H (ak.refl _)
  have z1:=of_decide_eq_true z1
  lia
  refine ⟨x,_,dx,fs,_,rfl,hx,T.cl,T.fw,fl.bound,?_⟩
  lia
  refine w_ite (λ z2=>?_) (λ z2=>?_)
  ·have z2:¬ n<=bnd:=by simpa using z2
   rw [if_neg (λ h=>z2 h.2)] at k
   lia
   exact k H (ak.refl _)
  have z2:n<=bnd:=by simpa using z2
  rw [if_pos ⟨z1,z2⟩] at k
  lia
  refine ⟨x,_,dx,fs,_,rfl,hx,T.cl,T.dX,fl.rules,?_⟩
  lia
  refine ⟨r,rfl,⟨_,SqL.of hr'⟩,B9 (K:=K) (a:=r) (xs:=os.map V.ref) (λ i σ H2=>∃ v2 v3,σ=[some (V.ref x),some (V.int n),v2,v3]/\ak H H2/\∀ j (hj:j<rs.length),j<i->rs[j].cov n=false) ⟨none,none,rfl,.refl _,λ j _ h=>(nomatch h)⟩ (λ i σ H2 _ ⟨_,_,_,s2,_⟩=>SqL.of (s2 _ _ hr')) ?_ ?_⟩
  ·rintro i v p σ H2 hv ⟨v2,v3,rfl,s2,c2⟩ hp
   rw [List.getElem?_map] at hv
   obtain ⟨o,ho,rfl⟩:=Option.map_eq_some_iff.mp hv
   have hi:i<os.length:=(List.getElem?_eq_some_iff.mp ho).1
   have hi':i<rs.length:=by omega
   obtain ⟨nn,R,hn⟩:=of_ i o rs[i] ho (List.getElem?_eq_getElem hi')
   have b2:=(ro _ (List.getElem_mem hi')).b2
   refine gB (SqT.of ae) rfl ?_
   refine ⟨_,_,rfl,_,_,rfl,rfl,?_⟩
   have s3:ak H (upd H2 p (.tup [.int i,.ref o])):=s2.trans (ak.upd hp)
   generalize upd H2 p _=H3 at s3 ⊢
   lia
   refine ⟨o,nn,_,_,_,_,_,n,rfl,R.same s3,by omega,?_⟩
   lia
   refine w_ite (λ z=>?_) (λ z=>?_)
   ·lia
    have e:rs.findIdx? (·.cov n)=some i:=List.findIdx?_eq_some_iff_getElem.mpr ⟨hi',z,λ j hj=>by
     have:=c2 j (by omega) hj
     rw [this];exact Bool.false_ne_true⟩
    rw [e] at k
    exact k H3 s3
   ·lia
    refine ⟨_,_,rfl,s3,λ j hj h=>?_⟩
    rcases Nat.lt_or_ge j i with z' | z'
    ·exact c2 j hj z'
    ·obtain rfl:j=i:=by omega
     exact z
  ·rintro σ H2 ⟨v2,v3,rfl,s2,c2⟩
   lia
   have e:rs.findIdx? (·.cov n)=none:=List.findIdx?_eq_none_iff.mpr λ r hr=>by
    obtain ⟨j,hj,rfl⟩:=List.mem_iff_getElem.mp hr
    exact c2 j hj (by rw [List.length_map];omega)
   rw [e] at k
   exact k H2 s2
end
structure RD where
 l:Int
 h:Int
 b:Int
 f:Int
 e:Int
 ys:List Str
 t:Addr
 it:Addr
def RD.at (r:RD) (H:Hp):Prop:=H r.t=some (.tup [.int r.l,.int r.h,.int r.b,.int r.f,.int r.e,.ref r.it])/\H r.it=some (.lst (r.ys.map .str))
def RD.rv (r:RD):RV:=⟨r.l,r.h,r.b,r.f,r.e,r.ys⟩
def ItN (ys:List Str):Prop:=Its ys 8/\(ys.filter aP).length<=4
structure RD.ok (r:RD):Prop where
 ro:nE r.l r.h r.b r.f r.e r.ys=true
 it:Its r.ys 8
 b2:2<=r.b
 Cs:r.b<2 ^ 200
 nw:(r.ys.filter aP).length<=4
theorem RD.ok.rv {r:RD} (h:r.ok):r.rv.Ok:=⟨h.it,h.b2,h.Cs⟩
theorem RD.at.same {r:RD} {H H':Hp} (h:r.at H) (s:ak H H'):r.at H':=⟨s _ _ h.1,s _ _ h.2⟩
theorem wm {H:Hp} {a b:Addr} {ys:List Str} {ts:List Addr} (h:H a=some (.lst (ys.map .str))) (h0:ys≠[]) (g:H b=some (.lst (ts.map .ref))):a≠b:=λ e=>by
 rw [e,g] at h
 cases ys with
 | nil=>exact h0 rfl
 | cons y r=>
  cases ts with
  | nil=>injection h with h;injection h with h;cases h
  | cons t r=>injection h with h;injection h with h;injection h with h _;cases h
theorem xF {sg ys:List Str} {s:Str} (h1:s∈sg) (h2:s∈ys):oO sg ys=true:=List.any_eq_true.mpr ⟨s,h1,qJ.mpr h2⟩
theorem zv {l h b f e:Int} {ys:List Str} (i:Its ys 8) (h1:0<=l) (h2:l<=h) (h3:2<=b) (h4:0<=f) (h5:f<=e) (h6:e<b) (t1:f≠e->oO ["R","K"] ys=true) (t2:l / b≠h / b->oO ["Q","N","W","U"] ys=true):nE l h b f e ys=true:=by
 unfold nE nJ pU
 rw [i.pieces,decide_eq_false (show ¬ l<0 by omega),decide_eq_false (show ¬ h<l by omega),decide_eq_false (show ¬ b<2 by omega),decide_eq_false (show ¬ f<0 by omega),decide_eq_false (show ¬ e<f by omega),decide_eq_false (show ¬ b<=e by omega)]
 by_cases z1:f=e
 ·rw [decide_eq_true z1]
  by_cases z2:l / b=h / b
  ·rw [decide_eq_true z2];rfl
  ·rw [decide_eq_false z2,t2 z2];rfl
 ·rw [decide_eq_false z1,t1 z1]
  by_cases z2:l / b=h / b
  ·rw [decide_eq_true z2];rfl
  ·rw [decide_eq_false z2,t2 z2];rfl
theorem As {l h b f e:Int} {ys:List Str} {t it:Addr} (i:ItN ys) (h1:0<=l) (h2:l<=h) (h3:2<=b) (h4:0<=f) (h5:f<=e) (h6:e<b) (h8:b<2 ^ 200) (t1:f≠e->oO ["R","K"] ys=true) (t2:l / b≠h / b->oO ["Q","N","W","U"] ys=true):RD.ok ⟨l,h,b,f,e,ys,t,it⟩:=⟨zv i.1 h1 h2 h3 h4 h5 h6 t1 t2,i.1,h3,h8,i.2⟩
def four:List Str:=["Q","N","W","U"]
theorem vm {s:Str} (h1:s∈(["R","K"]:List Str)) (h2:s∈four):False:=by
 unfold four at h2
 simp only [List.mem_cons,List.not_mem_nil,or_false] at h1
 rcases h1 with rfl | rfl
 ·exact absurd h2 (by decide +kernel)
 ·exact absurd h2 (by decide +kernel)
theorem C6 {s:Str} (h:s∈(["R","K"]:List Str)):s∈sig:=by
 simp only [List.mem_cons,List.not_mem_nil,or_false] at h
 rcases h with rfl | rfl <;> decide +kernel
theorem wM {s:Str} (h:s∈four):s∈sig:=by
 unfold four at h
 simp only [List.mem_cons,List.not_mem_nil,or_false] at h
 rcases h with rfl | rfl | rfl | rfl <;> decide +kernel
theorem yB {y:Str} (h:aP y=true):Its [y] 8:=⟨by have:=Ok.nil.snoc (x:=y) (.inl h) (λ z=>absurd z (nX h)) (λ z=>absurd z (mM h));exact this,by simp,λ e=>mM h (Option.some.inj e),⟨y,List.mem_singleton.mpr rfl,h⟩,by simp⟩
theorem yV {y:Str} (h:aP y=true):ItN [y]:=⟨yB h,Nat.le_trans (List.length_filter_le _ _) (by simp)⟩
end K04
namespace L2
open PySem PySem.Spec PyProof.Rows
theorem fP {X:Cx} (K:PySem.W.Frag) (hK:X.K=K:=by rfl):eg X (.type "list") (λ xs H Q=>∃ p ys,xs=[.ref p]/\(SqL K H p ys∨SqT K H p ys)/\∀ l,H l=none->Q (.ref l) (upd H l (.lst ys))):=by subst hK;exact bM
end L2
namespace K04
open PySem PySem.Spec PyProof.Rows L2
def cG (rs:List RD):List V:=(rs.map (·.t)).map .ref
theorem pJ (rs ms:List RD):cG (rs++ms)=cG rs++cG ms:=by unfold cG;rw [List.map_append,List.map_append]
def eH (H:Hp) (rs:List RD):Prop:=∀ r∈rs,r.at H/\r.ok
theorem eH.same {H H':Hp} {rs:List RD} (h:eH H rs) (s:ak H H'):eH H' rs:=λ r hr=>⟨(h r hr).1.same s,(h r hr).2⟩
theorem eH.app {H:Hp} {rs ms:List RD} (h:eH H rs) (g:eH H ms):eH H (rs++ms):=λ r hr=>(List.mem_append.mp hr).elim (h r) (g r)
theorem eH.one {H:Hp} {r:RD} (h:r.at H) (k:r.ok):eH H [r]:=λ x hx=>by rw [List.mem_singleton.mp hx];exact ⟨h,k⟩
theorem eH.nil {H:Hp}:eH H []:=λ _ h=>(nomatch h)
theorem RD.at.put {r:RD} {H:Hp} {l:Addr} {ts:List Addr} {o:HO} (h:r.at H) (k:r.ok) (g:H l=some (.lst (ts.map .ref))):r.at (upd H l o):=by
 refine ⟨?_,?_⟩
 ·rw [aq (nG h.1 g (by intro z;cases z))];exact h.1
 ·rw [aq (wm h.2 k.it.ne g)];exact h.2
theorem eH.put {H:Hp} {rs:List RD} {l:Addr} {ts:List Addr} {o:HO} (h:eH H rs) (g:H l=some (.lst (ts.map .ref))):eH (upd H l o) rs:=λ r hr=>⟨(h r hr).1.put (h r hr).2 g,(h r hr).2⟩
theorem Cq {H:Hp} {it t:Addr} {l h b f e:Int} {zs:List Str} {vs:List V} (ev:vs=zs.map V.str) (h1:H it=none) (h2:(upd H it (.lst vs)) t=none):
  ak H (upd (upd H it (.lst vs)) t (.tup [.int l,.int h,.int b,.int f,.int e,.ref it]))/\RD.at ⟨l,h,b,f,e,zs,t,it⟩ (upd (upd H it (.lst vs)) t (.tup [.int l,.int h,.int b,.int f,.int e,.ref it])):=by
 subst ev
 have s1:=ak.upd (o:=.lst (zs.map V.str)) h1
 have s2:=ak.upd (o:=.tup [.int l,.int h,.int b,.int f,.int e,.ref it]) h2
 exact ⟨s1.trans s2,ae,s2 _ _ ae⟩
theorem rL {ys:List Str} (h:Its ys 8):∀ y∈ys,y.length<=sizeLine:=λ y hy=>aW (by have:=(h.ok.pc y hy).len;omega)
def bT (rs:List RV):List Str:=rs.flatMap λ r=>r.ys.filter aP
theorem fD (rs:List RV) {i:Nat} (h:i<rs.length):bT (rs.take (i+1))=bT (rs.take i)++rs[i].ys.filter aP:=by
 unfold bT
 rw [List.take_succ,List.getElem?_eq_getElem h,List.flatMap_append]
 simp
theorem nY (rs:List RV) (i:Nat):(bT (rs.take i)).length<=(bT rs).length:=by
 unfold bT
 conv=>rhs;rw [<- List.take_append_drop i rs]
 rw [List.flatMap_append,List.length_append];omega
def fu (l:List Str):List Key:=l.map Sum.inr
theorem rE (l:List Str):∃ zs:List Str,cU (fu l)=zs.map Sum.inr/\zs.Nodup/\(∀ x,x∈zs↔x∈l):=by
 have h:∀ k∈cU (fu l),∃ x,k=Sum.inr x:=λ k hk=>by
  obtain ⟨x,_,rfl⟩:=List.mem_map.mp (jY.mp hk);exact ⟨x,rfl⟩
 have g:∀ ks:List Key,(∀ k∈ks,∃ x,k=Sum.inr x)->∃ zs:List Str,ks=zs.map Sum.inr:=by
  intro ks
  induction ks with
  | nil=>intro _;exact ⟨[],rfl⟩
  | cons k ks ih=>
   intro h
   obtain ⟨x,rfl⟩:=h k (.head _)
   obtain ⟨zs,rfl⟩:=ih λ k hk=>h k (.tail _ hk)
   exact ⟨x::zs,rfl⟩
 obtain ⟨zs,e⟩:=g _ h
 refine ⟨zs,e,?_,λ x=>?_⟩
 ·have:=u7 (fu l)
  rw [e] at this
  exact List.Pairwise.of_map _ (λ a b h e=>h (by rw [e])) this
 ·have:(Sum.inr x:Key)∈cU (fu l)↔(Sum.inr x:Key)∈fu l:=jY
  rw [e] at this
  unfold fu at this
  simpa using this
section
variable {P:Program} {w:World} {K:PySem.W.Frag} {mg:Str->Option Value} {base:Heap} {a:Ad}
abbrev DWo (K:PySem.W.Frag) (mg:Str->Option Value):=Df K mg "words_of" "words_of" (top 37) ["tongue"]
def BS (a:Ad):Sp:=λ vs H Q _=>∃ (x:Addr) (B:Int) (rs:List RV),vs=[.ref x]/\TgR a H x B rs/\(∀ r∈rs,r.Ok)/\(bT rs).length<64/\H a.tSL=some (Tb a.tSL) /\
 ∀ (H':Hp) (l:Addr) (zs:List Str),ak H H'->H l=none->H' l=some (.lst (zs.map .str))->zs.Nodup->(∀ x,x∈zs↔x∈bT rs)->sortedS zs=true->Q (.ref l) H'
theorem E7:aH ["tongue"] ["tongue"] (ar (top 37)):=⟨rfl,rfl,rfl,by decide +kernel,rfl,by decide +kernel,by decide +kernel⟩
theorem Fd (D:DWo K mg) (aL:mL K mg) (b6:F0 P w base 3 aL (jy a.tSL)) (T:Txt K mg a):F0 P w base 4 D (BS a):=by
 refine Df.ok (k:=3) D.ex E7 (λ vs H Q E h=>?_) (λ A outer s H vs Q E hr h=>?_)
 ·obtain ⟨x,B,rs,rfl,_⟩:=h;rfl
 ·obtain ⟨x,B,rs,rfl,tg,ok,l64,tSL,k⟩:=h
  have nd:=E7.nd
  have hh:A.handled=none:=hr.hd
  obtain ⟨dx,fs,r,q,k0,os,hx,fl,gr,ol,om⟩:=id tg.ob
  refine ⟨_,(aj (aN (aF (iH P w hh) (by rfl) T.eY (by decide +kernel) (ag (Cn (N:=["rule","piece"]) (fs:=[]) (⟨rfl,by rfl,by rfl,by rfl,trivial⟩) rfl (bx (aS (pv 0) (by rfl))) (λ _ _ _ _ _=>(aA (i:=0) (show List.Nodup (["rule","piece"]:List Str) from by decide +kernel) rfl (Or.inl rfl))) (λ _ _ _ _ _=>by exact (wU K (jR K (pv 0)))) (λ _ _ _ _ _=>by exact (aA (i:=1) (show List.Nodup (["rule","piece"]:List Str) from by decide +kernel) rfl (Or.inl rfl))) (λ _ _ _ _ _=>by exact (qt (bu (av b6 (hr.mono (by decide)) (by rfl) aL.mg aL.kp aL.bd .nil aT (ag (pv 1) aa))))) (λ _ _ _ _ _=>by exact (pv 1)) P w) aa)))),?_⟩
  lia
  refine ⟨x,_,dx,fs,_,rfl,hx,T.cl,T.dX,fl.rules,?_⟩
  lia
  refine ⟨r,rfl,⟨_,SqL.of gr⟩,λ D0 hD=>?_⟩
  refine ⟨rs.length,λ i L H2=>H2=upd H D0 (bb P w D0 L)/\L=cU (fu (bT (rs.take i))),⟨rfl,by simp [bT,fu,cU]⟩,?_⟩
  rintro i L _ hi ⟨rfl,e⟩ _
  have sD:ak H (upd H D0 (bb P w D0 L)):=ak.upd hD
  rcases Nat.lt_or_ge i rs.length with hlt | hge
  rotate_left
  ·have ei:i=rs.length:=by omega
   subst ei
   refine .inl ⟨⟨_,SqL.of (sD _ _ gr),by rw [List.length_map,ol];exact Nat.le_refl _⟩,?_⟩
   rw [List.take_length] at e
   obtain ⟨zs,e2,znd,zm⟩:=rE (bT rs)
   lia
   refine ⟨D0,zs,rfl,by rw [<- e2,<- e];exact ae,znd,?_,λ l ys hl hp hs=>?_⟩
   ·have h1:=gb (fu (bT rs))
    rw [e2] at h1
    simp only [fu,List.length_map] at h1
    omega
   exact k _ l ys (sD.trans (ak.upd hl)) (sD.free hl) ae (hp.nodup_iff.mpr znd) (λ x=>by rw [hp.mem_iff,zm]) hs
  ·have ho:i<os.length:=by omega
   refine .inr ⟨hlt,⟨os.map .ref,.ref os[i],SqL.of (sD _ _ gr),by rw [List.getElem?_map,List.getElem?_eq_getElem ho];rfl⟩,?_⟩
   rintro x' H3 ⟨rfl,hx'⟩
   obtain rfl:x'=V.ref os[i]:=by
    have:=hx' (os.map .ref) (SqL.of (sD _ _ gr))
    rw [List.getElem?_map,List.getElem?_eq_getElem ho] at this
    exact (Option.some.inj this).symm
   refine jL ⟨ik rfl,?_⟩
   obtain ⟨pn,⟨dy,fy,hp,_,hps⟩,gp⟩:=(om i os[i] rs[i] (List.getElem?_eq_getElem ho) (List.getElem?_eq_getElem hlt)).same sD
   lia
   refine ⟨os[i],_,dy,fy,_,rfl,hp,T.clR,T.cL,hps,?_⟩
   lia
   refine ⟨pn,rfl,⟨_,SqL.of gp⟩,rs[i].ys.length,λ j LL H4=>H4=upd H D0 (bb P w D0 LL)/\LL=cU (fu (bT (rs.take i)++(rs[i].ys.take j).filter aP)),ae,⟨rfl,by rw [e];simp⟩,?_⟩
   rintro j LL _ hj ⟨rfl,e2⟩ _
   have sD2:ak H (upd H D0 (bb P w D0 LL)):=ak.upd hD
   have gp2:(upd H D0 (bb P w D0 LL)) pn=some (.lst (rs[i].ys.map .str)):=by
    have:pn≠D0:=λ e=>by rw [e,ae] at gp;cases gp
    rw [aq this] at gp ⊢;exact gp
   rcases Nat.lt_or_ge j rs[i].ys.length with hlt2 | hge2
   rotate_left
   ·have ej:j=rs[i].ys.length:=by omega
    refine .inl ⟨⟨_,SqL.of gp2,by rw [List.length_map,ej];exact Nat.le_refl _⟩,rfl,?_⟩
    rw [e2,ej,List.take_length,fD rs hlt]
   ·refine .inr ⟨hlt2,⟨_,.str rs[i].ys[j],SqL.of gp2,by rw [List.getElem?_map,List.getElem?_eq_getElem hlt2];rfl⟩,?_⟩
    rintro x' H3 ⟨rfl,hx'⟩
    obtain rfl:x'=V.str rs[i].ys[j]:=by
     have:=hx' _ (SqL.of gp2)
     rw [List.getElem?_map,List.getElem?_eq_getElem hlt2] at this
     exact (Option.some.inj this).symm
    refine jL ⟨λ m v hm=>?_,?_⟩
    ·cases m with
     | zero=>exact hm
     | succ m=>cases m with
      | zero=>cases hm
      | succ m=>cases hm
    have it:=(ok _ (List.getElem_mem hlt)).it
    have lo:(bT (rs.take i)++(rs[i].ys.take j).filter aP).length<64:=by
     have h1:=nY rs (i+1)
     rw [fD rs hlt] at h1
     have h2:((rs[i].ys.take j).filter aP).length<=(rs[i].ys.filter aP).length:=((List.take_sublist _ _).filter _).length_le
     rw [List.length_append] at h1 ⊢
     omega
    have et:(rs[i].ys.take (j+1)).filter aP=(rs[i].ys.take j).filter aP++(if aP rs[i].ys[j]=true then [rs[i].ys[j]] else []):=by
     rw [List.take_succ,List.getElem?_eq_getElem hlt2,List.filter_append]
     by_cases z:aP rs[i].ys[j]=true <;> simp [z]
    lia
    refine ⟨_,rfl,rL it _ (List.getElem_mem hlt2),sD2 _ _ tSL,?_⟩
    by_cases z:aP rs[i].ys[j]=true
    ·rw [z]
     refine ⟨true,rfl,?_⟩
     rw [if_pos rfl]
     lia
     refine ⟨.inr rs[i].ys[j],rfl,?_,ae,by rw [vc],?_⟩
     ·rw [e2]
      have h1:=gb (fu (bT (rs.take i)++(rs[i].ys.take j).filter aP))
      simp only [fu,List.length_map] at h1
      show _<4096
      simp only [fu]
      omega
     ·rw [et,if_pos z,<- List.append_assoc,e2]
      unfold fu
      rw [List.map_append (l₂:=[rs[i].ys[j]])]
      exact (iW _ _).symm
    ·rw [Bool.eq_false_iff.mpr z]
     refine ⟨false,rfl,?_⟩
     rw [if_neg Bool.false_ne_true]
     exact ⟨ae,rfl,by rw [e2,et,if_neg z,List.append_nil]⟩
abbrev tD (K:PySem.W.Frag) (mg:Str->Option Value):=Df K mg "_law_cells" "_law_cells" (top 44) ["_law_script","_law_at","_law_many"]
def jO (H:Hp) (c:Addr):Prop:=∃ cs:List Int,H c=some (.lst (cs.map .int))/\cs.length=12
theorem jO.same {H H':Hp} {c:Addr} (h:jO H c) (s:ak H H'):jO H' c:=let ⟨cs,h1,h2⟩:=h;⟨cs,s _ _ h1,h2⟩
theorem jO.at {K:PySem.W.Frag} {H:Hp} {c:Addr} (h:jO H c) (i:Nat) (hi:i<12):∃ z:Int,∃ xs:List V,SqL K H c xs/\atI xs (i:Int)=some (.int z):=by
 obtain ⟨cs,h1,h2⟩:=h
 have hi':i<cs.length:=by omega
 exact ⟨cs[i],_,SqL.of h1,eE (by rw [List.getElem?_map,List.getElem?_eq_getElem hi'];rfl)⟩
theorem jO.atI {K:PySem.W.Frag} {H:Hp} {c:Addr} (h:jO H c) (i:Int) (h0:0<=i) (hi:i<12):∃ z:Int,∃ xs:List V,SqL K H c xs/\L2.atI xs i=some (.int z):=by
 obtain ⟨z,xs,q1,q2⟩:=h.at (K:=K) i.toNat (by omega)
 rw [Int.toNat_of_nonneg h0] at q2
 exact ⟨z,xs,q1,q2⟩
def qx (K:PySem.W.Frag):Sp:=λ vs H Q _=>∃ (p:Addr) (at':Int) (ns:List Int),vs=[.ref p,.int at',.int 12]/\SqL K H p (ns.map .int)/\ns.length<=1000/\∀ H' c,ak H H'->jO H' c->Q (.ref c) H'
theorem zw:aH ["_law_script","_law_at","_law_many"] ["_law_script","_law_at","_law_many"] (ar (top 44)):=⟨rfl,rfl,rfl,by decide +kernel,rfl,by decide +kernel,by decide +kernel⟩
theorem qY (f:Int->V) (xs:List Int) (lo hi:Option Int):∃ ys:List Int,eG (xs.map f) lo hi=ys.map f/\ys.length<=xs.length:=by
 unfold eG
 rw [List.length_map]
 refine ⟨(xs.drop (HT.sIx xs.length 0 lo)).take (HT.sIx xs.length xs.length hi - HT.sIx xs.length 0 lo),by rw [List.map_take,List.map_drop],?_⟩
 rw [List.length_take,List.length_drop]
 omega
theorem wC (f:Int->V) (xs:List Int) (k:Nat):eG (xs.map f) none (some k)=(xs.take k).map f:=by
 unfold eG
 rw [List.length_map,HT.kI,HT.mD,List.drop_zero,Nat.sub_zero,List.map_take]
 rcases Nat.le_total k xs.length with h | h
 ·rw [Nat.min_eq_left h]
 ·rw [Nat.min_eq_right h,List.take_of_length_le (by simp),List.take_of_length_le (by simp;exact h)]
theorem xb (D:tD K mg):F0 P w base 1 D (qx K):=by
 refine Df.ok (k:=0) D.ex zw (λ vs H Q E h=>?_) (λ A outer s H vs Q E hr h=>?_)
 ·obtain ⟨p,at',ns,rfl,_⟩:=h;rfl
 ·obtain ⟨p,at',ns,rfl,hp,hl,k⟩:=h
  refine ⟨_,(aj (aN (bq ez (ai lF (bq ez (pv 0) (bz (pv 1)) (bz (ai aU (pv 1) (pv 2)))) (xE [.int 5,.int 2,.int 9,.int 4,.int 7,.int 1,.int 8,.int 3,.int 6,.int 0,.int 11,.int 13,.int 12,.int 10,.int 14] (ai aU (pv 1) af))) bS (bz (pv 2))))),?_⟩
  lia
  refine ⟨p,_,rfl,hp,λ p1 h1=>?_⟩
  obtain ⟨ys,ey,ly⟩:=qY V.int ns (some at') (some (at'+12))
  lia
  refine ⟨by show 16<=sizeLine;decide,λ p2 h2=>?_⟩
  rw [ey]
  rw [ey] at h2
  have s1:ak H (upd H p1 (.lst (ys.map .int))):=ak.upd h1
  have s2:=s1.trans (ak.upd (o:=.lst (([at'+1,5,2,9,4,7,1,8,3,6,0,11,13,12,10,14]:List Int).map V.int)) h2)
  refine ⟨p1,p2,ys.map .int,([at'+1,5,2,9,4,7,1,8,3,6,0,11,13,12,10,14]:List Int).map V.int,rfl,rfl,?_,ae,?_,λ p3 h3=>?_⟩
  ·rw [aq (ao ae h2)];exact ae
  ·simp only [List.length_map,List.length_cons,List.length_nil]
   exact Nat.le_trans (Nat.add_le_add_right (Nat.le_trans ly hl) _) (by decide)
  lia
  rw [<- List.map_append]
  refine ⟨p3,_,rfl,SqL.of ae,λ p4 h4=>?_⟩
  have e9:eG ((ys++[at'+1,5,2,9,4,7,1,8,3,6,0,11,13,12,10,14]).map V.int) none (some 12)=_:=wC V.int _ 12
  rw [e9]
  refine k _ p4 (s2.trans ((ak.upd h3).trans (ak.upd h4))) ⟨_,ae,?_⟩
  rw [List.length_take,List.length_append]
  simp only [List.length_cons,List.length_nil]
  omega
abbrev xD (K:PySem.W.Frag) (mg:Str->Option Value):=Df K mg "_law_mix" "_law_mix" (top 45) ["_law_cell","_law_k"]
def rX:Sp:=λ vs H Q _=>∃ (c k:Int),vs=[.int c,.int k]/\0<=k/\k<=1000/\∀ r:Int,0<=r->r<998244353->Q (.int r) H
theorem A7:aH ["_law_cell","_law_k","_law_seed"] ["_law_cell","_law_k"] (ar (top 45)):=⟨rfl,rfl,rfl,by decide +kernel,rfl,by decide +kernel,by decide +kernel⟩
theorem Cw (D:xD K mg):F0 P w base 1 D rX:=by
 refine Df.ok (k:=0) D.ex A7 (λ vs H Q E h=>?_) (λ A outer s H vs Q E hr h=>?_)
 ·obtain ⟨c,k,rfl,_⟩:=h;rfl
 ·obtain ⟨c,k,rfl,k0,k1,q⟩:=h
  have nd:=A7.nd
  refine ⟨_,(ah (ay (i:=2) nd rfl (Or.inl rfl) (ai az (ai iz (ai aU (ai aU (ai az (pv 0) af) af) (ai iz (ai iz af (pv 1)) (pv 1))) af) af))
 (aj (aN (ai az (ai iz (pv 2) (pv 2)) af)))),?_⟩
  lia
  refine w_I (.inl ⟨by decide,by decide⟩) ?_
  lia
  refine w_I (.inr ⟨by omega,by omega⟩) ?_
  lia
  refine w_I (.inr ⟨by decide,by decide⟩) ?_
  lia
  generalize hz:(c % 2147483647+1+7919 * k * k) * 48271 % 2147483629=z
  have z0:0<=z:=by rw [<- hz];exact Int.emod_nonneg _ (by decide)
  have z1:z<2147483629:=by rw [<- hz];exact Int.emod_lt_of_pos _ (by decide)
  refine w_I (.inl ⟨by omega,by omega⟩) ?_
  lia
  exact q _ (Int.emod_nonneg _ (by decide)) (Int.emod_lt_of_pos _ (by decide))
theorem len_app (x y:Str):(x++y).length=x.length+y.length:=by show (x.cps++y.cps).size=_;simp [Str.length]
theorem fL (x y:Str):(x++y).cps.toList=x.cps.toList++y.cps.toList:=by show (x.cps++y.cps).toList=_;simp
theorem AE (b:Int) (n:Nat):Builtin.Str.strSliceIndices none (some b) 1 n=Builtin.Str.strSliceIndices (some ((0:Nat):Int)) (some b) 1 n:=by
 have:max (0:Int) (min 0 (n:Int))=0:=by omega
 simp [Builtin.Str.strSliceIndices,this]
theorem vw (a:Int) (n:Nat):Builtin.Str.strSliceIndices (some a) none 1 n=Builtin.Str.strSliceIndices (some a) (some (n:Int)) 1 n:=by
 have:¬ ((n:Int)<0):=by omega
 simp [Builtin.Str.strSliceIndices,this]
theorem kG (x:Str) {b:Nat} (hb:b<=x.length):(Txt.slice x none (some (b:Int))).cps.toList=x.cps.toList.take b:=by
 unfold Txt.slice
 have e:=StrLaws.sliced_plain x (Nat.zero_le b) hb
 rw [<- AE] at e
 have el:(Builtin.Str.strSliceIndices none (some (b:Int)) 1 x.length).length=b:=by
  rw [AE,StrLaws.strSliceIndices_plain (Nat.zero_le b) hb];simp
 split
 ·rename_i z
  rw [el] at z
  have:b=x.length:=by simpa using z
  rw [this,List.take_of_length_le (by simp [Str.length])]
 ·rw [e];simp
theorem tV (x:Str) {a:Nat} (ha:a<=x.length):(Txt.slice x (some (a:Int)) none).cps.toList=x.cps.toList.drop a:=by
 unfold Txt.slice
 have e:=StrLaws.sliced_plain x ha (Nat.le_refl _)
 rw [<- vw] at e
 have el:(Builtin.Str.strSliceIndices (some (a:Int)) none 1 x.length).length=x.length - a:=by
  rw [vw,StrLaws.strSliceIndices_plain ha (Nat.le_refl _)];simp
 split
 ·rename_i z
  rw [el] at z
  have:x.length - a=x.length:=by simpa using z
  rcases Nat.eq_zero_or_pos a with h | h
  ·subst h;rw [List.drop_zero]
  ·have hz:x.length=0:=by omega
   have:x.cps.toList=[]:=List.length_eq_zero_iff.mp (by simpa [Str.length] using hz)
   rw [this];simp
 ·rw [e]
  show (List.take (x.length - a) (List.drop a x.cps.toList)).toArray.toList=_
  rw [List.toList_toArray,List.take_of_length_le (by simp [Str.length])]
theorem rg:∀ zs:List Str,(Str.join "" zs).cps.toList=zs.flatMap λ z=>z.cps.toList
 | []=>rfl
 | [x]=>by simp [Str.join]
 | x::y::r=>by
  show ((x++"")++Str.join "" (y::r)).cps.toList=_
  rw [fL,fL,rg (y::r)]
  have:(("":Str)).cps.toList=[]:=by decide +kernel
  rw [this,List.append_nil];simp only [List.flatMap_cons]
theorem oV (zs:List Str):(Txt.join "" zs).cps.toList=zs.flatMap λ z=>z.cps.toList:=by
 show (Builtin.Str.glued ("":Str) zs).cps.toList=_
 rw [StrLaws.glued_eq_join,rg]
theorem dm (x:Str):x.length=x.cps.toList.length:=by simp [Str.length]
abbrev DLW (K:PySem.W.Frag) (mg:Str->Option Value):=Df K mg "_law_word" "_law_word" (top 47) ["_law_seed","_law_which"]
def yR:Sp:=λ vs H Q _=>∃ (i j:Int),vs=[.int i,.int j]/\∀ H' x,ak H H'->aP x=true->Q (.str x) H'
def wAt (i j:Int) (x:Str):Prop:=x.cps.toList[(i / 9 % (2+i % 9 - 1)).toNat]?=some (97+((i / 2106+j) % 26).toNat)
def AZ:Sp:=λ vs H Q _=>∃ (i j:Int),vs=[.int i,.int j]/\∀ H' x,ak H H'->aP x=true->wAt i j x->Q (.str x) H'
abbrev nLW:List Str:=["_law_seed","_law_which","_law_letters_here","_law_size","_law_place_here","_law_stem","_law_one","_law_other"]
theorem Dn:aH nLW ["_law_seed","_law_which"] (ar (top 47)):=⟨rfl,rfl,rfl,by decide +kernel,rfl,by decide +kernel,by decide +kernel⟩
theorem yF (D:DLW K mg) (T:Txt K mg a):F0 P w base 1 D AZ:=by
 refine Df.ok (k:=0) D.ex Dn (λ vs H Q E h=>?_) (λ A outer s H vs Q E hr h=>?_)
 ·obtain ⟨i,j,rfl,_⟩:=h;rfl
 ·obtain ⟨i,j,rfl,q⟩:=h
  have nd:=Dn.nd
  have l26:("abcdefghijklmnopqrstuvwxyz":Str).length<=sizeLine:=by decide +kernel
  refine ⟨_,(ah (ay (i:=2) nd rfl (Or.inr rfl) aD)
 (ah (ay (i:=3) nd rfl (Or.inl rfl) (ai aU af (ai az (pv 0) af)))
 (ah (ay (i:=4) nd rfl (Or.inl rfl) (ai az (ai aK (pv 0) af) (ai fc (pv 3) af)))
 (ah (ay (i:=5) nd rfl (Or.inl rfl) (cN PySem.F.plainAttrs_str PySem.F.slot_str_join PySem.F.type_str_join vn aD (ag (nP (N:=["_law_k","_law_letters_here","_law_seed"]) (fs:=[(1,2),(2,0)]) (⟨rfl,by rfl,by rfl,by rfl,⟨⟨_,rfl,rfl,rfl,Or.inl rfl⟩,⟨⟨_,rfl,rfl,rfl,Or.inl rfl⟩,trivial⟩⟩⟩) rfl (gg (by rfl) T.dh (ag (pv 3) aa)) (λ _ _ _ _ _=>(aA (i:=0) (show List.Nodup (["_law_k","_law_letters_here","_law_seed"]:List Str) from by decide +kernel) rfl (Or.inl rfl))) (λ _ _ _ _ _=>by exact dU) (λ _ _ _ _ _=>by exact (aV mS (pv 1) (ai az (ai aU (ai aK (pv 2) af) (ai iz af (pv 0))) af) (λ _ _=>rfl)))) aa)))
 (ah (ay (i:=6) nd rfl (Or.inl rfl) (aV mS (pv 2) (ai az (ai aU (ai aK (pv 0) af) (pv 1)) af) (λ _ _=>rfl)))
 (ah (ay (i:=7) nd rfl (Or.inl rfl) (aV mS (pv 2) (ai az (ai aU (ai aK (pv 0) af) (ai aK (pv 1) af)) af) (λ _ _=>rfl)))
 (aj (aN (ai bY (ai bY (ai bY (bq gx (pv 5) bS (bz (pv 4))) (pv 6)) (pv 7)) (bq gx (pv 5) (bz (ai aU (pv 4) af)) bS)))))))))),?_⟩
  lia
  have m0:=Int.emod_nonneg i (show (9:Int)≠0 by decide)
  have m1:=Int.emod_lt_of_pos i (show (0:Int)<9 by decide)
  refine w_mod (by omega) ?_
  lia
  refine ⟨rfl,?_⟩
  lia
  refine ⟨_,rfl,by omega,by omega,lcG (λ k ys=>∃ zs:List Str,ys=zs.map V.str/\zs.length=k/\∀ z∈zs,z.length=1/\∀ c∈z.cps.toList,jZ c=true) qq (Nat.le_trans (show (2+i % 9).toNat<=20 by omega) (by decide)) ⟨[],rfl,rfl,λ _ z=>nomatch z⟩ (λ D k ys H2 hk hD s2 e r=>?_) (λ D H2 ys hD s2 e r=>?_)⟩
  ·lia
   refine ⟨ik rfl,?_⟩
   lia
   refine w_I (.inl ⟨by decide,by decide⟩) ?_
   lia
   obtain ⟨c,hlc,hc⟩:=uJ (i / 81+7 * (0+k))
   refine ⟨_,_,c,rfl,rfl,l26,hc,?_⟩
   obtain ⟨zs,rfl,hl,ho⟩:=r
   refine j2 hD s2 e (ak.refl _) ⟨zs++[⟨#[c]⟩],by rw [List.map_append];rfl,by rw [List.length_append,hl];rfl,λ z hz=>?_⟩
   rcases List.mem_append.mp hz with hz | hz
   ·exact ho z hz
   ·rw [List.mem_singleton.mp hz]
    exact ⟨rfl,λ d hd=>by rw [List.mem_singleton.mp hd];exact hlc⟩
  ·lia
   obtain ⟨zs,rfl,hl,ho⟩:=r
   have hsum:(zs.map (·.length)).sum=zs.length:=by
    clear e hl
    induction zs with
    | nil=>rfl
    | cons z r ih=>
     rw [List.map_cons,List.sum_cons,ih λ y hy=>ho y (List.mem_cons_of_mem _ hy),(ho z List.mem_cons_self).1,List.length_cons]
     omega
   refine ⟨_,D,zs,rfl,rfl,SqL.of e,?_,?_⟩
   ·rw [hsum,hl]
    show _+_ * 0<=_
    omega
   have hj:(Txt.join "" zs).length=(2+i % 9).toNat:=by
    rw [PySem.W.KT.join_ones zs λ z hz=>(ho z hz).1,hl]
   have hlow:∀ c∈(Txt.join "" zs).cps.toList,jZ c=true:=λ c hc=>by
    rw [oV] at hc
    obtain ⟨z,hz,hcz⟩:=List.mem_flatMap.mp hc
    exact (ho z hz).2 c hcz
   lia
   obtain ⟨c1,hc1,lc1,h1⟩:=Ai (i / 2106+j)
   refine ⟨_,_,c1,rfl,rfl,l26,h1,?_⟩
   lia
   obtain ⟨c2,lc2,h2⟩:=uJ (i / 54756+j / 26)
   refine ⟨_,_,c2,rfl,rfl,l26,h2,?_⟩
   lia
   have hj10:(Txt.join "" zs).length<=10:=by omega
   have hjs:(Txt.join "" zs).length<=sizeLine:=Nat.le_trans hj10 (by decide)
   generalize hst:Txt.join "" zs=st at hj hlow hj10 hjs ⊢
   have p0:=Int.emod_nonneg (i / 9) (show (2+i % 9 - 1:Int)≠0 by omega)
   have p1:=Int.emod_lt_of_pos (i / 9) (show (0:Int)<2+i % 9 - 1 by omega)
   obtain ⟨pl,hpl⟩:∃ pl:Nat,i / 9 % (2+i % 9 - 1)=pl:=⟨(i / 9 % (2+i % 9 - 1)).toNat,by omega⟩
   rw [hpl] at p1 ⊢
   have e2:((pl:Int)+2)=((pl+2:Nat):Int):=by omega
   have hp2:pl+2<=st.length:=by omega
   refine ⟨_,rfl,hjs,?_⟩
   have ha:=kG st (b:=pl) (by omega)
   have hb:=tV st (a:=pl+2) hp2
   have la:(Txt.slice st none (some (pl:Int))).length=pl:=by rw [dm,ha,List.length_take,<- dm];omega
   have lb:(Txt.slice st (some ((pl+2:Nat):Int)) none).length=st.length - (pl+2):=by rw [dm,hb,List.length_drop,<- dm]
   have o1:(⟨#[c1]⟩:Str).length=1:=rfl
   have o2:(⟨#[c2]⟩:Str).length=1:=rfl
   have big:40<=sizeLine:=by decide
   lia
   refine ⟨_,_,rfl,rfl,by rw [o1];omega,?_⟩
   lia
   refine ⟨_,_,rfl,rfl,by rw [len_app,o1,o2];omega,?_⟩
   lia
   rw [e2]
   refine ⟨_,rfl,hjs,?_⟩
   refine ⟨_,_,rfl,rfl,by rw [len_app,len_app,o1,o2];omega,?_⟩
   refine q H2 _ s2 (Am ?_ ?_ λ c hc=>?_) ?_
   ·rw [<- dm,len_app,len_app,len_app,o1,o2];omega
   ·rw [<- dm,len_app,len_app,len_app,o1,o2];omega
   ·rw [fL,fL,fL,ha,hb] at hc
    simp only [List.mem_append] at hc
    rcases hc with ((hc | hc) | hc) | hc
    ·exact hlow c (List.mem_of_mem_take hc)
    ·rw [List.mem_singleton.mp hc];exact lc1
    ·rw [List.mem_singleton.mp hc];exact lc2
    ·exact hlow c (List.mem_of_mem_drop hc)
   ·unfold wAt
    rw [hpl,fL,fL,fL,ha,hb,<- hc1]
    have lt:(List.take pl st.cps.toList).length=pl:=by rw [List.length_take,<- dm];omega
    show (((List.take pl st.cps.toList++[c1])++[c2])++_)[((pl:Nat):Int).toNat]?=some c1
    rw [Int.toNat_natCast,List.append_assoc,List.append_assoc,List.getElem?_append_right (by omega),lt,Nat.sub_self];rfl
theorem E4 (D:DLW K mg) (T:Txt K mg a):F0 P w base 1 D yR:=(yF D T).imp λ vs H Q E ⟨i,j,e,q⟩=>⟨i,j,e,λ H2 x s2 h _=>q H2 x s2 h⟩
theorem wAt.ne {i:Int} {x y:Str} (hx:wAt i 0 x) (hy:wAt i 1 y):x≠y:=λ e=>by
 unfold wAt at hx hy
 rw [e,hy] at hx
 have:=Option.some.inj hx
 omega
end
structure uL (ss rr xs:List Str):Prop where
 sg:∀ y∈xs,y∈sig
 nd:xs.Nodup
 is:∀ y∈ss,y∈xs
 ir:∀ y∈rr,y∈xs
theorem pO {xs:List Str} (h:xs.length<=1):xs.Nodup:=by
 match xs,h with
 | [],_=>simp
 | [x],_=>simp
theorem uL.of {ss rr:List Str} (sl:ss.length<=1) (sb:∀ z∈ss,z∈four) (rl:rr.length<=1) (rb:∀ z∈rr,z∈(["R","K"]:List Str)):uL ss rr (ss++rr)/\uL ss rr (rr++ss):=by
 have h1:∀ y∈ss++rr,y∈sig:=λ y hy=>(List.mem_append.mp hy).elim (λ h=>wM (sb y h)) λ h=>C6 (rb y h)
 refine ⟨⟨h1,?_,λ y h=>List.mem_append_left _ h,λ y h=>List.mem_append_right _ h⟩,⟨λ y hy=>h1 y (by rw [List.mem_append] at hy ⊢;exact hy.symm),?_,λ y h=>List.mem_append_right _ h,λ y h=>List.mem_append_left _ h⟩⟩
 ·exact List.nodup_append.mpr ⟨pO sl,pO rl,λ x hx y hy e=>vm (rb y hy) (e ▸ sb x hx)⟩
 ·exact List.nodup_append.mpr ⟨pO rl,pO sl,λ x hx y hy e=>vm (rb x hx) (e ▸ sb y hy)⟩
structure ItF (ss rr ys:List Str):Prop where
 pc:∀ y∈ys,aP y=true∨y∈sig
 cn:∀ z∈sig,ys.count z<=1
 wd:∃ y∈ys,aP y=true
 is:∀ y∈ss,y∈ys
 ir:∀ y∈rr,y∈ys
theorem uR {z x:Str} (h:aP x=true) (hz:z∈sig):¬ x=z:=λ e=>nX h (e ▸ hz)
theorem uL.ins {ss rr xs:List Str} (h:uL ss rr xs) {x:Str} (hx:aP x=true) (j:Nat):ItF ss rr (xs.take j++x::xs.drop j):=by
 have mem:∀ y,y∈xs->y∈xs.take j++x::xs.drop j:=λ y hy=>by
  rw [<- List.take_append_drop j xs] at hy
  rcases List.mem_append.mp hy with hy | hy
  ·exact List.mem_append_left _ hy
  ·exact List.mem_append_right _ (List.mem_cons_of_mem _ hy)
 refine ⟨λ y hy=>?_,λ z hz=>?_,⟨x,List.mem_append_right _ (List.mem_cons_self),hx⟩,λ y hy=>mem y (h.is y hy),λ y hy=>mem y (h.ir y hy)⟩
 ·rcases List.mem_append.mp hy with hy | hy
  ·exact .inr (h.sg y (List.mem_of_mem_take hy))
  ·rcases List.mem_cons.mp hy with rfl | hy
   ·exact .inl hx
   ·exact .inr (h.sg y (List.mem_of_mem_drop hy))
 ·rw [List.count_append,List.count_cons_of_ne (uR hx hz),<- List.count_append,List.take_append_drop]
  exact List.nodup_iff_count.mp h.nd z
theorem ItF.app {ss rr ys:List Str} (h:ItF ss rr ys) {x:Str} (hx:aP x=true):ItF ss rr (ys++[x]):=by
 refine ⟨λ y hy=>?_,λ z hz=>?_,let ⟨y,m,w⟩:=h.wd;⟨y,List.mem_append_left _ m,w⟩,λ y hy=>List.mem_append_left _ (h.is y hy),λ y hy=>List.mem_append_left _ (h.ir y hy)⟩
 ·rcases List.mem_append.mp hy with hy | hy
  ·exact h.pc y hy
  ·rw [List.mem_singleton.mp hy];exact .inl hx
 ·rw [List.count_append,List.count_cons_of_ne (uR hx hz),List.count_nil]
  exact h.cn z hz
structure fj (ys:List Str) (n:Nat) (zs:List Str):Prop where
 ok:Ok zs
 ne:zs≠[]
 lt:zs.getLast?≠some ("+":Str)
 le:zs.length+1<=2 * n
 fr:∀ y∈zs,y="+"∨y∈ys.take n
 al:∀ y∈ys.take n,y∈zs
 wc:(zs.filter aP).length<=n
theorem ItF.tie {ss rr ys:List Str} (f:ItF ss rr ys) {y:Str} (h:y∈ys):y≠"+":=λ e=>by
 rcases f.pc y h with h | h
 ·exact mM h e
 ·exact vt (e ▸ h)
theorem ItF.new {ss rr ys:List Str} (f:ItF ss rr ys) {n:Nat} {y:Str} (e:ys[n]?=some y) (hs:y∈sig):¬ y∈ys.take n:=λ h=>by
 have h1:(ys.take (n+1)).count y<=1:=Nat.le_trans ((List.take_sublist _ _).count_le y) (f.cn y hs)
 rw [List.take_succ,e,List.count_append] at h1
 have h2:0<(ys.take n).count y:=List.count_pos_iff.mpr h
 have h3:(some y).toList.count y=1:=by simp
 omega
theorem fj.snoc {ss rr ys:List Str} (f:ItF ss rr ys) {n:Nat} {zs:List Str} {y:Str} (e:ys[n]?=some y) (ok:Ok zs) (le:zs.length<=2 * n) (fr:∀ y∈zs,y="+"∨y∈ys.take n) (al:∀ y∈ys.take n,y∈zs) (wc:(zs.filter aP).length<=n):fj ys (n+1) (zs++[y]):=by
 have my:=List.mem_of_getElem? e
 have ny:=f.tie my
 have ey:ys.take (n+1)=ys.take n++[y]:=by rw [List.take_succ,e];rfl
 refine ⟨ok.snoc ((f.pc y my).elim .inl λ h=>.inr (.inl h)) (λ hs h=>?_) (λ e=>absurd e ny),by simp,by rw [List.getLast?_append];simpa using ny,by rw [List.length_append,List.length_singleton];omega,λ z hz=>?_,λ z hz=>?_,?_⟩
 ·rcases fr y h with e2 | h
  ·exact ny e2
  ·exact f.new e hs h
 ·rw [ey]
  rcases List.mem_append.mp hz with hz | hz
  ·exact (fr z hz).imp id λ h=>List.mem_append_left _ h
  ·exact .inr (List.mem_append_right _ hz)
 ·rw [ey] at hz
  rcases List.mem_append.mp hz with hz | hz
  ·exact List.mem_append_left _ (al z hz)
  ·exact List.mem_append_right _ hz
 ·have h1:=List.length_filter_le aP [y]
  rw [List.length_singleton] at h1
  rw [List.filter_append,List.length_append];omega
theorem fj.plain {ss rr ys:List Str} (f:ItF ss rr ys) {n:Nat} {zs:List Str} {y:Str} (h:fj ys n zs) (e:ys[n]?=some y):fj ys (n+1) (zs++[y]):=.snoc f e h.ok (by have:=h.le;omega) h.fr h.al h.wc
theorem fj.FG {ss rr ys:List Str} (f:ItF ss rr ys) {n:Nat} {zs:List Str} {y:Str} (h:fj ys n zs) (e:ys[n]?=some y):fj ys (n+1) (zs++[("+":Str)]++[y]):=by
 refine .snoc f e (h.ok.snoc (.inr (.inr rfl)) (λ z=>absurd z vt) λ _=>⟨h.ne,h.lt⟩) (by have:=h.le;rw [List.length_append,List.length_singleton];omega) (λ z hz=>?_) (λ z hz=>List.mem_append_left _ (h.al z hz)) (by rw [List.filter_append,show ([("+":Str)]:List Str).filter aP=[] from by decide +kernel,List.append_nil];exact h.wc)
 rcases List.mem_append.mp hz with hz | hz
 ·exact h.fr z hz
 ·exact .inl (List.mem_singleton.mp hz)
theorem fj.one {ss rr ys:List Str} (f:ItF ss rr ys) {y:Str} (e:ys[0]?=some y):fj ys 1 [y]:=.snoc (zs:=[]) f e .nil (by simp) (λ _ h=>(nomatch h)) (λ _ h=>by simp at h) (by simp)
theorem fj.its {ss rr ys:List Str} (f:ItF ss rr ys) {zs:List Str} (h:fj ys ys.length zs) (l:ys.length<=4):ItN zs:=by
 obtain ⟨y,m,w⟩:=f.wd
 exact ⟨⟨h.ok,h.ne,h.lt,⟨y,h.al y (by rw [List.take_length];exact m),w⟩,by have:=h.le;omega⟩,Nat.le_trans h.wc l⟩
theorem pd (xs:List Str) (k:Nat):eG (xs.map V.str) none (some (k:Int))=(xs.take k).map V.str:=by
 unfold eG
 rw [List.length_map,HT.kI,HT.mD,List.drop_zero,Nat.sub_zero,List.map_take]
 rcases Nat.le_total k xs.length with h | h
 ·rw [Nat.min_eq_left h]
 ·rw [Nat.min_eq_right h,List.take_of_length_le (by simp),List.take_of_length_le (by simp;exact h)]
theorem FC (xs:List Str) (i:Int) (y:Str):pI (xs.map V.str) i (.str y)=(xs.take (min i.toNat xs.length)++y::xs.drop (min i.toNat xs.length)).map V.str:=by
 unfold pI
 rw [List.length_map,List.map_append,List.map_cons,List.map_take,List.map_drop]
section
variable {P:Program} {w:World} {K:PySem.W.Frag} {mg:Str->Option Value} {base:Heap} {a:Ad}
abbrev DRu (K:PySem.W.Frag) (mg:Str->Option Value):=Df K mg "_law_rule" "_law_rule" (top 48) ["_law_bound","_law_cell","_law_seed","_law_k"]
def Cg:Sp:=λ vs H Q _=>∃ (bd ce se kk:Int),vs=[.int bd,.int ce,.int se,.int kk]/\0<=bd/\0<=kk/\kk<=100/\∀ H' r,ak H H'->RD.at r H'->RD.ok r->Q (.ref r.t) H'
abbrev nRu:List Str:=["_law_bound","_law_cell","_law_seed","_law_k","_law_m","_law_base","_law_first","_law_last","_law_low","_law_high","_law_how","_law_some","_law_rest","_law_items","_law_told_here","_law_j","_law_item"]
theorem Es:aH nRu ["_law_bound","_law_cell","_law_seed","_law_k"] (ar (top 48)):=⟨rfl,rfl,rfl,by decide +kernel,rfl,by decide +kernel,by decide +kernel⟩
theorem Ec (D:DRu K mg) (au:xD K mg) (bc:F0 P w base 1 au rX) (aG:DLW K mg) (bV:F0 P w base 1 aG yR) (T:Txt K mg a):F0 P w base 2 D Cg:=by
 refine Df.ok (k:=1) D.ex Es (λ vs H Q E h=>?_) (λ A outer s H vs Q E hr h=>?_)
 ·obtain ⟨bd,ce,se,kk,rfl,_⟩:=h;rfl
 ·obtain ⟨bd,ce,se,kk,rfl,bd0,kk0,kk1,k⟩:=h
  have nd:=Es.nd
  have hu:=Nat.lt_of_succ_lt (rf hr)
  refine ⟨_,(ah (ay (i:=4) nd rfl (Or.inl rfl) (av bc (hr.mono (by decide)) (by rfl) au.mg au.kp au.bd .nil aT (ag (pv 1) (ag (ai aU af (pv 3)) aa))))
 (ah (ay (i:=5) nd rfl (Or.inl rfl) (ai aU af (ai az (pv 4) af)))
 (ah (ay (i:=6) nd rfl (Or.inl rfl) (ai az (ai aK (pv 4) af) (pv 5)))
 (ah (ay (i:=7) nd rfl (Or.inl rfl) (ai aU (pv 6) (ai az (ai aK (pv 4) af) (ai fc (pv 5) (pv 6)))))
 (ah (ay (i:=8) nd rfl (Or.inl rfl) (ai az (ai aK (pv 4) af) (ai aU (pv 0) af)))
 (ah (ay (i:=9) nd rfl (Or.inl rfl) (ai aU (pv 8) (ai az (av bc (hr.mono (by decide)) (by rfl) au.mg au.kp au.bd .nil aT (ag (pv 1) (ag (ai aU af (pv 3)) aa))) (ai fc (ai aU (pv 0) af) (pv 8)))))
 (ah (ay (i:=10) nd rfl (Or.inl rfl) (av bc (hr.mono (by decide)) (by rfl) au.mg au.kp au.bd .nil aT (ag (pv 1) (ag (ai aU af (pv 3)) aa))))
 (ah (ay (i:=11) nd rfl (Or.inl rfl) (aV a7 (aM (ag (aM (ag aD aa)) (ag (aM (ag aD aa)) (ag (aM (ag aD aa)) (ag (aM (ag aD aa)) (ag (aM aa) aa)))))) (ai az (pv 10) af) (λ _ _=>rfl)))
 (ah (ay (i:=12) nd rfl (Or.inl rfl) (aV a7 (aM (ag (aM (ag aD aa)) (ag (aM (ag aD aa)) (ag (aM aa) aa)))) (ai az (ai aK (pv 10) af) af) (λ _ _=>rfl)))
 (ah (aY (pw_and (aB iq (ai kg (pv 8) (pv 5)) (ai kg (pv 9) (pv 5)) (aC _)) (pw_and1 (aB (qg hu) (pv 11) (aM aa) (aC _)))).pt
 (aj (ay (i:=11) nd rfl (Or.inl rfl) (aM (ag aD aa))))
 aE)
 (ah (aY (pw_and (aB iq (pv 6) (pv 7) (aC _)) (pw_and1 (aB (qg hu) (pv 12) (aM aa) (aC _)))).pt
 (aj (ay (i:=12) nd rfl (Or.inl rfl) (aM (ag aD aa))))
 aE)
 (ah (ay (i:=13) nd rfl (Or.inl rfl) (aV a7 (aM (ag (ai lF (pv 11) (pv 12)) (ag (ai lF (pv 12) (pv 11)) aa))) (ai az (ai aK (pv 10) af) af) (λ _ _=>rfl)))
 (ah (bj (cN PySem.F.plainAttrs_list PySem.F.slot_list_insert PySem.F.type_list_insert pE (pv 13) (ag (ai az (ai aK (pv 10) af) (ai aU (aF bt (by rfl) T.cg boot_len (ag (pv 13) aa)) af)) (ag (av bV (hr.mono (by decide)) (by rfl) aG.mg aG.kp aG.bd .nil aT (ag (pv 2) (ag (ai az (ai aK (pv 10) af) af) aa))) aa))))
 (ah (aY (aB dg (ai az (ai aK (pv 10) af) af) af (aC _))
 (aj (bj (cN PySem.F.plainAttrs_list PySem.F.slot_list_append PySem.F.type_list_append br (pv 13) (ag (av bV (hr.mono (by decide)) (by rfl) aG.mg aG.kp aG.bd .nil aT (ag (pv 2) (ag (ai az (ai aK (pv 10) af) af) aa))) aa))))
 aE)
 (ah (ay (i:=14) nd rfl (Or.inl rfl) (bq ez (pv 13) bS (bz af)))
 (ah (dH PassesOwn.never rfl (qi (by rfl) T.bW (by decide +kernel) (ag (bq ez (pv 13) (bz af) bS) aa)) (lg (n:=2) rfl (bf (aA (i:=15) nd rfl (Or.inl rfl)) (bf (aA (i:=16) nd rfl (Or.inl rfl)) fE)))
 (ah (aY (aB dg (ai Bq (ai By (pv 10) (ai aU af (pv 15))) af) af (aC _))
 (aj (bj (cN PySem.F.plainAttrs_list PySem.F.slot_list_append PySem.F.type_list_append br (pv 14) (ag aD aa))))
 aE)
 (aj (bj (cN PySem.F.plainAttrs_list PySem.F.slot_list_append PySem.F.type_list_append br (pv 14) (ag (pv 16) aa))))))
 (aj (aN (bH (ag (pv 8) (ag (pv 9) (ag (pv 5) (ag (pv 6) (ag (pv 7) (ag (pv 14) aa))))))))))))))))))))))))),?_⟩
  lia
  refine ⟨ce,_,rfl,by omega,by omega,λ m m0 m1=>?_⟩
  lia
  have b0:2<=2+m % 8/\2+m % 8<=9:=by omega
  generalize 2+m % 8=bs at b0 ⊢
  refine w_mod (by omega) ?_
  lia
  have f0:=bF (m / 8) (show (0:Int)<bs by omega)
  have f1:=mod_lt (m / 8) (show (0:Int)<bs by omega)
  generalize m / 8 % bs=fi at f0 f1 ⊢
  refine w_mod (by omega) ?_
  lia
  have g0:=bF (m / 64) (show (0:Int)<bs - fi by omega)
  have g1:=mod_lt (m / 64) (show (0:Int)<bs - fi by omega)
  have l0:fi<=fi+m / 64 % (bs - fi)/\fi+m / 64 % (bs - fi)<bs:=by omega
  generalize fi+m / 64 % (bs - fi)=la at l0 ⊢
  refine w_mod (by omega) ?_
  have lo0:=bF (m / 512) (show (0:Int)<bd+1 by omega)
  have lo1:=mod_lt (m / 512) (show (0:Int)<bd+1 by omega)
  generalize m / 512 % (bd+1)=low at lo0 lo1 ⊢
  lia
  refine ⟨ce,_,rfl,by omega,by omega,λ m2 m20 m21=>?_⟩
  lia
  refine w_mod (by omega) ?_
  have hi0:=bF m2 (show (0:Int)<bd+2 - low by omega)
  generalize m2 % (bd+2 - low)=mm at hi0 ⊢
  lia
  refine ⟨ce,_,rfl,by omega,by omega,λ hw hw0 hw1=>?_⟩
  lia
  refine ⟨by show 1<=sizeLine;decide,λ p1 hp1=>?_⟩
  have sA1:=ak.upd (o:=.lst [V.str "Q"]) hp1
  have gA1:(upd H p1 (.lst [V.str "Q"])) p1=some (.lst ([("Q":Str)].map V.str)):=ae
  generalize upd H p1 _=A1 at sA1 gA1 ⊢
  lia
  refine ⟨by show 1<=sizeLine;decide,λ p2 hp2=>?_⟩
  have sA2:=ak.upd (o:=.lst [V.str "N"]) hp2
  have gA2:(upd A1 p2 (.lst [V.str "N"])) p2=some (.lst ([("N":Str)].map V.str)):=ae
  generalize upd A1 p2 _=A2 at sA2 gA2 ⊢
  lia
  refine ⟨by show 1<=sizeLine;decide,λ p3 hp3=>?_⟩
  have sA3:=ak.upd (o:=.lst [V.str "W"]) hp3
  have gA3:(upd A2 p3 (.lst [V.str "W"])) p3=some (.lst ([("W":Str)].map V.str)):=ae
  generalize upd A2 p3 _=A3 at sA3 gA3 ⊢
  lia
  refine ⟨by show 1<=sizeLine;decide,λ p4 hp4=>?_⟩
  have sA4:=ak.upd (o:=.lst [V.str "U"]) hp4
  have gA4:(upd A3 p4 (.lst [V.str "U"])) p4=some (.lst ([("U":Str)].map V.str)):=ae
  generalize upd A3 p4 _=A4 at sA4 gA4 ⊢
  lia
  refine ⟨by show 0<=sizeLine;decide,λ p5 hp5=>?_⟩
  have sA5:=ak.upd (o:=.lst []) hp5
  have gA5:(upd A4 p5 (.lst [])) p5=some (.lst (([]:List Str).map V.str)):=ae
  generalize upd A4 p5 _=A5 at sA5 gA5 ⊢
  lia
  refine ⟨by show 5<=sizeLine;decide,λ p6 hp6=>?_⟩
  have sA6:=ak.upd (o:=.lst [V.ref p1,.ref p2,.ref p3,.ref p4,.ref p5]) hp6
  have gA6:(upd A5 p6 (.lst [V.ref p1,.ref p2,.ref p3,.ref p4,.ref p5])) p6=some (.lst [V.ref p1,.ref p2,.ref p3,.ref p4,.ref p5]):=ae
  generalize upd A5 p6 _=A6 at sA6 gA6 ⊢
  lia
  have t26:=sA3.trans (sA4.trans (sA5.trans sA6))
  obtain ⟨lk,ss,pk,gk,sl,sb⟩:∃ (lk:Addr) (ss:List Str),atI [V.ref p1,.ref p2,.ref p3,.ref p4,.ref p5] (hw % 5)=some (.ref lk)/\A6 lk=some (.lst (ss.map V.str))/\ss.length<=1/\∀ z∈ss,z∈four:=by
   rcases (show hw % 5=0∨hw % 5=1∨hw % 5=2∨hw % 5=3∨hw % 5=4 by omega) with h | h | h | h | h <;> rw [h]
   ·exact ⟨p1,_,rfl,(sA2.trans t26) _ _ gA1,by simp,by unfold four;simp⟩
   ·exact ⟨p2,_,rfl,t26 _ _ gA2,by simp,by unfold four;simp⟩
   ·exact ⟨p3,_,rfl,(sA4.trans (sA5.trans sA6)) _ _ gA3,by simp,by unfold four;simp⟩
   ·exact ⟨p4,_,rfl,(sA5.trans sA6) _ _ gA4,by simp,by unfold four;simp⟩
   ·exact ⟨p5,_,rfl,sA6 _ _ gA5,by simp,by simp⟩
  refine ⟨p6,_,_,_,rfl,rfl,SqL.of gA6,pk,?_⟩
  have sA:=sA1.trans (sA2.trans t26)
  clear gA1 gA2 gA3 gA4 gA5 gA6 sA1 sA2 sA3 sA4 sA5 sA6 t26 pk hp1 hp2 hp3 hp4 hp5 hp6
  lia
  refine ⟨by show 1<=sizeLine;decide,λ r1 hp1=>?_⟩
  have sB1:=ak.upd (o:=.lst [V.str "R"]) hp1
  have gB1:(upd A6 r1 (.lst [V.str "R"])) r1=some (.lst ([("R":Str)].map V.str)):=ae
  generalize upd A6 r1 _=B1 at sB1 gB1 ⊢
  lia
  refine ⟨by show 1<=sizeLine;decide,λ r2 hp2=>?_⟩
  have sB2:=ak.upd (o:=.lst [V.str "K"]) hp2
  have gB2:(upd B1 r2 (.lst [V.str "K"])) r2=some (.lst ([("K":Str)].map V.str)):=ae
  generalize upd B1 r2 _=B2 at sB2 gB2 ⊢
  lia
  refine ⟨by show 0<=sizeLine;decide,λ r3 hp3=>?_⟩
  have sB3:=ak.upd (o:=.lst []) hp3
  have gB3:(upd B2 r3 (.lst [])) r3=some (.lst (([]:List Str).map V.str)):=ae
  generalize upd B2 r3 _=B3 at sB3 gB3 ⊢
  lia
  refine ⟨by show 3<=sizeLine;decide,λ r4 hp4=>?_⟩
  have sB4:=ak.upd (o:=.lst [V.ref r1,.ref r2,.ref r3]) hp4
  have gB4:(upd B3 r4 (.lst [V.ref r1,.ref r2,.ref r3])) r4=some (.lst [V.ref r1,.ref r2,.ref r3]):=ae
  generalize upd B3 r4 _=B4 at sB4 gB4 ⊢
  lia
  obtain ⟨lr,rr,pk,gr,rl,rb⟩:∃ (lr:Addr) (rr:List Str),atI [V.ref r1,.ref r2,.ref r3] (hw / 5 % 3)=some (.ref lr)/\B4 lr=some (.lst (rr.map V.str))/\rr.length<=1/\∀ z∈rr,z∈(["R","K"]:List Str):=by
   rcases (show hw / 5 % 3=0∨hw / 5 % 3=1∨hw / 5 % 3=2 by omega) with h | h | h <;> rw [h]
   ·exact ⟨r1,_,rfl,(sB2.trans (sB3.trans sB4)) _ _ gB1,by simp,by simp⟩
   ·exact ⟨r2,_,rfl,(sB3.trans sB4) _ _ gB2,by simp,by simp⟩
   ·exact ⟨r3,_,rfl,sB4 _ _ gB3,by simp,by simp⟩
  refine ⟨r4,_,_,_,rfl,rfl,SqL.of gB4,pk,?_⟩
  have sB:=sB1.trans (sB2.trans (sB3.trans sB4))
  have gk:=sB _ _ gk
  have sH:=sA.trans sB
  clear gB1 gB2 gB3 gB4 sB1 sB2 sB3 sB4 pk hp1 hp2 hp3 hp4 sA sB
  have dv:xJ low bs:=⟨by omega,yO (by omega) (Int.lt_of_le_of_lt b0.2 (by decide))⟩
  have dv2:xJ (low+mm) bs:=dv
  (repeat array_mem_dec)
  show CL _ _ _ _ [some (V.int bd),some (V.int ce),some (V.int se),some (V.int kk),some (V.int m),some (V.int bs),some (V.int fi),some (V.int la),some (V.int low),some (V.int (low+mm)),some (V.int hw),some (V.ref lk),some (V.ref lr),none,none,none,none] B4
  refine lP (λ σ2 H4=>∃ lk ss,σ2=[some (V.int bd),some (V.int ce),some (V.int se),some (V.int kk),some (V.int m),some (V.int bs),some (V.int fi),some (V.int la),some (V.int low),some (V.int (low+mm)),some (V.int hw),some (V.ref lk),some (V.ref lr),none,none,none,none]/\ak B4 H4/\H4 lk=some (.lst (ss.map V.str))/\ss.length<=1/\(∀ z∈ss,z∈four)/\(low / bs≠(low+mm) / bs->ss≠[])) (λ nx' hj=>?_) ?_
  ·lia
   refine w_I dv ?_
   lia
   refine w_I dv2 ?_
   lia
   refine w_ite (λ z1=>?_) (λ z1=>?_)
   ·lia
    refine ⟨by show 0<=sizeLine;decide,λ e1 he1=>?_⟩
    have sC:=ak.upd (o:=.lst []) he1
    refine ⟨lk,e1,_,_,rfl,rfl,.inl ⟨SqL.of (sC _ _ gk),SqL.of ae⟩,b7 _,rfl,?_⟩
    generalize upd B4 e1 _=C1 at sC ⊢
    refine ⟨_,rfl,w_ite (λ z2=>?_) (λ z2=>?_)⟩
    ·lia
     refine ⟨by show 1<=sizeLine;decide,λ n1 hn1=>?_⟩
     lia
     exact hj _ _ ⟨n1,["Q"],rfl,sC.trans (ak.upd hn1),ae,by simp,by unfold four;simp,λ _=>by simp⟩
    ·lia
     refine hj _ _ ⟨lk,ss,rfl,sC,sC _ _ gk,sl,sb,λ _ e=>?_⟩
     rw [e] at z2;exact absurd z2 (by decide)
   ·lia
    have z1:¬ low / bs<(low+mm) / bs:=by simpa using z1
    have:=Int.ediv_le_ediv (show (0:Int)<bs by omega) (show low<=low+mm by omega)
    exact hj _ _ ⟨lk,ss,rfl,.refl _,gk,sl,sb,λ h=>by omega⟩
  clear gk sl sb
  rintro _ C2 ⟨lk,ss,rfl,sC,gk,sl,sb,sn⟩
  have gr:=sC _ _ gr
  have sH:=sH.trans sC
  clear sC
  (repeat array_mem_dec)
  refine lP (λ σ2 H4=>∃ lr rr,σ2=[some (V.int bd),some (V.int ce),some (V.int se),some (V.int kk),some (V.int m),some (V.int bs),some (V.int fi),some (V.int la),some (V.int low),some (V.int (low+mm)),some (V.int hw),some (V.ref lk),some (V.ref lr),none,none,none,none]/\ak C2 H4/\H4 lr=some (.lst (rr.map V.str))/\rr.length<=1/\(∀ z∈rr,z∈(["R","K"]:List Str))/\(fi≠la->rr≠[])) (λ nx' hj=>?_) ?_
  ·lia
   refine w_ite (λ z1=>?_) (λ z1=>?_)
   ·lia
    refine ⟨by show 0<=sizeLine;decide,λ e1 he1=>?_⟩
    have sC:=ak.upd (o:=.lst []) he1
    refine ⟨lr,e1,_,_,rfl,rfl,.inl ⟨SqL.of (sC _ _ gr),SqL.of ae⟩,b7 _,rfl,?_⟩
    generalize upd C2 e1 _=C1 at sC ⊢
    refine ⟨_,rfl,w_ite (λ z2=>?_) (λ z2=>?_)⟩
    ·lia
     refine ⟨by show 1<=sizeLine;decide,λ n1 hn1=>?_⟩
     lia
     exact hj _ _ ⟨n1,["R"],rfl,sC.trans (ak.upd hn1),ae,by simp,by simp,λ _=>by simp⟩
    ·lia
     refine hj _ _ ⟨lr,rr,rfl,sC,sC _ _ gr,rl,rb,λ _ e=>?_⟩
     rw [e] at z2;exact absurd z2 (by decide)
   ·lia
    have z1:¬ fi<la:=by simpa using z1
    exact hj _ _ ⟨lr,rr,rfl,.refl _,gr,rl,rb,λ h=>by omega⟩
  clear gr rl rb
  rintro _ D1 ⟨lr,rr,rfl,sC,gr,rl,rb,rn⟩
  have gk:=sC _ _ gk
  have sH:=sH.trans sC
  clear sC
  lia
  refine ⟨lk,lr,_,_,rfl,rfl,gk,gr,by simp only [List.length_map];exact aW (by omega),λ q1 hq1=>?_⟩
  rw [<- List.map_append]
  have sD:=ak.upd (o:=.lst ((ss++rr).map V.str)) hq1
  have gD:(upd D1 q1 (.lst ((ss++rr).map V.str))) q1=some (.lst ((ss++rr).map V.str)):=ae
  generalize upd D1 q1 _=D2 at sD gD ⊢
  lia
  refine ⟨lr,lk,_,_,rfl,rfl,sD _ _ gr,sD _ _ gk,by simp only [List.length_map];exact aW (by omega),λ q2 hq2=>?_⟩
  rw [<- List.map_append]
  have sE:=ak.upd (o:=.lst ((rr++ss).map V.str)) hq2
  have gE:(upd D2 q2 (.lst ((rr++ss).map V.str))) q2=some (.lst ((rr++ss).map V.str)):=ae
  generalize upd D2 q2 _=D3 at sE gE ⊢
  lia
  refine ⟨by show 2<=sizeLine;decide,λ q3 hq3=>?_⟩
  have sF:=ak.upd (o:=.lst [V.ref q1,.ref q2]) hq3
  have gF:(upd D3 q3 (.lst [V.ref q1,.ref q2])) q3=some (.lst [V.ref q1,.ref q2]):=ae
  generalize upd D3 q3 _=D4 at sF gF ⊢
  lia
  have fresh:∀ {c},D1 c=none->H c=none:=λ {c} h=>by
   cases e:H c with
   | none=>rfl
   | some o=>rw [sH _ _ e] at h;cases h
  obtain ⟨il,xs,pk,gi,hil,xl,xin⟩:∃ (il:Addr) (xs:List Str),atI [V.ref q1,.ref q2] (hw / 15 % 2)=some (.ref il)/\D4 il=some (.lst (xs.map V.str))/\H il=none/\xs.length<=2/\uL ss rr xs:=by
   have sg:=uL.of sl sb rl rb
   rcases (show hw / 15 % 2=0∨hw / 15 % 2=1 by omega) with h | h <;> rw [h]
   ·exact ⟨q1,_,rfl,(sE.trans sF) _ _ gD,fresh hq1,by rw [List.length_append];omega,sg.1⟩
   ·refine ⟨q2,_,rfl,sF _ _ gE,fresh ?_,by rw [List.length_append];omega,sg.2⟩
    cases e:D1 q2 with
    | none=>rfl
    | some o=>rw [sD _ _ e] at hq2;cases hq2
  refine ⟨q3,_,_,_,rfl,rfl,SqL.of gF,pk,?_⟩
  have sH:=sH.trans (sD.trans (sE.trans sF))
  clear sD sE sF gD gE gF pk hq1 hq2 hq3 gk gr fresh
  lia
  refine ⟨.inl ⟨rfl,_,SqL.of gi⟩,?_⟩
  lia
  refine ⟨il,_,rfl,.inl (SqL.of gi),?_⟩
  lia
  refine w_mod (by rw [List.length_map];omega) ?_
  have j0:=bF (hw / 30) (show (0:Int)<((xs.map V.str).length:Int)+1 by omega)
  have j1:=mod_lt (hw / 30) (show (0:Int)<((xs.map V.str).length:Int)+1 by omega)
  rw [List.length_map] at j0 j1 ⊢
  generalize hw / 30 % ((xs.length:Int)+1)=jj at j0 j1 ⊢
  lia
  refine ⟨_,_,rfl,λ D5 wa' s5 hw1=>?_⟩
  lia
  have gi:=s5 _ _ gi
  have sH:=sH.trans s5
  refine ⟨il,_,jj,.str wa',rfl,rfl,gi,j0,by omega,by rw [List.length_map];exact Nat.lt_of_le_of_lt xl (by decide),?_⟩
  rw [FC]
  have f1:=xin.ins hw1 (min jj.toNat xs.length)
  have yl:(xs.take (min jj.toNat xs.length)++wa'::xs.drop (min jj.toNat xs.length)).length<=3:=by simp;omega
  generalize xs.take (min jj.toNat xs.length)++wa'::xs.drop (min jj.toNat xs.length)=ys at f1 yl ⊢
  have sH:ak H (upd D5 il (.lst (ys.map V.str))):=λ c o h=>by rw [aq (ao h hil)];exact sH _ _ h
  have gi:(upd D5 il (.lst (ys.map V.str))) il=some (.lst (ys.map V.str)):=ae
  generalize upd D5 il _=D6 at sH gi ⊢
  clear s5 xin
  (repeat array_mem_dec)
  refine lP (λ σ2 H4=>∃ ys,σ2=[some (V.int bd),some (V.int ce),some (V.int se),some (V.int kk),some (V.int m),some (V.int bs),some (V.int fi),some (V.int la),some (V.int low),some (V.int (low+mm)),some (V.int hw),some (V.ref lk),some (V.ref lr),some (V.ref il),none,none,none]/\ak H H4/\H4 il=some (.lst (ys.map V.str))/\ItF ss rr ys/\ys.length<=4) (λ nx' hj=>?_) ?_
  ·lia
   refine w_ite (λ z1=>?_) (λ z1=>?_)
   ·lia
    refine ⟨.inl ⟨rfl,_,SqL.of gi⟩,?_⟩
    lia
    refine ⟨_,_,rfl,λ D7 w2 s7 hw2=>?_⟩
    lia
    refine ⟨il,_,_,rfl,rfl,s7 _ _ gi,by rw [List.length_map];exact Nat.lt_of_le_of_lt yl (by decide),?_⟩
    refine hj _ _ ⟨ys++[w2],rfl,λ c o h=>?_,?_,f1.app hw2,by rw [List.length_append,List.length_singleton];omega⟩
    ·rw [aq (ao h hil)];exact s7 _ _ (sH _ _ h)
    ·rw [ae,List.map_append];rfl
   ·lia
    exact hj _ _ ⟨ys,rfl,sH,gi,f1,by omega⟩
  clear sH gi f1 yl
  rintro _ E1 ⟨ys,rfl,sH,gi,f1,yl⟩
  lia
  refine ⟨il,_,rfl,SqL.of gi,λ tl htl=>?_⟩
  have e1:eG (ys.map V.str) none (some 1)=(ys.take 1).map V.str:=pd ys 1
  rw [e1]
  have ne:ys≠[]:=λ e=>by obtain ⟨y,m,_⟩:=f1.wd;rw [e] at m;cases m
  obtain ⟨y0,yr,rfl⟩:=List.exists_cons_of_ne_nil ne
  have stl:=ak.upd (o:=.lst ([y0].map V.str)) htl
  have gtl:(upd E1 tl (.lst ([y0].map V.str))) tl=some (.lst ([y0].map V.str)):=ae
  have htl0:H tl=none:=by
   cases e:H tl with
   | none=>rfl
   | some o=>rw [sH _ _ e] at htl;cases htl
  have gi:=stl _ _ gi
  have sH:=sH.trans stl
  show wG _ _ _ _ (upd E1 tl (.lst ([y0].map V.str)))
  generalize upd E1 tl _=E2 at gtl gi sH ⊢
  clear stl
  lia
  refine ⟨il,_,rfl,SqL.of gi,λ el hel=>?_⟩
  have e2:eG ((y0::yr).map V.str) (some 1) none=yr.map V.str:=zB _
  rw [e2]
  have sel:=ak.upd (o:=.lst (yr.map V.str)) hel
  have gel:(upd E2 el (.lst (yr.map V.str))) el=some (.lst (yr.map V.str)):=ae
  have ntl:el≠tl:=λ e=>by rw [e,gtl] at hel;cases hel
  have gtl:=sel _ _ gtl
  have sH:=sH.trans sel
  generalize upd E2 el _=E3 at gel gtl sH ⊢
  have yl:yr.length<=3:=by simpa using yl
  lia
  refine ⟨el,rfl,⟨_,SqL.of gel⟩,B9 (K:=K) (a:=el) (xs:=yr.map V.str) (λ i σ H4=>∃ v15 v16 zs,σ=[some (V.int bd),some (V.int ce),some (V.int se),some (V.int kk),some (V.int m),some (V.int bs),some (V.int fi),some (V.int la),some (V.int low),some (V.int (low+mm)),some (V.int hw),some (V.ref lk),some (V.ref lr),some (V.ref il),some (V.ref tl),v15,v16]/\ak H H4/\H4 el=some (.lst (yr.map V.str))/\H4 tl=some (.lst (zs.map V.str))/\fj (y0::yr) (i+1) zs) ⟨none,none,[y0],rfl,sH,gel,gtl,.one f1 rfl⟩ (λ i σ H4 _ h=>by obtain ⟨_,_,_,_,_,g,_⟩:=h;exact SqL.of g) ?_ ?_⟩
  ·rintro i v p σ H4 hv ⟨v15,v16,zs,rfl,sH4,gel4,gtl4,tk4⟩ hp
   rw [List.getElem?_map] at hv
   obtain ⟨y,hy,rfl⟩:=Option.map_eq_some_iff.mp hv
   have hy':(y0::yr)[i+1]?=some y:=by simpa using hy
   have zl:zs.length<=10:=by have:=tk4.le;have:=(List.getElem?_eq_some_iff.mp hy).1;omega
   refine gB (SqT.of ae) rfl ?_
   refine ⟨_,_,rfl,_,_,rfl,rfl,?_⟩
   have s5:=ak.upd (o:=.tup [V.int i,.str y]) hp
   have sH4:=sH4.trans s5
   have gel4:=s5 _ _ gel4
   have gtl4:=s5 _ _ gtl4
   generalize upd H4 p _=H5 at sH4 gel4 gtl4 ⊢
   clear s5
   (repeat array_mem_dec)
   refine lP (λ σ2 H6=>∃ zs2,σ2=[some (V.int bd),some (V.int ce),some (V.int se),some (V.int kk),some (V.int m),some (V.int bs),some (V.int fi),some (V.int la),some (V.int low),some (V.int (low+mm)),some (V.int hw),some (V.ref lk),some (V.ref lr),some (V.ref il),some (V.ref tl),some (V.int i),some (V.str y)]/\ak H H6/\H6 el=some (.lst (yr.map V.str))/\H6 tl=some (.lst (zs2.map V.str))/\zs2.length<=11/\fj (y0::yr) (i+2) (zs2++[y])) (λ nx' hj=>?_) ?_
   ·lia
    refine w_I (by omega) ?_
    lia
    refine w_ite (λ z1=>?_) (λ z1=>?_)
    ·lia
     refine ⟨.inl ⟨rfl,_,SqL.of gtl4⟩,?_⟩
     lia
     refine ⟨tl,_,_,rfl,rfl,gtl4,by rw [List.length_map];exact Nat.lt_of_le_of_lt zl (by decide),?_⟩
     refine hj _ _ ⟨zs++[("+":Str)],rfl,λ c o h=>?_,?_,?_,by rw [List.length_append,List.length_singleton];omega,tk4.FG f1 hy'⟩
     ·rw [aq (ao h htl0)];exact sH4 _ _ h
     ·rw [aq ntl];exact gel4
     ·rw [ae,List.map_append];rfl
    ·lia
     exact hj _ _ ⟨zs,rfl,sH4,gel4,gtl4,by omega,tk4.plain f1 hy'⟩
   clear sH4 gel4 gtl4
   rintro _ H6 ⟨zs2,rfl,sH6,gel6,gtl6,zl2,tk6⟩
   lia
   refine ⟨.inl ⟨rfl,_,SqL.of gtl6⟩,?_⟩
   lia
   refine ⟨tl,_,_,rfl,rfl,gtl6,by rw [List.length_map];exact Nat.lt_of_le_of_lt zl2 (by decide),?_⟩
   refine ⟨_,_,zs2++[y],rfl,λ c o h=>?_,?_,?_,tk6⟩
   ·rw [aq (ao h htl0)];exact sH6 _ _ h
   ·rw [aq ntl];exact gel6
   ·rw [ae,List.map_append];rfl
  ·rintro σ H4 ⟨v15,v16,zs,rfl,sH4,gel4,gtl4,tk4⟩
   rw [List.length_map] at tk4
   have tk5:fj (y0::yr) (y0::yr).length zs:=tk4
   lia
   refine ⟨by show 6<=sizeLine;decide,λ t ht=>?_⟩
   have s9:=ak.upd (o:=.tup [.int low,.int (low+mm),.int bs,.int fi,.int la,.ref tl]) ht
   refine k _ ⟨low,low+mm,bs,fi,la,zs,t,tl⟩ (sH4.trans s9) ⟨ae,s9 _ _ gtl4⟩ (As (tk5.its f1 (by simpa using yl)) lo0 (by omega) b0.1 f0 l0.1 l0.2 (Int.lt_of_le_of_lt b0.2 (by decide)) (λ z=>?_) λ z=>?_)
   ·obtain ⟨r,hr⟩:=List.exists_mem_of_ne_nil _ (rn z)
    exact xF (rb r hr) (tk5.al r (by rw [List.take_length];exact f1.ir r hr))
   ·obtain ⟨r,hr⟩:=List.exists_mem_of_ne_nil _ (sn z)
    exact xF (sb r hr) (tk5.al r (by rw [List.take_length];exact f1.is r hr))
abbrev DRs (K:PySem.W.Frag) (mg:Str->Option Value):=Df K mg "_law_rules" "_law_rules" (top 49) ["_law_cells_here","_law_seed","_law_bound"]
def BV:Sp:=λ vs H Q _=>∃ (c:Addr) (se bd:Int),vs=[.ref c,.int se,.int bd]/\jO H c/\0<=bd/\∀ (H':Hp) (L:Addr) (rs:List RD),ak H H'->H L=none->H' L=some (.lst (cG rs))->eH H' rs->rs.length<=10->Q (.ref L) H'
abbrev nRs:List Str:=["_law_cells_here","_law_seed","_law_bound","_law_rules_here","_law_k","_law_cell","_law_m","_law_n"]
theorem DB:aH nRs ["_law_cells_here","_law_seed","_law_bound"] (ar (top 49)):=⟨rfl,rfl,rfl,by decide +kernel,rfl,by decide +kernel,by decide +kernel⟩
theorem DH (D:DRs K mg) (au:xD K mg) (bc:F0 P w base 1 au rX) (aG:DLW K mg) (bV:F0 P w base 1 aG yR)
  (fM:DRu K mg) (qU:F0 P w base 2 fM Cg) (T:Txt K mg a):F0 P w base 3 D BV:=by
 refine Df.ok (k:=2) D.ex DB (λ vs H Q E h=>?_) (λ A outer s H vs Q E hr h=>?_)
 ·obtain ⟨c,se,bd,rfl,_⟩:=h;rfl
 ·obtain ⟨c,se,bd,rfl,n9,bd0,k⟩:=h
  have nd:=DB.nd
  refine ⟨_,(ah (ay (i:=3) nd rfl (Or.inl rfl) (aM aa))
 (ah (dH PassesOwn.never rfl (gg (by rfl) T.dh (ag (ai aU af (ai az (av bc (hr.mono (by decide)) (by rfl) au.mg au.kp au.bd .nil aT (ag (aV a7 (pv 0) af (λ _ _=>rfl)) (ag af aa))) af)) aa)) (aA (i:=4) nd rfl (Or.inl rfl))
 (ah (ay (i:=5) nd rfl (Or.inl rfl) (aV a7 (pv 0) (ai az (pv 4) (aF bt (by rfl) T.cg boot_len (ag (pv 0) aa))) (λ _ _=>rfl)))
 (ah (ay (i:=6) nd rfl (Or.inl rfl) (av bc (hr.mono (by decide)) (by rfl) au.mg au.kp au.bd .nil aT (ag (pv 5) (ag (ai aU af (pv 4)) aa))))
 (aj (aY (aB dg (ai az (pv 6) af) af (aC _))
 (ah (ay (i:=7) nd rfl (Or.inl rfl) (aV a7 (aM (ag (ai az (pv 4) (ai aU (pv 2) af)) (ag (ai az (ai aK (pv 6) af) (ai aU (pv 2) af)) aa))) (ai az (ai aK (pv 6) af) af) (λ _ _=>rfl)))
 (aj (bj (cN PySem.F.plainAttrs_list PySem.F.slot_list_append PySem.F.type_list_append br (pv 3) (ag (bH (ag (pv 7) (ag (pv 7) (ag af (ag (ai az (pv 7) af) (ag (ai az (pv 7) af) (ag (aM (ag (av bV (hr.mono (by decide)) (by rfl) aG.mg aG.kp aG.bd .nil aT (ag (pv 1) (ag (ai az (ai aK (pv 6) af) af) aa))) aa)) aa))))))) aa)))))
 (aj (bj (cN PySem.F.plainAttrs_list PySem.F.slot_list_append PySem.F.type_list_append br (pv 3) (ag (av qU (hr.mono (by decide)) (by rfl) fM.mg fM.kp fM.bd .nil aT (ag (pv 2) (ag (pv 5) (ag (pv 1) (ag (pv 4) aa))))) aa)))))))))
 (aj (aN (pv 3))))),?_⟩
  lia
  refine ⟨by show 0<=sizeLine;decide,λ L hL=>?_⟩
  have s1:=ak.upd (o:=.lst []) hL
  have g1:(upd H L (.lst [])) L=some (.lst (cG [])):=ae
  generalize upd H L _=H1 at s1 g1 ⊢
  lia
  obtain ⟨z0,xs0,q1,q2⟩:=(n9.same s1).atI (K:=K) 0 (by omega) (by omega)
  refine ⟨c,_,_,_,rfl,rfl,q1,q2,?_⟩
  lia
  refine ⟨z0,_,rfl,by omega,by omega,λ m m0 m1=>?_⟩
  lia
  have jm:3<=3+m % 8/\3+m % 8<=10:=by omega
  generalize 3+m % 8=j at jm ⊢
  refine ⟨j,rfl,by omega,by omega,?_⟩
  refine forR (λ i σ H2=>∃ v4 v5 v6 v7 rs,σ=[some (V.ref c),some (V.int se),some (V.int bd),some (V.ref L),v4,v5,v6,v7]/\ak H H2/\H2 L=some (.lst (cG rs))/\eH H2 rs/\rs.length=i) ⟨none,none,none,none,[],rfl,s1,g1,.nil,rfl⟩ ?_ ?_
  ·rintro i σ H2 hi ⟨v4,v5,v6,v7,rs,rfl,s2,g2,ra2,rl2⟩
   have n2:=n9.same s2
   have putL:∀ {H3:Hp} {o:HO},ak H H3->ak H (upd H3 L o):=λ {H3 o} h c o h'=>by rw [aq (ao h' hL)];exact h _ _ h'
   lia
   obtain ⟨cs,c1,c2⟩:=id n2
   refine ⟨c,_,rfl,.inl (SqL.of c1),?_⟩
   rw [List.length_map,c2]
   refine w_mod (by decide) ?_
   obtain ⟨z,xs,q1,q2⟩:=n2.atI (K:=K) ((0+(i:Int)) % ((12:Nat):Int)) (by omega) (by omega)
   refine ⟨c,_,_,_,rfl,rfl,q1,q2,?_⟩
   lia
   refine ⟨z,_,rfl,by omega,by omega,λ m2 m20 m21=>?_⟩
   lia
   refine w_ite (λ z1=>?_) (λ z1=>?_)
   ·lia
    refine w_mod (by omega) ?_
    lia
    refine w_mod (by omega) ?_
    lia
    refine ⟨by show 2<=sizeLine;decide,λ p1 hp1=>?_⟩
    have e0:=bF (0+(i:Int)) (show (0:Int)<bd+1 by omega)
    have e1:=bF (m2 / 6) (show (0:Int)<bd+1 by omega)
    generalize (0+(i:Int)) % (bd+1)=n1 at e0 ⊢
    generalize m2 / 6 % (bd+1)=n2 at e1 ⊢
    have sp:=ak.upd (o:=.lst [V.int n1,.int n2]) hp1
    have gp:(upd H2 p1 (.lst [V.int n1,.int n2])) p1=some (.lst [V.int n1,.int n2]):=ae
    generalize upd H2 p1 _=H3 at sp gp ⊢
    lia
    obtain ⟨v,hv,ev⟩:=uk (xs:=[V.int n1,.int n2]) (bF (m2 / 3) (show (0:Int)<2 by decide)) (by exact mod_lt (m2 / 3) (show (0:Int)<2 by decide))
    refine ⟨p1,_,_,_,rfl,rfl,SqL.of gp,ev,?_⟩
    obtain ⟨n,rfl,nn0⟩:∃ n:Int,v=.int n/\0<=n:=by
     simp only [List.mem_cons,List.not_mem_nil,or_false] at hv
     rcases hv with rfl | rfl
     ·exact ⟨_,rfl,e0⟩
     ·exact ⟨_,rfl,e1⟩
    lia
    refine ⟨.inl ⟨rfl,_,SqL.of (sp _ _ g2)⟩,?_⟩
    lia
    refine ⟨_,_,rfl,λ H4 wd s4 hwd=>?_⟩
    lia
    refine ⟨by show 1<=sizeLine;decide,λ i1 hi1=>?_⟩
    lia
    refine ⟨by show 6<=sizeLine;decide,λ t1 ht1=>?_⟩
    obtain ⟨sA,rA⟩:=Cq (l:=n) (h:=n) (b:=2) (f:=n % 2) (e:=n % 2) (zs:=[wd]) (vs:=[V.str wd]) rfl hi1 ht1
    have kA:RD.ok ⟨n,n,2,n % 2,n % 2,[wd],t1,i1⟩:=As (yV hwd) nn0 (by omega) (by omega) (by omega) (by omega) (by omega) (by decide) (λ z=>absurd rfl z) λ z=>absurd rfl z
    generalize upd (upd H4 i1 _) t1 _=H5 at sA rA ⊢
    have s25:=sp.trans (s4.trans sA)
    have g5:=s25 _ _ g2
    lia
    refine ⟨L,_,_,rfl,rfl,g5,by unfold cG;simp only [List.length_map];exact Nat.lt_of_lt_of_le (show rs.length<100 by omega) (by decide),?_⟩
    refine ⟨_,_,_,_,rs++[⟨n,n,2,n % 2,n % 2,[wd],t1,i1⟩],rfl,putL (s2.trans s25),?_,((ra2.same s25).app (.one rA kA)).put g5,by rw [List.length_append,rl2];rfl⟩
    rw [pJ];exact ae
   ·lia
    refine ⟨.inl ⟨rfl,_,SqL.of g2⟩,?_⟩
    lia
    refine ⟨bd,z,se,_,rfl,bd0,by omega,by omega,λ H3 r s3 rA kA=>?_⟩
    lia
    have g3:=s3 _ _ g2
    refine ⟨L,_,_,rfl,rfl,g3,by unfold cG;simp only [List.length_map];exact Nat.lt_of_lt_of_le (show rs.length<100 by omega) (by decide),?_⟩
    refine ⟨_,_,_,_,rs++[r],rfl,putL (s2.trans s3),?_,((ra2.same s3).app (.one rA kA)).put g3,by rw [List.length_append,rl2];rfl⟩
    rw [pJ];exact ae
  ·rintro σ H2 ⟨v4,v5,v6,v7,rs,rfl,s2,g2,ra2,rl2⟩
   lia
   exact k H2 L rs s2 hL g2 ra2 (by omega)
abbrev DPl (K:PySem.W.Frag) (mg:Str->Option Value):=Df K mg "_law_place" "_law_place" (top 50) ["_law_rules_here","_law_bound","_law_number"]
def CS:Sp:=λ vs H Q _=>∃ (L:Addr) (rs:List RD) (bnd n:Int),vs=[.ref L,.int bnd,.int n]/\H L=some (.lst (cG rs))/\eH H rs/\Pure (zN (gn bnd (rs.map RD.rv) n)) H Q
abbrev nPl:List Str:=["_law_rules_here","_law_bound","_law_number","_law_k","_law_rule_here"]
theorem Fb:aH nPl ["_law_rules_here","_law_bound","_law_number"] (ar (top 50)):=⟨rfl,rfl,rfl,by decide +kernel,rfl,by decide +kernel,by decide +kernel⟩
theorem EJ (D:DPl K mg) (T:Txt K mg a):F0 P w base 1 D CS:=by
 refine Df.ok (k:=0) D.ex Fb (λ vs H Q E h=>?_) (λ A outer s H vs Q E hr h=>?_)
 ·obtain ⟨L,rs,bnd,n,rfl,_⟩:=h;rfl
 ·obtain ⟨L,rs,bnd,n,rfl,hL,ra,k⟩:=h
  have nd:=Fb.nd
  refine ⟨_,(ah (aY (pw_or (aB iq (pv 2) af (aC _)) (pw_or1 (aB yy (pv 2) (pv 1) (aC _)))).pt
 (aj (aN fN))
 aE)
 (ah (dH PassesOwn.never rfl (qi (by rfl) T.bW (by decide +kernel) (ag (pv 0) aa)) (lg (n:=2) rfl (bf (aA (i:=3) nd rfl (Or.inl rfl)) (bf (aA (i:=4) nd rfl (Or.inl rfl)) fE)))
 (aj (aY (pw_and (iG fK fK (aV b9 (pv 4) af (λ _ _=>rfl)) (pv 2) (aV b9 (pv 4) af (λ _ _=>rfl))) (pw_and1 (iG fK fK (aV b9 (pv 4) af (λ _ _=>rfl)) (ai az (pv 2) (aV b9 (pv 4) af (λ _ _=>rfl))) (aV b9 (pv 4) af (λ _ _=>rfl))))).pt
 (aj (aN (pv 3)))
 aE)))
 (aj (aN fN)))),?_⟩
  have out:¬ (0<=n/\n<=bnd)->Q .non H:=λ z=>by
   have:=k H (.refl _)
   unfold gn at this
   rw [if_neg z] at this
   exact this
  (repeat array_mem_dec)
  refine lP (λ σ2 H4=>H=H4/\σ2=[some (V.ref L),some (V.int bnd),some (V.int n),none,none]/\0<=n/\n<=bnd) (λ nx' hj=>?_) ?_
  ·lia
   refine w_ite (λ z=>?_) (λ z=>?_)
   ·lia
    exact out λ h=>by have z:n<0:=(by simpa using z);omega
   ·lia
    refine w_ite (λ z2=>?_) (λ z2=>?_)
    ·lia
     exact out λ h=>by have z2:bnd<n:=(by simpa using z2);omega
    ·lia
     exact hj _ _ ⟨rfl,rfl,by simpa using z,by simpa using z2⟩
  rintro _ _ ⟨rfl,rfl,n0,n1⟩
  have hf:gn bnd (rs.map RD.rv) n=(rs.map RD.rv).findIdx? (·.cov n):=by unfold gn;rw [if_pos ⟨n0,n1⟩]
  rw [hf] at k
  lia
  have rlr:H L=some (.lst ((rs.map (·.t)).map .ref)):=hL
  refine ⟨L,rfl,⟨_,SqL.of rlr⟩,B9 (K:=K) (a:=L) (xs:=(rs.map (·.t)).map V.ref) (λ i σ H2=>∃ v3 v4,σ=[some (V.ref L),some (V.int bnd),some (V.int n),v3,v4]/\ak H H2/\∀ j (hj:j<rs.length),j<i->rs[j].rv.cov n=false) ⟨none,none,rfl,.refl _,λ j _ h=>(nomatch h)⟩ (λ i σ H2 _ ⟨_,_,_,s2,_⟩=>SqL.of (s2 _ _ rlr)) ?_ ?_⟩
  ·rintro i v p σ H2 hv ⟨v3,v4,rfl,s2,c2⟩ hp
   rw [List.getElem?_map,List.getElem?_map] at hv
   obtain ⟨t,ht,rfl⟩:=Option.map_eq_some_iff.mp hv
   obtain ⟨r,hr',rfl⟩:=Option.map_eq_some_iff.mp ht
   have hi:i<rs.length:=(List.getElem?_eq_some_iff.mp hr').1
   have er:rs[i]=r:=by rw [List.getElem?_eq_getElem hi] at hr';exact Option.some.inj hr'
   obtain ⟨rA,rO⟩:=ra r (List.mem_of_getElem? hr')
   refine gB (SqT.of ae) rfl ?_
   refine ⟨_,_,rfl,_,_,rfl,rfl,?_⟩
   have s3:ak H (upd H2 p (.tup [.int i,.ref r.t])):=s2.trans (ak.upd hp)
   generalize upd H2 p _=H3 at s3 ⊢
   have rA:=(rA.same s3).1
   have b2:=rO.b2
   have cont:r.rv.cov n=false->∀ j (hj:j<rs.length),j<i+1->rs[j].rv.cov n=false:=λ hc j hj hlt=>by
    rcases Nat.lt_or_ge j i with z | z
    ·exact c2 j hj z
    ·have:j=i:=by omega
     subst this
     rw [er];exact hc
   have cv:r.rv.cov n=(decide (r.l<=n)&&decide (n<=r.h)&&(decide (r.f<=n % r.b)&&decide (n % r.b<=r.e))):=rfl
   lia
   refine ⟨r.t,_,_,_,rfl,rfl,SqT.of rA,(rfl:atI _ 0=_),?_⟩
   lia
   refine w_ite (λ z1=>?_) (λ z1=>?_)
   rotate_left
   ·lia
    exact ⟨_,_,rfl,s3,cont (by rw [cv,z1];rfl)⟩
   lia
   refine ⟨r.t,_,_,_,rfl,rfl,SqT.of rA,(rfl:atI _ 1=_),?_⟩
   lia
   refine w_ite (λ z2=>?_) (λ z2=>?_)
   rotate_left
   ·lia
    exact ⟨_,_,rfl,s3,cont (by rw [cv,z1,z2];rfl)⟩
   lia
   refine ⟨r.t,_,_,_,rfl,rfl,SqT.of rA,(rfl:atI _ 3=_),?_⟩
   lia
   refine ⟨r.t,_,_,_,rfl,rfl,SqT.of rA,(rfl:atI _ 2=_),?_⟩
   refine w_mod (by omega) ?_
   lia
   refine w_ite (λ z3=>?_) (λ z3=>?_)
   rotate_left
   ·lia
    exact ⟨_,_,rfl,s3,cont (by rw [cv,z1,z2,z3];rfl)⟩
   lia
   refine ⟨r.t,_,_,_,rfl,rfl,SqT.of rA,(rfl:atI _ 4=_),?_⟩
   lia
   refine w_ite (λ z4=>?_) (λ z4=>?_)
   rotate_left
   ·lia
    exact ⟨_,_,rfl,s3,cont (by rw [cv,z1,z2,z3,z4];rfl)⟩
   lia
   have e:(rs.map RD.rv).findIdx? (·.cov n)=some i:=List.findIdx?_eq_some_iff_getElem.mpr ⟨by simpa using hi,by rw [List.getElem_map,er,cv,z1,z2,z3,z4];rfl,λ j hj=>by
     have:=c2 j (by omega) hj
     rw [List.getElem_map,this];exact Bool.false_ne_true⟩
   rw [e] at k
   exact k H3 s3
  ·rintro σ H2 ⟨v3,v4,rfl,s2,c2⟩
   lia
   have e:(rs.map RD.rv).findIdx? (·.cov n)=none:=List.findIdx?_eq_none_iff.mpr λ r hr=>by
    obtain ⟨r',hr',rfl⟩:=List.mem_map.mp hr
    obtain ⟨j,hj,e⟩:=List.getElem_of_mem hr'
    rw [<- e]
    exact c2 j hj (by simpa using hj)
   rw [e] at k
   exact k H2 s2
abbrev DLe (K:PySem.W.Frag) (mg:Str->Option Value):=Df K mg "_law_letters" "_law_letters" (top 51) ["_law_seed","_law_size"]
def Cb:Sp:=λ vs H Q _=>∃ (i n:Int),vs=[.int i,.int n]/\0<=n/\n<=20/\∀ H' x,ak H H'->x.length=n.toNat->jc x=true->Q (.str x) H'
theorem ED:aH ["_law_seed","_law_size","_law_letters_here"] ["_law_seed","_law_size"] (ar (top 51)):=⟨rfl,rfl,rfl,by decide +kernel,rfl,by decide +kernel,by decide +kernel⟩
theorem Dq (D:DLe K mg) (T:Txt K mg a):F0 P w base 1 D Cb:=by
 refine Df.ok (k:=0) D.ex ED (λ vs H Q E h=>?_) (λ A outer s H vs Q E hr h=>?_)
 ·obtain ⟨i,j,rfl,_⟩:=h;rfl
 ·obtain ⟨i,n,rfl,n0,n20,q⟩:=h
  have nd:=ED.nd
  have l26:("abcdefghijklmnopqrstuvwxyz":Str).length<=sizeLine:=by decide +kernel
  refine ⟨_,(ah (ay (i:=2) nd rfl (Or.inr rfl) aD)
 (aj (aN (cN PySem.F.plainAttrs_str PySem.F.slot_str_join PySem.F.type_str_join vn aD (ag (nP (N:=["_law_k","_law_letters_here","_law_seed"]) (fs:=[(1,2),(2,0)]) (⟨rfl,by rfl,by rfl,by rfl,⟨⟨_,rfl,rfl,rfl,Or.inl rfl⟩,⟨⟨_,rfl,rfl,rfl,Or.inl rfl⟩,trivial⟩⟩⟩) rfl (gg (by rfl) T.dh (ag (pv 1) aa)) (λ _ _ _ _ _=>(aA (i:=0) (show List.Nodup (["_law_k","_law_letters_here","_law_seed"]:List Str) from by decide +kernel) rfl (Or.inl rfl))) (λ _ _ _ _ _=>by exact dU) (λ _ _ _ _ _=>by exact (aV mS (pv 1) (ai az (ai aU (ai aU (ai aK (pv 2) af) (ai iz af (pv 0))) (ai iz (ai iz (ai az (ai aK (pv 2) af) af) (pv 0)) (pv 0))) af) (λ _ _=>rfl)))) aa))))),?_⟩
  lia
  refine ⟨rfl,?_⟩
  lia
  refine ⟨_,rfl,by omega,by omega,lcG (λ k ys=>∃ zs:List Str,ys=zs.map V.str/\zs.length=k/\∀ z∈zs,z.length=1/\∀ c∈z.cps.toList,jZ c=true) qq (Nat.le_trans (show n.toNat<=20 by omega) (by decide)) ⟨[],rfl,rfl,λ _ z=>nomatch z⟩ (λ D k ys H2 hk hD s2 e r=>?_) (λ D H2 ys hD s2 e r=>?_)⟩
  ·lia
   refine ⟨ik rfl,?_⟩
   lia
   refine w_I (.inl ⟨by decide,by decide⟩) ?_
   lia
   have b0:=bF (i / 97) (show (0:Int)<3 by decide)
   have b1:=mod_lt (i / 97) (show (0:Int)<3 by decide)
   refine w_I (.inl ⟨by omega,by omega⟩) ?_
   lia
   have c0:0<=i / 97 % 3 * (0+(k:Int)):=Int.mul_nonneg b0 (by omega)
   have c1:i / 97 % 3 * (0+(k:Int))<=2 * (0+(k:Int)):=Int.mul_le_mul_of_nonneg_right (by omega) (by omega)
   refine w_I (.inl ⟨by omega,by omega⟩) ?_
   lia
   obtain ⟨c,hlc,hc⟩:=uJ (i / 7+5 * (0+k)+i / 97 % 3 * (0+k) * (0+k))
   refine ⟨_,_,c,rfl,rfl,l26,hc,?_⟩
   obtain ⟨zs,rfl,hl,ho⟩:=r
   refine j2 hD s2 e (ak.refl _) ⟨zs++[⟨#[c]⟩],by rw [List.map_append];rfl,by rw [List.length_append,hl];rfl,λ z hz=>?_⟩
   rcases List.mem_append.mp hz with hz | hz
   ·exact ho z hz
   ·rw [List.mem_singleton.mp hz]
    exact ⟨rfl,λ d hd=>by rw [List.mem_singleton.mp hd];exact hlc⟩
  ·lia
   obtain ⟨zs,rfl,hl,ho⟩:=r
   have hsum:(zs.map (·.length)).sum=zs.length:=by
    clear e hl
    induction zs with
    | nil=>rfl
    | cons z r ih=>
     rw [List.map_cons,List.sum_cons,ih λ y hy=>ho y (List.mem_cons_of_mem _ hy),(ho z List.mem_cons_self).1,List.length_cons]
     omega
   refine ⟨_,D,zs,rfl,rfl,SqL.of e,?_,?_⟩
   ·rw [hsum,hl]
    show _+_ * 0<=_
    have:n.toNat<=20:=by omega
    exact Nat.le_trans (show n.toNat+(n.toNat - 1) * 0<=20 by omega) (by decide)
   refine q H2 _ s2 ?_ (List.all_eq_true.mpr λ c hc=>?_)
   ·rw [PySem.W.KT.join_ones zs λ z hz=>(ho z hz).1,hl]
   ·rw [oV] at hc
    obtain ⟨z,hz,hcz⟩:=List.mem_flatMap.mp hc
    exact (ho z hz).2 c hcz
abbrev DMl (K:PySem.W.Frag) (mg:Str->Option Value):=Df K mg "_law_melt" "_law_melt" (top 52) ["_law_m"]
def yX:Sp:=λ vs H Q _=>∃ (m:Int),vs=[.int m]/\∀ (H':Hp) (t:Addr) (x y z:Str),ak H H'->H t=none->H' t=some (eX (x,y,z))->bh (x,y,z)=true->Q (.ref t) H'
abbrev nMl:List Str:=["_law_m","_law_ahead","_law_behind","_law_least","_law_made"]
theorem Ek:aH nMl ["_law_m"] (ar (top 52)):=⟨rfl,rfl,rfl,by decide +kernel,rfl,by decide +kernel,by decide +kernel⟩
theorem uG {i j:Nat} {x:Str} (h1:i<=x.length) (h2:x.length<=j) (h3:jc x=true):low i j x=true:=by
 unfold low;rw [decide_eq_true h1,decide_eq_true h2,h3];rfl
theorem DM (D:DMl K mg) (a6:DLe K mg) (fo:F0 P w base 1 a6 Cb) (T:Txt K mg a):F0 P w base 2 D yX:=by
 refine Df.ok (k:=1) D.ex Ek (λ vs H Q E h=>?_) (λ A outer s H vs Q E hr h=>?_)
 ·obtain ⟨m,rfl,_⟩:=h;rfl
 ·obtain ⟨m,rfl,q⟩:=h
  have nd:=Ek.nd
  refine ⟨_,(ah (ay (i:=1) nd rfl (Or.inl rfl) (ai aU af (ai az (pv 0) af)))
 (ah (ay (i:=2) nd rfl (Or.inl rfl) (ai aU af (ai az (ai aK (pv 0) af) af)))
 (ah (ay (i:=3) nd rfl (Or.inl rfl) (ai fc (ai aU (pv 1) (pv 2)) af))
 (ah (ay (i:=4) nd rfl (Or.inl rfl) (av fo (hr.mono (by decide)) (by rfl) a6.mg a6.kp a6.bd .nil aT (ag (ai aU (ai aK (pv 0) af) af) (ag (ai aU (pv 3) (ai az (ai aK (pv 0) af) (ai fc af (pv 3)))) aa))))
 (aj (aN (bH (ag (av fo (hr.mono (by decide)) (by rfl) a6.mg a6.kp a6.bd .nil aT (ag (ai aK (pv 0) af) (ag (pv 1) aa))) (ag (av fo (hr.mono (by decide)) (by rfl) a6.mg a6.kp a6.bd .nil aT (ag (ai aU (ai aK (pv 0) af) af) (ag (pv 2) aa))) (ag (pv 4) aa)))))))))),?_⟩
  have a0:=bF m (show (0:Int)<3 by decide)
  have a1:=mod_lt m (show (0:Int)<3 by decide)
  have b0:=bF (m / 3) (show (0:Int)<3 by decide)
  have b1:=mod_lt (m / 3) (show (0:Int)<3 by decide)
  lia
  refine w_mod (by omega) ?_
  have c0:=bF (m / 9) (show (0:Int)<7 - (1+m % 3+(1+m / 3 % 3) - 1) by omega)
  have c1:=mod_lt (m / 9) (show (0:Int)<7 - (1+m % 3+(1+m / 3 % 3) - 1) by omega)
  lia
  refine ⟨_,_,rfl,by omega,by omega,λ H2 x s2 lx wx=>?_⟩
  lia
  refine ⟨_,_,rfl,by omega,by omega,λ H3 y s3 ly wy=>?_⟩
  lia
  refine ⟨_,_,rfl,by omega,by omega,λ H4 z s4 lz wz=>?_⟩
  lia
  refine ⟨by show 3<=sizeLine;decide,λ t ht=>?_⟩
  have s24:=s2.trans (s3.trans s4)
  refine q _ t y z x (s24.trans (ak.upd ht)) (s24.free ht) ae ?_
  unfold bh
  rw [uG (i:=1) (j:=3) (by omega) (by omega) wy,uG (i:=1) (j:=3) (by omega) (by omega) wz,uG (i:=1) (j:=6) (by omega) (by omega) wx,decide_eq_true (by dsimp only;omega)];rfl
end
abbrev Mel:=Str×Str×Str
def TMs (H:Hp) (ts:List Addr) (ms:List Mel):Prop:=ts.length=ms.length/\∀ (i:Nat) t m,ts[i]?=some t->ms[i]?=some m->H t=some (eX m)
theorem TMs.same {H H':Hp} {ts:List Addr} {ms:List Mel} (h:TMs H ts ms) (s:ak H H'):TMs H' ts ms:=⟨h.1,λ i t m a b=>s _ _ (h.2 i t m a b)⟩
theorem TMs.nil {H:Hp}:TMs H [] []:=⟨rfl,λ i t m a=>by simp at a⟩
theorem TMs.snoc {H:Hp} {ts:List Addr} {ms:List Mel} {t:Addr} {m:Mel} (h:TMs H ts ms) (e:H t=some (eX m)):TMs H (ts++[t]) (ms++[m]):=⟨by rw [List.length_append,List.length_append,h.1];rfl,λ i u n a b=>by
 rcases Nat.lt_trichotomy i ts.length with z | z | z
 ·rw [List.getElem?_append_left z] at a
  rw [List.getElem?_append_left (by rw [<- h.1];exact z)] at b
  exact h.2 i u n a b
 ·rw [z,List.getElem?_concat_length] at a
  rw [z,h.1,List.getElem?_concat_length] at b
  rw [<- Option.some.inj a,<- Option.some.inj b];exact e
 ·rw [List.getElem?_eq_none (by rw [List.length_append,List.length_singleton];omega)] at a;cases a⟩
theorem TMs.at {H:Hp} {ts:List Addr} {ms:List Mel} (h:TMs H ts ms) {v:V} (hv:v∈ts.map V.ref):∃ t m,v=.ref t/\m∈ms/\H t=some (eX m):=by
 obtain ⟨t,ht,rfl⟩:=List.mem_map.mp hv
 obtain ⟨i,hi⟩:=List.getElem?_of_mem ht
 have hl:i<ms.length:=by rw [<- h.1];exact (List.getElem?_eq_some_iff.mp hi).1
 exact ⟨t,ms[i],rfl,List.getElem_mem hl,h.2 i t ms[i] hi (List.getElem?_eq_getElem hl)⟩
theorem ja {i j:Nat} {x:Str} (h:low i j x=true):i<=x.length/\x.length<=j:=by
 unfold low at h
 simp only [Bool.and_eq_true,decide_eq_true_eq] at h
 exact h.1
theorem pG {m:Str×Str×Str} (h:bh m=true):low 1 3 m.1=true/\low 1 3 m.2.1=true/\low 1 6 m.2.2=true/\m.1.length+m.2.1.length<=m.2.2.length+1:=by
 unfold bh at h
 simp only [Bool.and_eq_true,decide_eq_true_eq] at h
 exact ⟨h.1.1.1,h.1.1.2,h.1.2,h.2⟩
def BN (m:Mel):Prop:=bh m=false/\m.1.length<=1000/\m.2.1.length<=1000/\m.2.2.length<=1000
theorem fT {i j:Nat} {x:Str} (h:¬ (i<=x.length/\x.length<=j)):low i j x=false:=by
 unfold low
 by_cases a:i<=x.length
 ·rw [decide_eq_false (λ b=>h ⟨a,b⟩),Bool.and_false,Bool.false_and]
 ·rw [decide_eq_false a];rfl
theorem mB {i j:Nat} {x:Str} {c:Nat} (h:c∈x.cps.toList) (n:jZ c=false):low i j x=false:=by
 unfold low
 rw [show jc x=false from List.all_eq_false.mpr ⟨c,h,by rw [n];exact Bool.false_ne_true⟩,Bool.and_false]
theorem zb {x y z:Str} (h:low 1 3 x=false):bh (x,y,z)=false:=by unfold bh;rw [h];rfl
theorem Ce {x y z:Str} (h:low 1 3 y=false):bh (x,y,z)=false:=by unfold bh;rw [h,Bool.and_false];rfl
theorem Br {x y z:Str} (h:low 1 6 z=false):bh (x,y,z)=false:=by unfold bh;rw [h,Bool.and_false];rfl
theorem Fn {x y z:Str} (h:¬ x.length+y.length<=z.length+1):bh (x,y,z)=false:=by unfold bh;rw [decide_eq_false h,Bool.and_false]
theorem tZ {a b:Str} (ha:a.length<=10) (hb:b.length<=3):a.length+b.length<=10000:=by omega
theorem jE {a b:Str} (ha:a.length<=10) (hb:b.length<=100):b.length+a.length<=10000:=by omega
section
variable {P:Program} {w:World} {K:PySem.W.Frag} {mg:Str->Option Value} {base:Heap} {a:Ad}
abbrev DBm (K:PySem.W.Frag) (mg:Str->Option Value):=Df K mg "_law_bad_melt" "_law_bad_melt" (top 53) ["_law_m"]
def Bx:Sp:=λ vs H Q _=>∃ (m:Int),vs=[.int m]/\∀ (H':Hp) (t:Addr) (n:Mel),ak H H'->H' t=some (eX n)->BN n->Q (.ref t) H'
abbrev nBm:List Str:=["_law_m","_law_ahead","_law_behind","_law_made","_law_bad"]
theorem DN:aH nBm ["_law_m"] (ar (top 53)):=⟨rfl,rfl,rfl,by decide +kernel,rfl,by decide +kernel,by decide +kernel⟩
theorem Dx (D:DBm K mg) (bI:DMl K mg) (fG:F0 P w base 2 bI yX) (T:Txt K mg a):F0 P w base 3 D Bx:=by
 refine Df.ok (k:=2) D.ex DN (λ vs H Q E h=>?_) (λ A outer s H vs Q E hr h=>?_)
 ·obtain ⟨m,rfl,_⟩:=h;rfl
 ·obtain ⟨m,rfl,q⟩:=h
  have nd:=DN.nd
  refine ⟨_,(ah (uc (av fG (hr.mono (by decide)) (by rfl) bI.mg bI.kp bI.bd .nil aT (ag (ai aK (pv 0) af) aa)) (lg (n:=3) rfl (bf (aA (i:=1) nd rfl (Or.inl rfl)) (bf (aA (i:=2) nd rfl (Or.inl rfl)) (bf (aA (i:=3) nd rfl (Or.inl rfl)) fE)))))
 (ah (ay (i:=4) nd rfl (Or.inl rfl) (aM (ag (bH (ag aD (ag (pv 2) (ag (pv 3) aa)))) (ag (bH (ag (pv 1) (ag aD (ag (pv 3) aa)))) (ag (bH (ag aD (ag (pv 2) (ag (pv 3) aa)))) (ag (bH (ag (pv 1) (ag aD (ag (pv 3) aa)))) (ag (bH (ag (pv 1) (ag (pv 2) (ag aD aa)))) aa)))))))
 (ah (ay (i:=4) nd rfl (Or.inl rfl) (ai lF (pv 4) (aM (ag (bH (ag (pv 1) (ag (pv 2) (ag (bq gx (ai bY (pv 3) aD) bS (bz af)) aa)))) (ag (bH (ag (pv 1) (ag (pv 2) (ag (bq gx (pv 3) bS (bz (ai fc (ai aU (aF bX (by rfl) T.cg boot_len (ag (pv 1) aa)) (aF bX (by rfl) T.cg boot_len (ag (pv 2) aa))) af))) aa)))) aa)))))
 (ah (ay (i:=4) nd rfl (Or.inl rfl) (ai lF (pv 4) (aM (ag (bH (ag (ai bY aD (bq gx (pv 1) (bz af) bS)) (ag (pv 2) (ag (pv 3) aa)))) (ag (bH (ag (pv 1) (ag (ai bY (bq gx (pv 2) bS (bz (lZ iB af))) aD) (ag (pv 3) aa)))) (ag (bH (ag (pv 1) (ag (pv 2) (ag (ai bY (bq gx (pv 3) bS (bz (lZ iB af))) aD) aa)))) aa))))))
 (aj (aN (aV a7 (ai lF (pv 4) (aM (ag (bH (ag (ai bY (bq gx (pv 1) bS (bz (lZ iB af))) aD) (ag (pv 2) (ag (pv 3) aa)))) aa))) (ai az (pv 0) af) (λ _ _=>rfl)))))))),?_⟩
  lia
  refine ⟨_,rfl,λ H0 t0 x y z s0 _ g0 hm=>?_⟩
  obtain ⟨m1,m2,m3,m4⟩:=pG hm
  dsimp only at m1 m2 m3 m4
  have l1:=ja m1
  have l2:=ja m2
  have l3:=ja m3
  refine gB (xs:=[.str x,.str y,.str z]) (SqT.of g0) rfl ?_
  refine ⟨_,_,rfl,_,_,rfl,_,_,rfl,rfl,?_⟩
  show wG _ _ _ [some (V.int m),some (V.str x),some (V.str y),some (V.str z),none] H0
  have T0:TMs H0 [] []:=TMs.nil
  have q7:("abcdefg":Str).length=7:=by decide +kernel
  lia
  refine ⟨by show 3<=sizeLine;decide,λ t1 ht1=>?_⟩
  have s1:=ak.upd (o:=.tup [V.str "",V.str y,V.str z]) ht1
  have T1:TMs (upd H0 t1 (.tup [V.str "",V.str y,V.str z])) [t1] [("",y,z)]:=(T0.same s1).snoc (show _=some (eX _) from ae)
  generalize upd H0 t1 _=H1 at s1 T1 ⊢
  have s1:=s0.trans s1
  lia
  refine ⟨by show 3<=sizeLine;decide,λ t2 ht2=>?_⟩
  have s2:=ak.upd (o:=.tup [V.str x,V.str "",V.str z]) ht2
  have T2:TMs (upd H1 t2 (.tup [V.str x,V.str "",V.str z])) [t1,t2] [("",y,z),(x,"",z)]:=(T1.same s2).snoc (show _=some (eX _) from ae)
  generalize upd H1 t2 _=H2 at s2 T2 ⊢
  have s2:=s1.trans s2
  lia
  refine ⟨by show 3<=sizeLine;decide,λ t3 ht3=>?_⟩
  have s3:=ak.upd (o:=.tup [V.str "abcd",V.str y,V.str z]) ht3
  have T3:TMs (upd H2 t3 (.tup [V.str "abcd",V.str y,V.str z])) [t1,t2,t3] [("",y,z),(x,"",z),("abcd",y,z)]:=(T2.same s3).snoc (show _=some (eX _) from ae)
  generalize upd H2 t3 _=H3 at s3 T3 ⊢
  have s3:=s2.trans s3
  lia
  refine ⟨by show 3<=sizeLine;decide,λ t4 ht4=>?_⟩
  have s4:=ak.upd (o:=.tup [V.str x,V.str "abcd",V.str z]) ht4
  have T4:TMs (upd H3 t4 (.tup [V.str x,V.str "abcd",V.str z])) [t1,t2,t3,t4] [("",y,z),(x,"",z),("abcd",y,z),(x,"abcd",z)]:=(T3.same s4).snoc (show _=some (eX _) from ae)
  generalize upd H3 t4 _=H4 at s4 T4 ⊢
  have s4:=s3.trans s4
  lia
  refine ⟨by show 3<=sizeLine;decide,λ t5 ht5=>?_⟩
  have s5:=ak.upd (o:=.tup [V.str x,V.str y,V.str ""]) ht5
  have T5:TMs (upd H4 t5 (.tup [V.str x,V.str y,V.str ""])) [t1,t2,t3,t4,t5] [("",y,z),(x,"",z),("abcd",y,z),(x,"abcd",z),(x,y,"")]:=(T4.same s5).snoc (show _=some (eX _) from ae)
  generalize upd H4 t5 _=H5 at s5 T5 ⊢
  have s5:=s4.trans s5
  lia
  refine ⟨by show 5<=sizeLine;decide,λ p1 hp1=>?_⟩
  have s6:=ak.upd (o:=.lst [V.ref t1,V.ref t2,V.ref t3,V.ref t4,V.ref t5]) hp1
  have gp1:(upd H5 p1 (.lst [V.ref t1,V.ref t2,V.ref t3,V.ref t4,V.ref t5])) p1=some (.lst [V.ref t1,V.ref t2,V.ref t3,V.ref t4,V.ref t5]):=ae
  have T5:=T5.same s6
  generalize upd H5 p1 _=H6 at s6 T5 gp1 ⊢
  have s6:=s5.trans s6
  lia
  refine ⟨_,_,rfl,rfl,aW (show z.length+("abcdefg":Str).length<=10000 by rw [q7];omega),?_⟩
  lia
  refine ⟨_,rfl,aW (by rw [gP,q7];omega),?_⟩
  lia
  refine ⟨by show 3<=sizeLine;decide,λ t6 ht6=>?_⟩
  have s7:=ak.upd (o:=.tup [V.str x,V.str y,V.str (Txt.slice (z++"abcdefg") none (some 7))]) ht6
  have T6:TMs (upd H6 t6 (.tup [V.str x,V.str y,V.str (Txt.slice (z++"abcdefg") none (some 7))])) [t1,t2,t3,t4,t5,t6] [("",y,z),(x,"",z),("abcd",y,z),(x,"abcd",z),(x,y,""),(x,y,Txt.slice (z++"abcdefg") none (some 7))]:=(T5.same s7).snoc (show _=some (eX _) from ae)
  have gp1:=s7 _ _ gp1
  generalize upd H6 t6 _=H7 at s7 T6 gp1 ⊢
  have s7:=s6.trans s7
  lia
  refine ⟨x,rfl,aW (by omega),?_⟩
  lia
  refine ⟨y,rfl,aW (by omega),?_⟩
  lia
  refine ⟨_,rfl,aW (by omega),?_⟩
  lia
  refine ⟨by show 3<=sizeLine;decide,λ t7 ht7=>?_⟩
  have s8:=ak.upd (o:=.tup [V.str x,V.str y,V.str (Txt.slice z none (some ((x.length:Int)+y.length - 2)))]) ht7
  have T7:TMs (upd H7 t7 (.tup [V.str x,V.str y,V.str (Txt.slice z none (some ((x.length:Int)+y.length - 2)))])) [t1,t2,t3,t4,t5,t6,t7] [("",y,z),(x,"",z),("abcd",y,z),(x,"abcd",z),(x,y,""),(x,y,Txt.slice (z++"abcdefg") none (some 7)),(x,y,Txt.slice z none (some ((x.length:Int)+y.length - 2)))]:=(T6.same s8).snoc (show _=some (eX _) from ae)
  have gp1:=s8 _ _ gp1
  generalize upd H7 t7 _=H8 at s8 T7 gp1 ⊢
  have s8:=s7.trans s8
  lia
  refine ⟨by show 2<=sizeLine;decide,λ p2 hp2=>?_⟩
  have s9:=ak.upd (o:=.lst [V.ref t6,V.ref t7]) hp2
  have gp2:(upd H8 p2 (.lst [V.ref t6,V.ref t7])) p2=some (.lst [V.ref t6,V.ref t7]):=ae
  have T7:=T7.same s9
  have gp1:=s9 _ _ gp1
  generalize upd H8 p2 _=H9 at s9 T7 gp1 gp2 ⊢
  have s9:=s8.trans s9
  refine ⟨p1,p2,_,_,rfl,rfl,gp1,gp2,by show 7<=sizeLine;decide,λ p3 hp3=>?_⟩
  rw [show [V.ref t1,V.ref t2,V.ref t3,V.ref t4,V.ref t5]++[V.ref t6,V.ref t7]=[V.ref t1,V.ref t2,V.ref t3,V.ref t4,V.ref t5,V.ref t6,V.ref t7] from rfl]
  have s10:=ak.upd (o:=.lst [V.ref t1,V.ref t2,V.ref t3,V.ref t4,V.ref t5,V.ref t6,V.ref t7]) hp3
  have gp3:(upd H9 p3 (.lst [V.ref t1,V.ref t2,V.ref t3,V.ref t4,V.ref t5,V.ref t6,V.ref t7])) p3=some (.lst [V.ref t1,V.ref t2,V.ref t3,V.ref t4,V.ref t5,V.ref t6,V.ref t7]):=ae
  have T7:=T7.same s10
  generalize upd H9 p3 _=H10 at s10 T7 gp3 ⊢
  have s10:=s9.trans s10
  lia
  refine ⟨_,rfl,aW (by omega),?_⟩
  refine ⟨_,_,rfl,rfl,aW (tZ (a:="A") (by decide +kernel) (Nat.le_trans (Txt.slice_le _ _ _) l1.2)),?_⟩
  lia
  refine ⟨by show 3<=sizeLine;decide,λ t8 ht8=>?_⟩
  have s11:=ak.upd (o:=.tup [V.str ("A"++Txt.slice x (some 1) none),V.str y,V.str z]) ht8
  have T8:TMs (upd H10 t8 (.tup [V.str ("A"++Txt.slice x (some 1) none),V.str y,V.str z])) [t1,t2,t3,t4,t5,t6,t7,t8] [("",y,z),(x,"",z),("abcd",y,z),(x,"abcd",z),(x,y,""),(x,y,Txt.slice (z++"abcdefg") none (some 7)),(x,y,Txt.slice z none (some ((x.length:Int)+y.length - 2))),("A"++Txt.slice x (some 1) none,y,z)]:=(T7.same s11).snoc (show _=some (eX _) from ae)
  have gp3:=s11 _ _ gp3
  generalize upd H10 t8 _=H11 at s11 T8 gp3 ⊢
  have s11:=s10.trans s11
  lia
  refine ⟨_,rfl,aW (by omega),?_⟩
  lia
  refine ⟨_,_,rfl,rfl,aW (jE (a:="1") (by decide +kernel) (Nat.le_trans (Txt.slice_le _ _ _) (Nat.le_trans l2.2 (by decide)))),?_⟩
  lia
  refine ⟨by show 3<=sizeLine;decide,λ t9 ht9=>?_⟩
  have s12:=ak.upd (o:=.tup [V.str x,V.str (Txt.slice y none (some (-1))++"1"),V.str z]) ht9
  have T9:TMs (upd H11 t9 (.tup [V.str x,V.str (Txt.slice y none (some (-1))++"1"),V.str z])) [t1,t2,t3,t4,t5,t6,t7,t8,t9] [("",y,z),(x,"",z),("abcd",y,z),(x,"abcd",z),(x,y,""),(x,y,Txt.slice (z++"abcdefg") none (some 7)),(x,y,Txt.slice z none (some ((x.length:Int)+y.length - 2))),("A"++Txt.slice x (some 1) none,y,z),(x,Txt.slice y none (some (-1))++"1",z)]:=(T8.same s12).snoc (show _=some (eX _) from ae)
  have gp3:=s12 _ _ gp3
  generalize upd H11 t9 _=H12 at s12 T9 gp3 ⊢
  have s12:=s11.trans s12
  lia
  refine ⟨_,rfl,aW (by omega),?_⟩
  lia
  refine ⟨_,_,rfl,rfl,aW (jE (a:=" ") (by decide +kernel) (Nat.le_trans (Txt.slice_le _ _ _) (Nat.le_trans l3.2 (by decide)))),?_⟩
  lia
  refine ⟨by show 3<=sizeLine;decide,λ t10 ht10=>?_⟩
  have s13:=ak.upd (o:=.tup [V.str x,V.str y,V.str (Txt.slice z none (some (-1))++" ")]) ht10
  have T10:TMs (upd H12 t10 (.tup [V.str x,V.str y,V.str (Txt.slice z none (some (-1))++" ")])) [t1,t2,t3,t4,t5,t6,t7,t8,t9,t10] [("",y,z),(x,"",z),("abcd",y,z),(x,"abcd",z),(x,y,""),(x,y,Txt.slice (z++"abcdefg") none (some 7)),(x,y,Txt.slice z none (some ((x.length:Int)+y.length - 2))),("A"++Txt.slice x (some 1) none,y,z),(x,Txt.slice y none (some (-1))++"1",z),(x,y,Txt.slice z none (some (-1))++" ")]:=(T9.same s13).snoc (show _=some (eX _) from ae)
  have gp3:=s13 _ _ gp3
  generalize upd H12 t10 _=H13 at s13 T10 gp3 ⊢
  have s13:=s12.trans s13
  lia
  refine ⟨by show 3<=sizeLine;decide,λ p4 hp4=>?_⟩
  have s14:=ak.upd (o:=.lst [V.ref t8,V.ref t9,V.ref t10]) hp4
  have gp4:(upd H13 p4 (.lst [V.ref t8,V.ref t9,V.ref t10])) p4=some (.lst [V.ref t8,V.ref t9,V.ref t10]):=ae
  have T10:=T10.same s14
  have gp3:=s14 _ _ gp3
  generalize upd H13 p4 _=H14 at s14 T10 gp3 gp4 ⊢
  have s14:=s13.trans s14
  refine ⟨p3,p4,_,_,rfl,rfl,gp3,gp4,by show 10<=sizeLine;decide,λ p5 hp5=>?_⟩
  rw [show [V.ref t1,V.ref t2,V.ref t3,V.ref t4,V.ref t5,V.ref t6,V.ref t7]++[V.ref t8,V.ref t9,V.ref t10]=[V.ref t1,V.ref t2,V.ref t3,V.ref t4,V.ref t5,V.ref t6,V.ref t7,V.ref t8,V.ref t9,V.ref t10] from rfl]
  have s15:=ak.upd (o:=.lst [V.ref t1,V.ref t2,V.ref t3,V.ref t4,V.ref t5,V.ref t6,V.ref t7,V.ref t8,V.ref t9,V.ref t10]) hp5
  have gp5:(upd H14 p5 (.lst [V.ref t1,V.ref t2,V.ref t3,V.ref t4,V.ref t5,V.ref t6,V.ref t7,V.ref t8,V.ref t9,V.ref t10])) p5=some (.lst [V.ref t1,V.ref t2,V.ref t3,V.ref t4,V.ref t5,V.ref t6,V.ref t7,V.ref t8,V.ref t9,V.ref t10]):=ae
  have T10:=T10.same s15
  generalize upd H14 p5 _=H15 at s15 T10 gp5 ⊢
  have s15:=s14.trans s15
  lia
  refine ⟨_,rfl,aW (by omega),?_⟩
  lia
  refine ⟨_,_,rfl,rfl,aW (jE (a:="+") (by decide +kernel) (Nat.le_trans (Txt.slice_le _ _ _) (Nat.le_trans l1.2 (by decide)))),?_⟩
  lia
  refine ⟨by show 3<=sizeLine;decide,λ t11 ht11=>?_⟩
  have s16:=ak.upd (o:=.tup [V.str (Txt.slice x none (some (-1))++"+"),V.str y,V.str z]) ht11
  have T11:TMs (upd H15 t11 (.tup [V.str (Txt.slice x none (some (-1))++"+"),V.str y,V.str z])) [t1,t2,t3,t4,t5,t6,t7,t8,t9,t10,t11] [("",y,z),(x,"",z),("abcd",y,z),(x,"abcd",z),(x,y,""),(x,y,Txt.slice (z++"abcdefg") none (some 7)),(x,y,Txt.slice z none (some ((x.length:Int)+y.length - 2))),("A"++Txt.slice x (some 1) none,y,z),(x,Txt.slice y none (some (-1))++"1",z),(x,y,Txt.slice z none (some (-1))++" "),(Txt.slice x none (some (-1))++"+",y,z)]:=(T10.same s16).snoc (show _=some (eX _) from ae)
  have gp5:=s16 _ _ gp5
  generalize upd H15 t11 _=H16 at s16 T11 gp5 ⊢
  have s16:=s15.trans s16
  lia
  refine ⟨by show 1<=sizeLine;decide,λ p6 hp6=>?_⟩
  have s17:=ak.upd (o:=.lst [V.ref t11]) hp6
  have gp6:(upd H16 p6 (.lst [V.ref t11])) p6=some (.lst [V.ref t11]):=ae
  have T11:=T11.same s17
  have gp5:=s17 _ _ gp5
  generalize upd H16 p6 _=H17 at s17 T11 gp5 gp6 ⊢
  have s17:=s16.trans s17
  refine ⟨p5,p6,_,_,rfl,rfl,gp5,gp6,by show 11<=sizeLine;decide,λ p7 hp7=>?_⟩
  rw [show [V.ref t1,V.ref t2,V.ref t3,V.ref t4,V.ref t5,V.ref t6,V.ref t7,V.ref t8,V.ref t9,V.ref t10]++[V.ref t11]=[V.ref t1,V.ref t2,V.ref t3,V.ref t4,V.ref t5,V.ref t6,V.ref t7,V.ref t8,V.ref t9,V.ref t10,V.ref t11] from rfl]
  have s18:=ak.upd (o:=.lst [V.ref t1,V.ref t2,V.ref t3,V.ref t4,V.ref t5,V.ref t6,V.ref t7,V.ref t8,V.ref t9,V.ref t10,V.ref t11]) hp7
  have gp7:(upd H17 p7 (.lst [V.ref t1,V.ref t2,V.ref t3,V.ref t4,V.ref t5,V.ref t6,V.ref t7,V.ref t8,V.ref t9,V.ref t10,V.ref t11])) p7=some (.lst [V.ref t1,V.ref t2,V.ref t3,V.ref t4,V.ref t5,V.ref t6,V.ref t7,V.ref t8,V.ref t9,V.ref t10,V.ref t11]):=ae
  have T11:=T11.same s18
  generalize upd H17 p7 _=H18 at s18 T11 gp7 ⊢
  have s18:=s17.trans s18
  lia
  have bad:∀ n∈([("",y,z),(x,"",z),("abcd",y,z),(x,"abcd",z),(x,y,""),(x,y,Txt.slice (z++"abcdefg") none (some 7)),(x,y,Txt.slice z none (some ((x.length:Int)+y.length - 2))),("A"++Txt.slice x (some 1) none,y,z),(x,Txt.slice y none (some (-1))++"1",z),(x,y,Txt.slice z none (some (-1))++" "),(Txt.slice x none (some (-1))++"+",y,z)]:List Mel),BN n:=by
   have q4:("abcd":Str).length=4:=by decide +kernel
   have q0:("":Str).length=0:=by decide +kernel
   have o1:("A":Str).length=1/\("1":Str).length=1/\(" ":Str).length=1/\("+":Str).length=1:=by decide +kernel
   have c1:=Txt.slice_le x (some 1) none
   have c2:=Txt.slice_le y none (some (-1))
   have c3:=Txt.slice_le z none (some (-1))
   have c4:=Txt.slice_le x none (some (-1))
   have c5:=Txt.slice_le z none (some ((x.length:Int)+y.length - 2))
   have c6:=Txt.slice_le (z++"abcdefg") none (some 7)
   have c7:(Txt.slice (z++"abcdefg") none (some 7)).length=7:=by
    rw [dm,show (some (7:Int))=some ((7:Nat):Int) from rfl,kG _ (by rw [gP];omega),List.length_take,<- dm,gP];omega
   have c8:(Txt.slice z none (some ((x.length:Int)+y.length - 2))).length=x.length+y.length - 2:=by
    rw [dm,show ((x.length:Int)+y.length - 2)=((x.length+y.length - 2:Nat):Int) by omega,kG _ (by omega),List.length_take,<- dm];omega
   rw [gP] at c6
   intro n hn
   simp only [List.mem_cons,List.not_mem_nil,or_false] at hn
   rcases hn with rfl | rfl | rfl | rfl | rfl | rfl | rfl | rfl | rfl | rfl | rfl <;> unfold BN <;> dsimp only
   ·exact ⟨zb (fT (by omega)),by omega,by omega,by omega⟩
   ·exact ⟨Ce (fT (by omega)),by omega,by omega,by omega⟩
   ·exact ⟨zb (fT (by omega)),by omega,by omega,by omega⟩
   ·exact ⟨Ce (fT (by omega)),by omega,by omega,by omega⟩
   ·exact ⟨Br (fT (by omega)),by omega,by omega,by omega⟩
   ·exact ⟨Br (fT (by omega)),by omega,by omega,by omega⟩
   ·exact ⟨Fn (by omega),by omega,by omega,by omega⟩
   ·exact ⟨zb (mB (c:=65) (by rw [lC];exact List.mem_append_left _ (by decide +kernel)) rfl),by rw [gP];omega,by omega,by omega⟩
   ·exact ⟨Ce (mB (c:=49) (by rw [lC];exact List.mem_append_right _ (by decide +kernel)) rfl),by omega,by rw [gP];omega,by omega⟩
   ·exact ⟨Br (mB (c:=32) (by rw [lC];exact List.mem_append_right _ (by decide +kernel)) rfl),by omega,by omega,by rw [gP];omega⟩
   ·exact ⟨zb (mB (c:=43) (by rw [lC];exact List.mem_append_right _ (by decide +kernel)) rfl),by rw [gP];omega,by omega,by omega⟩
  obtain ⟨v,hv,ev⟩:=uk (xs:=[t1,t2,t3,t4,t5,t6,t7,t8,t9,t10,t11].map V.ref) (bF m (show (0:Int)<11 by decide)) (mod_lt m (show (0:Int)<11 by decide))
  obtain ⟨t,n,rfl,hn,gt⟩:=T11.at hv
  refine ⟨p7,_,_,_,rfl,rfl,SqL.of gp7,ev,?_⟩
  exact q _ t n s18 gt (bad n hn)
end
def PTs (H:Hp) (us:List Addr) (ms:List (Str×Str)):Prop:=us.length=ms.length/\∀ (i:Nat) t m,us[i]?=some t->ms[i]?=some m->H t=some (lU m)
theorem PTs.same {H H':Hp} {ts:List Addr} {ms:List (Str×Str)} (h:PTs H ts ms) (s:ak H H'):PTs H' ts ms:=⟨h.1,λ i t m a b=>s _ _ (h.2 i t m a b)⟩
theorem PTs.nil {H:Hp}:PTs H [] []:=⟨rfl,λ i t m a=>by simp at a⟩
theorem PTs.snoc {H:Hp} {ts:List Addr} {ms:List (Str×Str)} {t:Addr} {m:Str×Str} (h:PTs H ts ms) (e:H t=some (lU m)):PTs H (ts++[t]) (ms++[m]):=⟨by rw [List.length_append,List.length_append,h.1];rfl,λ i u n a b=>by
 rcases Nat.lt_trichotomy i ts.length with z | z | z
 ·rw [List.getElem?_append_left z] at a
  rw [List.getElem?_append_left (by rw [<- h.1];exact z)] at b
  exact h.2 i u n a b
 ·rw [z,List.getElem?_concat_length] at a
  rw [z,h.1,List.getElem?_concat_length] at b
  rw [<- Option.some.inj a,<- Option.some.inj b];exact e
 ·rw [List.getElem?_eq_none (by rw [List.length_append,List.length_singleton];omega)] at a;cases a⟩
theorem PTs.put {H:Hp} {ts:List Addr} {ms:List (Str×Str)} {D:Addr} {xs:List V} {o:HO} (h:PTs H ts ms) (hD:H D=some (.lst xs)):PTs (upd H D o) ts ms:=⟨h.1,λ i t m a b=>by
 have e:=h.2 i t m a b
 rw [aq (λ z=>by rw [z,hD] at e;cases e)];exact e⟩
structure KD where
 t:Addr
 p:Addr
 ti:Str
 en:Str
 us:List Addr
 ms:List (Str×Str)
structure KD.at (k:KD) (H:Hp):Prop where
 tup:H k.t=some (.tup [.str k.ti,.str k.en,.ref k.p])
 lst:H k.p=some (.lst (k.us.map .ref))
 prs:PTs H k.us k.ms
theorem KD.at.same {k:KD} {H H':Hp} (h:k.at H) (s:ak H H'):k.at H':=⟨s _ _ h.tup,s _ _ h.lst,h.prs.same s⟩
theorem KD.at.put {k:KD} {H:Hp} {L:Addr} {xs:List V} {o:HO} (h:k.at H) (n:k.p≠L) (hL:H L=some (.lst xs)):k.at (upd H L o):=
 ⟨by rw [aq (λ z=>by have:=h.tup;rw [z,hL] at this;cases this)];exact h.tup,by rw [aq n];exact h.lst,h.prs.put hL⟩
structure KD.ok (k:KD):Prop where
 ok:kR k.ti k.en k.ms=true
 sh:Short k.ms
 tl:k.ti.length<=1000
 el:k.en.length<=1000
def dZ (ks:List KD):List V:=(ks.map (·.t)).map .ref
def lD (H:Hp) (ks:List KD):Prop:=∀ k∈ks,k.at H/\k.ok
theorem lD.same {H H':Hp} {ks:List KD} (h:lD H ks) (s:ak H H'):lD H' ks:=λ k hk=>⟨(h k hk).1.same s,(h k hk).2⟩
theorem nd2 {s:Int}:∀ {ms:List (Str×Str)},ms.length<=2->(∀ (i:Nat) m,ms[i]?=some m->wAt s i m.1)->(kq ms).Nodup
 | [],_,_=>List.nodup_nil
 | [m],_,_=>by simp [kq]
 | [m,n],_,h=>by
  have:=(h 0 m rfl).ne (h 1 n rfl)
  simp [kq,this]
 | _::_::_::_,h,_=>by simp at h
theorem yD:∀ j:Fin 10,("abcdefghij":Str).cps.toList[j.val]?=some (97+j.val):=by decide +kernel
theorem DU (i:Int):∃ c,c=97+(i % 10).toNat/\jZ c=true/\L2.atI ("abcdefghij":Str).cps.toList (i % 10)=some c:=by
 have h0:=bF i (show (0:Int)<10 by decide)
 have h1:=mod_lt i (show (0:Int)<10 by decide)
 have e:=yD ⟨(i % 10).toNat,by omega⟩
 have e2:L2.atI ("abcdefghij":Str).cps.toList (((i % 10).toNat:Nat):Int)=some (97+(i % 10).toNat):=eE (j:=(i % 10).toNat) e
 rw [show (((i % 10).toNat:Nat):Int)=i % 10 by omega] at e2
 refine ⟨_,rfl,?_,e2⟩
 unfold jZ
 rw [decide_eq_true (by omega),decide_eq_true (by omega)];rfl
theorem q7s {n:Int} (n0:0<=n) (n7:n<=7):(Txt.slice "qqqqqqq" none (some n)).length<=7/\jc (Txt.slice "qqqqqqq" none (some n))=true:=by
 have l7:("qqqqqqq":Str).length=7:=by decide +kernel
 refine ⟨by have:=Txt.slice_le "qqqqqqq" none (some n);omega,List.all_eq_true.mpr λ c hc=>?_⟩
 rw [show n=((n.toNat:Nat):Int) by omega,kG _ (by omega)] at hc
 have:(("qqqqqqq":Str).cps.toList.all jZ)=true:=by decide +kernel
 exact List.all_eq_true.mp this c (List.mem_of_mem_take hc)
section
variable {P:Program} {w:World} {K:PySem.W.Frag} {mg:Str->Option Value} {base:Heap} {a:Ad}
abbrev DKs (K:PySem.W.Frag) (mg:Str->Option Value):=Df K mg "_law_kinds" "_law_kinds" (top 54) ["_law_seed","_law_many"]
def BA:Sp:=λ vs H Q _=>∃ (s n:Int),vs=[.int s,.int n]/\0<=n/\n<=3/\∀ (H':Hp) (L:Addr) (ks:List KD),ak H H'->H L=none->H' L=some (.lst (dZ ks))->lD H' ks->ks.length=n.toNat->(∀ k∈ks,H k.p=none/\k.p≠L)->(ks.map (·.ti)).Nodup->Q (.ref L) H'
abbrev nKs:List Str:=["_law_seed","_law_many","_law_sorts","_law_k","_law_title","_law_turns"]
theorem D8:aH nKs ["_law_seed","_law_many"] (ar (top 54)):=⟨rfl,rfl,rfl,by decide +kernel,rfl,by decide +kernel,by decide +kernel⟩
theorem vG {s:Int} {ks:List KD} (hl:ks.length<=10) (h:∀ (j:Nat) k,ks[j]?=some k->k.ti.cps.toList[0]?=some (97+((s+(j:Int)) % 10).toNat)):(ks.map (·.ti)).Nodup:=by
 refine List.pairwise_iff_getElem.mpr λ i j hi hj ij e=>?_
 rw [List.length_map] at hi hj
 rw [List.getElem_map,List.getElem_map] at e
 have h1:=h i _ (List.getElem?_eq_getElem hi)
 have h2:=h j _ (List.getElem?_eq_getElem hj)
 rw [e,h2] at h1
 have:=Option.some.inj h1
 omega
theorem Fh (D:DKs K mg) (aG:DLW K mg) (bV:F0 P w base 1 aG AZ) (T:Txt K mg a):F0 P w base 2 D BA:=by
 refine Df.ok (k:=1) D.ex D8 (λ vs H Q E h=>?_) (λ A outer s H vs Q E hr h=>?_)
 ·obtain ⟨s,n,rfl,_⟩:=h;rfl
 ·obtain ⟨sd,n,rfl,n0,n3,k⟩:=h
  have nd:=D8.nd
  refine ⟨_,(ah (ay (i:=2) nd rfl (Or.inl rfl) (aM aa))
 (ah (dH PassesOwn.never rfl (gg (by rfl) T.dh (ag (pv 1) aa)) (aA (i:=3) nd rfl (Or.inl rfl))
 (ah (ay (i:=4) nd rfl (Or.inl rfl) (ai bY (aV mS aD (ai az (ai aU (pv 0) (pv 3)) af) (λ _ _=>rfl)) (bq gx aD bS (bz (ai az (ai aK (pv 0) af) af)))))
 (ah (kC (i:=5) nd rfl (Or.inl rfl) (N:=["_law_j","_law_seed"]) (fs:=[(1,0)]) (⟨rfl,by rfl,by rfl,by rfl,⟨⟨_,rfl,rfl,rfl,Or.inl rfl⟩,trivial⟩⟩) rfl (gg (by rfl) T.dh (ag (ai az (ai aK (pv 0) af) af) aa)) (λ _ _ _ _ _=>(aA (i:=0) (show List.Nodup (["_law_j","_law_seed"]:List Str) from by decide +kernel) rfl (Or.inl rfl))) (λ _ _ _ _ _=>by exact dU) (λ _ _ _ _ _=>by exact (bH (ag (av bV (hr.mono (by decide)) (by rfl) aG.mg aG.kp aG.bd .nil aT (ag (pv 1) (ag (pv 0) aa))) (ag (av bV (hr.mono (by decide)) (by rfl) aG.mg aG.kp aG.bd .nil aT (ag (pv 1) (ag (ai aU af (pv 0)) aa))) aa)))))
 (aj (bj (cN PySem.F.plainAttrs_list PySem.F.slot_list_append PySem.F.type_list_append br (pv 2) (ag (bH (ag (pv 4) (ag (av bV (hr.mono (by decide)) (by rfl) aG.mg aG.kp aG.bd .nil aT (ag (pv 0) (ag (ai aU af (pv 3)) aa))) (ag (pv 5) aa)))) aa)))))))
 (aj (aN (pv 2))))),?_⟩
  lia
  refine ⟨by show 0<=sizeLine;decide,λ L hL=>?_⟩
  have s1:=ak.upd (o:=.lst []) hL
  have g1:(upd H L (.lst [])) L=some (.lst []):=ae
  generalize upd H L _=H1 at s1 g1 ⊢
  have put:∀ {H4:Hp} {o:HO},ak H H4->ak H (upd H4 L o):=λ {H4 o} h c o h'=>by rw [aq (ao h' hL)];exact h _ _ h'
  lia
  refine ⟨n,rfl,by omega,by omega,?_⟩
  refine forR (λ i σ H2=>∃ (v3 v4 v5:Option V) (ks:List KD),σ=[some (V.int sd),some (V.int n),some (V.ref L),v3,v4,v5]/\ak H H2/\H2 L=some (.lst (dZ ks))/\lD H2 ks/\ks.length=i/\(∀ (j:Nat) k,ks[j]?=some k->k.ti.cps.toList[0]?=some (97+((sd+(j:Int)) % 10).toNat))/\∀ k∈ks,H k.p=none/\k.p≠L) ⟨_,_,_,[],rfl,s1,g1,λ k h=>(nomatch h),rfl,λ j k h=>by simp at h,λ k h=>(nomatch h)⟩ ?_ ?_
  ·rintro i σ H2 hi ⟨v3,v4,v5,ks,rfl,s2,g2,ka,kl,kt,kp⟩
   have l10:("abcdefghij":Str).length<=sizeLine:=by decide +kernel
   have l7:("qqqqqqq":Str).length<=sizeLine:=by decide +kernel
   have m0:=bF (sd / 10) (show (0:Int)<8 by decide)
   have m1:=mod_lt (sd / 10) (show (0:Int)<8 by decide)
   obtain ⟨q1,q2⟩:=q7s m0 (by omega)
   lia
   obtain ⟨c,ec,lc,hc⟩:=DU (sd+(0+i))
   refine ⟨_,_,c,rfl,rfl,l10,hc,?_⟩
   lia
   refine ⟨_,rfl,l7,?_⟩
   have o1:(⟨#[c]⟩:Str).length=1:=rfl
   refine ⟨_,_,rfl,rfl,aW (by rw [o1];omega),?_⟩
   have tl:(⟨#[c]⟩++Txt.slice "qqqqqqq" none (some (sd / 10 % 8)):Str).length<=8/\1<=(⟨#[c]⟩++Txt.slice "qqqqqqq" none (some (sd / 10 % 8)):Str).length:=by rw [gP,o1];omega
   have tw:jc (⟨#[c]⟩++Txt.slice "qqqqqqq" none (some (sd / 10 % 8)):Str)=true:=List.all_eq_true.mpr λ d hd=>by
    rw [lC] at hd
    rcases List.mem_append.mp hd with hd | hd
    ·rw [List.mem_singleton.mp hd];exact lc
    ·exact List.all_eq_true.mp q2 d hd
   have th:(⟨#[c]⟩++Txt.slice "qqqqqqq" none (some (sd / 10 % 8)):Str).cps.toList[0]?=some (97+((sd+(i:Int)) % 10).toNat):=by
    rw [lC,show (0:Int)+(i:Int)=(i:Int) by omega] at *
    rw [<- ec];rfl
   generalize (⟨#[c]⟩++Txt.slice "qqqqqqq" none (some (sd / 10 % 8)):Str)=ti at tl tw th ⊢
   have b0:=bF (sd / 80) (show (0:Int)<3 by decide)
   have b1:=mod_lt (sd / 80) (show (0:Int)<3 by decide)
   lia
   refine ⟨_,rfl,by omega,by omega,lcH (λ D j ys Hh=>∃ (us:List Addr) (ms:List (Str×Str)),ys=us.map .ref/\PTs Hh us ms/\ms.length=j/\ms.all fS=true/\(∀ (i:Nat) m,ms[i]?=some m->wAt sd i m.1)) qq (aW (by omega)) (λ D hD=>⟨[],[],rfl,.nil,rfl,rfl,λ i m h=>by simp at h⟩) (λ D j ys H3 hj hD s3 e3 r3=>?_) (λ D H3 ys hD s3 e3 r3=>?_)⟩
   ·obtain ⟨us,ms,rfl,pt,ml,mo,mw⟩:=r3
    lia
    refine ⟨ik rfl,?_⟩
    lia
    refine ⟨_,_,rfl,λ H4 x s4 wx ax=>?_⟩
    lia
    refine ⟨_,_,rfl,λ H5 y s5 wy _=>?_⟩
    lia
    refine ⟨by show 2<=sizeLine;decide,λ t ht=>?_⟩
    have s35:=s4.trans (s5.trans (ak.upd (o:=.tup [V.str x,.str y]) ht))
    refine j2 hD s3 e3 s35 ⟨us++[t],ms++[(x,y)],by rw [List.map_append];rfl,((pt.same s35).snoc ae).put (s35 _ _ e3),by rw [List.length_append,ml];rfl,?_,λ i m hm=>?_⟩
    ·rw [List.all_append,mo]
     show (true&&(aP x&&aP y&&true))=true
     rw [wx,wy];rfl
    ·rcases Nat.lt_trichotomy i ms.length with z | z | z
     ·rw [List.getElem?_append_left z] at hm;exact mw i m hm
     ·rw [z,List.getElem?_concat_length] at hm
      rw [<- Option.some.inj hm,z,ml]
      rw [show (0:Int)+(j:Int)=(j:Int) by omega] at ax;exact ax
     ·rw [List.getElem?_eq_none (by rw [List.length_append,List.length_singleton];omega)] at hm;cases hm
   obtain ⟨us,ms,rfl,pt,ml,mo,mw⟩:=r3
   have DL:D≠L:=λ e=>by rw [e,g2] at hD;cases hD
   have g3:=s3 _ _ g2
   lia
   refine ⟨.inl ⟨rfl,_,SqL.of g3⟩,?_⟩
   lia
   refine ⟨_,_,rfl,λ H4 en s4 we _=>?_⟩
   lia
   refine ⟨by show 3<=sizeLine;decide,λ t ht=>?_⟩
   have s5:=s4.trans (ak.upd (o:=.tup [V.str ti,.str en,.ref D]) ht)
   have gt:(upd H4 t (.tup [V.str ti,.str en,.ref D])) t=some (.tup [V.str ti,.str en,.ref D]):=ae
   show uM _ (upd H4 t (.tup [V.str ti,.str en,.ref D])) _
   generalize upd H4 t _=H5 at s5 gt ⊢
   have g5:=s5 _ _ g3
   have ka5:=(ka.same s3).same s5
   have nk:(⟨t,D,ti,en,us,ms⟩:KD).at H5:=⟨gt,s5 _ _ e3,pt.same s5⟩
   have wl:∀ {x:Str},aP x=true->x.length<=1000:=λ h=>by have:=iL h;omega
   have nko:(⟨t,D,ti,en,us,ms⟩:KD).ok:=by
    refine ⟨?_,⟨by show ms.length<=1000;omega,λ m hm=>?_⟩,by show ti.length<=1000;omega,wl we⟩
    ·show (j5 ti&&(aP en&&(ms.all fS&&decide (kq ms).Nodup)))=true
     unfold j5
     rw [tw,we,mo,decide_eq_true (nd2 (by omega) mw),decide_eq_true (show (1:Int)<=ti.length by omega),decide_eq_true (show (ti.length:Int)<=8 by omega)];rfl
    ·have:=List.all_eq_true.mp mo m hm
     unfold fS at this
     rw [Bool.and_eq_true] at this
     exact ⟨wl this.1,wl this.2⟩
   lia
   refine ⟨L,_,_,rfl,rfl,g5,by unfold dZ;rw [List.length_map,List.length_map,kl];exact Nat.lt_of_lt_of_le (show i<100 by omega) (by decide),?_⟩
   refine ⟨_,_,_,ks++[⟨t,D,ti,en,us,ms⟩],rfl,put (s2.trans (s3.trans s5)),by rw [ae];unfold dZ;rw [List.map_append,List.map_append];rfl,λ k hk=>?_,by rw [List.length_append,kl];rfl,λ j k hk=>?_,λ k hk=>?_⟩
   ·rcases List.mem_append.mp hk with hk | hk
    ·exact ⟨(ka5 k hk).1.put (kp k hk).2 g5,(ka5 k hk).2⟩
    ·rw [List.mem_singleton.mp hk];exact ⟨nk.put DL g5,nko⟩
   ·rcases Nat.lt_trichotomy j ks.length with z | z | z
    ·rw [List.getElem?_append_left z] at hk;exact kt j k hk
    ·rw [z,List.getElem?_concat_length] at hk
     rw [<- Option.some.inj hk,z,kl];exact th
    ·rw [List.getElem?_eq_none (by rw [List.length_append,List.length_singleton];omega)] at hk;cases hk
   ·rcases List.mem_append.mp hk with hk | hk
    ·exact kp k hk
    ·rw [List.mem_singleton.mp hk];exact ⟨s2.free hD,DL⟩
  ·rintro σ H2 ⟨v3,v4,v5,ks,rfl,s2,g2,ka,kl,kt,kp⟩
   lia
   exact k _ L ks s2 hL g2 ka kl kp (vG (by omega) kt)
end
def gN {α:Type} (d:α) (i j:Nat) (us ws:List α):List α:=if us.length=3/\ws.length=max i j then us++[(d::ws).getD i d,(d::ws).getD j d] else []
theorem tL (i j:Nat) {vs zs:List V} {us ws:List Value} (r:Vals vs us) (rz:Vals zs ws):Vals (gN V.non i j vs zs) (gN Value.none i j us ws):=by
 unfold gN
 rw [r.length,rz.length]
 split
 ·have at':∀ k,RelV ((V.non::zs).getD k V.non) ((Value.none::ws).getD k Value.none):=λ k=>by
   have r1:Vals (V.non::zs) (Value.none::ws):=.cons rfl rz
   generalize V.non::zs=a at r1
   generalize Value.none::ws=b at r1
   induction r1 generalizing k with
   | nil=>exact rfl
   | cons h _ ih=>
    cases k with
    | zero=>exact h
    | succ k=>exact ih k
  exact r.append (.cons (at' i) (.cons (at' j) .nil))
 ·exact .nil
variable {K:PySem.W.Frag} {dT:Addr} {odT anI:Option Addr} {nT:Nat} {slT:Array (Option Value)} {kV doc pm cdv ct:Value}
abbrev fdT (dT:Addr) (kV doc pm:Value) (anI:Option Addr) (cdv ct:Value):FuncData:=PySem.W.fnOf "__init__" "Tongue.__init__" (bJ sTI) (bo sTI) (ar sTI) (.ref dT) kV doc pm anI cdv ct
theorem yJ {i j:Nat} {us ws:List Value} (h:(gN Value.none i j us ws).length=pTI.length):us.length=3/\ws.length=max i j:=by
 unfold gN at h
 split at h
 ·assumption
 ·cases h
theorem yM (lk:K.lookup dT=some ⟨.type "tuple",odT,.seq #[.none,.none] nT,slT⟩):ft K (fdT dT kV doc pm anI cdv ct) pTI ["kinds"] (gN Value.none 0 1) (gN V.non 0 1):=by
 refine ⟨λ s us ws X h=>?_,tL 0 1⟩
 obtain ⟨h1,h2⟩:=yJ h
 match us,ws,h1,h2 with
 | [u0,u1,u2],[k],_,_=>exact BindsTo.of_defaults rfl (X _ _ lk) rfl rfl rfl
theorem yK (lk:K.lookup dT=some ⟨.type "tuple",odT,.seq #[.none,.none] nT,slT⟩):ft K (fdT dT kV doc pm anI cdv ct) pTI ["melts"] (gN Value.none 1 0) (gN V.non 1 0):=by
 refine ⟨λ s us ws X h=>?_,tL 1 0⟩
 obtain ⟨h1,h2⟩:=yJ h
 match us,ws,h1,h2 with
 | [u0,u1,u2],[k],_,_=>exact BindsTo.of_defaults rfl (X _ _ lk) rfl rfl rfl
theorem yS (lk:K.lookup dT=some ⟨.type "tuple",odT,.seq #[.none,.none] nT,slT⟩):ft K (fdT dT kV doc pm anI cdv ct) pTI ["kinds","melts"] (gN Value.none 2 1) (gN V.non 2 1):=by
 refine ⟨λ s us ws X h=>?_,tL 2 1⟩
 obtain ⟨h1,h2⟩:=yJ h
 match us,ws,h1,h2 with
 | [u0,u1,u2],[k,m],_,_=>exact BindsTo.of_defaults rfl (X _ _ lk) rfl rfl rfl
theorem ak.Fm {H H1:Hp} {x dx:Addr} {o1 o2:HO} (s:ak H H1) (hx:H1 x=none) (hd:H1 dx=none):∀ c o,H c=some o->c≠x->(upd (upd H1 dx o1) x o2) c=some o:=λ c o e n=>by
 rw [aq n,aq (ao (s _ _ e) hd)];exact s _ _ e
theorem m9 {c:Prop} [Decidable c] {t:TT} {σ:L2.St} {H:Hp} {A B:Hp->Prop} (hB:∀ H1,ak H H1->B H1) (h:(∀ H1,ak H H1->B H1)->c->t σ H λ b H1=>if b=true then A H1 else B H1):if c then t σ H (λ b H1=>if b=true then A H1 else B H1) else B H:=by
 by_cases z:c
 ·rw [if_pos z];exact h hB z
 ·rw [if_neg z];exact hB H (ak.refl H)
section
variable {P:Program} {w:World} {K:PySem.W.Frag} {mg:Str->Option Value} {base:Heap} {a:Ad}
abbrev DTd (K:PySem.W.Frag) (mg:Str->Option Value):=Df K mg "_law_told" "_law_told" (top 55) ["_law_bound","_law_rules_here","_law_blends","_law_sorts","_law_way"]
open Classical in
noncomputable def dueC (a:Ad) (B:Int) (ms:List Mel) (tt:List Str):Option Addr:=if B<0 then some a.ff else if ms.all bh=false then some a.ic else if ¬ tt.Nodup then some a.jo else none
structure Hnd (a:Ad) (H:Hp) (L Mm S:Addr) (os ts zs:List Addr) (ms:List Mel) (tt:List Str):Prop where
 gl:H L=some (.lst (os.map .ref))
 gm:H Mm=some (.lst (ts.map .ref))
 tm:TMs H ts ms
 gs:H S=some (.lst (zs.map .ref))
 ta:fm a H zs tt
 tl:tt.length<=1000
 ml:∀ m∈ms,m.1.length<=10000/\m.2.1.length<=10000/\m.2.2.length<=10000
 t1:H a.tSL=some (Tb a.tSL)
 t2:H a.tTI=some (Tb a.tTI)
theorem Hnd.same {H H':Hp} {L Mm S:Addr} {os ts zs:List Addr} {ms:List Mel} {tt:List Str} (h:Hnd a H L Mm S os ts zs ms tt) (s:ak H H'):Hnd a H' L Mm S os ts zs ms tt:=
 ⟨s _ _ h.gl,s _ _ h.gm,h.tm.same s,s _ _ h.gs,h.ta.same s,h.tl,h.ml,s _ _ h.t1,s _ _ h.t2⟩
def jM (a:Ad) (H0 H:Hp) (x:Addr) (B:Int) (os ts zs:List Addr):Prop:=∃ r q k,H0 r=none/\H0 q=none/\H0 k=none/\TgX a H x B r q k/\H r=some (.lst (os.map .ref))/\H q=some (.lst (ts.map .ref))/\H k=some (.lst (zs.map .ref))
theorem jM.same {H0 H H':Hp} {x:Addr} {B:Int} {os ts zs:List Addr} (h:jM a H0 H x B os ts zs) (s:ak H H'):jM a H0 H' x B os ts zs:=by
 obtain ⟨r,q,k,h1,h2,h3,h4,h5,h6,h7⟩:=h
 exact ⟨r,q,k,h1,h2,h3,h4.same s,s _ _ h5,s _ _ h6,s _ _ h7⟩
theorem jM.back {H0 H1 H:Hp} {x:Addr} {B:Int} {os ts zs:List Addr} (h:jM a H1 H x B os ts zs) (s:ak H0 H1):jM a H0 H x B os ts zs:=by
 obtain ⟨r,q,k,h1,h2,h3,h4⟩:=h
 exact ⟨r,q,k,s.free h1,s.free h2,s.free h3,h4⟩
theorem dN {H:Hp} {L Mm S x dx:Addr} {B:Int} {os ts zs:List Addr} {ms:List Mel} {tt:List Str} {vq vk:V} {Q:VK} {E:XK} (h:Hnd a H L Mm S os ts zs ms tt) (hx:H x=none) (hd:H dx=none) (ne:dx≠x)
  (hq:(vq=.non/\ms=[])∨vq=.ref Mm) (hk:(vk=.non/\zs=[])∨vk=.ref S)
  (he:∀ c H',dueC a B ms tt=some c->ak H H'->E (.ref c) none H') (k:∀ H',dueC a B ms tt=none->ak H H'->jM a H H' x B os ts zs->Q .non H'):
  qj a [.ref x,.int B,.ref L,vq,vk] (upd (upd H dx (.own x)) x (.ins a.ba dx [])) Q E:=by
 have kp:=ak.Fm (o1:=.own x) (o2:=.ins a.ba dx []) (ak.refl H) hx hd
 have nx:∀ {c:Addr} {o:HO},H c=some o->c≠x:=λ e=>ao e hx
 have sm:∀ {H':Hp},(∀ c o,(upd (upd H dx (.own x)) x (.ins a.ba dx [])) c=some o->c≠x->H' c=some o)->ak H H':=λ g c o e=>g c o (kp c o e (nx e)) (nx e)
 have ts0:ms=[]->ts=[]:=λ e=>List.length_eq_zero_iff.mp (by rw [h.tm.1,e];rfl)
 have fr:∀ {c:Addr},(upd (upd H dx (.own x)) x (.ins a.ba dx [])) c=none->H c=none:=λ {c} e=>by
  cases z:H c with
  | none=>rfl
  | some o=>rw [kp c o z (nx z)] at e;cases e
 refine ⟨x,dx,B,L,vq,vk,os,ts,zs,ms,tt,rfl,ae,kp _ _ h.gl (nx h.gl),?_,?_,?_,h.tl,⟨h.tm.1,λ i t m b c=>kp _ _ (h.tm.2 i t m b c) (nx (h.tm.2 i t m b c))⟩,h.ml,kp _ _ h.t1 (nx h.t1),kp _ _ h.t2 (nx h.t2),?_,?_,?_,?_⟩
 ·rcases hq with ⟨rfl,e⟩ | rfl
  ·exact .inl ⟨rfl,ts0 e⟩
  ·exact .inr ⟨Mm,rfl,kp _ _ h.gm (nx h.gm)⟩
 ·rcases hk with ⟨rfl,e⟩ | rfl
  ·exact .inl ⟨rfl,e⟩
  ·exact .inr ⟨S,rfl,kp _ _ h.gs (nx h.gs)⟩
 ·refine ⟨h.ta.1,λ i o t b c=>?_⟩
  obtain ⟨e,n,kx⟩:=h.ta.2 i o t b c
  obtain ⟨d2,fs,r1,r2⟩:=kx.ob
  exact ⟨e,n,⟨d2,fs,kp _ _ r1 (nx r1),r2⟩⟩
 ·intro b0 H' g
  exact he _ H' (by unfold dueC;rw [if_pos b0]) (sm g)
 ·intro b0 al H' g
  exact he _ H' (by unfold dueC;rw [if_neg (by omega),if_pos al]) (sm g)
 ·intro b0 al nt H' g
  exact he _ H' (by unfold dueC;rw [if_neg (by omega),if_neg (by rw [al];simp),if_pos nt]) (sm g)
 ·intro b0 al nt H' r q kk f1 f2 f3 g tg g1 g2 g3
  exact k H' (by unfold dueC;rw [if_neg (by omega),if_neg (by rw [al];simp),if_neg (λ z=>z nt)]) (sm g) ⟨r,q,kk,fr f1,fr f2,fr f3,tg,g1,g2,g3⟩
theorem gj (T:Txt K mg a) {B:Int} {ms:List Mel} {tt:List Str} {c:Addr} (h:dueC a B ms tt=some c):∃ bm nw,L2.mj K c bm nw=true/\j9 K c a.jQ=true:=by
 unfold dueC at h
 split at h
 ·rw [<- Option.some.inj h];exact ⟨_,_,T.dM.x.ex,T.dM.sub⟩
 split at h
 ·rw [<- Option.some.inj h];exact ⟨_,_,T.i5.x.ex,T.i5.sub⟩
 split at h
 ·rw [<- Option.some.inj h];exact ⟨_,_,T.mx.x.ex,T.mx.sub⟩
 ·cases h
def Ab (a:Ad):Sp:=λ vs H Q _=>∃ (L Mm S:Addr) (os ts zs:List Addr) (ms:List Mel) (tt:List Str) (B y:Int),vs=[.int B,.ref L,.ref Mm,.ref S,.int y]/\Hnd a H L Mm S os ts zs ms tt/\0<=y /\
 (∀ c H' e,dueC a B ms tt=some c->ak H H'->H' e=some (Ex e c)->Q (.ref e) H')/\∀ H' x,dueC a B ms tt=none->ak H H'->jM a H H' x B os ts zs->Q (.ref x) H'
abbrev nTd:List Str:=["_law_bound","_law_rules_here","_law_blends","_law_sorts","_law_way","_law_told_here","_law_error"]
theorem Ez:aH nTd ["_law_bound","_law_rules_here","_law_blends","_law_sorts","_law_way"] (ar (top 55)):=⟨rfl,rfl,rfl,by decide +kernel,rfl,by decide +kernel,by decide +kernel⟩
theorem Dt (D:DTd K mg) (de:x9 K) (M_Tongue:Mk K a.ba de.f) (bd0:Binds K de.fd pTI []) (bd1:Binds K de.fd pTI [.none]) (bd2:Binds K de.fd pTI [.none,.none]) (bd_kinds:ft K de.fd pTI ["kinds"] (gN Value.none 0 1) (gN V.non 0 1)) (bd_melts:ft K de.fd pTI ["melts"] (gN Value.none 1 0) (gN V.non 1 0))
  (bd_kinds_melts:ft K de.fd pTI ["kinds","melts"] (gN Value.none 2 1) (gN V.non 2 1)) (e8:c9 P w K mg base (CXE P w) 6 de.f de.fd pTI (qj a)) (T:Txt K mg a):
  F0 P w base 8 D (Ab a):=by
 refine Df.ok (k:=7) D.ex Ez (λ vs H Q E h=>?_) (λ A outer s H vs Q E hr h=>?_)
 ·obtain ⟨L,Mm,S,os,ts,zs,ms,tt,B,y,rfl,_⟩:=h;rfl
 ·obtain ⟨L,Mm,S,os,ts,zs,ms,tt,B,y,rfl,hn,y0,ke,k⟩:=h
  have nd:=Ez.nd
  have hu:=Nat.lt_of_succ_lt (rf hr)
  refine ⟨_,(ah (ay (i:=5) nd rfl (Or.inl rfl) fN)
 (ah (Af (i:=5) (j:=6) nd rfl rfl rfl rfl (by decide) ⟨rfl,rfl⟩ rfl (by rfl) T.dJ T.nj (by decide) (λ E pins=>by exact (aj (aY (pw_and (aB iq (pv 4) af (aC _)) (pw_and (aB (pQ K hu) (pv 2) (aM aa) (aC _)) (pw_and1 (aB (pQ K hu) (pv 3) (aM aa) (aC _))))).pt
 (aj (ay (i:=5) nd rfl (Or.inl rfl) (i0 M_Tongue e8 (hr.mono (by decide)) (by rfl) T.bU bd2 (.cons (show RelV .non .none from rfl) (.cons (show RelV .non .none from rfl) .nil)) (nO λ _ _ _ z=>z) (ag (pv 0) (ag (pv 1) aa)))))
 (aj (aY (pw_and (aB iq (pv 4) af (aC _)) (pw_and1 (aB (pQ K hu) (pv 2) (aM aa) (aC _)))).pt
 (aj (ay (i:=5) nd rfl (Or.inl rfl) (aV (qZ K) (aM (ag (i0 M_Tongue e8 (hr.mono (by decide)) (by rfl) T.bU bd0 .nil (nO λ _ _ _ z=>z) (ag (pv 0) (ag (pv 1) (ag fN (ag (pv 3) aa))))) (ag (mY M_Tongue e8 (hr.mono (by decide)) (by rfl) T.bU bd_kinds (nO λ _ _ _ z=>z) (ag (pv 0) (ag (pv 1) aa)) (mz (pv 3) uE)) aa))) (ai az (pv 4) af) (λ _ _=>rfl))))
 (aj (aY (pw_and (aB iq (pv 4) af (aC _)) (pw_and1 (aB (pQ K hu) (pv 3) (aM aa) (aC _)))).pt
 (aj (ay (i:=5) nd rfl (Or.inl rfl) (aV (qZ K) (aM (ag (i0 M_Tongue e8 (hr.mono (by decide)) (by rfl) T.bU bd1 (.cons (show RelV .non .none from rfl) .nil) (nO λ _ _ _ z=>z) (ag (pv 0) (ag (pv 1) (ag (pv 2) aa)))) (ag (mY M_Tongue e8 (hr.mono (by decide)) (by rfl) T.bU bd_melts (nO λ _ _ _ z=>z) (ag (pv 0) (ag (pv 1) aa)) (mz (pv 2) uE)) aa))) (ai az (pv 4) af) (λ _ _=>rfl))))
 (aj (aY (aB dg (pv 4) af (aC _))
 (aj (ay (i:=5) nd rfl (Or.inl rfl) (mY M_Tongue e8 (hr.mono (by decide)) (by rfl) T.bU bd_kinds_melts (nO λ _ _ _ z=>z) (ag (pv 0) (ag (pv 1) aa)) (mz (pv 3) (mz (pv 2) uE)))))
 (aj (ay (i:=5) nd rfl (Or.inl rfl) (i0 M_Tongue e8 (hr.mono (by decide)) (by rfl) T.bU bd0 .nil (nO λ _ _ _ z=>z) (ag (pv 0) (ag (pv 1) (ag (pv 2) (ag (pv 3) aa)))))))))))))))))
 (aj (aN (pv 5))))),?_⟩
  lia
  have fin:∀ c H' a' (σ':L2.St),dueC a B ms tt=some c->ak H H'->H' a'=none->σ'.length=7->zA (xM 5) ⟨λ _ H'=>Q .non H',Q,λ _ _=>False,λ _ _=>False⟩ ((σ'.set 5 (some (V.ref a'))).set 6 none) (upd H' a' (Ex a' c)):=by
   intro c H' a' σ' e s' ha hl
   match σ',hl with
   | [_,_,_,_,_,_,_],_=>
    lia
    exact ke c _ a' e (s'.trans (ak.upd ha)) ae
  refine CI ?_
  have tse:∀ {b:Bool},b=true->(ts.map V.ref).isEmpty=b->ms=[]:=λ hb e=>by
   rw [hb] at e
   have e1:=List.isEmpty_iff.mp e
   have e2:ts=[]:=List.map_eq_nil_iff.mp e1
   exact List.length_eq_zero_iff.mp (by rw [<- hn.tm.1,e2];rfl)
  have zse:∀ {b:Bool},b=true->(zs.map V.ref).isEmpty=b->zs=[]:=λ hb e=>by
   rw [hb] at e
   exact List.map_eq_nil_iff.mp (List.isEmpty_iff.mp e)
  lia
  refine m9 (λ H1 s1=>?_) (λ els c1=>?_)
  ·lia
   refine m9 (λ H2 s2=>?_) (λ els c2=>?_)
   ·have s2:=s1.trans s2
    lia
    refine m9 (λ H3 s3=>?_) (λ els c3=>?_)
    ·have s3:=s2.trans s3
     lia
     refine w_ite (λ z=>?_) (λ z=>?_)
     ·lia
      intro x dx hx hd ne
      refine dN (hn.same s3) hx hd ne (.inr rfl) (.inr rfl) (λ c H' e s'=>?_) (λ H' e s' tg=>?_)
      ·obtain ⟨bm,nw,x1,x2⟩:=gj T e
       exact ⟨c,bm,nw,rfl,x1,x2,λ a' σ' ha hl=>fin c H' a' σ' e (s3.trans s') ha hl⟩
      ·refine ⟨rfl,?_⟩
       lia
       exact k _ x e (s3.trans s') (tg.back s3)
     ·lia
      refine lB ?_
      lia
      intro x dx hx hd ne
      refine dN (hn.same s3) hx hd ne (.inr rfl) (.inr rfl) (λ c H' e s'=>?_) (λ H' e s' tg=>?_)
      ·obtain ⟨bm,nw,x1,x2⟩:=gj T e
       exact ⟨c,bm,nw,rfl,x1,x2,λ a' σ' ha hl=>fin c H' a' σ' e (s3.trans s') ha hl⟩
      ·refine ⟨rfl,?_⟩
       lia
       exact k _ x e (s3.trans s') (tg.back s3)
    lia
    refine ⟨by show 0<=sizeLine;decide,λ pa hpa=>?_⟩
    have qa:=ak.upd (o:=.lst []) hpa
    refine ⟨S,pa,_,rfl,rfl,SqL.of (qa _ _ (hn.same s2).gs),SqL.of ae,?_⟩
    have ta:=s2.trans qa
    generalize upd _ pa _=Ga at qa ta ⊢
    cases eb:(zs.map V.ref).isEmpty with
    | false=>
     refine ⟨false,rfl,?_⟩
     rw [if_neg Bool.false_ne_true]
     exact els Ga qa
    | true=>
     have ze:=zse rfl eb
     lia
     refine lB ?_
     lia
     intro x dx hx hd ne
     refine dN (hn.same ta) hx hd ne (.inr rfl) (.inl ⟨rfl,ze⟩) (λ c H' e s'=>?_) (λ H' e s' tg=>?_)
     ·obtain ⟨bm,nw,x1,x2⟩:=gj T e
      exact ⟨c,bm,nw,rfl,x1,x2,λ a' σ' ha hl=>fin c H' a' σ' e (ta.trans s') ha hl⟩
     refine ⟨rfl,?_⟩
     have u1:=ta.trans s'
     have tg1:=tg.back ta
     clear hx hd ne tg
     lia
     intro x2 dx hx hd ne
     refine dN (hn.same u1) hx hd ne (.inr rfl) (.inl ⟨rfl,ze⟩) (λ c H2' e s2'=>?_) (λ H2' e s2' tg=>?_)
     ·obtain ⟨bm,nw,x1,x2⟩:=gj T e
      exact ⟨c,bm,nw,rfl,x1,x2,λ a' σ' ha hl=>fin c H2' a' σ' e (u1.trans s2') ha hl⟩
     refine ⟨rfl,?_⟩
     have u2:=u1.trans s2'
     have tg2:=tg.back u1
     have tg1:=tg1.same s2'
     lia
     refine ⟨by show 2<=sizeLine;decide,λ l hl=>?_⟩
     have q3:=ak.upd (o:=.lst [V.ref x,.ref x2]) hl
     have g3:(upd H2' l (.lst [V.ref x,.ref x2])) l=some (.lst [V.ref x,.ref x2]):=ae
     generalize upd H2' l _=H3' at q3 g3 ⊢
     lia
     rcases (show y % 2=0∨y % 2=1 by omega) with z | z
     ·refine ⟨l,_,_,.ref x,rfl,rfl,SqL.of g3,by rw [z];rfl,?_⟩
      lia
      exact k _ x e (u2.trans q3) (tg1.same q3)
     ·refine ⟨l,_,_,.ref x2,rfl,rfl,SqL.of g3,by rw [z];rfl,?_⟩
      lia
      exact k _ x2 e (u2.trans q3) (tg2.same q3)
   ·lia
    refine ⟨by show 0<=sizeLine;decide,λ pa hpa=>?_⟩
    have qa:=ak.upd (o:=.lst []) hpa
    refine ⟨Mm,pa,_,rfl,rfl,SqL.of (qa _ _ (hn.same s1).gm),SqL.of ae,?_⟩
    have ta:=s1.trans qa
    generalize upd _ pa _=Ga at qa ta ⊢
    cases eb:(ts.map V.ref).isEmpty with
    | false=>
     refine ⟨false,rfl,?_⟩
     rw [if_neg Bool.false_ne_true]
     exact els Ga qa
    | true=>
     have me:=tse rfl eb
     lia
     refine lB ?_
     lia
     intro x dx hx hd ne
     refine dN (hn.same ta) hx hd ne (.inl ⟨rfl,me⟩) (.inr rfl) (λ c H' e s'=>?_) (λ H' e s' tg=>?_)
     ·obtain ⟨bm,nw,x1,x2⟩:=gj T e
      exact ⟨c,bm,nw,rfl,x1,x2,λ a' σ' ha hl=>fin c H' a' σ' e (ta.trans s') ha hl⟩
     refine ⟨rfl,?_⟩
     have u1:=ta.trans s'
     have tg1:=tg.back ta
     clear hx hd ne tg
     lia
     intro x2 dx hx hd ne
     refine dN (hn.same u1) hx hd ne (.inl ⟨rfl,me⟩) (.inr rfl) (λ c H2' e s2'=>?_) (λ H2' e s2' tg=>?_)
     ·obtain ⟨bm,nw,x1,x2⟩:=gj T e
      exact ⟨c,bm,nw,rfl,x1,x2,λ a' σ' ha hl=>fin c H2' a' σ' e (u1.trans s2') ha hl⟩
     refine ⟨rfl,?_⟩
     have u2:=u1.trans s2'
     have tg2:=tg.back u1
     have tg1:=tg1.same s2'
     lia
     refine ⟨by show 2<=sizeLine;decide,λ l hl=>?_⟩
     have q3:=ak.upd (o:=.lst [V.ref x,.ref x2]) hl
     have g3:(upd H2' l (.lst [V.ref x,.ref x2])) l=some (.lst [V.ref x,.ref x2]):=ae
     generalize upd H2' l _=H3' at q3 g3 ⊢
     lia
     rcases (show y % 2=0∨y % 2=1 by omega) with z | z
     ·refine ⟨l,_,_,.ref x,rfl,rfl,SqL.of g3,by rw [z];rfl,?_⟩
      lia
      exact k _ x e (u2.trans q3) (tg1.same q3)
     ·refine ⟨l,_,_,.ref x2,rfl,rfl,SqL.of g3,by rw [z];rfl,?_⟩
      lia
      exact k _ x2 e (u2.trans q3) (tg2.same q3)
  ·lia
   refine ⟨by show 0<=sizeLine;decide,λ pa hpa=>?_⟩
   have qa:=ak.upd (o:=.lst []) hpa
   refine ⟨Mm,pa,_,rfl,rfl,SqL.of (qa _ _ hn.gm),SqL.of ae,?_⟩
   generalize upd _ pa _=Ga at qa ⊢
   cases eb:(ts.map V.ref).isEmpty with
   | false=>
    refine ⟨false,rfl,?_⟩
    rw [if_neg Bool.false_ne_true]
    show (if false=true then _ else _)
    rw [if_neg Bool.false_ne_true]
    exact els Ga qa
   | true=>
    have me:=tse rfl eb
    lia
    refine ⟨by show 0<=sizeLine;decide,λ pb hpb=>?_⟩
    have qb:=ak.upd (o:=.lst []) hpb
    refine ⟨S,pb,_,rfl,rfl,SqL.of (qb _ _ (hn.same qa).gs),SqL.of ae,?_⟩
    have tb:=qa.trans qb
    generalize upd _ pb _=Gb at qb tb ⊢
    cases ec:(zs.map V.ref).isEmpty with
    | false=>
     refine ⟨false,rfl,?_⟩
     rw [if_neg Bool.false_ne_true]
     exact els Gb tb
    | true=>
     have ze:=zse rfl ec
     lia
     refine lB ?_
     lia
     intro x dx hx hd ne
     refine dN (hn.same tb) hx hd ne (.inl ⟨rfl,me⟩) (.inl ⟨rfl,ze⟩) (λ c H' e s'=>?_) (λ H' e s' tg=>?_)
     ·obtain ⟨bm,nw,x1,x2⟩:=gj T e
      exact ⟨c,bm,nw,rfl,x1,x2,λ a' σ' ha hl=>fin c H' a' σ' e (tb.trans s') ha hl⟩
     ·refine ⟨rfl,?_⟩
      lia
      exact k _ x e (tb.trans s') (tg.back tb)
end
end K04
namespace L2
open PySem PySem.Spec PyProof.Rows
theorem lcZ {K:PySem.W.Frag} {nN:Nat} {fs:List (Nat×Nat)} {g:TG} {tc:TT} {te:TE} {σ:St} {H:Hp} {QD:Addr->Hp->Prop} {a b:Addr} {xs ys:List V} (R:Addr->Nat->List V->Hp->Prop) (ha:SqL K H a xs) (hb:SqL K H b ys) (hl:ys.length=xs.length) (hn:xs.length<=sizeLine) (h0:∀ D,H D=none->R D 0 [] (upd H D (.lst [])))
  (ht:∀ D i p zs H2,(hi:i<xs.length)->H D=none->ak H H2->H2 D=some (.lst zs)->R D i zs H2->H2 p=none->g (.ref p) (tau nN fs σ) (upd H2 p (.tup [xs[i],ys[i]])) λ τ4 H4=>(∀ (j:Nat) v,(tau nN fs σ)[j]?=some (some v)->τ4[j]?=some (some v))/\tc τ4 H4 λ b H5=>
   if b=true then te τ4 H5 λ v H6=>H6 D=some (.lst zs)/\ak H (upd H6 D (.lst (zs++[v])))/\R D (i+1) (zs++[v]) (upd H6 D (.lst (zs++[v]))) else H5 D=some (.lst zs)/\ak H H5/\R D (i+1) zs H5)
  (hQ:∀ D H2 zs,H D=none->ak H H2->H2 D=some (.lst zs)->R D xs.length zs H2->QD D H2):
  ∀ D,H D=none->∃ (n:Nat) (W:Nat->List V->Hp->Prop),n<=sizeLine/\W 0 [] (upd H D (.lst [])) /\
   ∀ i zs H2,i<=n->W i zs H2->H2 D=some (.lst zs)->((Itz K a b).stop i H2/\QD D H2)∨(i<n/\(Itz K a b).go i H2/\∀ x H3,(Itz K a b).yld i H2 x H3->g x (tau nN fs σ) H3 λ τ4 H4=>
    (∀ (j:Nat) v,(tau nN fs σ)[j]?=some (some v)->τ4[j]?=some (some v))/\tc τ4 H4 λ b H5=>
     if b=true then te τ4 H5 λ v H6=>H6 D=some (.lst zs)/\W (i+1) (zs++[v]) (upd H6 D (.lst (zs++[v]))) else H5 D=some (.lst zs)/\W (i+1) zs H5):=by
 intro D hD
 refine ⟨xs.length,λ i zs H2=>ak H H2/\R D i zs H2,hn,⟨ak.upd hD,h0 D hD⟩,?_⟩
 rintro i zs H2 hi ⟨s2,r⟩ e
 have ha2:=s2.seq ha
 have hb2:=s2.seq hb
 by_cases hlt:i<xs.length
 ·have hlt2:i<ys.length:=by omega
  refine .inr ⟨hlt,⟨xs,ys,xs[i],ys[i],ha2,hb2,List.getElem?_eq_getElem hlt,List.getElem?_eq_getElem hlt2⟩,λ x H' y=>?_⟩
  obtain ⟨q,hq,e1,x',y',e2,e3,e4⟩:=y
  subst e1 e2
  have f1:=e3 xs ha2
  have f2:=e4 ys hb2
  rw [List.getElem?_eq_getElem hlt] at f1
  rw [List.getElem?_eq_getElem hlt2] at f2
  rw [<- Option.some.inj f1,<- Option.some.inj f2]
  exact ht D i q zs H2 hlt hD s2 e r hq
 ·have e0:i=xs.length:=by omega
  exact .inl ⟨⟨xs,ys,ha2,hb2,.inl (List.getElem?_eq_none (by omega))⟩,by subst e0;exact hQ D H2 zs hD s2 e r⟩
end L2
namespace K04
open PySem PySem.Spec PyProof.Rows L2
section
variable {P:Program} {w:World} {K:PySem.W.Frag} {mg:Str->Option Value} {base:Heap} {a:Ad}
theorem rM {α:Type} (c:α->Bool) (ws:List α) (i:Nat) (hi:i<ws.length):(ws.take (i+1)).filter c=(ws.take i).filter c++if c ws[i]=true then [ws[i]] else []:=by
 rw [List.take_succ_eq_append_getElem hi,List.filter_append]
 congr 1
 by_cases z:c ws[i]=true <;> simp [z]
abbrev DRf (K:PySem.W.Frag) (mg:Str->Option Value):=Df K mg "_law_refusal" "_law_refusal" (top 56) ["_law_error"]
def ck (b1 b2 b3:Bool):List Str:=(if b1 then [("bound":Str)] else [])++((if b2 then [("melt":Str)] else [])++(if b3 then [("twice":Str)] else []))
def Bs (K:PySem.W.Frag) (a:Ad):Sp:=λ vs H Q _=>∃ (e c:Addr) (b1 b2 b3:Bool),vs=[.ref e]/\H e=some (Ex e c)/\ExQ K a c b1 b2 b3/\∀ H' l,ak H H'->H' l=some (.lst ((ck b1 b2 b3).map .str))->Q (.ref l) H'
theorem E9:aH ["_law_error","_law_found"] ["_law_error"] (ar (top 56)):=⟨rfl,rfl,rfl,by decide +kernel,rfl,by decide +kernel,by decide +kernel⟩
theorem CH (D:DRf K mg) (bVE:mg "ValueError"=none) (T:Txt K mg a):F0 P w base 1 D (Bs K a):=by
 refine Df.ok (k:=0) D.ex E9 (λ vs H Q E h=>?_) (λ A outer s H vs Q E hr h=>?_)
 ·obtain ⟨e,c,b1,b2,b3,rfl,_⟩:=h;rfl
 ·obtain ⟨e,c,b1,b2,b3,rfl,he,ed,k⟩:=h
  have nd:=E9.nd
  refine ⟨_,(ah (aY (bK (bu (aF i4 (by rfl) T.aO boot_isinstance (ag (pv 0) (ag (fB (v:=.ty "ValueError") (by rfl) bVE (by rfl) rfl) aa)))))
 (aj (aN aD))
 aE)
 (ah (aY (bu (aF ug (by rfl) T.aO boot_isinstance (ag (pv 0) (ag (bH (ag (a9 (v:=.ref a.gw) (by rfl) T.cC rfl) (ag (a9 (v:=.ref a.kn) (by rfl) T.dR rfl) (ag (a9 (v:=.ref a.j6) (by rfl) T.dP rfl) (ag (a9 (v:=.ref a.qA) (by rfl) T.fY rfl) (ag (a9 (v:=.ref a.eC) (by rfl) T.a5 rfl) (ag (a9 (v:=.ref a.mE) (by rfl) T.eQ rfl) (ag (a9 (v:=.ref a.qD) (by rfl) T.f9 rfl) (ag (a9 (v:=.ref a.pW) (by rfl) T.gd rfl) (ag (a9 (v:=.ref a.ig) (by rfl) T.cA rfl) (ag (a9 (v:=.ref a.mH) (by rfl) T.eU rfl) aa))))))))))) aa))))
 (aj (aN aD))
 aE)
 (ah (ay (i:=1) nd rfl (Or.inl rfl) (aM (ag (aF i4 (by rfl) T.aO boot_isinstance (ag (pv 0) (ag (a9 (v:=.ref a.ff) (by rfl) T.cW rfl) aa))) (ag (aF i4 (by rfl) T.aO boot_isinstance (ag (pv 0) (ag (a9 (v:=.ref a.ic) (by rfl) T.dO rfl) aa))) (ag (aF i4 (by rfl) T.aO boot_isinstance (ag (pv 0) (ag (a9 (v:=.ref a.jo) (by rfl) T.hU rfl) aa))) aa)))))
 (aj (aN (nP (N:=["_law_name","_law_one"]) (fs:=[]) (⟨rfl,by rfl,by rfl,by rfl,trivial⟩) rfl (xx (by rfl) T.oz boot_zip (ag (aM (ag aD (ag aD (ag aD aa)))) (ag (pv 1) aa))) (λ _ _ _ _ _=>(qw K (n:=2) rfl (bf (aA (i:=0) (show List.Nodup (["_law_name","_law_one"]:List Str) from by decide +kernel) rfl (Or.inl rfl)) (bf (aA (i:=1) (show List.Nodup (["_law_name","_law_one"]:List Str) from by decide +kernel) rfl (Or.inl rfl)) fE)))) (λ _ _ _ _ _=>by exact (qt (bu (pv 1)))) (λ _ _ _ _ _=>by exact (pv 0)))))))),?_⟩
  lia
  refine ⟨_,_,_,_,_,rfl,.ex he ed.x,rfl,ed.val,?_⟩
  lia
  refine ⟨by show 10<=sizeLine;decide,λ p hp=>?_⟩
  have s1:=ak.upd (o:=.tup [V.ref a.gw,.ref a.kn,.ref a.j6,.ref a.qA,.ref a.eC,.ref a.mE,.ref a.qD,.ref a.pW,.ref a.ig,.ref a.mH]) hp
  lia
  refine ⟨e,c,p,_,_,_,rfl,s1 _ _ he,ed.x,ae,rfl,ed.no,?_⟩
  have he1:=s1 _ _ he
  lia
  generalize upd H p _=H1 at s1 he1 ⊢
  refine ⟨_,_,_,_,_,rfl,.ex he1 ed.x,rfl,ed.q1,?_⟩
  lia
  refine ⟨_,_,_,_,_,rfl,.ex he1 ed.x,rfl,ed.q2,?_⟩
  lia
  refine ⟨_,_,_,_,_,rfl,.ex he1 ed.x,rfl,ed.q3,?_⟩
  lia
  refine ⟨by show 3<=sizeLine;decide,λ l1 h1=>?_⟩
  have s2:=s1.trans (ak.upd (o:=.lst [V.bl b1,.bl b2,.bl b3]) h1)
  have g1:(upd H1 l1 (.lst [V.bl b1,.bl b2,.bl b3])) l1=some (.lst ([V.bl b1,.bl b2,.bl b3])):=ae
  generalize upd H1 l1 _=H2 at s2 g1 ⊢
  lia
  refine ⟨by show 3<=sizeLine;decide,λ l2 h2=>?_⟩
  have s3:=s2.trans (ak.upd (o:=.lst [V.str "bound",.str "melt",.str "twice"]) h2)
  have g2:(upd H2 l2 (.lst [V.str "bound",.str "melt",.str "twice"])) l2=some (.lst ([V.str "bound",.str "melt",.str "twice"])):=ae
  have g1:(upd H2 l2 (.lst [V.str "bound",.str "melt",.str "twice"])) l1=some (.lst ([V.bl b1,.bl b2,.bl b3])):=ak.upd h2 _ _ g1
  generalize upd H2 l2 _=H3 at s3 g1 g2 ⊢
  lia
  refine ⟨l2,l1,rfl,⟨_,SqL.of g2⟩,⟨_,SqL.of g1⟩,lcZ (K:=K) (λ D j zs H4=>zs=(((([("bound",b1),("melt",b2),("twice",b3)]:List (Str×Bool)).take j).filter (·.2)).map (·.1)).map V.str) (SqL.of g2) (SqL.of g1) rfl (by show 3<=sizeLine;decide) (λ D hD=>rfl) (λ D j p zs H4 hj hD s4 e4 r4 hp=>?_) (λ D H4 zs hD s4 e4 r4=>?_)⟩
  ·have ej:[V.str "bound",V.str "melt",V.str "twice"][j]=V.str (([("bound",b1),("melt",b2),("twice",b3)]:List (Str×Bool))[j]).1/\[V.bl b1,V.bl b2,V.bl b3][j]'hj=V.bl (([("bound",b1),("melt",b2),("twice",b3)]:List (Str×Bool))[j]).2:=by
    match j,hj with
    | 0,_=>exact ⟨rfl,rfl⟩
    | 1,_=>exact ⟨rfl,rfl⟩
    | 2,_=>exact ⟨rfl,rfl⟩
   have tk:((([("bound",b1),("melt",b2),("twice",b3)]:List (Str×Bool)).take (j+1)).filter (·.2))=((([("bound",b1),("melt",b2),("twice",b3)]:List (Str×Bool)).take j).filter (·.2))++if (([("bound",b1),("melt",b2),("twice",b3)]:List (Str×Bool))[j]).2=true then [([("bound",b1),("melt",b2),("twice",b3)]:List (Str×Bool))[j]] else []:=rM (λ q:Str×Bool=>q.2) [("bound",b1),("melt",b2),("twice",b3)] j hj
   rw [ej.1,ej.2]
   generalize ([("bound",b1),("melt",b2),("twice",b3)]:List (Str×Bool))[j]=q at tk
   obtain ⟨x,b⟩:=q
   dsimp only at tk
   refine gB (SqT.of ae) rfl ?_
   refine ⟨_,_,rfl,_,_,rfl,rfl,?_⟩
   have lp:=ak.upd (o:=.tup [V.str x,V.bl b]) hp
   generalize upd H4 p _=H5 at lp ⊢
   refine ⟨Bk rfl rfl,?_⟩
   lia
   cases b with
   | true=>
    rw [if_pos rfl]
    lia
    exact j2 hD s4 e4 lp (by rw [tk,r4,List.map_append,List.map_append];rfl)
   | false=>
    rw [if_neg Bool.false_ne_true]
    exact EA s4 e4 lp (by rw [tk,r4];simp)
  ·lia
   refine k _ D (s3.trans s4) ?_
   rw [e4,r4]
   cases b1 <;> cases b2 <;> cases b3 <;> rfl
end
end K04
namespace L2
open PySem PySem.Spec PyProof.Rows
theorem Dw {g:TG} {tb:TS} {nx:St->Hp->Prop} {rt:VK} {σ:St} {H:Hp} {K:PySem.W.Frag} {a:Addr} {xs:List V} (Pv:Nat->St->Hp->Prop) (h0:Pv 0 σ H) (hl:∀ i σ H,i<=xs.length->Pv i σ H->SqT K H a xs)
  (hs:∀ i x σ H,xs[i]?=some x->Pv i σ H->g x σ H λ σ2 H2=>tb ⟨Pv (i+1),rt,nx,Pv (i+1)⟩ σ2 H2) (hd:∀ σ H,Pv xs.length σ H->nx σ H):
  ∃ W:Nat->Nat->St->Hp->Prop,(∃ m,W 0 m σ H)/\∀ i m σ H,W i m σ H ->
   ((Itt K a).stop i H/\nx σ H)∨((Itt K a).go i H/\∃ N:St->Hp->Prop,(∀ σ' H',N σ' H'->∃ m',m'<m/\W (i+1) m' σ' H')/\∀ x H',(Itt K a).yld i H x H'->g x σ H' λ σ2 H2=>tb ⟨N,rt,nx,N⟩ σ2 H2):=Ag (D:=⟨nx,rt,λ _ _=>False,λ _ _=>False⟩) Pv h0 hl hs hd
end L2
namespace K04
open PySem PySem.Spec PyProof.Rows L2
abbrev KV:=Str×Str×List Addr
def RT (H:Hp) (p:Addr) (r:RV):Prop:=∃ c,H p=some (.tup [.int r.l,.int r.h,.int r.b,.int r.f,.int r.e,.ref c])/\H c=some (.lst (r.ys.map .str))
def KT (H:Hp) (p:Addr) (d:KV):Prop:=∃ c,H p=some (.tup [.str d.1,.str d.2.1,.ref c])/\H c=some (.lst (d.2.2.map .ref))
def Al {α:Type} (R:Addr->α->Prop) (ps:List Addr) (rs:List α):Prop:=ps.length=rs.length/\∀ (i:Nat) p r,ps[i]?=some p->rs[i]?=some r->R p r
theorem Al.nil {α:Type} {R:Addr->α->Prop}:Al R [] []:=⟨rfl,λ i p r h=>by simp at h⟩
theorem Al.imp {α:Type} {R S:Addr->α->Prop} {ps:List Addr} {rs:List α} (h:Al R ps rs) (g:∀ p r,R p r->S p r):Al S ps rs:=⟨h.1,λ i p r a b=>g _ _ (h.2 i p r a b)⟩
theorem Al.snoc {α:Type} {R:Addr->α->Prop} {ts:List Addr} {ms:List α} {t:Addr} {m:α} (h:Al R ts ms) (e:R t m):Al R (ts++[t]) (ms++[m]):=⟨by rw [List.length_append,List.length_append,h.1];rfl,λ i u n a b=>by
 rcases Nat.lt_trichotomy i ts.length with z | z | z
 ·rw [List.getElem?_append_left z] at a
  rw [List.getElem?_append_left (by rw [<- h.1];exact z)] at b
  exact h.2 i u n a b
 ·rw [z,List.getElem?_concat_length] at a
  rw [z,h.1,List.getElem?_concat_length] at b
  rw [<- Option.some.inj a,<- Option.some.inj b];exact e
 ·rw [List.getElem?_eq_none (by rw [List.length_append,List.length_singleton];omega)] at a;cases a⟩
theorem RT.same {H H':Hp} {p:Addr} {r:RV} (h:RT H p r) (s:ak H H'):RT H' p r:=let ⟨c,a,b⟩:=h;⟨c,s _ _ a,s _ _ b⟩
theorem KT.same {H H':Hp} {p:Addr} {r:KV} (h:KT H p r) (s:ak H H'):KT H' p r:=let ⟨c,a,b⟩:=h;⟨c,s _ _ a,s _ _ b⟩
def Bc (H:Hp) (t:Addr) (B:Int) (rs:List RV) (ts:List Addr) (ds:List KV):Prop:=∃ (l1 l2 l3:Addr) (ps ks:List Addr),H t=some (.tup [.int B,.ref l1,.ref l2,.ref l3])/\H l1=some (.lst (ps.map .ref))/\Al (RT H) ps rs/\H l2=some (.lst (ts.map .ref))/\H l3=some (.lst (ks.map .ref))/\Al (KT H) ks ds
section
variable {P:Program} {w:World} {K:PySem.W.Frag} {mg:Str->Option Value} {base:Heap} {a:Ad}
def KOf (a:Ad) (H:Hp) (o:Addr) (d:KV):Prop:=∃ n,iP a H o d.1 d.2.1 n/\H n=some (.lst (d.2.2.map .ref))
theorem KOf.same {H H':Hp} {o:Addr} {d:KV} (h:KOf a H o d) (s:ak H H'):KOf a H' o d:=let ⟨n,x,y⟩:=h;⟨n,x.same s,s _ _ y⟩
structure TgF (a:Ad) (H:Hp) (x:Addr) (B:Int) (rs:List RV) (ts:List Addr) (ds:List KV):Prop where
 ob:∃ (r q k:Addr) (os zs:List Addr),TgX a H x B r q k/\H r=some (.lst (os.map .ref))/\Al (jC a H) os rs/\H q=some (.lst (ts.map .ref))/\H k=some (.lst (zs.map .ref))/\Al (KOf a H) zs ds
 rl:rs.length<=100
 rk:∀ r∈rs,r.Ok
 dl:ds.length<=100
abbrev DFl (K:PySem.W.Frag) (mg:Str->Option Value):=Df K mg "_law_fields" "_law_fields" (top 57) ["_law_tongue"]
def CD (a:Ad):Sp:=λ vs H Q _=>∃ (x:Addr) (B:Int) (rs:List RV) (ts:List Addr) (ds:List KV),vs=[.ref x]/\TgF a H x B rs ts ds/\∀ H' t,ak H H'->Bc H' t B rs ts ds->Q (.ref t) H'
abbrev nFl:List Str:=["_law_tongue","_law_rules_here","_law_rule_here","_law_sorts","_law_rows"]
theorem EM:aH nFl ["_law_tongue"] (ar (top 57)):=⟨rfl,rfl,rfl,by decide +kernel,rfl,by decide +kernel,by decide +kernel⟩
theorem Fc (D:DFl K mg) (T:Txt K mg a):F0 P w base 1 D (CD a):=by
 refine Df.ok (k:=0) D.ex EM (λ vs H Q E h=>?_) (λ A outer s H vs Q E hr h=>?_)
 ·obtain ⟨x,B,rs,ts,ds,rfl,_⟩:=h;rfl
 ·obtain ⟨x,B,rs,ts,ds,rfl,tg,k⟩:=h
  have nd:=EM.nd
  obtain ⟨r,q,kk,os,zs,⟨dx,fs,hx,fl⟩,gr,ra,gq,gk,za⟩:=id tg.ob
  have ol:os.length<=100:=by rw [ra.1];exact tg.rl
  have zl:zs.length<=100:=by rw [za.1];exact tg.dl
  have rl:=tg.rl
  refine ⟨_,(ah (ay (i:=1) nd rfl (Or.inl rfl) (aM aa))
 (ah (dH PassesOwn.never rfl (bx (aS (pv 0) (by rfl))) (aA (i:=2) nd rfl (Or.inl rfl))
 (aj (bj (cN PySem.F.plainAttrs_list PySem.F.slot_list_append PySem.F.type_list_append br (pv 1) (ag (bH (ag (aS (pv 2) (by rfl)) (ag (aS (pv 2) (by rfl)) (ag (aS (pv 2) (by rfl)) (ag (aS (pv 2) (by rfl)) (ag (aS (pv 2) (by rfl)) (ag (bL bM (by rfl) T.cj boot_list (ag (aS (pv 2) (by rfl)) aa)) aa))))))) aa)))))
 (ah (kC (i:=3) nd rfl (Or.inl rfl) (N:=["_law_kind"]) (fs:=[]) (⟨rfl,by rfl,by rfl,by rfl,trivial⟩) rfl (bx (aS (pv 0) (by rfl))) (λ _ _ _ _ _=>(aA (i:=0) (show List.Nodup (["_law_kind"]:List Str) from by decide +kernel) rfl (Or.inl rfl))) (λ _ _ _ _ _=>by exact dU) (λ _ _ _ _ _=>by exact (bH (ag (jR K (pv 0)) (ag (jR K (pv 0)) (ag (bL (fP K) (by rfl) T.cj boot_list (ag (jR K (pv 0)) aa)) aa))))))
 (ah (dH PassesOwn.never rfl (tR (bH (ag (aS (pv 0) (by rfl)) (ag (aS (pv 0) (by rfl)) (ag (aS (pv 0) (by rfl)) aa))))) (aA (i:=4) nd rfl (Or.inl rfl))
 (aj (aY (bK (bu (aF ef (by rfl) T.aO boot_isinstance (ag (pv 4) (ag (fB (v:=.ty "list") (by rfl) T.cj (by rfl) rfl) aa)))))
 (aj (aN fN))
 aE)))
 (aj (aN (bH (ag (aS (pv 0) (by rfl)) (ag (pv 1) (ag (bL bM (by rfl) T.cj boot_list (ag (aS (pv 0) (by rfl)) aa)) (ag (pv 3) aa))))))))))),?_⟩
  lia
  refine ⟨by show 0<=sizeLine;decide,λ l1 h1=>?_⟩
  have s1:=ak.upd (o:=.lst []) h1
  have g1:(upd H l1 (.lst [])) l1=some (.lst []):=ae
  generalize upd H l1 _=H1 at s1 g1 ⊢
  have put:∀ {H4:Hp} {o:HO},ak H H4->ak H (upd H4 l1 o):=λ {H4 o} h c o h'=>by rw [aq (ao h' h1)];exact h _ _ h'
  lia
  refine ⟨x,_,dx,fs,_,rfl,s1 _ _ hx,T.cl,T.dX,fl.rules,?_⟩
  lia
  refine ⟨r,rfl,⟨_,SqL.of (s1 _ _ gr)⟩,forL (K:=K) (a:=r) (xs:=os.map V.ref) (λ i σ H2=>∃ (v2:Option V) (ps:List Addr),σ=[some (V.ref x),some (V.ref l1),v2,none,none]/\ak H H2/\H2 l1=some (.lst (ps.map .ref))/\Al (λ p v=>∃ c,c≠l1/\H2 p=some (.tup [.int v.l,.int v.h,.int v.b,.int v.f,.int v.e,.ref c])/\H2 c=some (.lst (v.ys.map .str))) ps (rs.take i))
   ⟨none,[],rfl,s1,g1,.nil⟩ (λ i σ H2 _ ⟨_,_,_,e,_⟩=>SqL.of (e _ _ gr)) ?_ ?_⟩
  ·rintro i v σ H2 hv ⟨v2,ps,rfl,s2,g2,al⟩
   rw [List.getElem?_map] at hv
   obtain ⟨o,ho,rfl⟩:=Option.map_eq_some_iff.mp hv
   have hi:i<rs.length:=by rw [<- ra.1];exact (List.getElem?_eq_some_iff.mp ho).1
   have pl:ps.length=i:=by rw [al.1,List.length_take];omega
   obtain ⟨n,R,hn⟩:=(ra.2 i o rs[i] ho (List.getElem?_eq_getElem hi)).same s2
   obtain ⟨dy,fy,hp2,N,hps⟩:=R.ob
   lia
   refine ⟨.inl ⟨rfl,_,SqL.of g2⟩,?_⟩
   lia
   refine ⟨o,_,dy,fy,_,rfl,hp2,T.clR,T.iu,N.low,?_⟩
   lia
   refine ⟨o,_,dy,fy,_,rfl,hp2,T.clR,T.fe,N.high,?_⟩
   lia
   refine ⟨o,_,dy,fy,_,rfl,hp2,T.clR,T.dq,N.base,?_⟩
   lia
   refine ⟨o,_,dy,fy,_,rfl,hp2,T.clR,T.dk,N.first,?_⟩
   lia
   refine ⟨o,_,dy,fy,_,rfl,hp2,T.clR,T.fg,N.last,?_⟩
   lia
   refine ⟨o,_,dy,fy,_,rfl,hp2,T.clR,T.cL,hps,?_⟩
   lia
   refine ⟨n,_,rfl,.inl (SqL.of hn),λ c hc=>?_⟩
   have s3:=ak.upd (o:=.lst (rs[i].ys.map V.str)) hc
   have g3:(upd H2 c (.lst (rs[i].ys.map V.str))) c=some (.lst (rs[i].ys.map V.str)):=ae
   have cl:c≠l1:=λ e=>by rw [e,g2] at hc;cases hc
   generalize upd H2 c _=H3 at s3 g3 ⊢
   lia
   refine ⟨by show 6<=sizeLine;decide,λ p hp=>?_⟩
   have s4:=s3.trans (ak.upd (o:=.tup [V.int rs[i].l,.int rs[i].h,.int rs[i].b,.int rs[i].f,.int rs[i].e,.ref c]) hp)
   have g4:(upd H3 p (.tup [V.int rs[i].l,.int rs[i].h,.int rs[i].b,.int rs[i].f,.int rs[i].e,.ref c])) p=some (.tup [V.int rs[i].l,.int rs[i].h,.int rs[i].b,.int rs[i].f,.int rs[i].e,.ref c]):=ae
   have g3:(upd H3 p (.tup [V.int rs[i].l,.int rs[i].h,.int rs[i].b,.int rs[i].f,.int rs[i].e,.ref c])) c=some (.lst (rs[i].ys.map V.str)):=ak.upd hp _ _ g3
   show uM _ (upd H3 p (.tup [V.int rs[i].l,.int rs[i].h,.int rs[i].b,.int rs[i].f,.int rs[i].e,.ref c])) _
   generalize upd H3 p _=H4 at s4 g4 g3 ⊢
   have g2:=s4 _ _ g2
   lia
   refine ⟨l1,_,_,rfl,rfl,g2,by rw [List.length_map];exact Nat.lt_of_lt_of_le (show ps.length<200 by omega) (by decide),?_⟩
   have kp:∀ {v:RV} {p':Addr},(∃ c,c≠l1/\H4 p'=some (.tup [.int v.l,.int v.h,.int v.b,.int v.f,.int v.e,.ref c])/\H4 c=some (.lst (v.ys.map .str)))->∃ c,c≠l1/\(upd H4 l1 (.lst (ps.map V.ref++[V.ref p]))) p'=some (.tup [.int v.l,.int v.h,.int v.b,.int v.f,.int v.e,.ref c])/\(upd H4 l1 (.lst (ps.map V.ref++[V.ref p]))) c=some (.lst (v.ys.map .str)):=λ {v p'} ⟨c',n1,n2,n3⟩=>
    ⟨c',n1,by rw [aq (λ z=>by rw [z,g2] at n2;cases n2)];exact n2,by rw [aq n1];exact n3⟩
   refine ⟨_,ps++[p],rfl,put (s2.trans s4),by rw [ae,List.map_append];rfl,?_⟩
   rw [List.take_succ,List.getElem?_eq_getElem hi]
   exact Al.snoc ((al.imp λ p' v ⟨c',n1,n2,n3⟩=>kp ⟨c',n1,s4 _ _ n2,s4 _ _ n3⟩)) (kp ⟨c,cl,g4,g3⟩)
  ·rintro σ H2 ⟨v2,ps,rfl,s2,g2,al⟩
   rw [List.length_map,ra.1,List.take_length] at al
   have al:Al (RT H2) ps rs:=al.imp λ p v ⟨c,_,n2,n3⟩=>⟨c,n2,n3⟩
   lia
   refine ⟨x,_,dx,fs,_,rfl,s2 _ _ hx,T.cl,T.eD,fl.kinds,?_⟩
   lia
   have gk2:=s2 _ _ gk
   refine ⟨kk,rfl,⟨_,SqL.of gk2⟩,lcH (λ D j ys Hh=>∃ ks:List Addr,ys=ks.map V.ref/\Al (λ p (d:KV)=>∃ c,c≠D/\Hh p=some (.tup [.str d.1,.str d.2.1,.ref c])/\Hh c=some (.lst (d.2.2.map .ref))) ks (ds.take j)) (hV (SqL.of gk2)) (by rw [List.length_map];exact aW (by omega)) (λ D hD=>⟨[],rfl,.nil⟩) (λ D j ys H3 hj hD s3 e3 r3=>?_) (λ D H3 ys hD s3 e3 r3=>?_)⟩
   ·obtain ⟨ks,rfl,kl⟩:=r3
    rw [List.length_map] at hj
    have hjd:j<ds.length:=by rw [<- za.1];exact hj
    have ej:(zs.map V.ref).getD j .non=V.ref zs[j]:=by simp [List.getD_eq_getElem?_getD,hj]
    rw [ej]
    obtain ⟨n,R,hn⟩:=(za.2 j zs[j] ds[j] (List.getElem?_eq_getElem hj) (List.getElem?_eq_getElem hjd)).same (s2.trans s3)
    obtain ⟨dy,fy,hp2,F⟩:=R.ob
    lia
    refine ⟨ik rfl,?_⟩
    lia
    refine ⟨zs[j],_,dy,fy,_,rfl,hp2,T.clK,T.dW,F.title,?_⟩
    lia
    refine ⟨zs[j],_,dy,fy,_,rfl,hp2,T.clK,T.eZ,F.BJ,?_⟩
    lia
    refine ⟨zs[j],_,dy,fy,_,rfl,hp2,T.clK,T.fA,F.turns,?_⟩
    lia
    refine ⟨n,_,rfl,.inl (SqL.of hn),λ c hc=>?_⟩
    have s4:=ak.upd (o:=.lst (ds[j].2.2.map V.ref)) hc
    have g4:(upd H3 c (.lst (ds[j].2.2.map V.ref))) c=some (.lst (ds[j].2.2.map V.ref)):=ae
    have cD:c≠D:=λ e=>by rw [e,e3] at hc;cases hc
    generalize upd H3 c _=H4 at s4 g4 ⊢
    lia
    refine ⟨by show 3<=sizeLine;decide,λ p hp=>?_⟩
    have s5:=s4.trans (ak.upd (o:=.tup [V.str ds[j].1,.str ds[j].2.1,.ref c]) hp)
    have g5:(upd H4 p (.tup [V.str ds[j].1,.str ds[j].2.1,.ref c])) p=some (.tup [V.str ds[j].1,.str ds[j].2.1,.ref c]):=ae
    have g4:(upd H4 p (.tup [V.str ds[j].1,.str ds[j].2.1,.ref c])) c=some (.lst (ds[j].2.2.map V.ref)):=ak.upd hp _ _ g4
    generalize upd H4 p _=H5 at s5 g5 g4 ⊢
    have e5:=s5 _ _ e3
    have kp:∀ {v:KV} {p':Addr},(∃ c,c≠D/\H5 p'=some (.tup [.str v.1,.str v.2.1,.ref c])/\H5 c=some (.lst (v.2.2.map .ref)))->∃ c,c≠D/\(upd H5 D (.lst (ks.map V.ref++[V.ref p]))) p'=some (.tup [.str v.1,.str v.2.1,.ref c])/\(upd H5 D (.lst (ks.map V.ref++[V.ref p]))) c=some (.lst (v.2.2.map .ref)):=λ {v p'} ⟨c',n1,n2,n3⟩=>
     ⟨c',n1,by rw [aq (λ z=>by rw [z,e5] at n2;cases n2)];exact n2,by rw [aq n1];exact n3⟩
    refine j2 hD s3 e3 s5 ⟨ks++[p],by rw [List.map_append];rfl,?_⟩
    rw [List.take_succ,List.getElem?_eq_getElem hjd]
    exact Al.snoc (kl.imp λ p' v ⟨c',n1,n2,n3⟩=>kp ⟨c',n1,s5 _ _ n2,s5 _ _ n3⟩) (kp ⟨c,cD,g5,g4⟩)
   obtain ⟨ks,rfl,kl⟩:=r3
   rw [List.length_map,za.1,List.take_length] at kl
   have kl:Al (KT H3) ks ds:=kl.imp λ p v ⟨c,_,n2,n3⟩=>⟨c,n2,n3⟩
   have al:=al.imp λ _ _ z=>RT.same z s3
   have g2:=s3 _ _ g2
   have s3:=s2.trans s3
   have hx3:=s3 _ _ hx
   lia
   refine ⟨x,_,dx,fs,_,rfl,hx3,T.cl,T.dX,fl.rules,?_⟩
   lia
   refine ⟨x,_,dx,fs,_,rfl,hx3,T.cl,T.eL,fl.x4,?_⟩
   lia
   refine ⟨x,_,dx,fs,_,rfl,hx3,T.cl,T.eD,fl.kinds,?_⟩
   lia
   refine ⟨by show 3<=sizeLine;decide,λ u hu'=>?_⟩
   have s4:=ak.upd (o:=.tup [V.ref r,.ref q,.ref kk]) hu'
   have g4:(upd H3 u (.tup [V.ref r,.ref q,.ref kk])) u=some (.tup [V.ref r,.ref q,.ref kk]):=ae
   generalize upd H3 u _=H4 at s4 g4 ⊢
   refine ⟨u,rfl,⟨_,SqT.of g4⟩,Dw (K:=K) (a:=u) (xs:=[V.ref r,.ref q,.ref kk]) (λ i σ H5=>∃ (v4:Option V),σ=[some (V.ref x),some (V.ref l1),v2,some (V.ref D),v4]/\H5=H4) ⟨none,rfl,rfl⟩ (λ i σ H5 _ ⟨_,_,e⟩=>by rw [e];exact SqT.of g4) ?_ ?_⟩
   ·rintro i v σ H5 hv ⟨v4,rfl,rfl⟩
    have s5:=s3.trans s4
    obtain ⟨y,ys,rfl,hy⟩:∃ y ys,v=V.ref y/\H5 y=some (.lst ys):=by
     match i,hv with
     | 0,hv=>exact ⟨r,_,(Option.some.inj hv).symm,s5 _ _ gr⟩
     | 1,hv=>exact ⟨q,_,(Option.some.inj hv).symm,s5 _ _ gq⟩
     | 2,hv=>exact ⟨kk,_,(Option.some.inj hv).symm,s5 _ _ gk⟩
     | i+3,hv=>cases hv
    lia
    refine ⟨_,_,_,_,_,rfl,.v (.lst hy),rfl,T.uQ,?_⟩
    lia
    exact ⟨_,rfl,rfl⟩
   ·rintro σ H5 ⟨v4,rfl,rfl⟩
    have s5:=s3.trans s4
    lia
    refine ⟨x,_,dx,fs,_,rfl,s5 _ _ hx,T.cl,T.fw,fl.bound,?_⟩
    lia
    refine ⟨x,_,dx,fs,_,rfl,s5 _ _ hx,T.cl,T.eL,fl.x4,?_⟩
    lia
    refine ⟨q,_,rfl,.inl (SqL.of (s5 _ _ gq)),λ l2 h2=>?_⟩
    have s6:=ak.upd (o:=.lst (ts.map V.ref)) h2
    have g6:(upd H5 l2 (.lst (ts.map V.ref))) l2=some (.lst (ts.map V.ref)):=ae
    generalize upd H5 l2 _=H6 at s6 g6 ⊢
    lia
    refine ⟨by show 4<=sizeLine;decide,λ t ht=>?_⟩
    have s7:=ak.upd (o:=.tup [V.int B,.ref l1,.ref l2,.ref D]) ht
    have s47:=s4.trans (s6.trans s7)
    exact k _ t (s3.trans s47) ⟨l1,l2,D,ps,ks,ae,s47 _ _ g2,al.imp λ _ _ z=>z.same s47,s7 _ _ g6,s47 _ _ e3,kl.imp λ _ _ z=>z.same s47⟩
end
theorem uY:∀ (xs:List Str) (p:Str),risingS p xs=true->(p::xs).Pairwise λ a b:Str=>¬ b.cps.toList<a.cps.toList
 | [],p,_=>by simp
 | x::r,p,h=>by
  have h:(!ltCps x.cps.toList p.cps.toList&&risingS x r)=true:=h
  rw [Bool.and_eq_true,<- lt_meets,Bool.not_eq_true',decide_eq_false_iff_not] at h
  have ih:=uY r x h.2
  refine List.pairwise_cons.mpr ⟨λ y hy=>?_,ih⟩
  rcases List.mem_cons.mp hy with rfl | hy
  ·exact h.1
  ·have h2:=(List.pairwise_cons.mp ih).1 y hy
   exact λ z=>List.not_lt.mpr (List.le_trans (List.not_lt.mp h.1) (List.not_lt.mp h2)) z
theorem pA (xs:List Str) (h:sortedS xs=true) (nd:xs.Nodup):xs.Pairwise λ a b:Str=>a.cps.toList<b.cps.toList:=by
 cases xs with
 | nil=>exact .nil
 | cons x r=>
  have p:=uY r x h
  refine (List.pairwise_and_iff.mpr ⟨p,nd⟩).imp λ {a b} ⟨h1,h2⟩=>?_
  by_cases c:a.cps.toList<b.cps.toList
  ·exact c
  ·exact absurd (C0 (List.le_antisymm (List.not_lt.mp h1) (List.not_lt.mp c))) h2
theorem nK {xs ys:List Str} (h1:sortedS xs=true) (n1:xs.Nodup) (h2:sortedS ys=true) (n2:ys.Nodup) (m:∀ x,x∈xs↔x∈ys):xs=ys:=
 List.Perm.eq_of_pairwise (le:=λ a b:Str=>a.cps.toList<b.cps.toList) (λ a b _ _ x y=>absurd (List.lt_trans x y) (List.lt_irrefl _)) (pA xs h1 n1) (pA ys h2 n2) ((List.perm_ext_iff_of_nodup n1 n2).mpr m)
theorem wD {y:Str} (h:Pc y):decide ((1:Int)<(y.length:Int))=aP y:=by
 rcases h with h | h | h
 ·rw [h];exact decide_eq_true (by have:=iL h;omega)
 ·rw [show aP y=false from Bool.eq_false_iff.mpr λ z=>nX z h]
  refine decide_eq_false ?_
  have:∀ z∈sig,z.length=1:=by decide +kernel
  rw [this y h];decide
 ·subst h
  exact (by decide +kernel:decide ((1:Int)<((("+":Str).length:Nat):Int))=aP "+")
theorem wF {rs:List RV} (h:∀ r∈rs,(r.ys.filter aP).length<=4):(bT rs).length<=4 * rs.length:=by
 induction rs with
 | nil=>exact Nat.le_refl _
 | cons r rs ih=>
  unfold bT at ih ⊢
  rw [List.flatMap_cons,List.length_append,List.length_cons]
  have:=h r (.head _)
  have:=ih λ x hx=>h x (.tail _ hx)
  omega
section
variable {P:Program} {w:World} {K:PySem.W.Frag} {mg:Str->Option Value} {base:Heap} {a:Ad}
abbrev DWh (K:PySem.W.Frag) (mg:Str->Option Value):=Df K mg "_law_whole" "_law_whole" (top 46) ["_law_found"]
def C3:Sp:=λ vs H Q _=>∃ i:Int,vs=[.int i]/\Q (.bl true) H
theorem Ft:aH ["_law_found"] ["_law_found"] (ar (top 46)):=⟨rfl,rfl,rfl,by decide +kernel,rfl,by decide +kernel,by decide +kernel⟩
theorem EY (D:DWh K mg) (bB:mg "bool"=none) (T:Txt K mg a):F0 P w base 1 D C3:=by
 refine Df.ok (k:=0) D.ex Ft (λ vs H Q E h=>?_) (λ A outer s H vs Q E hr h=>?_)
 ·obtain ⟨i,rfl,_⟩:=h;rfl
 ·obtain ⟨i,rfl,k⟩:=h
  refine ⟨_,(aj (aN (jz (aF ef (by rfl) T.aO boot_isinstance (ag (pv 0) (ag (fB (v:=.ty "int") (by rfl) T.n8 (by rfl) rfl) aa))) (kL (wR (aF ef (by rfl) T.aO boot_isinstance (ag (pv 0) (ag (fB (v:=.ty "bool") (by rfl) bB (by rfl) rfl) aa)))))))),?_⟩
  lia
  refine ⟨_,_,_,_,_,rfl,.v (.int i),rfl,T.EK,?_⟩
  lia
  exact ⟨_,_,_,_,_,rfl,.v (.int i),rfl,T.EH,_,rfl,k⟩
abbrev DAs (K:PySem.W.Frag) (mg:Str->Option Value):=Df K mg "_law_asked" "_law_asked" (top 58) ["_law_tongue","_law_bound","_law_rules_here"]
def Ct (a:Ad):Sp:=λ vs H Q _=>∃ (x L:Addr) (B:Int) (rs:List RD),vs=[.ref x,.int B,.ref L]/\TgR a H x B (rs.map RD.rv)/\H L=some (.lst (cG rs))/\eH H rs/\rs.length<=10/\H a.tSL=some (Tb a.tSL)/\Pure (.bl true) H Q
abbrev FI:List Str:=["_law_tongue","_law_bound","_law_rules_here","_law_numbers","_law_rule_here","_law_number","_law_found","_law_due","_law_words"]
theorem EI:aH FI ["_law_tongue","_law_bound","_law_rules_here"] (ar (top 58)):=⟨rfl,rfl,rfl,by decide +kernel,rfl,by decide +kernel,by decide +kernel⟩
theorem DW (D:DAs K mg) (gJ:DRF K mg) (sL:F0 P w base 2 gJ (BX a)) (eI:DPl K mg) (qN:F0 P w base 1 eI CS)
  (eM:DWh K mg) (qk:F0 P w base 1 eM C3) (cX:DWo K mg) (nc:F0 P w base 4 cX (BS a)) (T:Txt K mg a):
  F0 P w base 5 D (Ct a):=by
 refine Df.ok (k:=4) D.ex EI (λ vs H Q E h=>?_) (λ A outer s H vs Q E hr h=>?_)
 ·obtain ⟨x,L,B,rs,rfl,_⟩:=h;rfl
 ·obtain ⟨x,L,B,rs,rfl,tg,hL,ra,r10,tSL,k⟩:=h
  have nd:=EI.nd
  have hh:A.handled=none:=hr.hd
  have hu:=Nat.lt_of_succ_lt (rf hr)
  have rok:∀ r∈rs.map RD.rv,r.Ok:=λ r hr=>by
   obtain ⟨y,hy,rfl⟩:=List.mem_map.mp hr
   exact (ra y hy).2.rv
  have wle:(bT (rs.map RD.rv)).length<64:=by
   have:=wF (rs:=rs.map RD.rv) λ r hr=>by
    obtain ⟨y,hy,rfl⟩:=List.mem_map.mp hr
    exact (ra y hy).2.nw
   rw [List.length_map] at this
   omega
  refine ⟨_,(ah (ay (i:=3) nd rfl (Or.inl rfl) (aM (ag af (ag (lZ iB af) (ag (pv 1) (ag (ai aU (pv 1) af) (ag (ai fc (lZ iB (pv 1)) af) (ag (ai aK (pv 1) af) aa))))))))
 (ah (dH PassesOwn.never rfl (bx (pv 2)) (aA (i:=4) (show List.Nodup (["_law_tongue","_law_bound","_law_rules_here","_law_numbers","_law_rule_here","_law_number","_law_found","_law_due","_law_words"]:List Str) from by decide +kernel) rfl (Or.inl rfl))
 (aj (bj (cN PySem.F.plainAttrs_list PySem.F.slot_list_extend PySem.F.type_list_extend pq (pv 3) (ag (aM (ag (aV b9 (pv 4) af (λ _ _=>rfl)) (ag (aV b9 (pv 4) af (λ _ _=>rfl)) (ag (ai aU (aV b9 (pv 4) af (λ _ _=>rfl)) af) (ag (ai fc (aV b9 (pv 4) af (λ _ _=>rfl)) af) (ag (ai aU (ai fc (aV b9 (pv 4) af (λ _ _=>rfl)) (ai az (aV b9 (pv 4) af (λ _ _=>rfl)) (aV b9 (pv 4) af (λ _ _=>rfl)))) (aV b9 (pv 4) af (λ _ _=>rfl))) aa)))))) aa)))))
 (ah (dH PassesOwn.never rfl (bx (pv 3)) (aA (i:=5) (show List.Nodup (["_law_tongue","_law_bound","_law_rules_here","_law_numbers","_law_rule_here","_law_number","_law_found","_law_due","_law_words"]:List Str) from by decide +kernel) rfl (Or.inl rfl))
 (ah (ay (i:=6) nd rfl (Or.inl rfl) (av sL (hr.mono (by decide)) (by rfl) gJ.mg gJ.kp gJ.bd .nil aT (ag (pv 0) (ag (pv 5) aa))))
 (ah (ay (i:=7) nd rfl (Or.inl rfl) (av qN (hr.mono (by decide)) (by rfl) eI.mg eI.kp eI.bd .nil aT (ag (pv 2) (ag (pv 1) (ag (pv 5) aa)))))
 (aj (aY (pw_or (aB vb (pv 6) (pv 7) (aC _)) (pw_or1 (pw_and (aB zD (pv 7) fN (aC _)) (pw_and1 (bK (bu (av qk (hr.mono (by decide)) (by rfl) eM.mg eM.kp eM.bd .nil aT (ag (pv 6) aa)))))).pt)).pt
 (aj (aN iQ))
 aE)))))
 (ah (ay (i:=8) nd rfl (Or.inl rfl) (aM aa))
 (ah (dH PassesOwn.never rfl (bx (pv 2)) (aA (i:=4) (show List.Nodup (["_law_tongue","_law_bound","_law_rules_here","_law_numbers","_law_rule_here","_law_number","_law_found","_law_due","_law_words"]:List Str) from by decide +kernel) rfl (Or.inl rfl))
 (aj (bj (cN PySem.F.plainAttrs_list PySem.F.slot_list_extend PySem.F.type_list_extend pq (pv 8) (ag (nP (N:=["_law_item"]) (fs:=[]) (⟨rfl,by rfl,by rfl,by rfl,trivial⟩) rfl (bx (aV b9 (pv 4) af (λ _ _=>rfl))) (λ _ _ _ _ _=>(aA (i:=0) (show List.Nodup (["_law_item"]:List Str) from by decide +kernel) rfl (Or.inl rfl))) (λ _ _ _ _ _=>by exact (qt (aB yy (aF bX (by rfl) T.cg boot_len (ag (pv 0) aa)) af (aC _)))) (λ _ _ _ _ _=>by exact (pv 0))) aa)))))
 (ah (ay (i:=7) nd rfl (Or.inl rfl) (aF (iH P w hh) (by rfl) T.eY (by decide +kernel) (ag (bL (uz P w hh) (by rfl) T.oS (by decide +kernel) (ag (pv 8) aa)) aa)))
 (ah (ay (i:=6) nd rfl (Or.inl rfl) (av nc (hr.mono (by decide)) (by rfl) cX.mg cX.kp cX.bd .nil aT (ag (pv 0) aa)))
 (ah (aY (pw_or (bK (bu (aF ef (by rfl) T.aO boot_isinstance (ag (pv 6) (ag (fB (v:=.ty "list") (by rfl) T.cj (by rfl) rfl) aa))))) (pw_or1 (aB (tP hu) (pv 6) (pv 7) (aC _)))).pt
 (aj (aN iQ))
 aE)
 (ah (bj (cN PySem.F.plainAttrs_list PySem.F.slot_list_append PySem.F.type_list_append br (pv 6) (ag aD aa)))
 (aj (aN (cx (qg hu) (av nc (hr.mono (by decide)) (by rfl) cX.mg cX.kp cX.bd .nil aT (ag (pv 0) aa)) (pv 7) (aC _))))))))))))),?_⟩
  lia
  refine ⟨by show 6<=sizeLine;decide,λ nl hnl=>?_⟩
  have s1:=ak.upd (o:=.lst [V.int 0,.int (-1),.int B,.int (B+1),.int (-B - 7),.int (B / 2)]) hnl
  have g1:(upd H nl (.lst [V.int 0,.int (-1),.int B,.int (B+1),.int (-B - 7),.int (B / 2)])) nl=some (.lst ([0,-1,B,B+1,-B - 7,B / 2].map V.int)):=ae
  generalize upd H nl _=H1 at s1 g1 ⊢
  have put:∀ {H4:Hp} {e:Addr} {o:HO},H e=none->ak H H4->ak H (upd H4 e o):=λ {H4 e o} he h c o h'=>by rw [aq (ao h' he)];exact h _ _ h'
  have rlr:H L=some (.lst ((rs.map (·.t)).map .ref)):=hL
  lia
  refine ⟨L,rfl,⟨_,SqL.of (s1 _ _ rlr)⟩,forL (K:=K) (a:=L) (xs:=(rs.map (·.t)).map V.ref) (λ i σ H2=>∃ (v4:Option V) (ns:List Int),σ=[some (V.ref x),some (V.int B),some (V.ref L),some (V.ref nl),v4,none,none,none,none]/\ak H H2/\H2 nl=some (.lst (ns.map .int))/\ns.length=6+5 * i)
   ⟨none,_,rfl,s1,g1,rfl⟩ (λ i σ H2 _ ⟨_,_,_,e,_⟩=>SqL.of (e _ _ rlr)) ?_ ?_⟩
  ·rintro i v σ H2 hv ⟨v4,ns,rfl,s2,g2,nlen⟩
   rw [List.getElem?_map,List.getElem?_map] at hv
   obtain ⟨p,hp,rfl⟩:=Option.map_eq_some_iff.mp hv
   obtain ⟨r,hr',rfl⟩:=Option.map_eq_some_iff.mp hp
   have hi:i<rs.length:=(List.getElem?_eq_some_iff.mp hr').1
   have rr:=ra r (List.mem_of_getElem? hr')
   have ra':=rr.1.same s2
   have b2:=rr.2.b2
   lia
   refine ⟨.inl ⟨rfl,_,SqL.of g2⟩,?_⟩
   lia
   refine ⟨r.t,_,_,_,rfl,rfl,SqT.of ra'.1,(rfl:atI _ 0=_),?_⟩
   lia
   refine ⟨r.t,_,_,_,rfl,rfl,SqT.of ra'.1,(rfl:atI _ 1=_),?_⟩
   lia
   refine ⟨r.t,_,_,_,rfl,rfl,SqT.of ra'.1,(rfl:atI _ 1=_),?_⟩
   lia
   refine ⟨r.t,_,_,_,rfl,rfl,SqT.of ra'.1,(rfl:atI _ 0=_),?_⟩
   lia
   refine ⟨r.t,_,_,_,rfl,rfl,SqT.of ra'.1,(rfl:atI _ 0=_),?_⟩
   lia
   refine ⟨r.t,_,_,_,rfl,rfl,SqT.of ra'.1,(rfl:atI _ 0=_),?_⟩
   lia
   refine ⟨r.t,_,_,_,rfl,rfl,SqT.of ra'.1,(rfl:atI _ 2=_),?_⟩
   refine w_mod (by omega) ?_
   lia
   refine ⟨r.t,_,_,_,rfl,rfl,SqT.of ra'.1,(rfl:atI _ 3=_),?_⟩
   lia
   refine ⟨by show 5<=sizeLine;decide,λ q hq=>?_⟩
   have s3:=ak.upd (o:=.lst [V.int r.l,.int r.h,.int (r.h+1),.int (r.l - 1),.int (r.l - r.l % r.b+r.f)]) hq
   have g3:(upd H2 q (.lst [V.int r.l,.int r.h,.int (r.h+1),.int (r.l - 1),.int (r.l - r.l % r.b+r.f)])) q=some (.lst ([r.l,r.h,r.h+1,r.l - 1,r.l - r.l % r.b+r.f].map V.int)):=ae
   show uM _ (upd H2 q (.lst [V.int r.l,.int r.h,.int (r.h+1),.int (r.l - 1),.int (r.l - r.l % r.b+r.f)])) _
   generalize upd H2 q _=H3 at s3 g3 ⊢
   lia
   refine ⟨nl,q,_,_,rfl,rfl,s3 _ _ g2,g3,by rw [List.length_map,List.length_map,nlen];exact aW (show 6+5 * i+5<=10000 by omega),?_⟩
   lia
   refine ⟨_,ns++[r.l,r.h,r.h+1,r.l - 1,r.l - r.l % r.b+r.f],rfl,put hnl (s2.trans s3),by rw [ae,List.map_append],by rw [List.length_append,nlen];show _+5=_;omega⟩
  rintro σ H2 ⟨v4,ns,rfl,s2,g2,nlen⟩
  rw [List.length_map,List.length_map] at nlen
  clear s1 g1
  lia
  refine ⟨nl,rfl,⟨_,SqL.of g2⟩,forL (K:=K) (a:=nl) (xs:=ns.map V.int) (λ i σ H3=>∃ (v5 v6 v7:Option V),σ=[some (V.ref x),some (V.int B),some (V.ref L),some (V.ref nl),v4,v5,v6,v7,none]/\ak H H3/\H3 nl=some (.lst (ns.map .int)))
   ⟨none,none,none,rfl,s2,g2⟩ (λ i σ H3 _ ⟨_,_,_,_,_,e⟩=>SqL.of e) ?_ ?_⟩
  ·rintro i v σ H3 hv ⟨v5,v6,v7,rfl,s3,g3⟩
   rw [List.getElem?_map] at hv
   obtain ⟨n,hn,rfl⟩:=Option.map_eq_some_iff.mp hv
   lia
   refine ⟨x,n,B,rs.map RD.rv,rfl,tg.same s3,rok,λ H4 s4=>?_⟩
   lia
   have s34:=s3.trans s4
   refine ⟨L,rs,B,n,rfl,s34 _ _ hL,ra.same s34,λ H5 s5=>?_⟩
   have s35:=s34.trans s5
   have g5:=s5 _ _ (s4 _ _ g3)
   cases gn B (rs.map RD.rv) n with
   | none=>
    lia
    show rNe V.non V.non H5 _
    refine ⟨rfl,_,rfl,?_⟩
    rw [if_neg (by simp)]
    lia
    refine ⟨rfl,?_⟩
    rw [decide_eq_true (show zN none=V.non from rfl)]
    lia
    exact ⟨_,_,_,rfl,s35,g5⟩
   | some m=>
    lia
    show rNe (V.int (m:Int)) (V.int (m:Int)) H5 _
    refine ⟨rfl,_,rfl,?_⟩
    rw [if_neg (by simp)]
    lia
    refine ⟨rfl,?_⟩
    rw [decide_eq_false (show ¬ zN (some m)=V.non from λ z=>by cases z)]
    lia
    refine ⟨_,rfl,?_⟩
    lia
    exact ⟨_,_,_,rfl,s35,g5⟩
  rintro σ H3 ⟨v5,v6,v7,rfl,s3,g3⟩
  clear s2 g2
  lia
  refine ⟨by show 0<=sizeLine;decide,λ wl hwl=>?_⟩
  have hwl0:=s3.free hwl
  have s4:=s3.trans (ak.upd (o:=.lst []) hwl)
  have g4:(upd H3 wl (.lst [])) wl=some (.lst []):=ae
  generalize upd H3 wl _=H4 at s4 g4 ⊢
  clear s3 g3
  lia
  refine ⟨L,rfl,⟨_,SqL.of (s4 _ _ rlr)⟩,forL (K:=K) (a:=L) (xs:=(rs.map (·.t)).map V.ref) (λ i σ H5=>∃ (v4:Option V),σ=[some (V.ref x),some (V.int B),some (V.ref L),some (V.ref nl),v4,v5,v6,v7,some (V.ref wl)]/\ak H H5/\H5 wl=some (.lst ((bT ((rs.map RD.rv).take i)).map .str)))
   ⟨v4,rfl,s4,g4⟩ (λ i σ H5 _ ⟨_,_,e,_⟩=>SqL.of (e _ _ rlr)) ?_ ?_⟩
  ·rintro i v σ H5 hv ⟨v4,rfl,s5,g5⟩
   rw [List.getElem?_map,List.getElem?_map] at hv
   obtain ⟨p,hp,rfl⟩:=Option.map_eq_some_iff.mp hv
   obtain ⟨r,hr',rfl⟩:=Option.map_eq_some_iff.mp hp
   have hi:i<rs.length:=(List.getElem?_eq_some_iff.mp hr').1
   have hi2:i<(rs.map RD.rv).length:=by rw [List.length_map];exact hi
   have er:(rs.map RD.rv)[i].ys=r.ys:=by
    rw [List.getElem_map]
    rw [List.getElem?_eq_getElem hi] at hr'
    rw [Option.some.inj hr'];rfl
   have rr:=ra r (List.mem_of_getElem? hr')
   have ra':=rr.1.same s5
   have hlen:=nY (rs.map RD.rv) (i+1)
   rw [fD (rs.map RD.rv) hi2,List.length_append,er] at hlen
   lia
   refine ⟨.inl ⟨rfl,_,SqL.of g5⟩,?_⟩
   lia
   refine ⟨r.t,_,_,_,rfl,rfl,SqT.of ra'.1,(rfl:atI _ 5=_),?_⟩
   lia
   refine ⟨r.it,rfl,⟨_,SqL.of ra'.2⟩,lcG (λ n zs=>zs=((r.ys.take n).filter aP).map .str) (hV (SqL.of ra'.2)) (by rw [List.length_map];exact aW (by have:=rr.2.it.le;omega)) rfl (λ D3 j zs H6 hj hD3 s6 e6 r6=>?_) (λ D3 H6 zs hD3 s6 e6 r6=>?_)⟩
   ·rw [List.length_map] at hj
    have ej:(r.ys.map V.str).getD j .non=V.str r.ys[j]:=by simp [List.getD_eq_getElem?_getD,hj]
    have pc:=rr.2.it.ok.pc _ (List.getElem_mem hj)
    have es:=rM aP r.ys j hj
    rw [ej]
    lia
    refine ⟨ik rfl,?_⟩
    lia
    refine ⟨_,rfl,aW (by have:=pc.len;omega),?_⟩
    lia
    rw [wD pc]
    by_cases z:aP r.ys[j]=true
    ·rw [if_pos z]
     rw [if_pos z] at es
     lia
     exact j2 hD3 s6 e6 (ak.refl _) (by rw [es,List.map_append,<- r6];rfl)
    ·rw [if_neg z]
     rw [if_neg z,List.append_nil] at es
     exact EA s6 e6 (ak.refl _) (by rw [es,<- r6])
   rw [List.length_map,List.take_length] at r6
   subst r6
   lia
   refine ⟨wl,D3,_,_,rfl,rfl,s6 _ _ g5,e6,by rw [List.length_map,List.length_map];exact aW (by omega),?_⟩
   lia
   refine ⟨_,rfl,put hwl0 (s5.trans s6),?_⟩
   rw [ae,fD (rs.map RD.rv) hi2,er,List.map_append]
  rintro σ H5 ⟨v4,rfl,s5,g5⟩
  rw [List.length_map,List.length_map,show rs.length=(rs.map RD.rv).length by rw [List.length_map],List.take_length] at g5
  clear s4 g4
  generalize hWR:bT (rs.map RD.rv)=W at wle g5
  obtain ⟨zs,e2,znd,zm⟩:=rE W
  have zl:zs.length<64:=by
   have h1:=gb (fu W)
   rw [e2] at h1
   simp only [fu,List.length_map] at h1
   omega
  lia
  refine ⟨wl,fu W,rfl,SqL.of (by rw [g5];unfold fu;rw [List.map_map];rfl),by unfold fu;rw [List.length_map];omega,λ D4 hD4=>?_⟩
  have s6:=s5.trans (ak.upd (o:=bb P w D4 (cU (fu W))) hD4)
  have g6:(upd H5 D4 (bb P w D4 (cU (fu W)))) D4=some (bb P w D4 (zs.map Sum.inr)):=by rw [ae,e2]
  generalize upd H5 D4 _=H6 at s6 g6 ⊢
  lia
  refine ⟨D4,zs,rfl,g6,znd,zl,λ l5 ys hl5 hp5 hs5=>?_⟩
  have s7:=s6.trans (ak.upd (o:=.lst (ys.map V.str)) hl5)
  have g7:(upd H6 l5 (.lst (ys.map V.str))) l5=some (.lst (ys.map V.str)):=ae
  have ynd:=hp5.nodup_iff.mpr znd
  have ym:∀ x,x∈ys↔x∈W:=λ x=>by rw [hp5.mem_iff,zm]
  generalize upd H6 l5 _=H7 at s7 g7 ⊢
  clear s5 g5 s6 g6 hD4 hp5
  lia
  refine ⟨x,B,rs.map RD.rv,rfl,tg.same s7,rok,by rw [hWR];exact wle,s7 _ _ tSL,λ H8 f zs8 s8 hf g8 nd8 m8 so8=>?_⟩
  rw [hWR] at m8
  obtain rfl:zs8=ys:=nK so8 nd8 hs5 ynd λ x=>by rw [m8,ym]
  have g75:=g7
  have g7:=s8 _ _ g7
  have fl:(zs8.map V.str).all dw=true:=b7 _
  lia
  refine ⟨_,_,_,_,_,rfl,.v (.lst g8),rfl,T.uQ,?_⟩
  lia
  refine ⟨f,l5,_,_,rfl,rfl,.inl ⟨SqL.of g8,SqL.of g7⟩,fl,fl,?_⟩
  refine ⟨_,rfl,?_⟩
  rw [kh fl,if_neg (by simp)]
  lia
  refine ⟨.inl ⟨rfl,_,SqL.of g8⟩,?_⟩
  lia
  refine ⟨f,_,_,rfl,rfl,g8,by rw [List.length_map];exact Nat.lt_of_lt_of_le (show zs8.length<200 by rw [show zs8.length=zs.length from by have:=nd8;exact (List.Perm.length_eq ((List.perm_ext_iff_of_nodup nd8 znd).mpr λ x=>by rw [m8,zm]))];omega) (by decide),?_⟩
  have s9:ak H7 (upd H8 f (.lst (zs8.map V.str++[V.str "zz"]))):=λ c o h'=>by rw [aq (ao h' hf)];exact s8 _ _ h'
  show zA _ _ _ (upd H8 f (.lst (zs8.map V.str++[V.str "zz"])))
  have g9:(upd H8 f (.lst (zs8.map V.str++[V.str "zz"]))) l5=some (.lst (zs8.map V.str)):=by
   rw [aq (λ z=>by rw [<- z] at hf;rw [g75] at hf;cases hf)];exact g7
  generalize upd H8 f _=H9 at s9 g9 ⊢
  have s9':=s7.trans s9
  lia
  refine ⟨x,B,rs.map RD.rv,rfl,tg.same s9',rok,by rw [hWR];exact wle,s9' _ _ tSL,λ Ha f2 zsa sa hfa ga nda ma soa=>?_⟩
  rw [hWR] at ma
  obtain rfl:zsa=zs8:=nK soa nda hs5 ynd λ x=>by rw [ma,m8]
  lia
  refine ⟨f2,l5,_,_,rfl,rfl,.inl ⟨SqL.of ga,SqL.of (sa _ _ g9)⟩,fl,fl,?_⟩
  rw [kh fl]
  exact k _ (s9'.trans sa)
end
theorem EN {σ:L2.St} {x1 x2 x3:Option V}:∀ (j:Nat) v,(tau 3 [] σ)[j]?=some (some v)->([x1,x2,x3]:L2.St)[j]?=some (some v):=λ j v h=>by
 match j,h with
 | 0,h=>cases h
 | 1,h=>cases h
 | 2,h=>cases h
 | j+3,h=>cases h
def RS (F:Addr->Prop) (a:Ad) (H:Hp) (o:Addr) (r:RV):Prop:=∃ n,F n/\eV a H o r.l r.h r.b r.f r.e n/\H n=some (.lst (r.ys.map .str))
def KS (F:Addr->Prop) (a:Ad) (H:Hp) (o:Addr) (d:KV):Prop:=∃ n,F n/\iP a H o d.1 d.2.1 n/\H n=some (.lst (d.2.2.map .ref))
theorem RS.keep {F G:Addr->Prop} {a:Ad} {H H':Hp} {o:Addr} {r:RV} (h:RS F a H o r) (g:∀ n,F n->(∃ xs,H n=some (.lst xs))->G n) (k:∀ c u,H c=some u->(F c∨∀ xs,u≠.lst xs)->H' c=some u):RS G a H' o r:=by
 obtain ⟨n,f,R,hn⟩:=h
 obtain ⟨dx,fs,h1,h2⟩:=R.ob
 exact ⟨n,g n f ⟨_,hn⟩,⟨dx,fs,k _ _ h1 (.inr λ xs z=>by cases z),h2⟩,k _ _ hn (.inl f)⟩
theorem KS.keep {F G:Addr->Prop} {a:Ad} {H H':Hp} {o:Addr} {r:KV} (h:KS F a H o r) (g:∀ n,F n->(∃ xs,H n=some (.lst xs))->G n) (k:∀ c u,H c=some u->(F c∨∀ xs,u≠.lst xs)->H' c=some u):KS G a H' o r:=by
 obtain ⟨n,f,R,hn⟩:=h
 obtain ⟨dx,fs,h1,h2⟩:=R.ob
 exact ⟨n,g n f ⟨_,hn⟩,⟨dx,fs,k _ _ h1 (.inr λ xs z=>by cases z),h2⟩,k _ _ hn (.inl f)⟩
theorem RS.of {F:Addr->Prop} {a:Ad} {H:Hp} {o:Addr} {r:RV} (h:RS F a H o r):jC a H o r:=let ⟨n,_,R,hn⟩:=h;⟨n,R,hn⟩
theorem KS.of {F:Addr->Prop} {a:Ad} {H:Hp} {o:Addr} {r:KV} (h:KS F a H o r):KOf a H o r:=let ⟨n,_,R,hn⟩:=h;⟨n,R,hn⟩
def kvs (ks:List KD):List KV:=ks.map λ k=>(k.ti,k.en,k.us)
theorem oX {H:Hp} {t L Mb S:Addr} {B:Int} {rs:List RD} {ts:List Addr} {ks:List KD} (f:Bc H t B (rs.map RD.rv) ts (kvs ks)) (hL:H L=some (.lst (cG rs))) (ra:eH H rs) (hM:H Mb=some (.lst (ts.map .ref))) (hS:H S=some (.lst (dZ ks))) (ka:lD H ks):
  ∃ xs,H t=some (.tup xs)/\xs.length=4/\∀ (i:Nat) x y,xs[i]?=some x->[V.int B,.ref L,.ref Mb,.ref S][i]?=some y->DE H 4 x y:=by
 obtain ⟨l1,l2,l3,ps,qs,h1,h2,h3,h4,h5,h6⟩:=f
 refine ⟨_,h1,rfl,λ i x y hx hy=>?_⟩
 match i,hx,hy with
 | 0,hx,hy=>cases hx;cases hy;exact .int B
 | 1,hx,hy=>
  cases hx;cases hy
  refine .lst h2 hL (by rw [List.length_map,h3.1];unfold cG;simp) λ j x y hx hy=>?_
  rw [List.getElem?_map] at hx
  obtain ⟨p,hp,rfl⟩:=Option.map_eq_some_iff.mp hx
  unfold cG at hy
  rw [List.getElem?_map,List.getElem?_map] at hy
  obtain ⟨q,hq,rfl⟩:=Option.map_eq_some_iff.mp hy
  obtain ⟨r,hr,rfl⟩:=Option.map_eq_some_iff.mp hq
  obtain ⟨c,c1,c2⟩:=h3.2 j p r.rv hp (by rw [List.getElem?_map,hr];rfl)
  have rr:=(ra r (List.mem_of_getElem? hr)).1
  refine .tup c1 rr.1 rfl λ m x y hx hy=>?_
  match m,hx,hy with
  | 0,hx,hy=>cases hx;cases hy;exact .int _
  | 1,hx,hy=>cases hx;cases hy;exact .int _
  | 2,hx,hy=>cases hx;cases hy;exact .int _
  | 3,hx,hy=>cases hx;cases hy;exact .int _
  | 4,hx,hy=>cases hx;cases hy;exact .int _
  | 5,hx,hy=>
   cases hx;cases hy
   refine .lst c2 rr.2 rfl λ u x y hx hy=>?_
   rw [show r.rv.ys=r.ys from rfl,hy] at hx
   cases hx
   rw [List.getElem?_map] at hy
   obtain ⟨z,_,rfl⟩:=Option.map_eq_some_iff.mp hy
   exact .str z
  | m+6,hx,hy=>cases hx
 | 2,hx,hy=>
  cases hx;cases hy
  refine .lst h4 hM rfl λ j x y hx hy=>?_
  rw [hy] at hx
  cases hx
  rw [List.getElem?_map] at hy
  obtain ⟨z,_,rfl⟩:=Option.map_eq_some_iff.mp hy
  exact .same z
 | 3,hx,hy=>
  cases hx;cases hy
  refine .lst h5 hS (by rw [List.length_map,h6.1];unfold dZ kvs;simp) λ j x y hx hy=>?_
  rw [List.getElem?_map] at hx
  obtain ⟨p,hp,rfl⟩:=Option.map_eq_some_iff.mp hx
  unfold dZ at hy
  rw [List.getElem?_map,List.getElem?_map] at hy
  obtain ⟨q,hq,rfl⟩:=Option.map_eq_some_iff.mp hy
  obtain ⟨r,hr,rfl⟩:=Option.map_eq_some_iff.mp hq
  obtain ⟨c,c1,c2⟩:=h6.2 j p (r.ti,r.en,r.us) hp (by unfold kvs;rw [List.getElem?_map,hr];rfl)
  have rr:=(ka r (List.mem_of_getElem? hr)).1
  refine .tup c1 rr.tup rfl λ m x y hx hy=>?_
  match m,hx,hy with
  | 0,hx,hy=>cases hx;cases hy;exact .str _
  | 1,hx,hy=>cases hx;cases hy;exact .str _
  | 2,hx,hy=>
   cases hx;cases hy
   refine .lst c2 rr.lst rfl λ u x y hx hy=>?_
   rw [hy] at hx
   cases hx
   rw [List.getElem?_map] at hy
   obtain ⟨z,_,rfl⟩:=Option.map_eq_some_iff.mp hy
   exact .same z
  | m+3,hx,hy=>cases hx
 | i+4,hx,hy=>cases hx
open Classical in
noncomputable def dueN (B:Int) (ms:List Mel) (tt:List Str):List Str:=if B<0 then ["bound"] else if ms.all bh=false then ["melt"] else if ¬ tt.Nodup then ["twice"] else []
section
variable {P:Program} {w:World} {K:PySem.W.Frag} {mg:Str->Option Value} {base:Heap} {a:Ad}
theorem rJ {B:Int} {ms:List Mel} {tt:List Str}:dueC a B ms tt=none↔dueN B ms tt=[]:=by
 unfold dueC dueN
 split
 ·simp
 split
 ·simp
 split <;> simp
theorem yd (T:Txt K mg a) {B:Int} {ms:List Mel} {tt:List Str} {c:Addr} (h:dueC a B ms tt=some c):∃ b1 b2 b3,ExQ K a c b1 b2 b3/\ck b1 b2 b3=dueN B ms tt:=by
 unfold dueC at h
 unfold dueN
 split at h
 ·rename_i z
  rw [<- Option.some.inj h,if_pos z];exact ⟨_,_,_,T.dM,rfl⟩
 rename_i z
 rw [if_neg z]
 split at h
 ·rename_i z
  rw [<- Option.some.inj h,if_pos z];exact ⟨_,_,_,T.i5,rfl⟩
 rename_i z
 rw [if_neg z]
 split at h
 ·rename_i z
  rw [<- Option.some.inj h,if_pos z];exact ⟨_,_,_,T.mx,rfl⟩
 ·cases h
def Made (a:Ad) (H H':Hp) (v:V) (B:Int) (os ts zs:List Addr) (ms:List Mel) (tt:List Str):Prop:=(∃ c e,dueC a B ms tt=some c/\v=.ref e/\H' e=some (Ex e c))∨∃ x,dueC a B ms tt=none/\v=.ref x/\jM a H H' x B os ts zs
theorem Aj {vs:List V} {H:Hp} {Q:VK} {E:XK} (h:∃ (L Mm S:Addr) (os ts zs:List Addr) (ms:List Mel) (tt:List Str) (B y:Int),vs=[.int B,.ref L,.ref Mm,.ref S,.int y]/\Hnd a H L Mm S os ts zs ms tt/\0<=y/\∀ v H',ak H H'->Made a H H' v B os ts zs ms tt->Q v H'):Ab a vs H Q E:=by
 obtain ⟨L,Mm,S,os,ts,zs,ms,tt,B,y,h1,h2,h3,k⟩:=h
 exact ⟨L,Mm,S,os,ts,zs,ms,tt,B,y,h1,h2,h3,λ c H' e hc s he=>k _ _ s (.inl ⟨c,e,hc,rfl,he⟩),λ H' x hc s tg=>k _ _ s (.inr ⟨x,hc,rfl,tg⟩)⟩
def qX (a:Ad) (H:Hp):Prop:=tJ a H/\H a.tTI=some (Tb a.tTI)/\H a.tWP=some (Tb a.tWP)
theorem qX.same {H H':Hp} (t:qX a H) (s:ak H H'):qX a H':=⟨t.1.same s,s _ _ t.2.1,s _ _ t.2.2⟩
abbrev pRi:List Str:=["_law_bound","_law_rules_here","_law_blends","_law_sorts","_law_due","_law_way"]
abbrev DRi (K:PySem.W.Frag) (mg:Str->Option Value):=Df K mg "_law_right" "_law_right" (top 59) pRi
def Bm (a:Ad):Sp:=λ vs H Q _=>∃ (L Mb S Dl:Addr) (rs:List RD) (ts:List Addr) (ms:List Mel) (ks:List KD) (dn:List Str) (B y:Int),vs=[.int B,.ref L,.ref Mb,.ref S,.ref Dl,.int y]/\H L=some (.lst (cG rs))/\eH H rs/\rs.length<=10/\H Mb=some (.lst (ts.map .ref))/\TMs H ts ms/\ts.length<=20/\(∀ m∈ms,m.1.length<=10000/\m.2.1.length<=10000/\m.2.2.length<=10000) /\
 H S=some (.lst (dZ ks))/\lD H ks/\ks.length<=20/\H Dl=some (.lst (dn.map .str))/\dn.length<=10/\dn.take 1=dueN B ms (ks.map (·.ti))/\0<=y/\qX a H/\Pure (.bl true) H Q
abbrev nRi:List Str:=["_law_bound","_law_rules_here","_law_blends","_law_sorts","_law_due","_law_way","_law_handed","_law_lengths","_law_made","_law_rows"]
theorem DV:aH nRi pRi (ar (top 59)):=⟨rfl,rfl,rfl,by decide +kernel,rfl,by decide +kernel,by decide +kernel⟩
theorem Dv (D:DRi K mg) (ql:xk K) (M_Rule:Mk K a.fv ql.f) (BD:c9 P w K mg base (CXE P w) 8 ql.f ql.fd ["self","low","high","base","first","last","pieces"] (sG a)) (pN:DKI K) (M_Kind:Mk K a.Kind pN.f) (Cv:c9 P w K mg base (CXE P w) 7 pN.f pN.fd pKI (Cp a))
  (fH:DTd K mg) (si:F0 P w base 8 fH (Ab a)) (da:DRf K mg) (oA:F0 P w base 1 da (Bs K a)) (bP:DFl K mg) (jn:F0 P w base 1 bP (CD a))
  (eJ:DAs K mg) (qu:F0 P w base 5 eJ (Ct a)) (rcT:PySem.W.findIn K (.ref a.ba) "__class__"=some (some (.builtin "object.__class__"))) (rmT:PySem.W.mroIn K a.ba (.type "object")=some true) (T:Txt K mg a):c9 P w K mg base CX0 11 D.f D.fd pRi (Bm a):=by
 refine Df.ok (k:=10) D.ex DV (λ vs H Q E h=>?_) (λ A outer s H vs Q E hr h=>?_)
 ·obtain ⟨L,Mb,S,Dl,rs,ts,ms,ks,dn,B,y,rfl,_⟩:=h;rfl
 ·obtain ⟨L,Mb,S,Dl,rs,ts,ms,ks,dn,B,y,rfl,hL,ra,r10,hM,tm,t20,msh,hS,ka,k20,hD,d10,hd,y0,tb,k⟩:=h
  have nd:=DV.nd
  have hu:=Nat.lt_of_succ_lt (rf hr)
  have Cz:=hr.units
  have rlr:H L=some (.lst ((rs.map (·.t)).map .ref)):=hL
  have klr:H S=some (.lst ((ks.map (·.t)).map .ref)):=hS
  refine ⟨_,(ah (ay (i:=6) nd rfl (Or.inl rfl) (aM (ag (aM aa) (ag (bL bM (by rfl) T.cj boot_list (ag (pv 2) aa)) (ag (nP (N:=["_law_title","_law_ending","_law_turns"]) (fs:=[]) (⟨rfl,by rfl,by rfl,by rfl,trivial⟩) rfl (bx (pv 3)) (λ _ _ _ _ _=>(qw K (n:=3) rfl (bf (aA (i:=0) (show List.Nodup (["_law_title","_law_ending","_law_turns"]:List Str) from by decide +kernel) rfl (Or.inl rfl)) (bf (aA (i:=1) (show List.Nodup (["_law_title","_law_ending","_law_turns"]:List Str) from by decide +kernel) rfl (Or.inl rfl)) (bf (aA (i:=2) (show List.Nodup (["_law_title","_law_ending","_law_turns"]:List Str) from by decide +kernel) rfl (Or.inl rfl)) fE))))) (λ _ _ _ _ _=>by exact dU) (λ _ _ _ _ _=>by exact (i0 M_Kind Cv (hr.mono (by decide)) (by rfl) T.kY pN.bd .nil AF (ag (pv 0) (ag (pv 1) (ag (bL (fP K) (by rfl) T.cj boot_list (ag (pv 2) aa)) aa)))))) aa)))))
 (ah (uc (nP (N:=["_law_rule_here"]) (fs:=[]) (⟨rfl,by rfl,by rfl,by rfl,trivial⟩) rfl (bx (pv 1)) (λ _ _ _ _ _=>(aA (i:=0) (show List.Nodup (["_law_rule_here"]:List Str) from by decide +kernel) rfl (Or.inl rfl))) (λ _ _ _ _ _=>by exact dU) (λ _ _ _ _ _=>by exact (i0 M_Rule BD (hr.mono (by decide)) (by rfl) T.kZ ql.bd .nil AF (ag (aV (gH K) (pv 0) af (λ _ _=>rfl)) (ag (aV (gH K) (pv 0) af (λ _ _=>rfl)) (ag (aV (gH K) (pv 0) af (λ _ _=>rfl)) (ag (aV (gH K) (pv 0) af (λ _ _=>rfl)) (ag (aV (gH K) (pv 0) af (λ _ _=>rfl)) (ag (bL (fP K) (by rfl) T.cj boot_list (ag (aV (gH K) (pv 0) af (λ _ _=>rfl)) aa)) aa))))))))) (Dj (pv 6) af set_list))
 (ah (kC (i:=7) nd rfl (Or.inl rfl) (N:=["_law_rows"]) (fs:=[]) (⟨rfl,by rfl,by rfl,by rfl,trivial⟩) rfl (bx (pv 6)) (λ _ _ _ _ _=>(aA (i:=0) (show List.Nodup (["_law_rows"]:List Str) from by decide +kernel) rfl (Or.inl rfl))) (λ _ _ _ _ _=>by exact dU) (λ _ _ _ _ _=>by exact (aF (jk K) (by rfl) T.cg boot_len (ag (pv 0) aa))))
 (ah (ay (i:=8) nd rfl (Or.inl rfl) (av si (hr.mono (by decide)) (by rfl) fH.mg fH.kp fH.bd .nil aT (ag (pv 0) (ag (aV a7 (pv 6) af (λ _ _=>rfl)) (ag (aV a7 (pv 6) af (λ _ _=>rfl)) (ag (aV a7 (pv 6) af (λ _ _=>rfl)) (ag (pv 5) aa)))))))
 (ah (aY (pw_or (aB (tP hu) (nP (N:=["_law_rows"]) (fs:=[]) (⟨rfl,by rfl,by rfl,by rfl,trivial⟩) rfl (bx (pv 6)) (λ _ _ _ _ _=>(aA (i:=0) (show List.Nodup (["_law_rows"]:List Str) from by decide +kernel) rfl (Or.inl rfl))) (λ _ _ _ _ _=>by exact dU) (λ _ _ _ _ _=>by exact (aF (jk K) (by rfl) T.cg boot_len (ag (pv 0) aa)))) (pv 7) (aC _)) (pw_or1 (aB (CT K hu) (aV a7 (pv 6) af (λ _ _=>rfl)) (pv 2) (aC _)))).pt
 (aj (aN iQ))
 aE)
 (ah (aY (aB (tP hu) (pv 4) (aM aa) (aC _))
 (aj (aN (cx (qg hu) (av oA (hr.mono (by decide)) (by rfl) da.mg da.kp da.bd .nil aT (ag (pv 8) aa)) (bq ez (pv 4) bS (bz af)) (aC _))))
 aE)
 (ah (aY (pw_or (bK (bu (aF ef (by rfl) T.aO boot_isinstance (ag (pv 8) (ag (a9 (v:=.ref a.ba) (by rfl) T.bU rfl) aa))))) (pw_or1 (aB (zo Cz) (av jn (hr.mono (by decide)) (by rfl) bP.mg bP.kp bP.bd .nil aT (ag (pv 8) aa)) (bH (ag (pv 0) (ag (pv 1) (ag (pv 2) (ag (pv 3) aa))))) (aC _)))).pt
 (aj (aN iQ))
 aE)
 (ah (dH PassesOwn.never rfl (bx (pv 6)) (aA (i:=9) nd rfl (Or.inl rfl))
 (aj (bj (cN PySem.F.plainAttrs_list PySem.F.slot_list_append PySem.F.type_list_append br (pv 9) (ag fN aa)))))
 (aj (aN (jz (cx (zp Cz) (av jn (hr.mono (by decide)) (by rfl) bP.mg bP.kp bP.bd .nil aT (ag (pv 8) aa)) (bH (ag (pv 0) (ag (pv 1) (ag (pv 2) (ag (pv 3) aa))))) (aC _)) (kL (av qu (hr.mono (by decide)) (by rfl) eJ.mg eJ.kp eJ.bd .nil aT (ag (pv 8) (ag (pv 0) (ag (pv 1) aa)))))))))))))))),?_⟩
  lia
  refine ⟨by show 0<=sizeLine;decide,λ e0 he0=>?_⟩
  have s1:=ak.upd (o:=.lst []) he0
  generalize upd H e0 _=H1 at s1 ⊢
  lia
  refine ⟨Mb,_,rfl,.inl (SqL.of (s1 _ _ hM)),λ mb hmb=>?_⟩
  have hmb0:=s1.free hmb
  have s2:=s1.trans (ak.upd (o:=.lst (ts.map V.ref)) hmb)
  have gmb:(upd H1 mb (.lst (ts.map V.ref))) mb=some (.lst (ts.map V.ref)):=ae
  generalize upd H1 mb _=H2 at s2 gmb ⊢
  lia
  refine ⟨S,rfl,⟨_,SqL.of (s2 _ _ klr)⟩,lcH (λ D j zs H3=>∃ os:List Addr,zs=os.map V.ref/\Al (KS (λ n=>n≠D/\n≠mb) a H3) os ((kvs ks).take j)) (hV (SqL.of (s2 _ _ klr))) (by rw [List.length_map,List.length_map];exact aW (by omega)) (λ D hD=>⟨[],rfl,.nil⟩) (λ D j zs H3 hj hD3 s3 e3 r3=>?_) (λ D1 H3 zs hD1 s3 e3 r3=>?_)⟩
  ·obtain ⟨os,rfl,al⟩:=r3
   rw [List.length_map,List.length_map] at hj
   have ej:((ks.map (·.t)).map V.ref).getD j .non=V.ref ks[j].t:=by simp [List.getD_eq_getElem?_getD,hj]
   rw [ej]
   have s23:=s2.trans s3
   have kk:=ka ks[j] (List.getElem_mem hj)
   have ka3:=kk.1.same s23
   have ko:=kk.2
   have hkv:j<(kvs ks).length:=by unfold kvs;rw [List.length_map];exact hj
   have ekv:(kvs ks)[j]=(ks[j].ti,ks[j].en,ks[j].us):=by simp [kvs]
   generalize ks[j]=kd at ka3 ko ekv ⊢
   refine gB (SqT.of ka3.tup) rfl ?_
   refine ⟨_,_,rfl,_,_,rfl,_,_,rfl,rfl,?_⟩
   refine ⟨EN,?_⟩
   lia
   refine lB ?_
   lia
   refine ⟨kd.p,_,rfl,.inl (SqL.of ka3.lst),λ l8 h8=>?_⟩
   have s8:ak H3 _:=ak.upd (o:=.lst (kd.us.map V.ref)) h8
   have g8:(upd H3 l8 (.lst (kd.us.map V.ref))) l8=some (.lst (kd.us.map V.ref)):=ae
   generalize upd H3 l8 _=H8 at s8 g8 ⊢
   lia
   intro x dx nx ndx nex
   have s0:ak H8 (upd (upd H8 dx (.own x)) x (.ins a.Kind dx [])):=λ c' o hc'=>by rw [aq (ao hc' nx),aq (ao hc' ndx)];exact hc'
   have s38:=s8.trans s0
   refine ⟨x,dx,kd.ti,kd.en,l8,kd.us,kd.ms,rfl,ae,s0 _ _ g8,ka3.prs.1,λ i u m p q=>s38 _ _ (ka3.prs.2 i u m p q),ko.tl,ko.el,ko.sh,⟨(tb.same (s23.trans s38)).1.1,(tb.same (s23.trans s38)).2.2⟩,λ H9 n hn kp9 R hn9=>?_⟩
   rw [if_pos ko.ok]
   have s39:ak H3 H9:=λ c' o h=>kp9 c' o (s38 _ _ h) (ao (s8 _ _ h) nx)
   have e9:=s39 _ _ e3
   have nD:n≠D:=λ e=>by rw [e,s38 _ _ e3] at hn;cases hn
   have nm:n≠mb:=λ e=>by rw [e,s38 _ _ (s3 _ _ gmb)] at hn;cases hn
   refine ⟨rfl,e9,λ c' o h=>by rw [aq (ao h hD3)];exact s39 _ _ (s3 _ _ h),os++[x],by rw [List.map_append];rfl,?_⟩
   have kput:∀ (c:Addr) (u:HO),H9 c=some u->((c≠D/\c≠mb)∨∀ xs,u≠.lst xs)->(upd H9 D (.lst (os.map V.ref++[V.ref x]))) c=some u:=λ c u h z=>by
    rw [aq (λ e=>by rcases z with z | z;exact z.1 e;rw [e,e9] at h;exact z _ (Option.some.inj h).symm)];exact h
   rw [List.take_succ,List.getElem?_eq_getElem hkv,ekv]
   exact Al.snoc (al.imp λ o d h=>(h.keep (λ n z _=>z) λ c u hc _=>s39 _ _ hc).keep (λ n z _=>z) kput) (KS.keep (F:=λ n=>n≠D/\n≠mb) ⟨n,⟨nD,nm⟩,R,hn9⟩ (λ n z _=>z) kput)
  obtain ⟨zs,rfl,al⟩:=r3
  rw [List.length_map,List.length_map,show ks.length=(kvs ks).length by unfold kvs;rw [List.length_map],List.take_length] at al
  have gmb:=s3 _ _ gmb
  have hD10:=s2.free hD1
  have s3:=s2.trans s3
  clear s2 s1 hD1 hmb he0
  lia
  refine ⟨by show 3<=sizeLine;decide,λ hd0 hhd=>?_⟩
  have hhd0:=s3.free hhd
  have mbh:mb≠hd0:=ao gmb hhd
  have D1h:D1≠hd0:=ao e3 hhd
  have s4:=ak.upd (o:=.lst [V.ref e0,.ref mb,.ref D1]) hhd
  have ghd:(upd H3 hd0 (.lst [V.ref e0,.ref mb,.ref D1])) hd0=some (.lst [V.ref e0,.ref mb,.ref D1]):=ae
  generalize upd H3 hd0 _=H4 at s4 ghd ⊢
  have s04:=s3.trans s4
  lia
  refine ⟨L,rfl,⟨_,SqL.of (s04 _ _ rlr)⟩,lcH (λ D n zs H7=>∃ os:List Addr,zs=os.map V.ref/\Al (RS (λ n=>n≠D/\n≠mb/\n≠D1/\n≠hd0) a H7) os ((rs.map RD.rv).take n)) (hV (SqL.of (s04 _ _ rlr))) (by rw [List.length_map,List.length_map];exact aW (by omega)) (λ D7 hD7=>⟨[],rfl,.nil⟩) (λ D7 j zs' H7 hj hD7 s7 e7 r7=>?_) (λ D2 H7 zs' hD2 s7 e7 r7=>?_)⟩
  ·obtain ⟨os,rfl,al2⟩:=r7
   rw [List.length_map,List.length_map] at hj
   have ej:((rs.map (·.t)).map V.ref).getD j .non=V.ref rs[j].t:=by simp [List.getD_eq_getElem?_getD,hj]
   have s07:=s04.trans s7
   have ra':=(ra rs[j] (List.getElem_mem hj)).1.same s07
   have ro:=(ra rs[j] (List.getElem_mem hj)).2
   rw [ej]
   have hkv:j<(rs.map RD.rv).length:=by rw [List.length_map];exact hj
   have ekv:(rs.map RD.rv)[j]=rs[j].rv:=by rw [List.getElem_map]
   generalize rs[j]=r at ra' ro ekv ⊢
   lia
   refine ⟨ik rfl,?_⟩
   lia
   refine lB ?_
   lia
   refine ⟨r.t,_,_,_,rfl,rfl,SqT.of ra'.1,(rfl:atI _ 0=_),?_⟩
   lia
   refine ⟨r.t,_,_,_,rfl,rfl,SqT.of ra'.1,(rfl:atI _ 1=_),?_⟩
   lia
   refine ⟨r.t,_,_,_,rfl,rfl,SqT.of ra'.1,(rfl:atI _ 2=_),?_⟩
   lia
   refine ⟨r.t,_,_,_,rfl,rfl,SqT.of ra'.1,(rfl:atI _ 3=_),?_⟩
   lia
   refine ⟨r.t,_,_,_,rfl,rfl,SqT.of ra'.1,(rfl:atI _ 4=_),?_⟩
   lia
   refine ⟨r.t,_,_,_,rfl,rfl,SqT.of ra'.1,(rfl:atI _ 5=_),?_⟩
   lia
   refine ⟨r.it,_,rfl,.inl (SqL.of ra'.2),λ l8 h8=>?_⟩
   have s8:ak H7 _:=ak.upd (o:=.lst (r.ys.map .str)) h8
   have g8:(upd H7 l8 (.lst (r.ys.map .str))) l8=some (.lst (r.ys.map .str)):=ae
   generalize upd H7 l8 _=H8 at s8 g8 ⊢
   lia
   intro x dx nx ndx nex
   have s0:ak H8 (upd (upd H8 dx (.own x)) x (.ins a.fv dx [])):=λ c' o hc'=>by rw [aq (ao hc' nx),aq (ao hc' ndx)];exact hc'
   have s78:=s8.trans s0
   refine ⟨x,dx,r.l,r.h,r.b,r.f,r.e,l8,r.ys,rfl,ae,s0 _ _ g8,rL ro.it,yO (by have:=ro.b2;omega) ro.Cs,(tb.same (s07.trans s78)).1,λ H9 n hn kp9 R hn9=>?_⟩
   rw [if_pos ro.ro]
   have s79:ak H7 H9:=λ c' o h=>kp9 c' o (s78 _ _ h) (ao (s8 _ _ h) nx)
   have e9:=s79 _ _ e7
   have nn:∀ {c:Addr} {u:HO},H7 c=some u->n≠c:=λ h e=>by rw [e,s78 _ _ h] at hn;cases hn
   refine ⟨rfl,e9,λ c' o h=>by rw [aq (ao h hD7)];exact s79 _ _ (s7 _ _ h),os++[x],by rw [List.map_append];rfl,?_⟩
   have kput:∀ (c:Addr) (u:HO),H9 c=some u->((c≠D7/\c≠mb/\c≠D1/\c≠hd0)∨∀ xs,u≠.lst xs)->(upd H9 D7 (.lst (os.map V.ref++[V.ref x]))) c=some u:=λ c u h z=>by
    rw [aq (λ e=>by rcases z with z | z;exact z.1 e;rw [e,e9] at h;exact z _ (Option.some.inj h).symm)];exact h
   rw [List.take_succ,List.getElem?_eq_getElem hkv,ekv]
   exact Al.snoc (al2.imp λ o d h=>(h.keep (λ n z _=>z) λ c u hc _=>s79 _ _ hc).keep (λ n z _=>z) kput) (RS.keep (F:=λ n=>n≠D7/\n≠mb/\n≠D1/\n≠hd0) ⟨n,⟨nn e7,nn (s7 _ _ (s4 _ _ gmb)),nn (s7 _ _ (s4 _ _ e3)),nn (s7 _ _ ghd)⟩,R,hn9⟩ (λ n z _=>z) kput)
  obtain ⟨os,rfl,al2⟩:=r7
  rw [List.length_map,List.length_map,show rs.length=(rs.map RD.rv).length by rw [List.length_map],List.take_length] at al2
  have D2h:D2≠hd0:=λ e=>by rw [e,ghd] at hD2;cases hD2
  have hD23:=s4.free hD2
  have hD20:=s3.free hD23
  lia
  refine ⟨hd0,_,0,0,rfl,rfl,s7 _ _ ghd,rfl,?_⟩
  have e7h:=s7 _ _ ghd
  have s8:ak H3 (upd H7 hd0 (.lst [V.ref D2,.ref mb,.ref D1])):=λ c' o h=>by rw [aq (ao h hhd)];exact s7 _ _ (s4 _ _ h)
  have ghd8:(upd H7 hd0 (.lst [V.ref D2,.ref mb,.ref D1])) hd0=some (.lst [V.ref D2,.ref mb,.ref D1]):=ae
  have gD2:(upd H7 hd0 (.lst [V.ref D2,.ref mb,.ref D1])) D2=some (.lst (os.map V.ref)):=by rw [aq D2h];exact e7
  have al2:Al (RS (λ n=>n≠D2/\n≠mb/\n≠D1) a (upd H7 hd0 (.lst [V.ref D2,.ref mb,.ref D1]))) os (rs.map RD.rv):=al2.imp λ o r h=>h.keep (λ n z _=>⟨z.1,z.2.1,z.2.2.1⟩) λ c u hc z=>by
   rw [aq (λ e=>by rcases z with z | z;exact z.2.2.2 e;rw [e,e7h] at hc;exact z _ (Option.some.inj hc).symm)];exact hc
  have al:Al (KS (λ n=>n≠D2/\n≠mb/\n≠D1) a (upd H7 hd0 (.lst [V.ref D2,.ref mb,.ref D1]))) zs (kvs ks):=al.imp λ o d h=>h.keep (λ n z ⟨xs,hn⟩=>⟨ao hn hD23,z.2,z.1⟩) λ c u hc _=>s8 _ _ hc
  have gmb:=s8 _ _ gmb
  have gD1:=s8 _ _ e3
  show wG _ _ _ _ (upd H7 hd0 (.lst [V.ref D2,.ref mb,.ref D1]))
  generalize upd H7 hd0 _=H8 at s8 ghd8 gD2 al2 al gmb gD1 ⊢
  have s8:=s3.trans s8
  clear s7 e7 hD2 hD23 e7h s4 ghd s04 hhd e3 s3
  have len3:∀ {Hx:Hp},ak H8 Hx->∀ j,j<3->∃ p ys,([V.ref D2,.ref mb,.ref D1]:List V).getD j .non=V.ref p/\Hx p=some (.lst ys)/\([(os.length:Int),(ts.length:Int),(zs.length:Int)]:List Int)[j]?=some ((ys.length:Nat):Int):=λ {Hx} sx j hj=>by
   match j,hj with
   | 0,_=>exact ⟨D2,_,rfl,sx _ _ gD2,by rw [List.length_map];rfl⟩
   | 1,_=>exact ⟨mb,_,rfl,sx _ _ gmb,by rw [List.length_map];rfl⟩
   | 2,_=>exact ⟨D1,_,rfl,sx _ _ gD1,by rw [List.length_map];rfl⟩
  lia
  refine ⟨hd0,rfl,⟨_,SqL.of ghd8⟩,lcG (λ j zz=>zz=(([(os.length:Int),(ts.length:Int),(zs.length:Int)]:List Int).take j).map V.int) (hV (SqL.of ghd8)) (by show 3<=sizeLine;decide) rfl (λ D3 j zz H9 hj hD3 s9 e9 r9=>?_) (λ ln H9 zz hD3 s9 e9 r9=>?_)⟩
  ·obtain ⟨p,ys,ev,hp,el⟩:=len3 s9 j hj
   rw [ev]
   lia
   refine ⟨ik rfl,?_⟩
   lia
   refine ⟨p,ys,rfl,.inl (SqL.of hp),?_⟩
   exact j2 hD3 s9 e9 (ak.refl _) (by rw [List.take_succ,el,List.map_append,<- r9];rfl)
  subst r9
  have e9:H9 ln=some (.lst (([(os.length:Int),(ts.length:Int),(zs.length:Int)]:List Int).map V.int)):=e9
  clear hD3
  lia
  refine ⟨hd0,_,_,_,rfl,rfl,SqL.of (s9 _ _ ghd8),(rfl:atI _ 0=_),?_⟩
  lia
  refine ⟨hd0,_,_,_,rfl,rfl,SqL.of (s9 _ _ ghd8),(rfl:atI _ 1=_),?_⟩
  lia
  refine ⟨hd0,_,_,_,rfl,rfl,SqL.of (s9 _ _ ghd8),(rfl:atI _ 2=_),?_⟩
  lia
  have s09:=s8.trans s9
  have tb9:=tb.same s09
  refine Aj ⟨D2,mb,D1,os,ts,zs,ms,ks.map (·.ti),B,y,rfl,⟨s9 _ _ gD2,s9 _ _ gmb,tm.same s09,s9 _ _ gD1,⟨by rw [al.1];unfold kvs;rw [List.length_map,List.length_map],λ i o t p q=>?_⟩,by rw [List.length_map];omega,msh,tb9.1.1,tb9.2.1⟩,y0,λ v H10 s10 md=>?_⟩
  ·rw [List.getElem?_map] at q
   obtain ⟨kd,hkd,rfl⟩:=Option.map_eq_some_iff.mp q
   obtain ⟨n,_,R,_⟩:=al.2 i o (kd.ti,kd.en,kd.us) p (by unfold kvs;rw [List.getElem?_map,hkd];rfl)
   exact ⟨_,n,R.same s9⟩
  have s80:=s9.trans s10
  have e9:=s10 _ _ e9
  lia
  refine ⟨hd0,rfl,⟨_,SqL.of (s80 _ _ ghd8)⟩,lcG (λ j zz=>zz=(([(os.length:Int),(ts.length:Int),(zs.length:Int)]:List Int).take j).map V.int) (hV (SqL.of (s80 _ _ ghd8))) (by show 3<=sizeLine;decide) rfl (λ D3 j zz H11 hj hD3 s11 e11 r11=>?_) (λ ln2 H11 zz hD3 s11 e11 r11=>?_)⟩
  ·obtain ⟨p,ys,ev,hp,el⟩:=len3 (s80.trans s11) j hj
   rw [ev]
   lia
   refine ⟨ik rfl,?_⟩
   lia
   refine ⟨p,ys,rfl,.inl (SqL.of hp),?_⟩
   exact j2 hD3 s11 e11 (ak.refl _) (by rw [List.take_succ,el,List.map_append,<- r11];rfl)
  subst r11
  have e11:H11 ln2=some (.lst (([(os.length:Int),(ts.length:Int),(zs.length:Int)]:List Int).map V.int)):=e11
  have e9:=s11 _ _ e9
  clear hD3
  have s81:=s80.trans s11
  have s01:=s8.trans s81
  lia
  refine ⟨ln2,ln,_,_,rfl,rfl,.inl ⟨SqL.of e11,SqL.of e9⟩,rfl,rfl,?_⟩
  refine ⟨_,rfl,?_⟩
  rw [kh rfl,if_neg (by simp)]
  lia
  refine ⟨hd0,_,_,_,rfl,rfl,SqL.of (s81 _ _ ghd8),(rfl:atI _ 1=_),?_⟩
  lia
  refine ⟨mb,Mb,ts,rfl,rfl,SqL.of (s81 _ _ gmb),SqL.of (s01 _ _ hM),?_⟩
  lia
  refine ⟨by show 0<=sizeLine;decide,λ p0 hp0=>?_⟩
  have s12:=ak.upd (o:=.lst []) hp0
  have g12:(upd H11 p0 (.lst [])) p0=some (.lst ([]:List V)):=ae
  generalize upd H11 p0 _=H12 at s12 g12 ⊢
  have s82:=s81.trans s12
  have s02:=s01.trans s12
  refine ⟨Dl,p0,_,_,rfl,rfl,.inl ⟨SqL.of (s02 _ _ hD),SqL.of g12⟩,b7 _,rfl,?_⟩
  refine ⟨_,rfl,?_⟩
  have s102:=s11.trans s12
  rw [if_pos rfl]
  rcases md with ⟨c,e,hc,rfl,he⟩ | ⟨x,hc,rfl,tg⟩
  ·obtain ⟨b1,b2,b3,ex,en⟩:=yd T hc
   have dne:dueN B ms (ks.map (·.ti))≠[]:=λ z=>by rw [rJ.mpr z] at hc;cases hc
   cases dn with
   | nil=>exact absurd hd.symm dne
   | cons d0 dr=>
    rw [show eqL ((d0::dr).map V.str) []=false from rfl]
    lia
    refine ⟨e,c,b1,b2,b3,rfl,s102 _ _ he,ex,λ H13 l s13 gl=>?_⟩
    lia
    refine ⟨Dl,_,rfl,SqL.of (s13 _ _ (s02 _ _ hD)),λ p hp=>?_⟩
    rw [show (some (1:Int))=some ((1:Nat):Int) from rfl,pd,hd]
    have s14:=ak.upd (o:=.lst ((dueN B ms (ks.map (·.ti))).map V.str)) hp
    refine ⟨l,p,_,_,rfl,rfl,.inl ⟨SqL.of (s14 _ _ gl),SqL.of ae⟩,b7 _,b7 _,?_⟩
    rw [en,kh (b7 _)]
    exact k _ (s02.trans (s13.trans s14))
  have dz:dn=[]:=by
   rw [rJ.mp hc] at hd
   cases dn with
   | nil=>rfl
   | cons d0 dr=>cases hd
  subst dz
  rw [show eqL (([]:List Str).map V.str) []=true from rfl]
  obtain ⟨r,q,kk,fr,fq,fk,tgx,gr,gq,gk⟩:=tg.same s102
  have al2':Al (RS (λ n=>n≠D2/\n≠mb/\n≠D1) a H12) os (rs.map RD.rv):=al2.imp λ o r h=>h.keep (λ n z _=>z) λ c u hc _=>s82 _ _ hc
  have al':Al (KS (λ n=>n≠D2/\n≠mb/\n≠D1) a H12) zs (kvs ks):=al.imp λ o d h=>h.keep (λ n z _=>z) λ c u hc _=>s82 _ _ hc
  have rok:∀ r∈rs.map RD.rv,r.Ok:=λ r hr=>by
   obtain ⟨y,hy,rfl⟩:=List.mem_map.mp hr
   exact (ra y hy).2.rv
  have kl:(kvs ks).length<=100:=by unfold kvs;rw [List.length_map];omega
  have rl:(rs.map RD.rv).length<=100:=by rw [List.length_map];omega
  have tf12:TgF a H12 x B (rs.map RD.rv) ts (kvs ks):=⟨⟨r,q,kk,os,zs,tgx,gr,al2'.imp λ _ _ z=>z.of,gq,gk,al'.imp λ _ _ z=>z.of⟩,rl,rok,kl⟩
  obtain ⟨dx,fs,hx,fl⟩:=id tgx.ob
  lia
  refine ⟨_,_,_,_,_,rfl,.v (.ins hx T.cl rcT T.dM.x.gs T.dM.x.tk rmT),rfl,T.DA,?_⟩
  lia
  refine ⟨x,B,rs.map RD.rv,ts,kvs ks,rfl,tf12,λ H13 t s13 fld=>?_⟩
  lia
  refine ⟨by show 4<=sizeLine;decide,λ u hu'=>?_⟩
  have s14:=s13.trans (ak.upd (o:=.tup [V.int B,.ref L,.ref Mb,.ref S]) hu')
  have g14:(upd H13 u (.tup [V.int B,.ref L,.ref Mb,.ref S])) u=some (.tup [V.int B,.ref L,.ref Mb,.ref S]):=ae
  have s01':=s02.trans s13
  obtain ⟨xs,f1,f2,f3⟩:=oX fld (s01' _ _ hL) (ra.same s01') (s01' _ _ hM) (s01' _ _ hS) (ka.same s01')
  have su:=ak.upd (o:=.tup [V.int B,.ref L,.ref Mb,.ref S]) hu'
  have f1:=su _ _ f1
  have f3:∀ (i:Nat) x y,xs[i]?=some x->[V.int B,.ref L,.ref Mb,.ref S][i]?=some y->DE (upd H13 u (.tup [V.int B,.ref L,.ref Mb,.ref S])) 4 x y:=λ i x y p q=>(f3 i x y p q).heap su
  generalize upd H13 u _=H14 at s14 g14 f1 f3 ⊢
  refine ⟨4,t,u,xs,_,rfl,rfl,f1,g14,f2,by decide,f3,?_⟩
  clear su f1 f3 f2 fld g14 hu' s01' s13
  have s84:=s82.trans s14
  have s04:=s8.trans s84
  have tgx:=tgx.same s14
  have gr:=s14 _ _ gr
  have gq:=s14 _ _ gq
  have gk:=s14 _ _ gk
  have al2:Al (RS (λ n=>n≠D2/\n≠mb/\n≠D1) a H14) os (rs.map RD.rv):=al2'.imp λ o r h=>h.keep (λ n z _=>z) λ c u hc _=>s14 _ _ hc
  have al:Al (KS (λ n=>n≠D2/\n≠mb/\n≠D1) a H14) zs (kvs ks):=al'.imp λ o d h=>h.keep (λ n z _=>z) λ c u hc _=>s14 _ _ hc
  have nF:∀ {c:Addr} {o:HO},H c=some o->c≠D2/\c≠mb/\c≠D1:=λ h=>⟨ao h hD20,ao h hmb0,ao h hD10⟩
  have fre:∀ {c:Addr},H9 c=none->c≠D2/\c≠mb/\c≠D1:=λ {c} h=>⟨λ e=>(by rw [e,s9 _ _ gD2] at h;cases h),λ e=>(by rw [e,s9 _ _ gmb] at h;cases h),λ e=>(by rw [e,s9 _ _ gD1] at h;cases h)⟩
  clear al2' al' tf12 hx fl g12 hp0 s12 s02 e11 e9 hc
  have ol:os.length<=10:=by rw [al2.1,List.length_map];exact r10
  have zl:zs.length<=20:=by rw [al.1];unfold kvs;rw [List.length_map];exact k20
  lia
  refine ⟨hd0,rfl,⟨_,SqL.of (s84 _ _ ghd8)⟩,forL (K:=K) (a:=hd0) (xs:=[V.ref D2,.ref mb,.ref D1]) (λ j σ Hj=>∃ (v9:Option V),σ=[some (V.int B),some (V.ref L),some (V.ref Mb),some (V.ref S),some (V.ref Dl),some (V.int y),some (V.ref hd0),some (V.ref ln),some (V.ref x),v9]/\(∀ c o,H14 c=some o->c≠D2->c≠mb->c≠D1->Hj c=some o)/\(∃ zz,Hj D2=some (.lst zz)/\zz.length<=20+j)/\(∃ zz,Hj mb=some (.lst zz)/\zz.length<=20+j)/\∃ zz,Hj D1=some (.lst zz)/\zz.length<=20+j)
   ⟨none,rfl,λ c o h _ _ _=>h,⟨_,s84 _ _ gD2,by rw [List.length_map];omega⟩,⟨_,s84 _ _ gmb,by rw [List.length_map];omega⟩,⟨_,s84 _ _ gD1,by rw [List.length_map];omega⟩⟩ (λ j σ Hj _ ⟨_,_,e,_⟩=>SqL.of (e _ _ (s84 _ _ ghd8) (Ne.symm D2h) (Ne.symm mbh) (Ne.symm D1h))) ?_ ?_⟩
  ·rintro j v σ Hj hv ⟨v9,rfl,kp,z2,zm,z1⟩
   obtain ⟨p,rfl,zz,hp,hz⟩:∃ p,v=V.ref p/\∃ zz,Hj p=some (.lst zz)/\zz.length<=20+j:=by
    match j,hv with
    | 0,hv=>cases hv;exact ⟨D2,rfl,z2⟩
    | 1,hv=>cases hv;exact ⟨mb,rfl,zm⟩
    | 2,hv=>cases hv;exact ⟨D1,rfl,z1⟩
    | j+3,hv=>cases hv
   have pin:p=D2∨p=mb∨p=D1:=by
    match j,hv with
    | 0,hv=>cases hv;exact .inl rfl
    | 1,hv=>cases hv;exact .inr (.inl rfl)
    | 2,hv=>cases hv;exact .inr (.inr rfl)
    | j+3,hv=>cases hv
   have jl:j<3:=(List.getElem?_eq_some_iff.mp hv).1
   have step:∀ c,(∃ z,Hj c=some (.lst z)/\z.length<=20+j)->∃ z,(upd Hj p (.lst (zz++[V.non]))) c=some (.lst z)/\z.length<=20+(j+1):=λ c ⟨z,h1,h2⟩=>by
    by_cases e:c=p
    ·rw [e];exact ⟨_,ae,by rw [List.length_append,List.length_singleton];omega⟩
    ·rw [aq e];exact ⟨z,h1,by omega⟩
   lia
   refine ⟨.inl ⟨rfl,_,SqL.of hp⟩,?_⟩
   lia
   refine ⟨p,_,_,rfl,rfl,hp,Nat.lt_of_le_of_lt hz (Nat.lt_of_lt_of_le (show 20+j<200 by omega) (by decide)),?_⟩
   refine ⟨_,rfl,λ c o h n1 n2 n3=>?_,step _ z2,step _ zm,step _ z1⟩
   rw [aq (λ e=>by rcases pin with z | z | z;exact n1 (e.trans z);exact n2 (e.trans z);exact n3 (e.trans z))]
   exact kp c o h n1 n2 n3
  rintro σ Hj ⟨v9,rfl,kp,_,_,_⟩
  have kpo:∀ c u,H14 c=some u->((c≠D2/\c≠mb/\c≠D1)∨∀ xs,u≠.lst xs)->Hj c=some u:=λ c u h z=>by
   rcases z with z | z
   ·exact kp c u h z.1 z.2.1 z.2.2
   ·have ne:∀ {d:Addr} {l:List V},H14 d=some (.lst l)->c≠d:=λ g e=>by rw [e,g] at h;exact z _ (Option.some.inj h).symm
    exact kp c u h (ne (s84 _ _ gD2)) (ne (s84 _ _ gmb)) (ne (s84 _ _ gD1))
  have sj:ak H Hj:=λ c o h=>kp c o (s04 _ _ h) (nF h).1 (nF h).2.1 (nF h).2.2
  obtain ⟨dx,fs,hx,fl⟩:=id tgx.ob
  have hxj:=kpo _ _ hx (.inr λ xs z=>by cases z)
  have grj:=kpo _ _ gr (.inl (fre fr))
  have gqj:=kpo _ _ gq (.inl (fre fq))
  have gkj:=kpo _ _ gk (.inl (fre fk))
  have alj2:Al (jC a Hj) os (rs.map RD.rv):=al2.imp λ o r h=>(h.keep (G:=λ _=>True) (λ _ _ _=>trivial) kpo).of
  have alj:Al (KOf a Hj) zs (kvs ks):=al.imp λ o r h=>(h.keep (G:=λ _=>True) (λ _ _ _=>trivial) kpo).of
  have tfj:TgF a Hj x B (rs.map RD.rv) ts (kvs ks):=⟨⟨r,q,kk,os,zs,⟨dx,fs,hxj,fl⟩,grj,alj2,gqj,gkj,alj⟩,rl,rok,kl⟩
  have tgj:TgR a Hj x B (rs.map RD.rv):=⟨dx,fs,r,q,kk,os,hxj,fl,grj,alj2.1,λ i o v h1 h2=>alj2.2 i o v h1 h2⟩
  clear kpo kp al2 al gr gq gk tgx hx
  lia
  refine ⟨x,B,rs.map RD.rv,ts,kvs ks,rfl,tfj,λ H15 t s15 fld=>?_⟩
  lia
  refine ⟨by show 4<=sizeLine;decide,λ u hu'=>?_⟩
  have su:=ak.upd (o:=.tup [V.int B,.ref L,.ref Mb,.ref S]) hu'
  have gu:(upd H15 u (.tup [V.int B,.ref L,.ref Mb,.ref S])) u=some (.tup [V.int B,.ref L,.ref Mb,.ref S]):=ae
  have s0:=sj.trans s15
  obtain ⟨xs,f1,f2,f3⟩:=oX fld (s0 _ _ hL) (ra.same s0) (s0 _ _ hM) (s0 _ _ hS) (ka.same s0)
  have f1:=su _ _ f1
  have f3:∀ (i:Nat) x y,xs[i]?=some x->[V.int B,.ref L,.ref Mb,.ref S][i]?=some y->DE (upd H15 u (.tup [V.int B,.ref L,.ref Mb,.ref S])) 4 x y:=λ i x y p q=>(f3 i x y p q).heap su
  generalize upd H15 u _=H16 at su gu f1 f3 ⊢
  refine ⟨4,t,u,xs,_,rfl,rfl,f1,gu,f2,by decide,f3,?_⟩
  have s0:=s0.trans su
  lia
  refine ⟨x,L,B,rs,rfl,tgj.same (s15.trans su),s0 _ _ hL,ra.same s0,r10,(tb.same s0).1.1,λ H17 s17=>?_⟩
  exact k _ (s0.trans s17)
end
end K04
namespace L2
open PySem PySem.Spec PyProof.Rows
section
variable {X:Cx}
theorem BH (K:PySem.W.Frag) (hu:X.A.units<cLine) (hK:X.K=K:=by rfl):OpR X (compareOp .NotEq) (λ x y H Q=>∃ (a b:Addr) (xs:List V),x=.ref a/\y=.ref b/\SqL K H a xs/\SqL K H b []/\Q (.bl (!xs.isEmpty)) H):=by
 subst hK
 intro pins s σ H x y v u Q I rx ry h
 obtain ⟨a,b,xs,rfl,rfl,h1,h2,q⟩:=h
 cases rx
 cases ry
 obtain ⟨us,r1,p1,_⟩:=I.list h1
 obtain ⟨vs,r2,p2,_⟩:=I.list h2
 have l1:=r1.length
 cases r2
 cases xs with
 | nil=>
  cases r1
  exact SeqAt.RcNeAt.lists (e:=λ _=>true) p1.isList p2.isList rfl hu (λ j k1 _=>absurd k1 (by simp)) _ _ _ _ (aQ I q rfl)
 | cons z zs=>exact SeqAt.RcNeAt.lists_lengths p1.isList p2.isList (by rw [List.size_toArray,<- l1];simp) hu _ _ _ _ (aQ I q rfl)
end
end L2
namespace K04
open PySem PySem.Spec PyProof.Rows L2
theorem BQ {σ:L2.St} {H:Hp} {ta:TA} {R:It->Hp->Prop} (q:ta σ H λ vs H1=>∃ i j k:Int,vs=[.int i,.int j,.int k]/\(0<=i/\i<2 ^ 60/\0<=j/\j<2 ^ 60/\0<k/\k<2 ^ 20)/\R (uh i k (Builtin.Range.rangeSize i j k).toNat) H1):Av ta σ H R:=q
theorem TMs.put {H:Hp} {ts:List Addr} {ms:List Mel} {D:Addr} {xs:List V} {o:HO} (h:TMs H ts ms) (hD:H D=some (.lst xs)):TMs (upd H D o) ts ms:=⟨h.1,λ i t m a b=>by
 have e:=h.2 i t m a b
 rw [aq (λ z=>by rw [z,hD] at e;cases e)];exact e⟩
theorem TMs.ins {H:Hp} {ts:List Addr} {ms:List Mel} {t:Addr} {m:Mel} (h:TMs H ts ms) (e:H t=some (eX m)) (k:Nat):TMs H (ts.take k++t::ts.drop k) (ms.take k++m::ms.drop k):=by
 refine ⟨by simp [h.1],λ i u n a b=>?_⟩
 have lt:(ts.take k).length=(ms.take k).length:=by simp [h.1]
 rcases Nat.lt_or_ge i (ts.take k).length with z | z
 ·rw [List.getElem?_append_left z,List.getElem?_take] at a
  rw [List.getElem?_append_left (by rw [<- lt];exact z),List.getElem?_take] at b
  by_cases y:i<k
  ·rw [if_pos y] at a b;exact h.2 i u n a b
  ·rw [if_neg y] at a;cases a
 ·rw [List.getElem?_append_right z] at a
  rw [List.getElem?_append_right (by rw [<- lt];exact z),<- lt] at b
  generalize i - (ts.take k).length=j at a b
  cases j with
  | zero=>cases a;cases b;exact e
  | succ j=>
   rw [List.getElem?_cons_succ,List.getElem?_drop] at a b
   exact h.2 _ u n a b
theorem lD.put {H:Hp} {ks:List KD} {X:Addr} {xs:List V} {o:HO} (h:lD H ks) (n:∀ k∈ks,k.p≠X) (hX:H X=some (.lst xs)):lD (upd H X o) ks:=λ k hk=>⟨(h k hk).1.put (n k hk) hX,(h k hk).2⟩
theorem yL (ts:List Addr) (k:Int) (h:0<=k):eG (ts.map V.ref) none (some k)=(ts.take k.toNat).map V.ref:=by
 obtain ⟨j,rfl⟩:∃ j:Nat,k=j:=⟨k.toNat,by omega⟩
 unfold eG
 rw [List.length_map,HT.kI,HT.mD,List.drop_zero,Nat.sub_zero,List.map_take,Int.toNat_natCast]
 rcases Nat.le_total j ts.length with h | h
 ·rw [Nat.min_eq_left h]
 ·rw [Nat.min_eq_right h,List.take_of_length_le (by simp),List.take_of_length_le (by simp;exact h)]
theorem vW (rs:List RD) (k:Int) (h:0<=k):eG (cG rs) none (some k)=cG (rs.take k.toNat):=by
 unfold cG
 rw [yL _ _ h];simp only [List.map_take]
theorem FK (ts:List Addr) (i:Int) (y:Addr):pI (ts.map V.ref) i (.ref y)=(ts.take (min i.toNat ts.length)++y::ts.drop (min i.toNat ts.length)).map V.ref:=by
 unfold pI
 rw [List.length_map,List.map_append,List.map_cons,List.map_take,List.map_drop]
theorem sJ {k:KD} (h:k.ok):kR k.ti "zyx" []=true:=by
 have e:=h.ok
 unfold kR at e ⊢
 rw [Bool.and_eq_true] at e
 rw [e.1,show aP "zyx"=true from by decide +kernel]
 rfl
theorem eH.take {H:Hp} {rs:List RD} (h:eH H rs) (k:Nat):eH H (rs.take k):=λ r hr=>h r (List.mem_of_mem_take hr)
def ShM (ms:List Mel):Prop:=∀ m∈ms,m.1.length<=10000/\m.2.1.length<=10000/\m.2.2.length<=10000
structure Bd (H0 H:Hp) (c L M S Dl:Addr) (rs:List RD) (ts:List Addr) (ms:List Mel) (ks:List KD) (dn:List Str):Prop where
 s:ak H0 H
 gL:H L=some (.lst (cG rs))
 ra:eH H rs
 gM:H M=some (.lst (ts.map .ref))
 tm:TMs H ts ms
 gS:H S=some (.lst (dZ ks))
 ka:lD H ks
 gD:H Dl=some (.lst (dn.map .str))
 nM:H0 M=none
 nS:H0 S=none
 nD:H0 Dl=none
 LM:L≠M
 LS:L≠S
 LD:L≠Dl
 MS:M≠S
 MD:M≠Dl
 SD:S≠Dl
 rD:∀ r∈rs,r.it≠Dl
 kM:∀ k∈ks,k.p≠M
 kS:∀ k∈ks,k.p≠S
 kD:∀ k∈ks,k.p≠Dl
 n9:jO H c
 cM:c≠M
 cS:c≠S
 cD:c≠Dl
section
variable {H0 H:Hp} {c L M S Dl:Addr} {rs:List RD} {ts:List Addr} {ms:List Mel} {ks:List KD} {dn:List Str}
theorem Bd.same {H':Hp} (h:Bd H0 H c L M S Dl rs ts ms ks dn) (s:ak H H'):Bd H0 H' c L M S Dl rs ts ms ks dn:=
 ⟨h.s.trans s,s _ _ h.gL,h.ra.same s,s _ _ h.gM,h.tm.same s,s _ _ h.gS,h.ka.same s,s _ _ h.gD,h.nM,h.nS,h.nD,h.LM,h.LS,h.LD,h.MS,h.MD,h.SD,h.rD,h.kM,h.kS,h.kD,h.n9.same s,h.cM,h.cS,h.cD⟩
theorem jO.put {H:Hp} {c X:Addr} {o:HO} (h:jO H c) (n:c≠X):jO (upd H X o) c:=let ⟨cs,h1,h2⟩:=h;⟨cs,by rw [aq n];exact h1,h2⟩
theorem mV {H0 H:Hp} {X:Addr} {o:HO} (s:ak H0 H) (n:H0 X=none):ak H0 (upd H X o):=λ c u e=>by rw [aq (ao e n)];exact s _ _ e
theorem Bd.putD (h:Bd H0 H c L M S Dl rs ts ms ks dn) (en:List Str):Bd H0 (upd H Dl (.lst (en.map .str))) c L M S Dl rs ts ms ks en:=
 ⟨mV h.s h.nD,by rw [aq h.LD];exact h.gL,λ r hr=>⟨⟨by
   have e:=(h.ra r hr).1.1
   rw [aq (λ z=>by rw [z,h.gD] at e;cases e)];exact e,by rw [aq (h.rD r hr)];exact (h.ra r hr).1.2⟩,(h.ra r hr).2⟩,by rw [aq h.MD];exact h.gM,h.tm.put h.gD,by rw [aq h.SD];exact h.gS,h.ka.put h.kD h.gD,ae,h.nM,h.nS,h.nD,h.LM,h.LS,h.LD,h.MS,h.MD,h.SD,h.rD,h.kM,h.kS,h.kD,h.n9.put h.cD,h.cM,h.cS,h.cD⟩
theorem Bd.Fq (h:Bd H0 H c L M S Dl rs ts ms ks dn) {us:List Addr} {ns:List Mel} (g:TMs H us ns):Bd H0 (upd H M (.lst (us.map .ref))) c L M S Dl rs us ns ks dn:=
 ⟨mV h.s h.nM,by rw [aq h.LM];exact h.gL,h.ra.put h.gM,ae,g.put h.gM,by rw [aq h.MS.symm];exact h.gS,h.ka.put h.kM h.gM,by rw [aq h.MD.symm];exact h.gD,h.nM,h.nS,h.nD,h.LM,h.LS,h.LD,h.MS,h.MD,h.SD,h.rD,h.kM,h.kS,h.kD,h.n9.put h.cM,h.cM,h.cS,h.cD⟩
theorem Bd.Fo (h:Bd H0 H c L M S Dl rs ts ms ks dn) {k:KD} (g:k.at H) (o:k.ok) (n1:k.p≠M) (n2:k.p≠S) (n3:k.p≠Dl):Bd H0 (upd H S (.lst (dZ (ks++[k])))) c L M S Dl rs ts ms (ks++[k]) dn:=by
 have mem:∀ {Pr:KD->Prop},(∀ x∈ks,Pr x)->Pr k->∀ x∈ks++[k],Pr x:=λ f e x hx=>(List.mem_append.mp hx).elim (f x) λ z=>by rw [List.mem_singleton.mp z];exact e
 have gS':H S=some (.lst ((ks.map (·.t)).map .ref)):=h.gS
 exact ⟨mV h.s h.nS,by rw [aq h.LS];exact h.gL,h.ra.put gS',by rw [aq h.MS];exact h.gM,h.tm.put gS',ae,lD.put (show lD H (ks++[k]) from mem h.ka ⟨g,o⟩) (mem h.kS n2) gS',by rw [aq h.SD.symm];exact h.gD,h.nM,h.nS,h.nD,h.LM,h.LS,h.LD,h.MS,h.MD,h.SD,h.rD,mem h.kM n1,mem h.kS n2,mem h.kD n3,h.n9.put h.cS,h.cM,h.cS,h.cD⟩
end
open Classical in
theorem zM {b1 b2 b3:Bool} {B:Int} {ms:List Mel} {tt:List Str} (h1:b1=true↔B<0) (h2:b2=true↔ms.all bh=false) (h3:b3=true↔¬ tt.Nodup):(ck b1 b2 b3).take 1=dueN B ms tt:=by
 unfold dueN ck
 simp only [<- h1,<- h2,<- h3]
 cases b1 <;> cases b2 <;> cases b3 <;> simp
section
variable {P:Program} {w:World} {K:PySem.W.Frag} {mg:Str->Option Value} {base:Heap} {a:Ad}
abbrev EW (K:PySem.W.Frag) (mg:Str->Option Value):=Df K mg "law" "law" (top 60) ["_law_script"]
def vv (K:PySem.W.Frag) (a:Ad):Sp:=λ vs H Q _=>∃ (p:Addr) (ns:List Int),vs=[.ref p]/\SqL K H p (ns.map .int)/\ns.length<=63/\qX a H/\∀ H',ak H H'->Q (.bl true) H'
abbrev FN:List Str:=["_law_script","_law_at","_law_cells_here","_law_seed","_law_m","_law_bound","_law_rules_here","_law_blends","_law_sorts","_law_due","_law_n"]
theorem Aq:aH FN ["_law_script"] (ar (top 60)):=⟨rfl,rfl,rfl,by decide +kernel,rfl,by decide +kernel,by decide +kernel⟩
structure Gs (P:Program) (w:World) (K:PySem.W.Frag) (mg:Str->Option Value) (base:Heap) (a:Ad) where
 dA:tD K mg
 jT:F0 P w base 1 dA (qx K)
 au:xD K mg
 bc:F0 P w base 1 au rX
 du:DRs K mg
 j4:F0 P w base 3 du BV
 bI:DMl K mg
 fG:F0 P w base 2 bI yX
 bZ:DBm K mg
 iw:F0 P w base 3 bZ Bx
 dB:DKs K mg
 jP:F0 P w base 2 dB BA
 cz:DRi K mg
 ki:c9 P w K mg base CX0 11 cz.f cz.fd pRi (Bm a)
theorem BU (D:EW K mg) (g:Gs P w K mg base a) (T:Txt K mg a):F0 P w base 13 D (vv K a):=by
 obtain ⟨dA,jT,au,bc,du,j4,bI,fG,bZ,iw,dB,jP,cz,ki⟩:=g
 refine Df.ok (k:=12) D.ex Aq (λ vs H Q E h=>?_) (λ A outer s H vs Q E hr h=>?_)
 ·obtain ⟨p,ns,rfl,_⟩:=h;rfl
 ·obtain ⟨p,ns,rfl,hp,hlen,tb,k⟩:=h
  have nd:=Aq.nd
  have hu:=Nat.lt_of_succ_lt (rf hr)
  refine ⟨_,(ah (dH PassesOwn.never rfl (wB (by rfl) T.dh (ag af (ag (aF (vE rfl) (by rfl) T.pj boot_max (ag af (ag (aF bt (by rfl) T.cg boot_len (ag (bq ez (pv 0) bS (bz af)) aa)) aa))) (ag af aa)))) (aA (i:=1) nd rfl (Or.inl rfl))
 (ah (ay (i:=2) nd rfl (Or.inl rfl) (av jT (hr.mono (by decide)) (by rfl) dA.mg dA.kp dA.bd .nil aT (ag (pv 0) (ag (pv 1) (ag af aa)))))
 (ah (ay (i:=3) nd rfl (Or.inl rfl) (av bc (hr.mono (by decide)) (by rfl) au.mg au.kp au.bd .nil aT (ag (aV a7 (pv 2) af (λ _ _=>rfl)) (ag af aa))))
 (ah (ay (i:=4) nd rfl (Or.inl rfl) (av bc (hr.mono (by decide)) (by rfl) au.mg au.kp au.bd .nil aT (ag (aV a7 (pv 2) af (λ _ _=>rfl)) (ag af aa))))
 (ah (ay (i:=5) nd rfl (Or.inl rfl) (aV a7 (aM (ag (ai az (ai aK (pv 4) af) af) (ag (ai az (aV a7 (pv 2) af (λ _ _=>rfl)) (ai wV af af)) aa))) (bL vN (by rfl) T.n8 (by decide +kernel) (ag (cx dg (ai az (pv 4) af) af (aC _)) aa)) (λ _ _=>rfl)))
 (ah (ay (i:=6) nd rfl (Or.inl rfl) (bq ez (av j4 (hr.mono (by decide)) (by rfl) du.mg du.kp du.bd .nil aT (ag (pv 2) (ag (pv 3) (ag (aF (wk rfl) (by rfl) T.pz boot_min (ag (pv 5) (ag af aa))) aa)))) bS (bz (aV a7 (zC [.int 0,.int 10,.int 10,.int 10]) (ai az (ai aK (pv 4) af) af) (λ _ _=>rfl)))))
 (ah (kC (i:=7) nd rfl (Or.inl rfl) (N:=["_law_cell"]) (fs:=[]) (⟨rfl,by rfl,by rfl,by rfl,trivial⟩) rfl (bx (bq ez (pv 2) (bz af) (bz (ai aU af (ai az (ai aK (pv 4) af) af))))) (λ _ _ _ _ _=>(aA (i:=0) (show List.Nodup (["_law_cell"]:List Str) from by decide +kernel) rfl (Or.inl rfl))) (λ _ _ _ _ _=>by exact dU) (λ _ _ _ _ _=>by exact (av fG (hr.mono (by decide)) (by rfl) bI.mg bI.kp bI.bd .nil aT (ag (av bc (hr.mono (by decide)) (by rfl) au.mg au.kp au.bd .nil aT (ag (pv 0) (ag af aa))) aa))))
 (ah (ay (i:=8) nd rfl (Or.inl rfl) (av jP (hr.mono (by decide)) (by rfl) dB.mg dB.kp dB.bd .nil aT (ag (av bc (hr.mono (by decide)) (by rfl) au.mg au.kp au.bd .nil aT (ag (aV a7 (pv 2) af (λ _ _=>rfl)) (ag af aa))) (ag (ai az (ai aK (pv 4) af) af) aa))))
 (ah (ay (i:=9) nd rfl (Or.inl rfl) (aM aa))
 (ah (ay (i:=10) nd rfl (Or.inl rfl) (av bc (hr.mono (by decide)) (by rfl) au.mg au.kp au.bd .nil aT (ag (aV a7 (pv 2) af (λ _ _=>rfl)) (ag af aa))))
 (ah (aY (pw_and (aB dg (ai az (pv 10) af) af (aC _)) (pw_and1 (aB dg (ai az (ai aK (pv 10) af) af) af (aC _)))).pt
 (ah (ay (i:=5) nd rfl (Or.inl rfl) (aV a7 (aM (ag (lZ iB af) (ag (ai fc (lZ iB af) (ai az (aV a7 (pv 2) af (λ _ _=>rfl)) (ai wV af af))) aa))) (ai az (ai aK (pv 10) af) af) (λ _ _=>rfl)))
 (aj (bj (cN PySem.F.plainAttrs_list PySem.F.slot_list_append PySem.F.type_list_append br (pv 9) (ag aD aa)))))
 aE)
 (ah (aY (pw_and (aB dg (ai az (pv 10) af) af (aC _)) (pw_and1 (pw_or (aB dg (ai az (ai aK (pv 10) af) af) af (aC _)) (pw_or1 (aB dg (ai az (ai aK (pv 10) af) af) af (aC _)))).pt)).pt
 (ah (bj (cN PySem.F.plainAttrs_list PySem.F.slot_list_insert PySem.F.type_list_insert pE (pv 7) (ag (ai az (ai aK (pv 10) af) (ai aU (aF bt (by rfl) T.cg boot_len (ag (pv 7) aa)) af)) (ag (av iw (hr.mono (by decide)) (by rfl) bZ.mg bZ.kp bZ.bd .nil aT (ag (av bc (hr.mono (by decide)) (by rfl) au.mg au.kp au.bd .nil aT (ag (aV a7 (pv 2) af (λ _ _=>rfl)) (ag af aa))) aa)) aa))))
 (aj (bj (cN PySem.F.plainAttrs_list PySem.F.slot_list_append PySem.F.type_list_append br (pv 9) (ag aD aa)))))
 aE)
 (ah (aY (pw_and (aB dg (ai az (pv 10) af) af (aC _)) (pw_and (aB (BH K hu) (pv 8) (aM aa) (aC _)) (pw_and1 (aB dg (ai az (ai aK (pv 10) af) af) af (aC _))))).pt
 (ah (bj (cN PySem.F.plainAttrs_list PySem.F.slot_list_append PySem.F.type_list_append br (pv 8) (ag (bH (ag (aV b9 (aV a7 (pv 8) (ai az (ai aK (pv 10) af) (aF bt (by rfl) T.cg boot_len (ag (pv 8) aa))) (λ _ _=>rfl)) af (λ _ _=>rfl)) (ag aD (ag (aM aa) aa)))) aa)))
 (aj (bj (cN PySem.F.plainAttrs_list PySem.F.slot_list_append PySem.F.type_list_append br (pv 9) (ag aD aa)))))
 aE)
 (aj (aY (bK (bu (av ki (hr.mono (by decide)) (by rfl) cz.mg cz.kp cz.bd .nil aT (ag (pv 5) (ag (pv 6) (ag (pv 7) (ag (pv 8) (ag (pv 9) (ag (ai az (ai aK (pv 4) af) af) aa)))))))))
 (aj (aN iQ))
 aE)))))))))))))))
 (aj (aN iQ))),?_⟩
  lia
  refine BQ ?_
  lia
  refine ⟨p,_,rfl,hp,λ p0 h0=>?_⟩
  lia
  refine ⟨p0,_,rfl,.inl (SqL.of ae),?_⟩
  lia
  refine ⟨_,_,rfl,?_⟩
  lia
  have hcl:=l9 (ns.map V.int) none (some 63)
  rw [List.length_map] at hcl
  have hmx:0<=(if ((eG (ns.map V.int) none (some 63)).length:Int) > 1 then ((eG (ns.map V.int) none (some 63)).length:Int) else 1)/\(if ((eG (ns.map V.int) none (some 63)).length:Int) > 1 then ((eG (ns.map V.int) none (some 63)).length:Int) else 1)<2 ^ 60:=by
   split <;> constructor <;> omega
  refine ⟨_,_,_,rfl,⟨by decide,by decide,hmx.1,hmx.2,by decide,by decide⟩,?_⟩
  have sI:ak H (upd H p0 (.lst (eG (ns.map V.int) none (some 63)))):=ak.upd h0
  refine FP (λ i σ H2=>∃ v1 v2 v3 v4 v5 v6 v7 v8 v9 v10,σ=[some (V.ref p),v1,v2,v3,v4,v5,v6,v7,v8,v9,v10]/\ak H H2) ⟨_,_,_,_,_,_,_,_,_,_,rfl,sI⟩ ?_ ?_
  ·rintro i σ H0 hi ⟨v1,v2,v3,v4,v5,v6,v7,v8,v9,v10,rfl,s0⟩
   generalize (0:Int)+i * 12=at'
   lia
   refine ⟨p,_,ns,rfl,s0.seq hp,Nat.le_trans hlen (by decide),λ H1 c s01 n9=>?_⟩
   have s1:=s0.trans s01
   have at9:∀ {Hh:Hp},ak H1 Hh->∀ j:Int,0<=j->j<12->∃ z:Int,∃ xs:List V,SqL K Hh c xs/\L2.atI xs j=some (.int z):=λ s j h0 h1=>(n9.same s).atI j h0 h1
   lia
   obtain ⟨z0,xs0,e1,e2⟩:=at9 (.refl _) 0 (by decide) (by decide)
   refine ⟨c,_,_,_,rfl,rfl,e1,e2,?_⟩
   lia
   refine ⟨z0,_,rfl,by decide,by decide,λ sd sd0 sd1=>?_⟩
   lia
   clear e1 e2
   obtain ⟨z1,xs1,e1,e2⟩:=at9 (.refl _) 1 (by decide) (by decide)
   refine ⟨c,_,_,_,rfl,rfl,e1,e2,?_⟩
   lia
   refine ⟨z1,_,rfl,by decide,by decide,λ m m0 m1=>?_⟩
   lia
   clear e1 e2
   obtain ⟨z2,xs2,e1,e2⟩:=at9 (.refl _) 2 (by decide) (by decide)
   refine ⟨c,_,_,_,rfl,rfl,e1,e2,?_⟩
   lia
   clear e1 e2
   refine w_I (by unfold BE;decide) ?_
   have t0:0<(10:Int) ^ (59:Int).toNat/\(10:Int) ^ (59:Int).toNat<2 ^ 200:=by decide
   generalize (10:Int) ^ (59:Int).toNat=t59 at t0 ⊢
   refine w_mod t0.1 ?_
   lia
   have bb0:=bF (m / 8) (show (0:Int)<30 by decide)
   have bb1:=mod_lt (m / 8) (show (0:Int)<30 by decide)
   have cc0:=bF z2 t0.1
   have cc1:=mod_lt z2 t0.1
   refine ⟨by show 2<=sizeLine;decide,λ q hq=>?_⟩
   have s12:=ak.upd (o:=.lst [V.int (m / 8 % 30),.int (z2 % t59)]) hq
   have g2:(upd H1 q (.lst [V.int (m / 8 % 30),.int (z2 % t59)])) q=some (.lst [V.int (m / 8 % 30),.int (z2 % t59)]):=ae
   generalize upd H1 q _=H2 at s12 g2 ⊢
   lia
   refine ⟨_,rfl,?_⟩
   have hB:∃ B0:Int,0<=B0/\B0<2 ^ 200/\atI [V.int (m / 8 % 30),.int (z2 % t59)] (if decide (m % 4=1) then 1 else 0)=some (.int B0):=by
    split
    ·exact ⟨_,cc0,by omega,rfl⟩
    ·exact ⟨_,bb0,by omega,rfl⟩
   obtain ⟨B0,B00,B01,eB⟩:=hB
   refine ⟨q,_,_,_,rfl,rfl,SqL.of g2,eB,?_⟩
   have s2:=s1.trans s12
   have n9:=n9.same s12
   clear s01 s12 s1 s0 g2 hq eB
   lia
   refine ⟨_,_,rfl,?_⟩
   lia
   refine ⟨c,_,_,rfl,n9,by split <;> omega,λ H3 L0 rs0 s23 hL0 gL0 ra0 r10=>?_⟩
   have s3:=s2.trans s23
   lia
   refine ⟨by show 4<=sizeLine;decide,λ q4 hq4=>?_⟩
   have s34:=ak.upd (o:=.lst [V.int 0,.int 10,.int 10,.int 10]) hq4
   have g4:(upd H3 q4 (.lst [V.int 0,.int 10,.int 10,.int 10])) q4=some (.lst [V.int 0,.int 10,.int 10,.int 10]):=ae
   have gL0:=s34 _ _ gL0
   have ra0:=ra0.same s34
   have s4:=s3.trans s34
   have n9:=(n9.same s23).same s34
   generalize upd H3 q4 _=H4 at s4 g4 gL0 ra0 n9 ⊢
   clear s34 hq4 s23 hL0 s3 s2
   lia
   have hn:∃ n0:Int,0<=n0/\atI [V.int 0,.int 10,.int 10,.int 10] (m / 4 % 4)=some (.int n0):=by
    rcases (show m / 4 % 4=0∨m / 4 % 4=1∨m / 4 % 4=2∨m / 4 % 4=3 by omega) with h | h | h | h <;> rw [h]
    ·exact ⟨_,by decide,rfl⟩
    ·exact ⟨10,by decide,rfl⟩
    ·exact ⟨10,by decide,rfl⟩
    ·exact ⟨10,by decide,rfl⟩
   obtain ⟨n0,n00,en0⟩:=hn
   refine ⟨q4,_,_,_,rfl,rfl,SqL.of g4,en0,?_⟩
   lia
   refine ⟨L0,_,rfl,SqL.of gL0,λ L hL=>?_⟩
   rw [vW _ _ n00]
   have s45:=ak.upd (o:=.lst (cG (rs0.take n0.toNat))) hL
   have gL:(upd H4 L (.lst (cG (rs0.take n0.toNat)))) L=some (.lst (cG (rs0.take n0.toNat))):=ae
   have ra:=(ra0.same s45).take n0.toNat
   have r10:(rs0.take n0.toNat).length<=10:=by rw [List.length_take];omega
   have s5:=s4.trans s45
   have n9:=n9.same s45
   generalize upd H4 L _=H5 at s5 gL ra n9 ⊢
   generalize rs0.take n0.toNat=rs at gL ra r10 ⊢
   clear s45 gL0 ra0 en0 g4 s4 hL
   lia
   obtain ⟨cs,hc,hcl9⟩:=n9
   refine ⟨c,_,rfl,SqL.of hc,λ q5 hq5=>?_⟩
   obtain ⟨ys,ey,ly⟩:=qY V.int cs (some 3) (some (3+m / 240 % 5))
   rw [ey]
   have s56:=ak.upd (o:=.lst (ys.map V.int)) hq5
   have g5:(upd H5 q5 (.lst (ys.map V.int))) q5=some (.lst (ys.map V.int)):=ae
   have gL:=s56 _ _ gL
   have ra:=ra.same s56
   have hc:=s56 _ _ hc
   have s6:=s5.trans s56
   generalize upd H5 q5 _=H6 at s6 g5 gL ra hc ⊢
   clear s56 hq5 ey s5
   lia
   refine ⟨q5,rfl,⟨_,SqL.of g5⟩,lcH (λ D j zs H7=>∃ (ts:List Addr) (ms:List Mel),zs=ts.map .ref/\TMs H7 ts ms/\ts.length=j/\∀ m∈ms,bh m=true) (hV (SqL.of g5)) (by rw [List.length_map];exact aW (by omega)) (λ D hD=>⟨[],[],rfl,.nil,rfl,λ m h=>(nomatch h)⟩) (λ D j zs H7 hj hD s67 e7 r7=>?_) (λ M H7 zs hM s67 gM r7=>?_)⟩
   ·obtain ⟨ts,ms,rfl,tm,tl,tok⟩:=r7
    rw [List.length_map] at hj
    have ej:(ys.map V.int).getD j .non=V.int ys[j]:=by simp [List.getD_eq_getElem?_getD,hj]
    rw [ej]
    lia
    refine ⟨ik rfl,?_⟩
    lia
    refine ⟨_,_,rfl,by decide,by decide,λ r r0 r1=>?_⟩
    lia
    refine ⟨_,rfl,λ H8 t x y z s78 _ gt mo=>?_⟩
    refine j2 hD s67 e7 s78 ⟨ts++[t],ms++[(x,y,z)],by rw [List.map_append];rfl,((tm.same s78).snoc gt).put (s78 _ _ e7),by rw [List.length_append,tl];rfl,λ m hm=>(List.mem_append.mp hm).elim (tok m) λ h=>by rw [List.mem_singleton.mp h];exact mo⟩
   obtain ⟨ts,ms,rfl,tm,tl,tok⟩:=r7
   rw [List.length_map] at tl
   have LM:L≠M:=ao gL hM
   have cM:c≠M:=ao hc hM
   have gL:=s67 _ _ gL
   have ra:=ra.same s67
   have hc:=s67 _ _ hc
   have n9:jO H7 c:=⟨cs,hc,hcl9⟩
   have nM:=s6.free hM
   have s7:=s6.trans s67
   have t20:ts.length<=12:=by omega
   clear g5 s67 hc hcl9 ly hM s6 cc0 cc1 bb0 bb1 t0 tl
   lia
   obtain ⟨z8,xs8,e1,e2⟩:=n9.atI (K:=K) 8 (by decide) (by decide)
   refine ⟨c,_,_,_,rfl,rfl,e1,e2,?_⟩
   lia
   refine ⟨z8,_,rfl,by decide,by decide,λ r8 r80 r81=>?_⟩
   lia
   clear e1 e2
   refine ⟨r8,_,rfl,by omega,by omega,λ H8 S ks s78 hS gS ka kl kp knd=>?_⟩
   have kl3:ks.length<=3:=by omega
   have kM:∀ k∈ks,k.p≠M:=λ k hk=>(ao gM (kp k hk).1).symm
   have kS:∀ k∈ks,k.p≠S:=λ k hk=>(kp k hk).2
   have LS:=ao gL hS
   have MS:=ao gM hS
   have cS:c≠S:=by obtain ⟨_,hc,_⟩:=n9;exact ao hc hS
   have nS:=s7.free hS
   have gL:=s78 _ _ gL
   have ra:=ra.same s78
   have gM:=s78 _ _ gM
   have tm:=tm.same s78
   have n9:=n9.same s78
   have s8:=s7.trans s78
   clear s78 hS s7 kl kp
   lia
   refine ⟨by show 0<=sizeLine;decide,λ Dl hD=>?_⟩
   have s89:=ak.upd (o:=.lst []) hD
   have gD:(upd H8 Dl (.lst [])) Dl=some (.lst ((ck false false false).map .str)):=ae
   have bd:Bd H (upd H8 Dl (.lst [])) c L M S Dl rs ts ms ks (ck false false false):=
    ⟨s8.trans s89,s89 _ _ gL,ra.same s89,s89 _ _ gM,tm.same s89,s89 _ _ gS,ka.same s89,gD,nM,nS,s8.free hD,LM,LS,ao gL hD,MS,ao gM hD,ao gS hD,λ r hr=>ao (ra r hr).1.2 hD,kM,kS,λ k hk=>ao (ka k hk).1.lst hD,n9.same s89,cM,cS,by obtain ⟨_,hc,_⟩:=n9;exact ao hc hD⟩
   generalize upd H8 Dl _=H9 at bd ⊢
   clear gD s89 hD gL ra gM tm gS ka n9 kM kS nM nS LM LS MS cM cS s8
   lia
   obtain ⟨z9,xs9,e1,e2⟩:=bd.n9.atI (K:=K) 9 (by decide) (by decide)
   refine ⟨c,_,_,_,rfl,rfl,e1,e2,?_⟩
   lia
   refine ⟨z9,_,rfl,by decide,by decide,λ u u0 u1=>?_⟩
   clear e1 e2
   (repeat array_mem_dec)
   refine lP (λ σ2 Hh=>∃ (B:Int) (b1:Bool),σ2=[some (V.ref p),some (V.int at'),some (V.ref c),some (V.int sd),some (V.int m),some (V.int B),some (V.ref L),some (V.ref M),some (V.ref S),some (V.ref Dl),some (V.int u)]/\Bd H Hh c L M S Dl rs ts ms ks (ck b1 false false)/\(b1=true↔B<0)) (λ nx' hj=>?_) ?_
   ·have no:nx' [some (V.ref p),some (V.int at'),some (V.ref c),some (V.int sd),some (V.int m),some (V.int B0),some (V.ref L),some (V.ref M),some (V.ref S),some (V.ref Dl),some (V.int u)] H9:=hj _ _ ⟨B0,false,rfl,bd,by constructor <;> intro h <;> simp_all <;> omega⟩
    lia
    refine w_ite (λ z1=>?_) (λ z1=>no)
    lia
    refine w_ite (λ z2=>?_) (λ z2=>no)
    lia
    obtain ⟨z10,xs10,e1,e2⟩:=bd.n9.atI (K:=K) 10 (by decide) (by decide)
    refine ⟨c,_,_,_,rfl,rfl,e1,e2,?_⟩
    lia
    refine w_I (by unfold BE;decide) ?_
    have t0:0<(10:Int) ^ (59:Int).toNat:=by decide
    generalize (10:Int) ^ (59:Int).toNat=t59 at t0 ⊢
    refine w_mod t0 ?_
    lia
    have cc0:=bF z10 t0
    refine ⟨by show 2<=sizeLine;decide,λ q hq=>?_⟩
    have sA:=ak.upd (o:=.lst [V.int (-1),.int (-1 - z10 % t59)]) hq
    have gA:(upd H9 q (.lst [V.int (-1),.int (-1 - z10 % t59)])) q=some (.lst [V.int (-1),.int (-1 - z10 % t59)]):=ae
    have bd:=bd.same sA
    generalize upd H9 q _=HA at bd gA ⊢
    lia
    have hB:∃ B:Int,B<0/\atI [V.int (-1),.int (-1 - z10 % t59)] (u / 4 % 2)=some (.int B):=by
     rcases (show u / 4 % 2=0∨u / 4 % 2=1 by omega) with h | h <;> rw [h]
     ·exact ⟨_,by decide,rfl⟩
     ·exact ⟨_,by omega,rfl⟩
    obtain ⟨B,Bn,eB⟩:=hB
    refine ⟨q,_,_,_,rfl,rfl,SqL.of gA,eB,?_⟩
    lia
    refine ⟨.inl ⟨rfl,_,SqL.of bd.gD⟩,?_⟩
    lia
    refine ⟨Dl,_,_,rfl,rfl,bd.gD,by show 0<sizeLine;decide,?_⟩
    exact hj _ _ ⟨B,true,rfl,bd.putD (ck true false false),by simp [Bn]⟩
   rintro σ2 H9 ⟨B,b1,rfl,bd,hb1⟩
   have shm:ShM ms:=λ m hm=>by
    obtain ⟨h1,h2,h3,_⟩:=pG (tok m hm)
    have:=ja h1;have:=ja h2;have:=ja h3
    exact ⟨by omega,by omega,by omega⟩
   have tal:ms.all bh=true:=List.all_eq_true.mpr tok
   (repeat array_mem_dec)
   refine lP (λ σ2 Hh=>∃ (b2:Bool) (ts:List Addr) (ms:List Mel),σ2=[some (V.ref p),some (V.int at'),some (V.ref c),some (V.int sd),some (V.int m),some (V.int B),some (V.ref L),some (V.ref M),some (V.ref S),some (V.ref Dl),some (V.int u)]/\Bd H Hh c L M S Dl rs ts ms ks (ck b1 b2 false)/\(b2=true↔ms.all bh=false)/\ts.length<=20/\ShM ms) (λ nx' hj=>?_) ?_
   ·have no:nx' [some (V.ref p),some (V.int at'),some (V.ref c),some (V.int sd),some (V.int m),some (V.int B),some (V.ref L),some (V.ref M),some (V.ref S),some (V.ref Dl),some (V.int u)] H9:=hj _ _ ⟨false,ts,ms,rfl,bd,by rw [tal];simp,by omega,shm⟩
    lia
    refine w_ite (λ z1=>?_) (λ z1=>no)
    lia
    refine w_ite (λ z2=>?_) (λ z2=>?_)
    rotate_left
    lia
    refine w_ite (λ z3=>?_) (λ z3=>no)
    all_goals
     lia
     refine ⟨.inl ⟨rfl,_,SqL.of bd.gM⟩,?_⟩
     lia
     refine ⟨M,_,rfl,.inl (SqL.of bd.gM),?_⟩
     lia
     refine w_mod (by rw [List.length_map];omega) ?_
     have j0:=bF (u / 16) (show (0:Int)<((ts.map V.ref).length:Int)+1 by omega)
     have j1:=mod_lt (u / 16) (show (0:Int)<((ts.map V.ref).length:Int)+1 by omega)
     rw [List.length_map] at j0 j1 ⊢
     generalize u / 16 % ((ts.length:Int)+1)=jj at j0 j1 ⊢
     lia
     obtain ⟨z11,xs11,e1,e2⟩:=bd.n9.atI (K:=K) 11 (by decide) (by decide)
     refine ⟨c,_,_,_,rfl,rfl,e1,e2,?_⟩
     lia
     refine ⟨z11,_,rfl,by decide,by decide,λ r11 _ _=>?_⟩
     lia
     refine ⟨r11,rfl,λ HB t n sB gt bad=>?_⟩
     have bd:=bd.same sB
     lia
     refine ⟨M,_,jj,.ref t,rfl,rfl,bd.gM,j0,by omega,by rw [List.length_map];exact Nat.lt_of_le_of_lt t20 (by decide),?_⟩
     rw [FK]
     have bd:=bd.Fq (bd.tm.ins gt (min jj.toNat ts.length))
     generalize upd HB M _=HB at bd ⊢
     lia
     refine ⟨.inl ⟨rfl,_,SqL.of bd.gD⟩,?_⟩
     lia
     refine ⟨Dl,_,_,rfl,rfl,bd.gD,by rw [List.length_map];cases b1 <;> decide,?_⟩
     rw [show ((ck b1 false false).map V.str++[V.str "melt"]:List V)=(ck b1 true false).map V.str by cases b1 <;> rfl]
     refine hj _ _ ⟨true,_,_,rfl,bd.putD (ck b1 true false),⟨λ _=>List.all_eq_false.mpr ⟨n,by simp,by rw [bad.1];exact Bool.false_ne_true⟩,λ _=>rfl⟩,by simp;omega,λ x hx=>?_⟩
     have:x∈ms∨x=n:=by
      rcases List.mem_append.mp hx with h | h
      ·exact .inl (List.mem_of_mem_take h)
      ·rcases List.mem_cons.mp h with h | h
       ·exact .inr h
       ·exact .inl (List.mem_of_mem_drop h)
     rcases this with h | rfl
     ·exact shm x h
     ·exact ⟨Nat.le_trans bad.2.1 (by decide),Nat.le_trans bad.2.2.1 (by decide),Nat.le_trans bad.2.2.2 (by decide)⟩
   clear shm tal tok t20 bd
   rintro σ2 H9 ⟨b2,ts,ms,rfl,bd,hb2,t20,shm⟩
   have ka0:=bd.ka
   (repeat array_mem_dec)
   refine lP (λ σ2 Hh=>∃ (b3:Bool) (ks:List KD),σ2=[some (V.ref p),some (V.int at'),some (V.ref c),some (V.int sd),some (V.int m),some (V.int B),some (V.ref L),some (V.ref M),some (V.ref S),some (V.ref Dl),some (V.int u)]/\Bd H Hh c L M S Dl rs ts ms ks (ck b1 b2 b3)/\(b3=true↔¬ (ks.map (·.ti)).Nodup)/\ks.length<=20) (λ nx' hj=>?_) ?_
   ·have no:∀ {Hh:Hp},ak H9 Hh->nx' [some (V.ref p),some (V.int at'),some (V.ref c),some (V.int sd),some (V.int m),some (V.int B),some (V.ref L),some (V.ref M),some (V.ref S),some (V.ref Dl),some (V.int u)] Hh:=λ s=>hj _ _ ⟨false,ks,rfl,bd.same s,by simp [knd],by omega⟩
    lia
    refine w_ite (λ z1=>?_) (λ z1=>no (.refl _))
    lia
    refine ⟨by show 0<=sizeLine;decide,λ q hq=>?_⟩
    have sA:=ak.upd (o:=.lst []) hq
    have gq:(upd H9 q (.lst [])) q=some (.lst []):=ae
    have no:∀ {Hh:Hp},ak (upd H9 q (.lst [])) Hh->nx' [some (V.ref p),some (V.int at'),some (V.ref c),some (V.int sd),some (V.int m),some (V.int B),some (V.ref L),some (V.ref M),some (V.ref S),some (V.ref Dl),some (V.int u)] Hh:=λ s=>no (sA.trans s)
    have bd:=bd.same sA
    generalize upd H9 q _=HA at bd gq no ⊢
    refine ⟨S,q,_,rfl,rfl,SqL.of bd.gS,SqL.of gq,?_⟩
    refine ⟨_,rfl,?_⟩
    refine w_ite (λ z2=>?_) (λ z2=>no (.refl _))
    lia
    refine w_ite (λ z3=>?_) (λ z3=>no (.refl _))
    have kpos:0<ks.length:=by
     cases ks with
     | nil=>exact absurd z2 Bool.false_ne_true
     | cons _ _=>exact Nat.zero_lt_succ _
    have kr:(dZ ks).length=ks.length:=by unfold dZ;rw [List.length_map,List.length_map]
    lia
    refine ⟨.inl ⟨rfl,_,SqL.of bd.gS⟩,?_⟩
    lia
    refine ⟨S,_,rfl,.inl (SqL.of bd.gS),?_⟩
    rw [kr]
    refine w_mod (by omega) ?_
    have j0:=bF (u / 300) (show (0:Int)<(ks.length:Int) by omega)
    have j1:=mod_lt (u / 300) (show (0:Int)<(ks.length:Int) by omega)
    obtain ⟨j,hj0⟩:∃ j:Nat,u / 300 % (ks.length:Int)=j:=⟨(u / 300 % (ks.length:Int)).toNat,by omega⟩
    rw [hj0] at j0 j1 ⊢
    have jl:j<ks.length:=by omega
    have kd:=bd.ka ks[j] (List.getElem_mem jl)
    refine ⟨S,_,_,_,rfl,rfl,SqL.of bd.gS,eE (show (dZ ks)[j]?=some (V.ref ks[j].t) by unfold dZ;rw [List.getElem?_map,List.getElem?_map,List.getElem?_eq_getElem jl];rfl),?_⟩
    lia
    refine ⟨ks[j].t,_,_,_,rfl,rfl,SqT.of kd.1.tup,(rfl:atI _ 0=_),?_⟩
    lia
    refine ⟨by show 0<=sizeLine;decide,λ lp hlp=>?_⟩
    have bd':=bd.same (ak.upd (o:=.lst []) hlp)
    have gp:(upd HA lp (.lst [])) lp=some (.lst []):=ae
    have pM:=ao bd.gM hlp
    have pS:=ao bd.gS hlp
    have pD:=ao bd.gD hlp
    generalize upd HA lp _=HB at bd' gp ⊢
    lia
    refine ⟨by show 3<=sizeLine;decide,λ t ht=>?_⟩
    have sC:=ak.upd (o:=.tup [V.str ks[j].ti,.str "zyx",.ref lp]) ht
    have gt:(upd HB t (.tup [V.str ks[j].ti,.str "zyx",.ref lp])) t=some (.tup [V.str ks[j].ti,.str "zyx",.ref lp]):=ae
    have bd':=bd'.same sC
    have gp:=sC _ _ gp
    show uM _ (upd HB t (.tup [V.str ks[j].ti,.str "zyx",.ref lp])) _
    generalize upd HB t _=HC at bd' gp gt ⊢
    lia
    have nk:(⟨t,lp,ks[j].ti,"zyx",[],[]⟩:KD).at HC:=⟨gt,gp,.nil⟩
    have nok:(⟨t,lp,ks[j].ti,"zyx",[],[]⟩:KD).ok:=⟨sJ (k:=ks[j]) kd.2,⟨Nat.zero_le _,λ m hm=>(nomatch hm)⟩,kd.2.tl,by show ("zyx":Str).length<=1000;decide +kernel⟩
    refine ⟨S,_,_,rfl,rfl,bd'.gS,by rw [kr];exact Nat.lt_of_le_of_lt kl3 (by decide),?_⟩
    rw [show dZ ks++[V.ref t]=dZ (ks++[⟨t,lp,ks[j].ti,"zyx",[],[]⟩]) by unfold dZ;rw [List.map_append,List.map_append];rfl]
    have bd':=bd'.Fo nk nok pM.symm pS.symm pD.symm
    generalize upd HC S _=HD at bd' ⊢
    lia
    refine ⟨.inl ⟨rfl,_,SqL.of bd'.gD⟩,?_⟩
    lia
    refine ⟨Dl,_,_,rfl,rfl,bd'.gD,by rw [List.length_map];cases b1 <;> cases b2 <;> decide,?_⟩
    rw [show ((ck b1 b2 false).map V.str++[V.str "twice"]:List V)=(ck b1 b2 true).map V.str by cases b1 <;> cases b2 <;> rfl]
    refine hj _ _ ⟨true,_,rfl,bd'.putD (ck b1 b2 true),⟨λ _ nd=>?_,λ _=>rfl⟩,by rw [List.length_append,List.length_singleton];omega⟩
    rw [List.map_append,List.nodup_append] at nd
    exact nd.2.2 ks[j].ti (List.mem_map.mpr ⟨_,List.getElem_mem jl,rfl⟩) ks[j].ti (List.mem_singleton.mpr rfl) rfl
   rintro σ2 H9 ⟨b3,ks,rfl,bd,hb3,k20⟩
   have y0:=bF (m / 4800) (show (0:Int)<5 by decide)
   lia
   refine ⟨L,M,S,Dl,rs,ts,ms,ks,ck b1 b2 b3,B,_,rfl,bd.gL,bd.ra,r10,bd.gM,bd.tm,t20,shm,bd.gS,bd.ka,k20,bd.gD,by cases b1 <;> cases b2 <;> cases b3 <;> decide,zM hb1 hb2 hb3,y0,tb.same bd.s,λ HE sE=>?_⟩
   lia
   exact ⟨_,_,_,_,_,_,_,_,_,_,rfl,bd.s.trans sE⟩
  ·rintro σ H2 ⟨v1,v2,v3,v4,v5,v6,v7,v8,v9,v10,rfl,s2⟩
   lia
   exact k H2 s2
end
abbrev dC (K:PySem.W.Frag) (x:Str) (st:Stmt):Prop:=∃ (f:Addr) (oc kV dc pm cd ct:Value) (od an:Option Addr) (sl:Array (Option Value)),PySem.W.nsIn K mainGlobals x=some (some (.ref f))/\K.lookup f=some ⟨oc,od,.func (PySem.W.fnOf x x (bJ st) (bo st) (ar st) .none kV dc pm an cd ct),sl⟩/\PySem.W.codeIn K cd x=true/\PySem.W.keepIn K (.ref f)=true
abbrev pe (K:PySem.W.Frag) (x:Str) (st:Stmt) (t:Addr):Prop:=∃ (f:Addr) (oc kV dc pm ct:Value) (c:Addr) (od an:Option Addr) (sl:Array (Option Value)),PySem.W.nsIn K mainGlobals x=some (some (.ref f))/\K.lookup f=some ⟨oc,od,.func (PySem.W.fnOf x x (bJ st) (bo st) (ar st) .none kV dc pm an (.ref c) ct),sl⟩/\PySem.W.codeIn K (.ref c) x=true/\PySem.W.keepIn K (.ref f)=true/\PySem.W.tabIn K x=some (c,t)/\PySem.W.codeHdIn K c t=true
theorem dF {K:PySem.W.Frag} {mg:Str->Option Value} {h:Heap} {x:Str} {st:Stmt} {ps:List Str} (X:K.In h) (G:h.Ns mainGlobals mg) (H:dC K x st)
  (b:∀ (kV doc pm:Value) (an:Option Addr) (cdv ct:Value) (us:List Value),us.length=ps.length->bindArgs (PySem.W.fnOf x x (bJ st) (bo st) (ar st) .none kV doc pm an cdv ct) ⟨us,[]⟩=pure (ps.zip us)):Nonempty (Df K mg x x st ps):=by
 obtain ⟨f,oc,kV,doc,pm,cdv,ct,od,an,osl,a,l,c,k⟩:=H
 exact ⟨⟨f,_,cdv,⟨oc,od,kV,doc,pm,an,ct,osl,rfl,l,c⟩,k,PySem.W.mg_of X G a,.all (b _ _ _ _ _ _)⟩⟩
theorem rB {K:PySem.W.Frag} {c t:Addr} (e:PySem.W.codeHdIn K c t=true):cq K (.ref c) t:=⟨c,rfl,λ _ X=>PySem.W.codeHd_of_K X e⟩
theorem qS {K:PySem.W.Frag} {mg:Str->Option Value} {h:Heap} {x:Str} {st:Stmt} {ps:List Str} {t:Addr} (X:K.In h) (G:h.Ns mainGlobals mg) (H:pe K x st t)
  (b:∀ (kV doc pm:Value) (an:Option Addr) (cdv ct:Value) (us:List Value),us.length=ps.length->bindArgs (PySem.W.fnOf x x (bJ st) (bo st) (ar st) .none kV doc pm an cdv ct) ⟨us,[]⟩=pure (ps.zip us)):∃ D:Df K mg x x st ps,cq K D.cdv t:=by
 obtain ⟨f,oc,kV,doc,pm,ct,cc,od,an,osl,a,l,c,k,_,d⟩:=H
 exact ⟨⟨f,_,.ref cc,⟨oc,od,kV,doc,pm,an,ct,osl,rfl,l,c⟩,k,PySem.W.mg_of X G a,.all (b _ _ _ _ _ _)⟩,rB d⟩
theorem xg {K:PySem.W.Frag} {p:Addr} {r:Array Value} {n:Nat} {od:Option Addr} {sl:Array (Option Value)} {xs:List V} (l:K.lookup p=some ⟨.type "tuple",od,.seq r n,sl⟩) (hs:xs.length<=sizeLine) (v:Vals xs r.toList) (H:Hp):SqT K H p xs:=
 .inr ⟨_,r,_,l,rfl,rfl,by rw [<- Array.length_toList,<- v.length];exact hs,v⟩
theorem zc {K:PySem.W.Frag} {dT:Addr} {odT anI:Option Addr} {nT:Nat} {slT:Array (Option Value)} {kV doc pm cdv ct:Value} (lk:K.lookup dT=some ⟨.type "tuple",odT,.seq #[.none,.none] nT,slT⟩):
  Binds K (PySem.W.fnOf "__init__" "Tongue.__init__" (bJ sTI) (bo sTI) (ar sTI) (.ref dT) kV doc pm anI cdv ct) pTI []:=λ s us X hl=>by
 rw [List.append_nil] at hl ⊢
 match us,hl with
 | [u0,u1,u2,u3,u4],_=>exact BindsTo.of_defaults rfl (X _ _ lk) rfl rfl rfl
theorem xo {K:PySem.W.Frag} {dT:Addr} {odT anI:Option Addr} {nT:Nat} {slT:Array (Option Value)} {kV doc pm cdv ct:Value} (lk:K.lookup dT=some ⟨.type "tuple",odT,.seq #[.none,.none] nT,slT⟩):
  Binds K (PySem.W.fnOf "__init__" "Tongue.__init__" (bJ sTI) (bo sTI) (ar sTI) (.ref dT) kV doc pm anI cdv ct) pTI [.none]:=λ s us X hl=>by
 have hl4:us.length=4:=by rw [List.length_append] at hl;exact Nat.succ.inj hl
 clear hl
 match us,hl4 with
 | [u0,u1,u2,u3],_=>exact BindsTo.of_defaults rfl (X _ _ lk) rfl rfl rfl
theorem xU {K:PySem.W.Frag} {dT:Addr} {odT anI:Option Addr} {nT:Nat} {slT:Array (Option Value)} {kV doc pm cdv ct:Value} (lk:K.lookup dT=some ⟨.type "tuple",odT,.seq #[.none,.none] nT,slT⟩):
  Binds K (PySem.W.fnOf "__init__" "Tongue.__init__" (bJ sTI) (bo sTI) (ar sTI) (.ref dT) kV doc pm anI cdv ct) pTI [.none,.none]:=λ s us X hl=>by
 have hl4:us.length=3:=by rw [List.length_append] at hl;exact Nat.add_right_cancel (m:=2) hl
 clear hl
 match us,hl4 with
 | [u0,u1,u2],_=>exact BindsTo.of_defaults rfl (X _ _ lk) rfl rfl rfl
theorem all_mk {P:Program} {w:World} {K:PySem.W.Frag} {h:Heap} {mg:Str->Option Value} {fa:Addr} (X:K.In h) (G:h.Ns mainGlobals mg) (hfa:mg "law"=some (.ref fa))
  {tT tM:Tok}
  {eh:Addr}
  {bG:Addr}
  {dG:Addr}
  {cm:Addr}
  {cZ:Addr}
  {a8:Addr}
  {bw:Addr}
  {bD:Addr}
  {fF:Addr}
  {cp:Addr}
  {eS:Addr}
  {eO:Addr}
  {jb:Addr}
  {fU:Addr}
  {i8:Addr}
  {iX:Addr}
  {gf:Addr}
  {qv:Addr} {xm:Array Value} {Bu:Nat} {zg:Option Addr} {zH:Array (Option Value)} {Ae tSIGNSN tSIGNSW tSIGNSU tSIGNSR tSIGNSK:Tok}
  {eF:Addr} {kH:Array Value} {pX:Nat} {oC:Option Addr} {oN:Array (Option Value)} {oJ tTIMES_SIGNSN tTIMES_SIGNSW tTIMES_SIGNSU:Tok}
  {fC:Addr} {l6:Array Value} {rP:Nat} {pP:Option Addr} {qz:Array (Option Value)} {qd tREST_SIGNSK:Tok}
  {fTw dTw cdaTw ccTw:Addr} {ES dcTw pmTw ctTw cclTw clTw dvTw:Value} {Et odTw odtTw cddTw cldTw:Option Addr} {nTw:Nat} {Bf slTw ccsTw cslTw:Array (Option Value)} {Bt:Array Value} {ur:Str} {Eg:Tok}
  {t21:Addr}
  {t25:Addr}
  {t27:Addr}
  {t29:Addr}
  {t39:Addr}
  {f60:Addr} {EO an60:Option Addr} {DT:Array (Option Value)} {EU kV60 dc60 pm60 ct60:Value}{BO:Value}
  {fR:Addr} {odR anR:Option Addr} {slR:Array (Option Value)} {ocR kVR dcR pmR ctR:Value}{cdR:Value}
  {fJ:Addr} {odJ anJ:Option Addr} {slJ:Array (Option Value)} {ocJ kVJ dcJ pmJ ctJ:Value}{cdJ:Value}
  {dT:Addr} {odT:Option Addr} {rT:Array Value} {nT:Nat} {slT:Array (Option Value)}
  {fI:Addr} {odI anI:Option Addr} {slI:Array (Option Value)} {ocI kVI dcI pmI ctI:Value}{ccI:Addr} {tI:Addr}
  (cg:PySem.W.nsIn K mainGlobals "len"=some none)
  (aO:PySem.W.nsIn K mainGlobals "isinstance"=some none)
  (oU:PySem.W.nsIn K mainGlobals "str"=some none)
  (n8:PySem.W.nsIn K mainGlobals "int"=some none)
  (cj:PySem.W.nsIn K mainGlobals "list"=some none)
  (gC:PySem.W.nsIn K mainGlobals "tuple"=some none)
  (jV:PySem.W.nsIn K mainGlobals "all"=some none)
  (kE:PySem.W.nsIn K mainGlobals "any"=some none)
  (dh:PySem.W.nsIn K mainGlobals "range"=some none)
  (oz:PySem.W.nsIn K mainGlobals "zip"=some none)
  (pj:PySem.W.nsIn K mainGlobals "max"=some none)
  (pz:PySem.W.nsIn K mainGlobals "min"=some none)
  (iO:PySem.W.nsIn K mainGlobals "divmod"=some none)
  (bW:PySem.W.nsIn K mainGlobals "enumerate"=some none)
  (fh:PySem.W.nsIn K mainGlobals "reversed"=some none)
  (rR:PySem.W.nsIn K mainGlobals "sum"=some none)
  (oS:PySem.W.nsIn K mainGlobals "set"=some none)
  (eY:PySem.W.nsIn K mainGlobals "sorted"=some none)
  (nv:PySem.W.nsIn K mainGlobals "dict"=some none)
  (uC:PySem.W.nsIn K mainGlobals "bool"=some none)
  (gR:PySem.W.nsIn K mainGlobals "ValueError"=some none)
  (qM:PySem.W.nsIn K mainGlobals "super"=some none)
  (BG:PySem.W.nsIn K mainGlobals "TIE"=some (some (.str "+" tT)))
  (yI:PySem.W.nsIn K mainGlobals "MOST_PIECES"=some (some (.int 8 tM)))
  (kZ:PySem.W.nsIn K mainGlobals "Rule"=some (some (.ref eh)))
  (bU:PySem.W.nsIn K mainGlobals "Tongue"=some (some (.ref bG)))
  (dJ:PySem.W.nsIn K mainGlobals "SayError"=some (some (.ref dG)))
  (a5:PySem.W.nsIn K mainGlobals "BadRule"=some (some (.ref cm)))
  (cA:PySem.W.nsIn K mainGlobals "NotCovered"=some (some (.ref cZ)))
  (cW:PySem.W.nsIn K mainGlobals "BadBound"=some (some (.ref a8)))
  (dO:PySem.W.nsIn K mainGlobals "BadMelt"=some (some (.ref bw)))
  (hU:PySem.W.nsIn K mainGlobals "Twice"=some (some (.ref bD)))
  (kY:PySem.W.nsIn K mainGlobals "Kind"=some (some (.ref fF)))
  (cC:PySem.W.nsIn K mainGlobals "BadKind"=some (some (.ref cp)))
  (dR:PySem.W.nsIn K mainGlobals "BadPairs"=some (some (.ref eS)))
  (dP:PySem.W.nsIn K mainGlobals "BadParts"=some (some (.ref eO)))
  (fY:PySem.W.nsIn K mainGlobals "BadRow"=some (some (.ref jb)))
  (eQ:PySem.W.nsIn K mainGlobals "BadText"=some (some (.ref fU)))
  (f9:PySem.W.nsIn K mainGlobals "NoKind"=some (some (.ref i8)))
  (gd:PySem.W.nsIn K mainGlobals "NoName"=some (some (.ref iX)))
  (eU:PySem.W.nsIn K mainGlobals "Unclear"=some (some (.ref gf)))
  (gU:PySem.W.nsIn K mainGlobals "SIGNS"=some (some (.ref qv)))
  (pZ:K.lookup qv=some ⟨.type "tuple",zg,.seq xm Bu,zH⟩)
  (qC:xm.toList=[.str "Q" Ae,.str "N" tSIGNSN,.str "W" tSIGNSW,.str "U" tSIGNSU,.str "R" tSIGNSR,.str "K" tSIGNSK])
  (b8:PySem.W.nsIn K mainGlobals "TIMES_SIGNS"=some (some (.ref eF)))
  (fO:K.lookup eF=some ⟨.type "tuple",oC,.seq kH pX,oN⟩)
  (fQ:kH.toList=[.str "Q" oJ,.str "N" tTIMES_SIGNSN,.str "W" tTIMES_SIGNSW,.str "U" tTIMES_SIGNSU])
  (cy:PySem.W.nsIn K mainGlobals "REST_SIGNS"=some (some (.ref fC)))
  (gv:K.lookup fC=some ⟨.type "tuple",pP,.seq l6 rP,qz⟩)
  (gX:l6.toList=[.str "R" qd,.str "K" tREST_SIGNSK])
  (gs:PySem.W.specialIn K (.builtin "object.__class__") "__get__"=some (some (.builtin "getset_descriptor.__get__")))
  (tk:PySem.W.takesIn K (.builtin "object.__class__")=some true)
  (xs:PySem.W.excIn K dG [.type "ValueError",.type "Exception",.type "BaseException",.type "object"] "ValueError.__new__"=true)
  (lL:PySem.W.excIn K cm [.type "ValueError",.type "Exception",.type "BaseException",.type "object"] "ValueError.__new__"=true)
  (kU:PySem.W.findIn K (.ref cm) "__getattribute__"=some (some (.builtin "BaseException.__getattribute__")))
  (lG:PySem.W.findIn K (.ref cm) "__getattr__"=some none)
  (kQ:PySem.W.findIn K (.ref cm) "__class__"=some (some (.builtin "object.__class__")))
  (kP:PySem.W.mroIn K cm (.type "object")=some true)
  (kX:PySem.W.excIn K cp [.type "ValueError",.type "Exception",.type "BaseException",.type "object"] "ValueError.__new__"=true)
  (lj:PySem.W.findIn K (.ref cp) "__getattribute__"=some (some (.builtin "BaseException.__getattribute__")))
  (kW:PySem.W.findIn K (.ref cp) "__getattr__"=some none)
  (lK:PySem.W.findIn K (.ref cp) "__class__"=some (some (.builtin "object.__class__")))
  (kN:PySem.W.mroIn K cp (.type "object")=some true)
  (ie:PySem.W.excIn K a8 [.type "ValueError",.type "Exception",.type "BaseException",.type "object"] "ValueError.__new__"=true)
  (ia:PySem.W.findIn K (.ref a8) "__getattribute__"=some (some (.builtin "BaseException.__getattribute__")))
  (gy:PySem.W.findIn K (.ref a8) "__getattr__"=some none)
  (gz:PySem.W.findIn K (.ref a8) "__class__"=some (some (.builtin "object.__class__")))
  (gK:PySem.W.mroIn K a8 (.type "object")=some true)
  (iY:PySem.W.excIn K bw [.type "ValueError",.type "Exception",.type "BaseException",.type "object"] "ValueError.__new__"=true)
  (i3:PySem.W.findIn K (.ref bw) "__getattribute__"=some (some (.builtin "BaseException.__getattribute__")))
  (iV:PySem.W.findIn K (.ref bw) "__getattr__"=some none)
  (i7:PySem.W.findIn K (.ref bw) "__class__"=some (some (.builtin "object.__class__")))
  (i6:PySem.W.mroIn K bw (.type "object")=some true)
  (qr:PySem.W.findIn K (.ref bD) "__getattribute__"=some (some (.builtin "BaseException.__getattribute__")))
  (pV:PySem.W.findIn K (.ref bD) "__getattr__"=some none)
  (pT:PySem.W.findIn K (.ref bD) "__class__"=some (some (.builtin "object.__class__")))
  (qB:PySem.W.mroIn K bD (.type "object")=some true)
  (iN:PySem.W.kitOne K (.ref a8) (.type "ValueError")=some true)
  (iD:j9 K a8 dG=true)
  (jr:PySem.W.kitAny K (.ref a8) [.ref cp,.ref eS,.ref eO,.ref jb,.ref cm,.ref fU,.ref i8,.ref iX,.ref cZ,.ref gf]=some false)
  (jt:PySem.W.kitOne K (.ref a8) (.ref a8)=some true)
  (jD:PySem.W.kitOne K (.ref a8) (.ref bw)=some false)
  (jJ:PySem.W.kitOne K (.ref a8) (.ref bD)=some false)
  (jG:PySem.W.kitOne K (.ref bw) (.type "ValueError")=some true)
  (js:j9 K bw dG=true)
  (lH:PySem.W.kitAny K (.ref bw) [.ref cp,.ref eS,.ref eO,.ref jb,.ref cm,.ref fU,.ref i8,.ref iX,.ref cZ,.ref gf]=some false)
  (lA:PySem.W.kitOne K (.ref bw) (.ref a8)=some false)
  (kT:PySem.W.kitOne K (.ref bw) (.ref bw)=some true)
  (lu:PySem.W.kitOne K (.ref bw) (.ref bD)=some false)
  (mJ:PySem.W.kitOne K (.ref bD) (.type "ValueError")=some true)
  (nL:j9 K bD dG=true)
  (noTwice:PySem.W.kitAny K (.ref bD) [.ref cp,.ref eS,.ref eO,.ref jb,.ref cm,.ref fU,.ref i8,.ref iX,.ref cZ,.ref gf]=some false)
  (qo:PySem.W.kitOne K (.ref bD) (.ref a8)=some false)
  (qF:PySem.W.kitOne K (.ref bD) (.ref bw)=some false)
  (p9:PySem.W.kitOne K (.ref bD) (.ref bD)=some true)
  (qc:L2.mj K bD [.type "ValueError",.type "Exception",.type "BaseException",.type "object"] "ValueError.__new__"=true)
  (twi:PySem.W.findIn K (.ref bD) "__init__"=some (some (.ref fTw)))
  (tw1:vd K bD fTw=true)
  (tw2:K.lookup fTw=some ⟨.type "function",odTw,.func (Ak dTw ES dcTw pmTw Et cdaTw ctTw ccTw),slTw⟩)
  (tw3:PySem.W.codeIn K (.ref cdaTw) "Twice.__init__"=true)
  (tw4:K.lookup dTw=some ⟨.type "tuple",odtTw,.seq #[dvTw] nTw,Bf⟩)
  (tw5:K.lookup cdaTw=some ⟨cclTw,cddTw,.fields Bt,ccsTw⟩)
  (tw6:Bt[2]?=some (.str ur Eg))
  (tw7:((P.main.file:Str)==ur)=true)
  (tw8:K.lookup ccTw=some ⟨clTw,cldTw,.cell (some (.ref bD)),cslTw⟩)
  (tw9:PySem.W.mroIn K bD (.ref bD)=some true)
  (tw10:PySem.W.ks_superIn K bD bD "__init__"=some (some (.builtin "ValueError.__init__")))
  (tw11:PySem.W.nsIn K cStatics "thirdparty.any"=some none)
  (tw12:(P.main.scope.names.lookup ("super":Str)).isSome=false)
  (kcT:PySem.W.kitOne K (.ref bG) (.ref bG)=some true)
  (rcT:PySem.W.findIn K (.ref bG) "__class__"=some (some (.builtin "object.__class__")))
  (rmT:PySem.W.mroIn K bG (.type "object")=some true)
  (k1:PySem.W.kitOne K (.type "tuple") (.type "tuple")=some true)
  (k2:PySem.W.kitOne K (.type "str") (.type "str")=some true)
  (k3:PySem.W.kitOne K (.type "list") (.type "list")=some true)
  (k4:PySem.W.kitOne K (.type "int") (.type "int")=some true)
  (k5:PySem.W.kitOne K (.type "int") (.type "bool")=some false)
  (k6:PySem.W.kitOne K (.type "bool") (.type "bool")=some true)
  (uH:PySem.W.plainGet K eh Str.empty=true)
  (ue:PySem.W.hasDictIn K eh=true)
  (sQ:PySem.W.plainOver K eh=true)
  (sP:PySem.W.findIn K (.ref eh) "__setattr__"=some (some (.builtin "object.__setattr__")))
  (iu:PySem.W.findIn K (.ref eh) "low"=some none)
  (fe:PySem.W.findIn K (.ref eh) "high"=some none)
  (dq:PySem.W.findIn K (.ref eh) "base"=some none)
  (dk:PySem.W.findIn K (.ref eh) "first"=some none)
  (fg:PySem.W.findIn K (.ref eh) "last"=some none)
  (cL:PySem.W.findIn K (.ref eh) "pieces"=some none)
  (ua:PySem.W.makesIn K eh=true)
  (uo:PySem.W.keepIn K (.ref eh)=true)
  (ng:PySem.W.plainGet K bG Str.empty=true)
  (nV:PySem.W.hasDictIn K bG=true)
  (mX:PySem.W.plainOver K bG=true)
  (mW:PySem.W.findIn K (.ref bG) "__setattr__"=some (some (.builtin "object.__setattr__")))
  (fw:PySem.W.findIn K (.ref bG) "bound"=some none)
  (dX:PySem.W.findIn K (.ref bG) "rules"=some none)
  (eL:PySem.W.findIn K (.ref bG) "melts"=some none)
  (eD:PySem.W.findIn K (.ref bG) "kinds"=some none)
  (mU:PySem.W.makesIn K bG=true)
  (mP:PySem.W.keepIn K (.ref bG)=true)
  (um:PySem.W.plainGet K fF Str.empty=true)
  (tS:PySem.W.hasDictIn K fF=true)
  (uP:PySem.W.plainOver K fF=true)
  (uq:PySem.W.findIn K (.ref fF) "__setattr__"=some (some (.builtin "object.__setattr__")))
  (dW:PySem.W.findIn K (.ref fF) "title"=some none)
  (eZ:PySem.W.findIn K (.ref fF) "ending"=some none)
  (fA:PySem.W.findIn K (.ref fF) "turns"=some none)
  (tX:PySem.W.makesIn K fF=true)
  (sS:PySem.W.keepIn K (.ref fF)=true)
  (h21:pe K "small_letters" (top 21) t21)
  (h22:dC K "is_word" (top 22))
  (h24:dC K "check_numbers" (top 24))
  (h25:pe K "check_pieces" (top 25) t25)
  (h26:dC K "is_piece" (top 26))
  (h27:pe K "ties_fit" (top 27) t27)
  (h28:dC K "check_telling" (top 28))
  (h29:pe K "has_any" (top 29) t29)
  (h30:dC K "covers" (top 30))
  (h33:dC K "own_list" (top 33))
  (h34:dC K "is_melt" (top 34))
  (h35:dC K "check_titles" (top 35))
  (h36:dC K "rule_for" (top 36))
  (h37:dC K "words_of" (top 37))
  (h39:pe K "are_word_pairs" (top 39) t39)
  (h40:dC K "is_word_pair" (top 40))
  (h44:dC K "_law_cells" (top 44))
  (h45:dC K "_law_mix" (top 45))
  (h46:dC K "_law_whole" (top 46))
  (h47:dC K "_law_word" (top 47))
  (h48:dC K "_law_rule" (top 48))
  (h49:dC K "_law_rules" (top 49))
  (h50:dC K "_law_place" (top 50))
  (h51:dC K "_law_letters" (top 51))
  (h52:dC K "_law_melt" (top 52))
  (h53:dC K "_law_bad_melt" (top 53))
  (h54:dC K "_law_kinds" (top 54))
  (h55:dC K "_law_told" (top 55))
  (h56:dC K "_law_refusal" (top 56))
  (h57:dC K "_law_fields" (top 57))
  (h58:dC K "_law_asked" (top 58))
  (h59:dC K "_law_right" (top 59))
  (a60:PySem.W.nsIn K mainGlobals "law"=some (some (.ref f60)))
  (l60:K.lookup f60=some ⟨EU,EO,.func (PySem.W.fnOf "law" "law" (bJ (top 60)) (bo (top 60)) (ar (top 60)) .none kV60 dc60 pm60 an60 BO ct60),DT⟩)
  (c60:PySem.W.codeIn K BO "law"=true)
  (Bv:PySem.W.keepIn K (.ref f60)=true)
  (aR:PySem.W.findIn K (.ref eh) "__init__"=some (some (.ref fR)))
  (lR:K.lookup fR=some ⟨ocR,odR,.func (PySem.W.fnOf "__init__" "Rule.__init__" (bJ sk) (bo sk) (ar sk) .none kVR dcR pmR anR cdR ctR),slR⟩)
  (cR:PySem.W.codeIn K cdR "Rule.__init__"=true)
  (kR_:PySem.W.keepIn K (.ref fR)=true)
  (iR:PySem.W.isFn K (.ref fR)=true)
  (aJ:PySem.W.findIn K (.ref fF) "__init__"=some (some (.ref fJ)))
  (lJ:K.lookup fJ=some ⟨ocJ,odJ,.func (PySem.W.fnOf "__init__" "Kind.__init__" (bJ sKI) (bo sKI) (ar sKI) .none kVJ dcJ pmJ anJ cdJ ctJ),slJ⟩)
  (cJ:PySem.W.codeIn K cdJ "Kind.__init__"=true)
  (kJ_:PySem.W.keepIn K (.ref fJ)=true)
  (iJ:PySem.W.isFn K (.ref fJ)=true)
  (aI:PySem.W.findIn K (.ref bG) "__init__"=some (some (.ref fI)))
  (lI:K.lookup fI=some ⟨ocI,odI,.func (PySem.W.fnOf "__init__" "Tongue.__init__" (bJ sTI) (bo sTI) (ar sTI) (.ref dT) kVI dcI pmI anI (.ref ccI) ctI),slI⟩)
  (cI:PySem.W.codeIn K (.ref ccI) "Tongue.__init__"=true)
  (kI_:PySem.W.keepIn K (.ref fI)=true)
  (dI:PySem.W.codeHdIn K ccI tI=true)
  (lT:K.lookup dT=some ⟨.type "tuple",odT,.seq rT nT,slT⟩)
  (vT:rT=#[Value.none,Value.none])
  (iI:PySem.W.isFn K (.ref fI)=true):
  ∃ fd:FuncData,(∀ (s:Shared) (v:Value),BindsTo s fd ⟨[v],[]⟩ [("_law_script",v)])/\∀ base:Heap,K.In base->base.Ns mainGlobals mg->jK base ->
   c9 P w K mg base CX0 13 fa fd ["_law_script"] (vv K ⟨eh,bG,dG,cm,cZ,a8,bw,bD,fF,cp,eS,eO,jb,fU,i8,iX,gf,qv,eF,fC,t21,t25,t27,t29,tI,t39⟩):=by
 have e:=hfa.symm.trans (PySem.W.mg_of X G a60)
 cases e
 generalize hA:(⟨eh,bG,dG,cm,cZ,a8,bw,bD,fF,cp,eS,eO,jb,fU,i8,iX,gf,qv,eF,fC,t21,t25,t27,t29,tI,t39⟩:Ad)=A
 have T:Txt K mg A:=by
  subst hA
  exact {
   cg:=PySem.W.mg_none_of X G cg
   aO:=PySem.W.mg_none_of X G aO
   oU:=PySem.W.mg_none_of X G oU
   n8:=PySem.W.mg_none_of X G n8
   cj:=PySem.W.mg_none_of X G cj
   gC:=PySem.W.mg_none_of X G gC
   jV:=PySem.W.mg_none_of X G jV
   kE:=PySem.W.mg_none_of X G kE
   dh:=PySem.W.mg_none_of X G dh
   oz:=PySem.W.mg_none_of X G oz
   pj:=PySem.W.mg_none_of X G pj
   pz:=PySem.W.mg_none_of X G pz
   iO:=PySem.W.mg_none_of X G iO
   bW:=PySem.W.mg_none_of X G bW
   fh:=PySem.W.mg_none_of X G fh
   rR:=PySem.W.mg_none_of X G rR
   oS:=PySem.W.mg_none_of X G oS
   eY:=PySem.W.mg_none_of X G eY
   nv:=PySem.W.mg_none_of X G nv
   uw:=⟨_,PySem.W.mg_of X G BG⟩
   uU:=⟨_,PySem.W.mg_of X G yI⟩
   gU:=PySem.W.mg_of X G gU
   b8:=PySem.W.mg_of X G b8
   cy:=PySem.W.mg_of X G cy
   mI:=xg pZ (by decide) (by rw [qC];exact .cons ⟨_,rfl⟩ (.cons ⟨_,rfl⟩ (.cons ⟨_,rfl⟩ (.cons ⟨_,rfl⟩ (.cons ⟨_,rfl⟩ (.cons ⟨_,rfl⟩ (.nil)))))))
   qQ:=xg fO (by decide) (by rw [fQ];exact .cons ⟨_,rfl⟩ (.cons ⟨_,rfl⟩ (.cons ⟨_,rfl⟩ (.cons ⟨_,rfl⟩ (.nil)))))
   x8:=xg gv (by decide) (by rw [gX];exact .cons ⟨_,rfl⟩ (.cons ⟨_,rfl⟩ (.nil)))
   kZ:=PySem.W.mg_of X G kZ
   bU:=PySem.W.mg_of X G bU
   dJ:=PySem.W.mg_of X G dJ
   a5:=PySem.W.mg_of X G a5
   cA:=PySem.W.mg_of X G cA
   cW:=PySem.W.mg_of X G cW
   dO:=PySem.W.mg_of X G dO
   hU:=PySem.W.mg_of X G hU
   kY:=PySem.W.mg_of X G kY
   cC:=PySem.W.mg_of X G cC
   dR:=PySem.W.mg_of X G dR
   dP:=PySem.W.mg_of X G dP
   fY:=PySem.W.mg_of X G fY
   eQ:=PySem.W.mg_of X G eQ
   f9:=PySem.W.mg_of X G f9
   gd:=PySem.W.mg_of X G gd
   eU:=PySem.W.mg_of X G eU
   bA:=⟨lL,kU,lG,kQ,gs,tk,kP⟩
   iZ:=⟨kX,lj,kW,lK,gs,tk,kN⟩
   mT:=⟨ie,ia,gy,gz,gs,tk,gK⟩
   dM:=⟨L2.oM.w ⟨ie,ia,gy,gz,gs,tk,gK⟩,iN,iD,jr,jt,jD,jJ⟩
   pH:=⟨iY,i3,iV,i7,gs,tk,i6⟩
   i5:=⟨L2.oM.w ⟨iY,i3,iV,i7,gs,tk,i6⟩,jG,js,lH,lA,kT,lu⟩
   mx:=⟨⟨qc,qr,pV,pT,gs,tk,qB⟩,mJ,nL,noTwice,qo,qF,p9⟩
   Fu:=k6
   DA:=kcT
   nj:=xs
   wZ:=k1
   AB:=k2
   uQ:=k3
   EK:=k4
   EH:=k5
   clR:=⟨uH,ue,sQ,sP⟩
   cl:=⟨ng,nV,mX,mW⟩
   clK:=⟨um,tS,uP,uq⟩
   iu:=iu
   fe:=fe
   dq:=dq
   dk:=dk
   fg:=fg
   cL:=cL
   fw:=fw
   dX:=dX
   eL:=eL
   eD:=eD
   dW:=dW
   eZ:=eZ
   fA:=fA }
 obtain ⟨D21,cK21⟩:∃ D:nR K mg,cq K D.cdv t21:=qS X G h21 (λ _ _ _ _ _ _ us hl=>match us,hl with | [_,_,_],_=>rfl)
 obtain ⟨D22⟩:Nonempty (mL K mg):=dF X G h22 (λ _ _ _ _ _ _ us hl=>match us,hl with | [_],_=>rfl)
 obtain ⟨D24⟩:Nonempty (yG K mg):=dF X G h24 (λ _ _ _ _ _ _ us hl=>match us,hl with | [_],_=>rfl)
 obtain ⟨D25,cK25⟩:∃ D:qH K mg,cq K D.cdv t25:=qS X G h25 (λ _ _ _ _ _ _ us hl=>match us,hl with | [_],_=>rfl)
 obtain ⟨D26⟩:Nonempty (uA K mg):=dF X G h26 (λ _ _ _ _ _ _ us hl=>match us,hl with | [_],_=>rfl)
 obtain ⟨D27,cK27⟩:∃ D:xZ K mg,cq K D.cdv t27:=qS X G h27 (λ _ _ _ _ _ _ us hl=>match us,hl with | [_],_=>rfl)
 obtain ⟨D28⟩:Nonempty (yf K mg):=dF X G h28 (λ _ _ _ _ _ _ us hl=>match us,hl with | [_],_=>rfl)
 obtain ⟨D29,cK29⟩:∃ D:Dd K mg,cq K D.cdv t29:=qS X G h29 (λ _ _ _ _ _ _ us hl=>match us,hl with | [_,_],_=>rfl)
 obtain ⟨D30⟩:Nonempty (Dm K mg):=dF X G h30 (λ _ _ _ _ _ _ us hl=>match us,hl with | [_,_],_=>rfl)
 obtain ⟨D33⟩:Nonempty (Bz K mg):=dF X G h33 (λ _ _ _ _ _ _ us hl=>match us,hl with | [_],_=>rfl)
 obtain ⟨D34⟩:Nonempty (yn K mg):=dF X G h34 (λ _ _ _ _ _ _ us hl=>match us,hl with | [_],_=>rfl)
 obtain ⟨D35⟩:Nonempty (BF K mg):=dF X G h35 (λ _ _ _ _ _ _ us hl=>match us,hl with | [_],_=>rfl)
 obtain ⟨D36⟩:Nonempty (DRF K mg):=dF X G h36 (λ _ _ _ _ _ _ us hl=>match us,hl with | [_,_],_=>rfl)
 obtain ⟨D37⟩:Nonempty (DWo K mg):=dF X G h37 (λ _ _ _ _ _ _ us hl=>match us,hl with | [_],_=>rfl)
 obtain ⟨D39,cK39⟩:∃ D:Cf K mg,cq K D.cdv t39:=qS X G h39 (λ _ _ _ _ _ _ us hl=>match us,hl with | [_],_=>rfl)
 obtain ⟨D40⟩:Nonempty (BZ K mg):=dF X G h40 (λ _ _ _ _ _ _ us hl=>match us,hl with | [_],_=>rfl)
 obtain ⟨D44⟩:Nonempty (tD K mg):=dF X G h44 (λ _ _ _ _ _ _ us hl=>match us,hl with | [_,_,_],_=>rfl)
 obtain ⟨D45⟩:Nonempty (xD K mg):=dF X G h45 (λ _ _ _ _ _ _ us hl=>match us,hl with | [_,_],_=>rfl)
 obtain ⟨D46⟩:Nonempty (DWh K mg):=dF X G h46 (λ _ _ _ _ _ _ us hl=>match us,hl with | [_],_=>rfl)
 obtain ⟨D47⟩:Nonempty (DLW K mg):=dF X G h47 (λ _ _ _ _ _ _ us hl=>match us,hl with | [_,_],_=>rfl)
 obtain ⟨D48⟩:Nonempty (DRu K mg):=dF X G h48 (λ _ _ _ _ _ _ us hl=>match us,hl with | [_,_,_,_],_=>rfl)
 obtain ⟨D49⟩:Nonempty (DRs K mg):=dF X G h49 (λ _ _ _ _ _ _ us hl=>match us,hl with | [_,_,_],_=>rfl)
 obtain ⟨D50⟩:Nonempty (DPl K mg):=dF X G h50 (λ _ _ _ _ _ _ us hl=>match us,hl with | [_,_,_],_=>rfl)
 obtain ⟨D51⟩:Nonempty (DLe K mg):=dF X G h51 (λ _ _ _ _ _ _ us hl=>match us,hl with | [_,_],_=>rfl)
 obtain ⟨D52⟩:Nonempty (DMl K mg):=dF X G h52 (λ _ _ _ _ _ _ us hl=>match us,hl with | [_],_=>rfl)
 obtain ⟨D53⟩:Nonempty (DBm K mg):=dF X G h53 (λ _ _ _ _ _ _ us hl=>match us,hl with | [_],_=>rfl)
 obtain ⟨D54⟩:Nonempty (DKs K mg):=dF X G h54 (λ _ _ _ _ _ _ us hl=>match us,hl with | [_,_],_=>rfl)
 obtain ⟨D55⟩:Nonempty (DTd K mg):=dF X G h55 (λ _ _ _ _ _ _ us hl=>match us,hl with | [_,_,_,_,_],_=>rfl)
 obtain ⟨D56⟩:Nonempty (DRf K mg):=dF X G h56 (λ _ _ _ _ _ _ us hl=>match us,hl with | [_],_=>rfl)
 obtain ⟨D57⟩:Nonempty (DFl K mg):=dF X G h57 (λ _ _ _ _ _ _ us hl=>match us,hl with | [_],_=>rfl)
 obtain ⟨D58⟩:Nonempty (DAs K mg):=dF X G h58 (λ _ _ _ _ _ _ us hl=>match us,hl with | [_,_,_],_=>rfl)
 obtain ⟨D59⟩:Nonempty (DRi K mg):=dF X G h59 (λ _ _ _ _ _ _ us hl=>match us,hl with | [_,_,_,_,_,_],_=>rfl)
 let D60:EW K mg:=⟨_,_,BO,⟨EU,EO,kV60,dc60,pm60,an60,ct60,DT,rfl,l60,c60⟩,Bv,PySem.W.mg_of X G a60,.all (λ us hl=>match us,hl with | [_],_=>rfl)⟩
 let DI:x9 K:=⟨fI,_,.ref ccI,⟨ocI,odI,.ref dT,kVI,dcI,pmI,anI,ctI,slI,rfl,lI,cI⟩,kI_⟩
 let DJ:DKI K:=⟨fJ,_,cdJ,⟨ocJ,odJ,kVJ,dcJ,pmJ,anJ,ctJ,slJ,rfl,lJ,cJ⟩,kJ_,.all (λ us hl=>match us,hl with | [_,_,_,_],_=>rfl)⟩
 let DR:xk K:=⟨fR,_,cdR,⟨ocR,odR,kVR,dcR,pmR,anR,ctR,slR,rfl,lR,cR⟩,kR_,.all (λ us hl=>match us,hl with | [_,_,_,_,_,_,_],_=>rfl)⟩
 refine ⟨D60.fd,λ s v=>.of_eq rfl,λ base _ _ hB=>?_⟩
 have e1:A.tSL=t21:=by rw [<- hA]
 have ctSL_:cq K D21.cdv A.tSL:=by rw [e1];exact cK21
 have e2:A.tCP=t25:=by rw [<- hA]
 have ctCP_:cq K D25.cdv A.tCP:=by rw [e2];exact cK25
 have e3:A.tTF=t27:=by rw [<- hA]
 have ctTF_:cq K D27.cdv A.tTF:=by rw [e3];exact cK27
 have e4:A.tHA=t29:=by rw [<- hA]
 have ctHA_:cq K D29.cdv A.tHA:=by rw [e4];exact cK29
 have e5:A.tTI=tI:=by rw [<- hA]
 have ctTI_:cq K DI.cdv A.tTI:=by rw [e5];exact rB dI
 have e6:A.tWP=t39:=by rw [<- hA]
 have ctWP_:cq K D39.cdv A.tWP:=by rw [e6];exact cK39
 have eR:A.fv=eh:=by rw [<- hA]
 have eT:A.ba=bG:=by rw [<- hA]
 have eK:A.Kind=fF:=by rw [<- hA]
 have MR:Mk K A.fv DR.f:=by rw [eR];exact ⟨ua,aR,iR,uo⟩
 have MT:Mk K A.ba DI.f:=by rw [eT];exact ⟨mU,aI,iI,mP⟩
 have MK:Mk K A.Kind DJ.f:=by rw [eK];exact ⟨tX,aJ,iJ,sS⟩
 have bd:Binds K DI.fd pTI []:=by subst vT;exact zc lT
 have eTw:A.jo=bD:=by rw [<- hA]
 have TWC:TwC P K mg A.jo:=by rw [eTw];exact ⟨⟨fTw,dTw,cdaTw,ccTw,ES,dcTw,pmTw,ctTw,cclTw,clTw,dvTw,Et,odTw,odtTw,cddTw,cldTw,nTw,Bf,slTw,ccsTw,cslTw,Bt,ur,Eg,tw1,tw2,tw3,tw4,tw5,tw6,tw7,tw8⟩,tw9,tw10,tw11,tw12,PySem.W.mg_none_of X G qM⟩
 have bd1:Binds K DI.fd pTI [.none]:=by subst vT;exact xo lT
 have bd2:Binds K DI.fd pTI [.none,.none]:=by subst vT;exact xU lT
 have kb1:ft K DI.fd pTI ["kinds"] (gN Value.none 0 1) (gN V.non 0 1):=by subst vT;exact yM lT
 have kb2:ft K DI.fd pTI ["melts"] (gN Value.none 1 0) (gN V.non 1 0):=by subst vT;exact yK lT
 have kb3:ft K DI.fd pTI ["kinds","melts"] (gN Value.none 2 1) (gN V.non 2 1):=by subst vT;exact yS lT
 have G21:F0 P w base 2 D21 (jN A.tSL):=xW D21 ctSL_ hB T
 have G22:F0 P w base 3 D22 (jy A.tSL):=zL D22 D21 G21
 have G26:F0 P w base 4 D26 (qy A.tSL):=yj D26 D22 G22 T
 have G24:F1 P w base 1 D24 (uD A):=z7 D24 T
 have G29:F0 P w base 2 D29 (xv K A):=Bj D29 ctHA_ hB T
 have G28:F1 P w base 3 D28 (tN A):=Aa D28 D29 G29 T
 have G27:F0 P w base 2 D27 (uN A):=zW D27 ctTF_ hB T
 have G25:F1 P w base 7 D25 (n5 A):=wo D25 ctCP_ hB D26 G26 D22 G22 D27 G27 T
 have GR:c9 P w K mg base (CXE P w) 8 DR.f DR.fd ["self","low","high","base","first","last","pieces"] (sG A):=zY DR D24 G24 D25 G25 D28 G28 T
 have G33:F0 P w base 1 D33 (xT K):=B8 D33 T
 have G34:F0 P w base 3 D34 (uB A):=zj D34 D21 G21 T
 have G35:F1 P w base 1 D35 (yE A):=BY D35 TWC T
 have GI:c9 P w K mg base (CXE P w) 6 DI.f DI.fd pTI (qj A):=zK DI ctTI_ hB D33 G33 D34 G34 D35 G35 T
 have G40:F0 P w base 4 D40 (w6 A):=Cr D40 D22 G22 T
 have G39:F0 P w base 6 D39 (xV A):=CK D39 ctWP_ hB D40 G40 T
 have GJ:c9 P w K mg base (CXE P w) 7 DJ.f DJ.fd pKI (Cp A):=El DJ D21 G21 D22 G22 D39 G39 T
 have G30:F0 P w base 1 D30 (ye A):=Dg D30 T
 have G36:F0 P w base 2 D36 (BX A):=Fe D36 D30 G30 T
 have G37:F0 P w base 4 D37 (BS A):=Fd D37 D22 G22 T
 have G44:F0 P w base 1 D44 (qx K):=xb D44
 have G45:F0 P w base 1 D45 rX:=Cw D45
 have G46:F0 P w base 1 D46 C3:=EY D46 (PySem.W.mg_none_of X G uC) T
 have G47:F0 P w base 1 D47 yR:=E4 D47 T
 have G48:F0 P w base 2 D48 Cg:=Ec D48 D45 G45 D47 G47 T
 have G49:F0 P w base 3 D49 BV:=DH D49 D45 G45 D47 G47 D48 G48 T
 have G50:F0 P w base 1 D50 CS:=EJ D50 T
 have G51:F0 P w base 1 D51 Cb:=Dq D51 T
 have G52:F0 P w base 2 D52 yX:=DM D52 D51 G51 T
 have G53:F0 P w base 3 D53 Bx:=Dx D53 D52 G52 T
 have G54:F0 P w base 2 D54 BA:=Fh D54 D47 (yF D47 T) T
 have G55:F0 P w base 8 D55 (Ab A):=Dt D55 DI MT bd bd1 bd2 kb1 kb2 kb3 GI T
 have G56:F0 P w base 1 D56 (Bs K A):=CH D56 (PySem.W.mg_none_of X G gR) T
 have G57:F0 P w base 1 D57 (CD A):=Fc D57 T
 have G58:F0 P w base 5 D58 (Ct A):=DW D58 D36 G36 D50 G50 D46 G46 D37 G37 T
 have G59:F0 P w base 11 D59 (Bm A):=Dv D59 DR MR GR DJ MK GJ D55 G55 D56 G56 D57 G57 D58 G58 (by rw [eT];exact rcT) (by rw [eT];exact rmT) T
 exact BU D60 ⟨D44,G44,D45,G45,D49,G49,D52,G52,D53,G53,D54,G54,D59,G59⟩ T
theorem walk {l:PySem.W.OpenLaw} {q:Program} {loose:List Str} {XP:(Str->Option Value)->Heap->Prop} {YP:World->Heap->Prop} {d:DefRec} {K:Params->PySem.W.Frag} (ad:Ad) (hn:l.most=some 63) (hdf:d.params.defaults=[])
  (hY:∀ (w:World) (h:Heap),YP w h->(K w.params).In h/\∀ t∈[ad.tTI],h.get? t=some (PySem.W.tabObj #[]))
  (F:∀ (w:World) (mg:Str->Option Value) (fa:Addr) (h:Heap),(K w.params).In h->h.Ns mainGlobals mg->mg d.name=some (.ref fa) ->
   ∃ fd:FuncData,(∀ (s:Shared) (u:Value),BindsTo s fd ⟨[u],[]⟩ [("_law_script",u)])/\∀ base:Heap,(K w.params).In base->base.Ns mainGlobals mg->jK base->c9 l.prog w (K w.params) mg base CX0 13 fa fd ["_law_script"] (vv (K w.params) ad))
  (hK:∀ w:World,PySem.W.noTabs (K w.params)=true)
  (r0:∃ d',(recsOf q).find? (λ e=>e.name==("small_letters":Str))=some d') (t0:∀ w:World,∃ c,PySem.W.tabIn (K w.params) "small_letters"=some (c,ad.tSL)) (r1:∃ d',(recsOf q).find? (λ e=>e.name==("check_pieces":Str))=some d') (t1:∀ w:World,∃ c,PySem.W.tabIn (K w.params) "check_pieces"=some (c,ad.tCP)) (r2:∃ d',(recsOf q).find? (λ e=>e.name==("ties_fit":Str))=some d') (t2:∀ w:World,∃ c,PySem.W.tabIn (K w.params) "ties_fit"=some (c,ad.tTF)) (r3:∃ d',(recsOf q).find? (λ e=>e.name==("has_any":Str))=some d') (t3:∀ w:World,∃ c,PySem.W.tabIn (K w.params) "has_any"=some (c,ad.tHA)) (r4:∃ d',(recsOf q).find? (λ e=>e.name==("are_word_pairs":Str))=some d') (t4:∀ w:World,∃ c,PySem.W.tabIn (K w.params) "are_word_pairs"=some (c,ad.tWP)) (tq:∀ w:World,∃ c,PySem.W.codeHdIn (K w.params) c ad.tTI=true):
  PySem.W.WalkO q loose XP YP l.row.toRowW d [] (λ f vs=>PySem.call f vs):=by
 refine Bp (n:=63) (k:=13) (x:="_law_script") (CX:=λ _=>CX0) (sp:=λ w=>vv (K w.params) ad) (λ _=>[ad.tSL,ad.tCP,ad.tTF,ad.tHA,ad.tWP,ad.tTI]) [ad.tTI] hn (by decide) hdf ⟨rfl,by decide,by decide⟩ hY hK (λ w t ht=>?_) F (λ w H a ns hl h1 hS=>?_) λ _ _ _ _ _ z=>z
 ·simp only [List.mem_cons,List.not_mem_nil,or_false] at ht
  rcases ht with rfl | rfl | rfl | rfl | rfl | rfl
  ·obtain ⟨d',e⟩:=r0;obtain ⟨c,e2⟩:=t0 w;exact .inl ⟨_,c,d',e,e2⟩
  ·obtain ⟨d',e⟩:=r1;obtain ⟨c,e2⟩:=t1 w;exact .inl ⟨_,c,d',e,e2⟩
  ·obtain ⟨d',e⟩:=r2;obtain ⟨c,e2⟩:=t2 w;exact .inl ⟨_,c,d',e,e2⟩
  ·obtain ⟨d',e⟩:=r3;obtain ⟨c,e2⟩:=t3 w;exact .inl ⟨_,c,d',e,e2⟩
  ·obtain ⟨d',e⟩:=r4;obtain ⟨c,e2⟩:=t4 w;exact .inl ⟨_,c,d',e,e2⟩
  ·exact .inr ⟨by simp,tq w⟩
 ·exact ⟨a,ns,rfl,hS,hl,⟨⟨h1 _ (by simp),h1 _ (by simp),h1 _ (by simp),h1 _ (by simp)⟩,h1 _ (by simp),h1 _ (by simp)⟩,λ H' s=>⟨rfl,λ t ht=>s _ _ (h1 t ht)⟩⟩
end K04
namespace PySem.W.Fast
def tw13464471923020926094:=0
def tw3547995349962042041:=0
def tw16592778299139542940:=0
def tw9486655757044844370:=0
def tw18356916231502499700:=0
def tw7808161269211209065:=0
def tw5146920554392150077:=0
def tw7248259468970658981:=0
def tw11303469849763035224:=0
def tw16764906370782303518:=0
def tw476478097964861171:=0
def tw6332789807538219195:=0
def tw12169445573907444876:=0
def tw12777126582953613698:=0
def tw6732042716956266361:=0
def tw17049544851839678115:=0
def tw17262837061266680223:=0
def tw6416551299373782442:=0
def tw3942229553809700860:=0
def tw3121595302156085558:=0
def tw9508695281040771348:=0
def tw3770642530218800766:=0
def tw9454294222877027103:=0
def tw14711471804468971741:=0
def tw15196083043178614839:=0
def tw15001215820448356753:=0
def tw13545712938120546506:=0
def tw8723426155486900752:=0
def tw9202221137057886602:=0
def tw4431025450561007374:=0
def tw14345990933443211728:=0
def tw3472770962932598114:=0
def tw11597673872395355363:=0
def tw3321202610886940003:=0
def tw13752814864365749585:=0
def tw8965076495813809609:=0
def tw1010461672903949423:=0
def tw6652372565409299944:=0
def tw12571565060223755438:=0
def tw7931952322975100627:=0
def tw10836833738254463420:=0
def tw824541719328093109:=0
def tw12867868978156674603:=0
def tw422163034774515684:=0
def tw7074647135995768643:=0
def tw15399326568493184983:=0
def tw353512571048857383:=0
def tw1209828247421629399:=0
def tw2080970306902970333:=0
def tw12617406938508565154:=0
def tw1363588403333852313:=0
def tw18418588208108120990:=0
def tw843099135428957977:=0
def tw14238382782536511765:=0
def tw17342789669587617853:=0
def tw16627889568660658974:=0
def tw1976869655965226343:=0
def tw10624916741498855143:=0
def tw13627805227117616334:=0
def tw10205429546960944336:=0
def tw863227517506195322:=0
def tw17280473053002672799:=0
def tw4859323172220861100:=0
def tw9393734486537506817:=0
def tw7743151863532045584:=0
def tw15363323231688267731:=0
def tw1154834908627106021:=0
def tw9634758437131985767:=0
def tw641525441674907436:=0
def tw10701801954182918322:=0
def tw7943875203109933276:=0
def tw14725765799198482946:=0
def tw14071950932159026651:=0
def tw11806465745468731681:=0
def tw5117278567050200435:=0
def tw13408404960160490872:=0
def tw2794389668699891086:=0
def tw13585036479787330267:=0
def tw1241641297618353771:=0
def tw15229530414861402372:=0
def tw9748537290675929130:=0
def tw5081573067651542981:=0
def tw9061592932137114298:=0
def tw2750086110997821418:=0
def tw13400725306588259108:=0
def tw2052990909436077717:=0
def tw373124287897615447:=0
def tw14584161168230119001:=0
def tw2406291470368021516:=0
def tw14286189011101751957:=0
def tw15986862671040935024:=0
def tw4045234659054713340:=0
def tw5341766825173241768:=0
def tw13323653662850660816:=0
def tw901323824436290616:=0
def tw71460964980410151:=0
def tw13158814832844107265:=0
def tw17358551494901017771:=0
def tw331068915912434283:=0
def tw5727739487493812874:=0
def tw9830441373514021372:=0
def tw16567597084332659068:=0
def tw1386937929551835661:=0
def tw14211260811016420518:=0
def tw4767937757184294064:=0
def tw8965813809117349921:=0
def tw10915576493127233849:=0
def tw13247627269238943835:=0
def tw7751020644276550783:=0
def tw15699961985960700788:=0
def tw387411257910516300:=0
def tw3055140842215713612:=0
def tw17184407065210825857:=0
def tw18432489881549839468:=0
def tw3172649142974719978:=0
def tw10475253832525814425:=0
def tw10257204053546621199:=0
def tw1870340521546392170:=0
def tw8826260887555999727:=0
def tw9920067366281765722:=0
def tw278989824596717952:=0
def tw4598366843886826687:=0
def tw3587535096371728277:=0
def tw12108128565611787008:=0
def tw16332110584606796516:=0
def tw11580256480217724451:=0
def tw17133760114748027386:=0
def tw10824207412198857844:=0
def tw15797932915358031644:=0
def tw11800525248940591274:=0
def tw5334305235172218516:=0
def tw17493899946440252866:=0
def tw16612732613494743335:=0
def tw15866917499157211385:=0
def tw992561043833436805:=0
def tw6499018082017060561:=0
def tw4008802404102286452:=0
def tw11956078625448424799:=0
def tw11251959449260419763:=0
def tw610647692991990930:=0
def tw9673254346985678571:=0
def tw8904658401838480774:=0
def tw731677505029647446:=0
def tw17328407219800944157:=0
def tw2597675394368726104:=0
def tw15893983484156840245:=0
def tw158672354845625258:=0
def tw15396071650203521927:=0
def tw6148815547858950916:=0
def tw11126057334734140812:=0
def tw16279791713363080481:=0
def tw8273332439252612837:=0
def tw16512431629155960614:=0
def tw11250879038498720841:=0
def tw4997515017505628006:=0
def tw13406404188054220368:=0
def tw10343322825284565583:=0
def tw7333616852356628263:=0
def tw962123598977431937:=0
def tw4418957541812757637:=0
def tw8961803502117444673:=0
def tw6474866806071496629:=0
def tw4705727441861171369:=0
def tw11163193240533327834:=0
def tw1170103935623411633:=0
def tw16889483608540357642:=0
def tw9707474480926857181:=0
def tw5228894982716853520:=0
def tw8218104431225610585:=0
def tw6928060002618134669:=0
def tw10734463347553413354:=0
def tw15246092373616697479:=0
def tw12390679282721548638:=0
def tw375344973610609638:=0
def tw8748844817295463535:=0
def tw17700161301828844622:=0
def tw17297281318286851849:=0
def tw9264000305952153549:=0
def tw15380429656971011882:=0
def tw16399108621509892874:=0
def tw4356535648529494682:=0
def tw8768631067035870097:=0
def tw11275967199977766007:=0
def tw7919391328188800308:=0
def tw10034723807811338238:=0
def tw9809801320265405930:=0
def tw3989998830279179695:=0
def tw16026341147958745549:=0
def tw3755147180833253624:=0
def tw4767368654438344402:=0
def tw14837298567619819152:=0
def tw13139587168050281437:=0
def tw3546491853617964521:=0
def tw13973742590997836904:=0
def tw2131908233589417600:=0
def tw404804480104650797:=0
def tw8793161243736499599:=0
def tw1075179385595339268:=0
def tw6850465049013356996:=0
def tw10023800141499491279:=0
def tw15664888080271366100:=0
def tw3933837363778810871:=0
def tw13517579550774976448:=0
def tw16980640221384466867:=0
def tw4831697621388387021:=0
def tw18414526021120780346:=0
def tw4035663155717471550:=0
def tw4481426693813156910:=0
def tw7739757909645514210:=0
def tw13864040390296566787:=0
def tw12957928461995477721:=0
def tw16526838463751494541:=0
def tw5775074119468604050:=0
def tw11287367665350629181:=0
def tw4167013732555856504:=0
def tw15390561274354049940:=0
def tw15511711757196269092:=0
def tw7123691702187549493:=0
def tw1314009755021703530:=0
def tw3776547327578778404:=0
def tw5667760896272852437:=0
def tw3972849801943487542:=0
def tw2864151161109168553:=0
def tw5821517411479830803:=0
def tw12110885780231998936:=0
def tw16536313640431907597:=0
def tw12724112417216340590:=0
def tw13520635355069973037:=0
def tw11665208951991677890:=0
def tw18003864181699004406:=0
def tw368467413451857132:=0
def tw13162860036045620326:=0
def tw2485341416745099381:=0
def tw8682661497968333993:=0
def tw4132687131156589178:=0
def tw14138324441758525055:=0
def tw15856862889613616788:=0
def tw8268481715453220778:=0
def tw3516380477537339540:=0
def tw16322736440530030780:=0
def tw15980468144348360943:=0
def tw18231563432183018560:=0
def tw10504941465309715697:=0
def tw1240060507138399176:=0
def tw2667394669523562517:=0
def tw99090747779663044:=0
end PySem.W.Fast
open PySem PySem.W PyProof.Rows
local macro_rules | `(tactic| bv_omega) => `(tactic| exact ⟨_, _, _, _, _, _, _, _, _, _, by k_is, by k_is, by k_is, by k_is⟩)
local macro_rules | `(tactic| bv_decide) => `(tactic| exact ⟨_, _, _, _, _, _, _, _, _, _, by k_is, by k_is, by k_is, by k_is, by exact rfl, by exact rfl⟩)
local macro_rules
 | `(tactic| o_head ($x : $t)) => Lean.Macro.throwUnsupported
 | `(tactic| o_head $H) => `(tactic| o_head (L2.withTabs $H [299] : PySem.W.Hook))
set_option maxRecDepth 100000 in
set_option maxHeartbeats 0 in
theorem PySem.Challenge.cw_numbersay_k04_tongues_made_holds : PySem.Challenge.rw_numbersay_k04_tongues_made.Holds := by
 w_on;o_law;k_head;(case hw=>w_witness2)
 k_fill
 refine' K04.walk (l:=PySem.Challenge.rw_numbersay_k04_tongues_made) ⟨_,_,_,_,_,_,_,_,_,_,_,_,_,_,_,_,_,_,_,_,_,_,_,_,299,_⟩ rfl rfl (λ w h Y=>⟨PySem.W.kIn_of Y.1,Y.2⟩) ?F ?NT ?R0 ?T0 ?R1 ?T1 ?R2 ?T2 ?R3 ?T3 ?R4 ?T4 ?TQ
 case F=>
  intro w mg fa h KX G hmg
  refine' K04.all_mk KX G hmg ?cg ?aO ?oU ?n8 ?cj ?gC ?jV ?kE ?dh ?oz ?pj ?pz ?iO ?bW ?fh ?rR ?oS ?eY ?nv ?uC ?gR ?qM ?BG ?yI ?kZ ?bU ?dJ ?a5 ?cA ?cW ?dO ?hU ?kY ?cC ?dR ?dP ?fY ?eQ ?f9 ?gd ?eU ?gU ?pZ ?qC ?b8 ?fO ?fQ ?cy ?gv ?gX ?gs ?tk ?xs ?lL ?kU ?lG ?kQ ?kP ?kX ?lj ?kW ?lK ?kN ?ie ?ia ?gy ?gz ?gK ?iY ?i3 ?iV ?i7 ?i6 ?qr ?pV ?pT ?qB ?iN ?iD ?jr ?jt ?jD ?jJ ?jG ?js ?lH ?lA ?kT ?lu ?mJ ?nL ?noTwice ?qo ?qF ?p9 ?qc ?twi ?tw1 ?tw2 ?tw3 ?tw4 ?tw5 ?tw6 ?tw7 ?tw8 ?tw9 ?tw10 ?tw11 ?tw12 ?kcT ?rcT ?rmT ?k1 ?k2 ?k3 ?k4 ?k5 ?k6 ?uH ?ue ?sQ ?sP ?iu ?fe ?dq ?dk ?fg ?cL ?ua ?uo ?ng ?nV ?mX ?mW ?fw ?dX ?eL ?eD ?mU ?mP ?um ?tS ?uP ?uq ?dW ?eZ ?fA ?tX ?sS ?h21 ?h22 ?h24 ?h25 ?h26 ?h27 ?h28 ?h29 ?h30 ?h33 ?h34 ?h35 ?h36 ?h37 ?h39 ?h40 ?h44 ?h45 ?h46 ?h47 ?h48 ?h49 ?h50 ?h51 ?h52 ?h53 ?h54 ?h55 ?h56 ?h57 ?h58 ?h59 ?a60 ?l60 ?c60 ?Bv ?aR ?lR ?cR ?kR_ ?iR ?aJ ?lJ ?cJ ?kJ_ ?iJ ?aI ?lI ?cI ?kI_ ?dI ?lT ?vT ?iI
  (case cg=>k_is)
  (case aO=>k_is)
  (case oU=>k_is)
  (case n8=>k_is)
  (case cj=>k_is)
  (case gC=>k_is)
  (case jV=>k_is)
  (case kE=>k_is)
  (case dh=>k_is)
  (case oz=>k_is)
  (case pj=>k_is)
  (case pz=>k_is)
  (case iO=>k_is)
  (case bW=>k_is)
  (case fh=>k_is)
  (case rR=>k_is)
  (case oS=>k_is)
  (case eY=>k_is)
  (case nv=>k_is)
  (case uC=>k_is)
  (case gR=>k_is)
  (case qM=>k_is)
  (case BG=>k_is)
  (case yI=>k_is)
  (case kZ=>k_is)
  (case bU=>k_is)
  (case dJ=>k_is)
  (case a5=>k_is)
  (case cA=>k_is)
  (case cW=>k_is)
  (case dO=>k_is)
  (case hU=>k_is)
  (case kY=>k_is)
  (case cC=>k_is)
  (case dR=>k_is)
  (case dP=>k_is)
  (case fY=>k_is)
  (case eQ=>k_is)
  (case f9=>k_is)
  (case gd=>k_is)
  (case eU=>k_is)
  (case gU=>k_is)
  (case pZ=>k_is)
  (case qC=>exact rfl)
  (case b8=>k_is)
  (case fO=>k_is)
  (case fQ=>exact rfl)
  (case cy=>k_is)
  (case gv=>k_is)
  (case gX=>exact rfl)
  (case gs=>k_is)
  (case tk=>k_is)
  (case xs=>k_exc)
  (case lL=>k_exc)
  (case kU=>k_is)
  (case lG=>k_is)
  (case kQ=>k_is)
  (case kP=>k_is)
  (case kX=>k_exc)
  (case lj=>k_is)
  (case kW=>k_is)
  (case lK=>k_is)
  (case kN=>k_is)
  (case ie=>k_exc)
  (case ia=>k_is)
  (case gy=>k_is)
  (case gz=>k_is)
  (case gK=>k_is)
  (case iY=>k_exc)
  (case i3=>k_is)
  (case iV=>k_is)
  (case i7=>k_is)
  (case i6=>k_is)
  (case qr=>k_is)
  (case pV=>k_is)
  (case pT=>k_is)
  (case qB=>k_is)
  (case iN=>kit_is)
  (case iD=>exact rfl)
  (case jr=>kit_is)
  (case jt=>kit_is)
  (case jD=>kit_is)
  (case jJ=>kit_is)
  (case jG=>kit_is)
  (case js=>exact rfl)
  (case lH=>kit_is)
  (case lA=>kit_is)
  (case kT=>kit_is)
  (case lu=>kit_is)
  (case mJ=>kit_is)
  (case nL=>exact rfl)
  (case noTwice=>kit_is)
  (case qo=>kit_is)
  (case qF=>kit_is)
  (case p9=>kit_is)
  (case qc=>kernel_rfl)
  (case twi=>k_is)
  (case tw1=>kernel_rfl)
  (case tw2=>k_is)
  (case tw3=>k_is)
  (case tw4=>k_is)
  (case tw5=>k_is)
  (case tw6=>exact rfl)
  (case tw7=>first | exact rfl | decide +kernel)
  (case tw8=>k_is)
  (case tw9=>k_is)
  (case tw10=>kernel_rfl)
  (case tw11=>k_is)
  (case tw12=>first | exact rfl | decide +kernel)
  (case kcT=>kit_is)
  (case rcT=>k_is)
  (case rmT=>k_is)
  (case k1=>kit_is)
  (case k2=>kit_is)
  (case k3=>kit_is)
  (case k4=>kit_is)
  (case k5=>kit_is)
  (case k6=>kit_is)
  (case uH=>k_is)
  (case ue=>k_is)
  (case sQ=>k_is)
  (case sP=>k_is)
  (case iu=>k_is)
  (case fe=>k_is)
  (case dq=>k_is)
  (case dk=>k_is)
  (case fg=>k_is)
  (case cL=>k_is)
  (case ua=>k_is)
  (case uo=>k_is)
  (case ng=>k_is)
  (case nV=>k_is)
  (case mX=>k_is)
  (case mW=>k_is)
  (case fw=>k_is)
  (case dX=>k_is)
  (case eL=>k_is)
  (case eD=>k_is)
  (case mU=>k_is)
  (case mP=>k_is)
  (case um=>k_is)
  (case tS=>k_is)
  (case uP=>k_is)
  (case uq=>k_is)
  (case dW=>k_is)
  (case eZ=>k_is)
  (case fA=>k_is)
  (case tX=>k_is)
  (case sS=>k_is)
  (case h21=>bv_decide)
  (case h22=>bv_omega)
  (case h24=>bv_omega)
  (case h25=>bv_decide)
  (case h26=>bv_omega)
  (case h27=>bv_decide)
  (case h28=>bv_omega)
  (case h29=>bv_decide)
  (case h30=>bv_omega)
  (case h33=>bv_omega)
  (case h34=>bv_omega)
  (case h35=>bv_omega)
  (case h36=>bv_omega)
  (case h37=>bv_omega)
  (case h39=>bv_decide)
  (case h40=>bv_omega)
  (case h44=>bv_omega)
  (case h45=>bv_omega)
  (case h46=>bv_omega)
  (case h47=>bv_omega)
  (case h48=>bv_omega)
  (case h49=>bv_omega)
  (case h50=>bv_omega)
  (case h51=>bv_omega)
  (case h52=>bv_omega)
  (case h53=>bv_omega)
  (case h54=>bv_omega)
  (case h55=>bv_omega)
  (case h56=>bv_omega)
  (case h57=>bv_omega)
  (case h58=>bv_omega)
  (case h59=>bv_omega)
  (case a60=>k_is)
  (case l60=>k_is)
  (case c60=>k_is)
  (case Bv=>k_is)
  (case aR=>k_is)
  (case lR=>k_is)
  (case cR=>k_is)
  (case kR_=>k_is)
  (case iR=>k_is)
  (case aJ=>k_is)
  (case lJ=>k_is)
  (case cJ=>k_is)
  (case kJ_=>k_is)
  (case iJ=>k_is)
  (case aI=>k_is)
  (case lI=>k_is)
  (case cI=>k_is)
  (case kI_=>k_is)
  (case dI=>exact rfl)
  (case lT=>k_is)
  (case vT=>exact rfl)
  (case iI=>k_is)
 (case NT=>exact λ w=>rfl)
 (case R0=>exact ⟨_,rfl⟩);(case T0=>exact λ w=>⟨_,rfl⟩)
 (case R1=>exact ⟨_,rfl⟩);(case T1=>exact λ w=>⟨_,rfl⟩)
 (case R2=>exact ⟨_,rfl⟩);(case T2=>exact λ w=>⟨_,rfl⟩)
 (case R3=>exact ⟨_,rfl⟩);(case T3=>exact λ w=>⟨_,rfl⟩)
 (case R4=>exact ⟨_,rfl⟩);(case T4=>exact λ w=>⟨_,rfl⟩)
 (case TQ=>exact λ w=>⟨303,rfl⟩)
