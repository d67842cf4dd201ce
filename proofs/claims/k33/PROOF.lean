import PyProof.Rows.All
import Wide.All
import OpenK.AllK
import Wide.FinOn
import Lean
import PyProof.EqAt
import PyProof.EqKinds
import PyProof.TupleCall
import PyProof.NeKinds
import PyProof.AutoListH
import PyProof.Rows.Range3
import PyProof.ZipIter
import KE.KEqDict
import KE.KDictList
import PyProof.WalksEnum
import PyProof.EnumMake
import KE.KPairComp
import PyProof.SetKind
import KE.KRevIter
import KE.KDictSum
import PyProof.ListRange
import PyProof.PureStr
import PyProof.Conv_int
import KE.KIntText
import PyProof.StrLawsTight
import PySem.Challenge.RW_numbersay_k33_whole_tongues_read_back
set_option Elab.async false
set_option linter.all false
set_option maxRecDepth 100000
namespace L2
open PySem PySem.Spec PyProof.Rows
abbrev Key:=Sum Int Str
def iQ:Key->Value->Bool
 | .inl k,v=>Value.isInt k v
 | .inr x,v=>Value.isStrOf x v
def G9 (w:World):Key->Int
 | .inl k=>hashInt k
 | .inr x=>hashStr w x
theorem bS:∀ {k:Key} {v:Value},iQ k v=true->(∃ i t,k=Sum.inl i/\v=Value.int i t)∨(∃ x t,k=Sum.inr x/\v=Value.str x t)
 | .inl i,v,h=>by
  obtain ⟨t,e⟩:=Value.isInt_shape (k:=i) (v:=v) h
  exact .inl ⟨i,t,rfl,e⟩
 | .inr x,v,h=>by
  obtain ⟨t,e⟩:=Value.isStrOf_shape (x:=x) (v:=v) h
  exact .inr ⟨x,t,rfl,e⟩
theorem vN (i:Int) (t:Tok):iQ (.inl i) (.int i t)=true:=by simp [iQ,Value.isInt]
theorem wt (x:Str) (t:Tok):iQ (.inr x) (.str x t)=true:=by simp [iQ,Value.isStrOf]
theorem CA (a b:Int):decide ((Sum.inl a:Key)=Sum.inl b)=(a==b):=by
 by_cases e:a=b
 ·subst e;simp
 ·have h:¬ (Sum.inl a:Key)=Sum.inl b:=λ q=>e (Sum.inl.inj q)
  rw [decide_eq_false h]
  exact (beq_eq_false_iff_ne.mpr e).symm
theorem CO (a b:Str):decide ((Sum.inr a:Key)=Sum.inr b)=decide (a=b):=by
 by_cases e:a=b
 ·subst e;simp
 ·have h:¬ (Sum.inr a:Key)=Sum.inr b:=λ q=>e (Sum.inr.inj q)
  rw [decide_eq_false h,decide_eq_false e]
theorem Cg (a:Int) (b:Str):decide ((Sum.inl a:Key)=Sum.inr b)=false:=decide_eq_false (λ q=>nomatch q)
theorem B4 (a:Str) (b:Int):decide ((Sum.inr a:Key)=Sum.inl b)=false:=decide_eq_false (λ q=>nomatch q)
def cu (prog:Program) (w:World):PySem.KeyKind prog w Key where
 is:=iQ
 hash:=G9 w
 inj:=λ v a b ha hb=>by
  rcases bS ha with ⟨i,t,rfl,rfl⟩ | ⟨x,t,rfl,rfl⟩
  ·rcases bS hb with ⟨j,u,rfl,e⟩ | ⟨y,u,rfl,e⟩
   ·injection e with e1 _;rw [e1]
   ·exact nomatch e
  ·rcases bS hb with ⟨j,u,rfl,e⟩ | ⟨y,u,rfl,e⟩
   ·exact nomatch e
   ·injection e with e1 _;rw [e1]
 byValue:=λ k v h=>by
  rcases bS h with ⟨i,t,rfl,rfl⟩ | ⟨x,t,rfl,rfl⟩ <;> rfl
 pyHash:=λ hv h=>by
  rcases bS hv with ⟨i,t,rfl,rfl⟩ | ⟨x,t,rfl,rfl⟩
  ·exact wpAny_pyHash_int h
  ·exact wpAny_pyHash_str h
 eqBool:=λ hu hv h=>by
  rcases bS hu with ⟨i,t,rfl,rfl⟩ | ⟨x,t,rfl,rfl⟩
  ·rcases bS hv with ⟨j,u,rfl,rfl⟩ | ⟨y,u,rfl,rfl⟩
   ·rw [CA] at h;exact wpAny_eqBool_int h
   ·rw [Cg] at h;exact SeqAt.EqAt.int_str i t y u _ _ _ _ h
  ·rcases bS hv with ⟨j,u,rfl,rfl⟩ | ⟨y,u,rfl,rfl⟩
   ·rw [B4] at h;exact SeqAt.EqAt.str_int x t j u _ _ _ _ h
   ·rw [CO] at h;exact wpAny_eqBool_str h
 «strs»:=λ k x t v h=>by
  rcases bS h with ⟨i,u,rfl,e⟩ | ⟨y,u,rfl,e⟩
  ·exact nomatch e
  ·injection e with e1 _
   subst e1
   cases v <;> rfl
theorem qV (prog:Program) (w:World) (i:Int) (t:Tok):(cu prog w).is (.inl i) (.int i t)=true:=vN i t
theorem iV (prog:Program) (w:World) (x:Str) (t:Tok):(cu prog w).is (.inr x) (.str x t)=true:=wt x t
inductive V where
 | non | bl (b:Bool) | int (i:Int) | str (x:Str) | byt (b:Array UInt8) | flt (b:UInt64) | ref (a:Addr) | ty (n:String)
 deriving DecidableEq
def RelV:V->Value->Prop
 | .non,u=>u=Value.none
 | .bl b,u=>u=Value.bool b
 | .int i,u=>∃ t,u=Value.int i t
 | .str x,u=>∃ t,u=Value.str x t
 | .byt b,u=>∃ t,u=Value.bytes b t
 | .flt b,u=>∃ t,u=Value.float b t
 | .ref a,u=>u=Value.ref a
 | .ty n,u=>u=Value.type n
abbrev Vals:List V->List Value->Prop:=Paired RelV
theorem Vals.length {xs:List V} {us:List Value} (r:Vals xs us):xs.length=us.length:=Paired.length r
theorem Vals.get:∀ {xs:List V} {us:List Value} {i:Nat} {x:V},Vals xs us->xs[i]?=some x->∃ u,us[i]?=some u/\RelV x u
 | _,_,_,_,.nil,e=>by simp at e
 | _,_,0,_,.cons r _,e=>by simp at e;subst e;exact ⟨_,rfl,r⟩
 | _,_,i+1,x,.cons _ t,e=>by
  obtain ⟨u,h1,h2⟩:=Vals.get (i:=i) (x:=x) t (by simpa using e)
  exact ⟨u,by simpa using h1,h2⟩
theorem Vals.set {x:V} {u:Value} (r:RelV x u):∀ {xs:List V} {us:List Value} (i:Nat),Vals xs us->Vals (xs.set i x) (us.set i u)
 | _,_,_,.nil=>.nil
 | _,_,0,.cons _ t=>.cons r t
 | _,_,i+1,.cons q t=>.cons q (Vals.set r i t)
theorem Vals.append:∀ {xs ys:List V} {us ws:List Value},Vals xs us->Vals ys ws->Vals (xs++ys) (us++ws)
 | _,_,_,_,.nil,s=>s
 | _,_,_,_,.cons r t,s=>.cons r (Vals.append t s)
theorem Vals.take:∀ {xs:List V} {us:List Value} (n:Nat),Vals xs us->Vals (xs.take n) (us.take n)
 | _,_,0,_=>.nil
 | _,_,_+1,.nil=>.nil
 | _,_,n+1,.cons r t=>.cons r (Vals.take n t)
theorem Vals.drop:∀ {xs:List V} {us:List Value} (n:Nat),Vals xs us->Vals (xs.drop n) (us.drop n)
 | _,_,0,r=>r
 | _,_,_+1,.nil=>.nil
 | _,_,n+1,.cons _ t=>Vals.drop n t
def nA:Option V->Option Value->Prop
 | some v,some u=>RelV v u
 | none,none=>True
 | _,_=>False
def KV {κ:Type}:List (κ×V)->List (κ×Value)->Prop:=Paired λ (p:κ×V) (q:κ×Value)=>p.1=q.1/\RelV p.2 q.2
def kV:Key->V
 | .inl i=>.int i
 | .inr x=>.str x
inductive HO where
  | lst (xs:List V)
  | tup (xs:List V)
  | dK (kvs:List (Key×V)) | dT (kvs:List (List Key×V))
  | set (S:Int->Bool) (n:Nat)
  | ins (C dx:Addr) (fs:List (Str×V))
  | own (x:Addr)
  | xd (fs:List (Str×V))
  | met (f x:Addr)
  | rng (lo hi:Int)
  | frz (o:Obj) (u:HO)
  | tbl (ps:Array Value)
  | ext (φ:Heap->Prop)
abbrev Hp:=Addr->Option HO
def upd (H:Hp) (a:Addr) (o:HO):Hp:=λ b=>if b=a then some o else H b
theorem ag {H:Hp} {a:Addr} {o:HO}:upd H a o a=some o:=by unfold upd;rw [if_pos rfl]
theorem aq {H:Hp} {a b:Addr} {o:HO} (h:b≠a):upd H a o b=H b:=by unfold upd;rw [if_neg h]
theorem AZ {H:Hp} {a:Addr} {o u:HO}:upd (upd H a o) a u=upd H a u:=by
 funext b;unfold upd;split <;> rfl
theorem dC {H:Hp} {a b:Addr} {o u:HO} (h:H a=some o) (h':H b=some u) (d:o≠u):a≠b:=by
 intro e;subst e;rw [h] at h';exact d (Option.some.inj h')
theorem aj {H:Hp} {a b:Addr} {o:HO} (h:H a=some o) (h':H b=none):a≠b:=by
 intro e;subst e;rw [h] at h';cases h'
section
variable (P:Program) (w:World)
def cm (H:Hp) (h:Heap) (a:Addr):HO->Prop
 | .lst xs=>xs.length<=sizeLine/\∃ (its:List Value) (n:Nat),Vals xs its/\h.get? a=some { cls:=.type "list",data:=.seq its.toArray n }
 | .tup xs=>xs.length<=sizeLine/\∃ its:List Value,Vals xs its/\IsTup h a its.toArray
 | .dK kvs=>kvs.length<=sizeLine/\(a==sysModules)=false/\∃ vs,KV kvs vs/\h.DictOf (cu P w) a vs
 | .dT kvs=>kvs.length<=sizeLine/\(a==sysModules)=false/\∃ xs:List (List Key×Addr×Value),
   Paired (λ (p:List Key×V) (q:List Key×Addr×Value)=>p.1=q.1/\H q.2.1=some (.tup (p.1.map kV))/\RelV p.2 q.2.2) kvs xs /\
   ∃ o es ep,h.get? a=some o/\o.ExactDict/\o.data=.dict es ep/\es.toList=xs.map (entryOfKey (tupleKind (cu P w)))/\(xs.map (·.1)).Nodup
 | .set S n=>h.SetOf (intKind P w) a S n
 | .ins C dx fs=>H dx=some (.own a)/\fs.length<=1000/\dx≠a/\h.get? a=some (PySem.W.instObj C dx) /\
   ∃ mA,h.Ns1 dx mA/\(∀ f,nA (fs.lookup f) (mA f))/\PySem.Within mA (fs.map (·.1))
 | .own _=>∃ o,h.get? a=some o
 | .xd fs=>∃ mA,h.Ns1 a mA/\∀ f,nA (fs.lookup f) (mA f)
 | .rng lo hi=>∃ t u v,h.get? a=some { cls:=.type "range",data:=.fields #[.int lo t,.int hi u,.int 1 v] }
 | .frz o u=>h.get? a=some o/\cm H h a u
 | .tbl ps=>h.get? a=some { cls:=.none,data:=.fields ps }
 | .met f x=>h.get? a=some (PySem.W.methodObj (.ref f) (.ref x))
 | .ext φ=>φ h/\(∃ o,h.get? a=some o)/\∀ h1 h2:Heap,φ h1->(∀ o,h1.get? a=some o->h2.get? a=some o)->φ h2
def HOk (H:Hp) (h:Heap):Prop:=∀ a o,H a=some o->cm P w H h a o
end
section
variable {P:Program} {w:World} {H H':Hp} {h h':Heap} {a:Addr} {o:HO}
theorem cm.lt (x:cm P w H h a o):a<h.objs.size:=by
 cases o with
 | lst xs=>obtain ⟨_,_,_,_,e⟩:=x;exact Heap.lt_size e
 | tup xs=>obtain ⟨_,_,_,p⟩:=x;exact p.lt
 | dK kvs=>obtain ⟨_,_,_,_,o,_,_,e,_⟩:=x;exact Heap.lt_size e
 | dT kvs=>obtain ⟨_,_,_,_,o,_,_,e,_⟩:=x;exact Heap.lt_size e
 | set S n=>obtain ⟨o,_,_,_,e,_⟩:=x;exact Heap.lt_size e
 | ins C dx fs=>obtain ⟨_,_,_,e,_⟩:=x;exact Heap.lt_size e
 | own y=>obtain ⟨_,e⟩:=x;exact Heap.lt_size e
 | xd fs=>obtain ⟨_,⟨_,_,_,e,_⟩,_⟩:=x;exact Heap.lt_size e
 | rng lo hi=>obtain ⟨_,_,_,e⟩:=x;exact Heap.lt_size e
 | frz ob u=>obtain ⟨e,_⟩:=x;exact Heap.lt_size e
 | tbl ps=>exact Heap.lt_size (show h.get? a=some _ from x)
 | met f y=>exact Heap.lt_size (show h.get? a=some _ from x)
 | ext φ=>obtain ⟨_,⟨_,e⟩,_⟩:=x;exact Heap.lt_size e
theorem Paired.Fm {α β:Type} {F G:α->β->Prop}:∀ {l₁:List α} {l₂:List β},Paired F l₁ l₂->(∀ a b,F a b->G a b)->Paired G l₁ l₂
 | _,_,.nil,_=>.nil
 | _,_,.cons r t,f=>.cons (f _ _ r) (Paired.Fm t f)
theorem cm.iL (x:cm P w H h a o) (k:∀ b u,(b=a∨H b=some (.own a))->h.get? b=some u->h'.get? b=some u)
  (ho:∀ b,H b=some (.own a)->H' b=some (.own a)) (ht:∀ b xs,H b=some (.tup xs)->H' b=some (.tup xs)):cm P w H' h' a o:=by
 induction o with
 | lst xs=>obtain ⟨z,its,n,r,e⟩:=x;exact ⟨z,its,n,r,k _ _ (.inl rfl) e⟩
 | tup xs=>obtain ⟨z,its,r,ob,e,c⟩:=x;exact ⟨z,its,r,ob,k _ _ (.inl rfl) e,c⟩
 | dK kvs=>obtain ⟨z,y,vs,r,ob,es,ep,e,c⟩:=x;exact ⟨z,y,vs,r,ob,es,ep,k _ _ (.inl rfl) e,c⟩
 | dT kvs=>
  obtain ⟨z,y,xs,r,ob,es,ep,e,c⟩:=x
  exact ⟨z,y,xs,Paired.Fm r λ p q z=>⟨z.1,ht _ _ z.2.1,z.2.2⟩,ob,es,ep,k _ _ (.inl rfl) e,c⟩
 | set S n=>obtain ⟨ob,es,ep,t,e,c⟩:=x;exact ⟨ob,es,ep,t,k _ _ (.inl rfl) e,c⟩
 | ins C dx fs=>
  obtain ⟨d,z,ne,e,mA,⟨od,es,ep,e2,c⟩,r⟩:=x
  exact ⟨ho _ d,z,ne,k _ _ (.inl rfl) e,mA,⟨od,es,ep,k _ _ (.inr d) e2,c⟩,r⟩
 | own y=>obtain ⟨ob,e⟩:=x;exact ⟨ob,k _ _ (.inl rfl) e⟩
 | xd fs=>obtain ⟨mA,⟨od,es,ep,e,c⟩,r⟩:=x;exact ⟨mA,⟨od,es,ep,k _ _ (.inl rfl) e,c⟩,r⟩
 | rng lo hi=>obtain ⟨t,u,v,e⟩:=x;exact ⟨t,u,v,k _ _ (.inl rfl) e⟩
 | frz ob u ih=>obtain ⟨e,q⟩:=x;exact ⟨k _ _ (.inl rfl) e,ih q⟩
 | tbl ps=>
  have e:h.get? a=some { cls:=.none,data:=.fields ps }:=x
  show h'.get? a=some { cls:=.none,data:=.fields ps }
  exact k a _ (.inl rfl) e
 | met f y=>
  have e:h.get? a=some (PySem.W.methodObj (.ref f) (.ref y)):=x
  show h'.get? a=some (PySem.W.methodObj (.ref f) (.ref y))
  exact k a _ (.inl rfl) e
 | ext φ=>obtain ⟨p,⟨o,e⟩,st⟩:=x;exact ⟨st _ _ p λ o q=>k _ _ (.inl rfl) q,⟨o,k _ _ (.inl rfl) e⟩,st⟩
theorem HOk.lt (x:HOk P w H h) (e:H a=some o):a<h.objs.size:=(x a o e).lt
theorem HOk.fresh (x:HOk P w H h) (e:h.objs.size<=a):H a=none:=by
 cases q:H a with
 | none=>rfl
 | some u=>exact absurd (Nat.lt_of_lt_of_le (x.lt q) e) (Nat.lt_irrefl _)
theorem HOk.kept (x:HOk P w H h) (k:∀ b u,h.get? b=some u->h'.get? b=some u):HOk P w H h':=λ a o e=>
 (x a o e).iL (λ b u _ q=>k b u q) (λ _ q=>q) λ _ _ q=>q
theorem HOk.laid (x:HOk P w H h) (k:∀ b u,h.get? b=some u->h'.get? b=some u) (hp:h.objs.size<=a) (new:cm P w (upd H a o) h' a o):HOk P w (upd H a o) h':=λ b u e=>by
 have hn:=x.fresh hp
 by_cases hb:b=a
 ·subst hb;rw [ag] at e;cases e;exact new
 ·rw [aq hb] at e
  exact (x b u e).iL (λ c v _ q=>k c v q) (λ c q=>by rw [aq (aj q hn)];exact q) λ c xs q=>by rw [aq (aj q hn)];exact q
end
def Rd (H:Hp) (a:Addr) (u:HO):Prop:=H a=some u∨∃ o,H a=some (.frz o u)
theorem Rd.ok {P:Program} {w:World} {H:Hp} {h:Heap} {a:Addr} {u:HO} (r:Rd H a u) (x:HOk P w H h):cm P w H h a u:=by
 rcases r with r | ⟨o,r⟩
 ·exact x a u r
 ·obtain ⟨_,q⟩:=x a _ r
  exact q
def Mut:Option HO->Prop
 | some (.lst _)=>True
 | some (.dK _)=>True
 | some (.dT _)=>True
 | some (.set _ _)=>True
 | some (.ins _ _ _)=>True
 | some (.ext _)=>True
 | _=>False
section
variable {P:Program} {w:World} {H:Hp} {h h':Heap} {x e:Addr} {o':HO}
theorem HOk.write (ok:HOk P w H h) (mu:Mut (H x)) (he:e=x∨H e=some (.own x)) (k:∀ b u,b≠e->h.get? b=some u->h'.get? b=some u) (heo:∃ u,h'.get? e=some u)
  (new:cm P w (upd H x o') h' x o'):HOk P w (upd H x o') h':=λ b u q=>by
 have nown:∀ c y,H c=some (.own y)->c≠x:=λ c y r z=>by subst z;rw [r] at mu;exact mu
 have ntup:∀ c xs,H c=some (.tup xs)->c≠x:=λ c xs r z=>by subst z;rw [r] at mu;exact mu
 by_cases hb:b=x
 ·subst hb;rw [ag] at q;cases q;exact new
 ·rw [aq hb] at q
  by_cases hbe:b=e
  ·have q':H b=some (.own x):=by
    rcases he with z | z
    ·exact absurd (hbe.trans z) hb
    ·rw [hbe];exact z
   rw [q] at q';cases q'
   obtain ⟨v,hv⟩:=heo
   exact ⟨v,by rw [hbe];exact hv⟩
  ·refine (ok b u q).iL (λ c v hc r=>k c v ?_ r) (λ c r=>by rw [aq (nown c b r)];exact r) λ c xs r=>by rw [aq (ntup c xs r)];exact r
   rcases hc with rfl | hc
   ·exact hbe
   ·rintro rfl
    rcases he with z | z
    ·exact nown c b hc z
    ·rw [hc] at z;cases z;exact hb rfl
end
structure Un (fs ex:List Addr) (H H':Hp) (h h':Heap):Prop where
 keep:∀ b o,h.get? b=some o->H b=none->b ∉ fs->b ∉ ex->h'.get? b=some o
 slot:∀ b o,h.get? b=some o->H b=none->b∈fs->b ∉ ex->∃ sl,h'.get? b=some { o with slots:=sl }
 free:∀ b o,h.get? b=some o->H b=none->b ∉ ex->H' b=none
 there:∀ b o,h.get? b=some o->b ∉ ex->∃ o',h'.get? b=some o'
 lj:∀ b xs,H b=some (.tup xs)->H' b=some (.tup xs)
 kA:∀ b o u,H b=some (.frz o u)->H' b=some (.frz o u)
 kT:∀ b ps,H b=some (.tbl ps)->∃ more,H' b=some (.tbl (ps++more))
section
variable {fs fs' ex ex':List Addr} {H H1 H2:Hp} {h h1 h2 h':Heap} {a x e:Addr} {o:HO}
theorem Un.any (u:Un fs ex H H1 h h1) {b:Addr} {ob:Obj} (q:h.get? b=some ob) (n:H b=none) (hx:b ∉ ex):∃ sl,h1.get? b=some { ob with slots:=sl }:=by
 by_cases hb:b∈fs
 ·exact u.slot b ob q n hb hx
 ·exact ⟨ob.slots,u.keep b ob q n hb hx⟩
theorem Un.kept (k:∀ b u,h.get? b=some u->h'.get? b=some u):Un fs ex H H h h':=
 ⟨λ b ob q _ _ _=>k b ob q,λ b ob q _ _ _=>⟨ob.slots,k b ob q⟩,λ _ _ _ n _=>n,λ b ob q _=>⟨ob,k b ob q⟩,λ _ _ q=>q,λ _ _ _ q=>q,λ _ ps q=>⟨#[],by rw [q];simp⟩⟩
theorem Un.refl:Un fs ex H H h h:=Un.kept λ _ _ q=>q
theorem Un.laid (k:∀ b u,h.get? b=some u->h'.get? b=some u) (hp:h.objs.size<=a) (hn:H a=none):Un fs ex H (upd H a o) h h' where
 keep:=λ b u q _ _ _=>k b u q
 slot:=λ b u q _ _ _=>⟨u.slots,k b u q⟩
 free:=λ b u q n _=>by rw [aq (Nat.ne_of_lt (Nat.lt_of_lt_of_le (Heap.lt_size q) hp))];exact n
 there:=λ b u q _=>⟨u,k b u q⟩
 lj:=λ b xs q=>by rw [aq (aj q hn)];exact q
 kA:=λ b u xs q=>by rw [aq (aj q hn)];exact q
 kT:=λ b ps q=>⟨#[],by rw [aq (aj q hn),q];simp⟩
theorem Un.write (mu:Mut (H x)) (he:e=x∨H e=some (.own x)) (k:∀ b u,b≠e->h.get? b=some u->h'.get? b=some u) (heo:∃ u,h'.get? e=some u):Un fs ex H (upd H x o) h h':=by
 have hx:∀ b,H b=none->b≠x:=λ b n z=>by subst z;rw [n] at mu;exact mu
 have hb:∀ b,H b=none->b≠e:=λ b n z=>by
  subst z
  rcases he with r | r
  ·exact hx b n r
  ·rw [n] at r;cases r
 have hm:∀ b u,H b=some u->¬ Mut (some u)->b≠x:=λ b u q nm z=>by subst z;rw [q] at mu;exact nm mu
 refine ⟨λ b u q n _ _=>k b u (hb b n) q,λ b u q n _ _=>⟨u.slots,k b u (hb b n) q⟩,λ b u q n _=>by rw [aq (hx b n)];exact n,λ b u q _=>?_,
  λ b xs q=>by rw [aq (hm b _ q λ z=>z)];exact q,λ b u xs q=>by rw [aq (hm b _ q λ z=>z)];exact q,λ b ps q=>⟨#[],by rw [aq (hm b _ q λ z=>z),q];simp⟩⟩
 by_cases hbe:b=e
 ·subst hbe;exact heo
 ·exact ⟨u,k b u hbe q⟩
end
def trk (h:Heap) (H:Hp):List Addr:=(List.range h.objs.size).filter λ a=>(H a).isSome
def pL (h:Heap) (H:Hp):Heap:=PySem.W.hideAll h (trk h H)
theorem wa (h:Heap) (H:Hp):(pL h H).objs.size=h.objs.size:=PySem.W.hideAll_size _ _
theorem nH {h:Heap} {H:Hp} {b:Addr} {o:Obj} (e:h.get? b=some o) (n:H b=none):(pL h H).get? b=some o:=
 PySem.W.hideAll_get _ e λ hm=>by
  have q:(H b).isSome=true:=(List.mem_filter.mp hm).2
  rw [n] at q;simp at q
theorem AU {h:Heap} {H:Hp} {b:Addr} {o:Obj} (e:(pL h H).get? b=some o):h.get? b=some o/\H b=none:=by
 have e':h.get? b=some o:=PySem.W.of_hideAll (trk h H) e
 refine ⟨e',?_⟩
 cases q:H b with
 | none=>rfl
 | some x=>
  have hm:b∈trk h H:=List.mem_filter.mpr ⟨List.mem_range.mpr (Heap.lt_size e'),by simp [q]⟩
  have z:(pL h H).get? b=none:=PySem.W.hideAll_none (trk h H) hm
  rw [z] at e;cases e
def AM (g h:Heap) (L:Addr):List (Addr×Obj):=(List.range h.objs.size).filterMap λ a=>if a=L∨(g.get? a).isSome=true then none else (h.get? a).map λ o=>(a,o)
def rest (g h:Heap) (L d:Addr):List (Addr×Obj):=(AM g h L).filter λ p=>decide (p.1≠d)
structure Mod (K:PySem.W.Frag) (mg:Str->Option Value) (base:Heap):Prop where
 kin:K.In base
 glob:base.Ns mainGlobals mg
 blt:∃ mb,base.Ns builtinsNs mb/\∀ x:Str,x≠"__name__"->mb x=bootBuiltins x
 nolimit:base.NoLimit
structure Cx where
 prog:Program
 w:World
 K:PySem.W.Frag
 mg:Str->Option Value
 base:Heap
 A:Around
 N:List Str
 s₀:Shared
 H₀:Hp
 env:Env
 outer:List Env
 stack:List Env
 ex:List Addr
 fn:Str->Bool
 calm:Bool
 pn:List (Addr×Obj)
 xe:Value->Shared->Prop
def frs (l:List Env):List Addr:=l.filterMap (·.frame)
abbrev Cx.fs (X:Cx):List Addr:=frs X.outer
def Vis (sc:Scope) (x:Str):Prop:=sc.names.lookup x=some .local∨sc.names.lookup x=some .cell∨sc.names.lookup x=some .free
def Loc (sc:Scope) (x:Str):Prop:=sc.names.lookup x=some .local∨sc.names.lookup x=some .cell
def Look (env:Env) (h:Heap) (m:Str->Option Value) (x:Str) (u:Value):Prop:=
 (env.kindOf x=some .local/\m x=some u)∨((env.kindOf x=some .cell∨env.kindOf x=some .free)/\∃ c,env.cells.lookup x=some c/\h.IsCell c (some u))
structure Cx.Ok (X:Cx):Prop where
 mod:Mod X.K X.mg X.base
 kind:X.env.scope.kind=.function
 glob:X.env.globals=mainGlobals
 blt:X.env.builtins=builtinsNs
 above:X.s₀.heap.objs.size<=X.env.locals
 inj:∀ x y c,X.env.cells.lookup x=some c->X.env.cells.lookup y=some c->x=y
 has:∀ x,(X.env.kindOf x=some .cell∨X.env.kindOf x=some .free)->∃ c,X.env.cells.lookup x=some c
 cab:∀ x c,X.fn x=true->X.env.cells.lookup x=some c->X.s₀.heap.objs.size<=c
 hd:X.calm=true->X.A.handled=none
 frames:X.A.frames=some X.stack
 stk:X.stack=X.outer∨(X.stack=X.env::X.outer/\X.env.frame=some X.env.locals)
 exf:∀ b∈X.ex,b≠X.env.locals/\∀ x c,X.env.cells.lookup x=some c->c≠b
 bs:∀ b o,X.base.get? b=some o->X.s₀.heap.get? b=some o/\X.H₀ b=none
 bsz:X.base.objs.size<=X.s₀.heap.objs.size
 uo:∀ b o,X.base.get? b=some o->b ∉ X.ex
 Aq:∀ b∈X.ex,b ∉ X.fs
 mi:X.s₀.heap.FunFrames X.base X.outer
 frf:∀ b∈X.fs,X.H₀ b=none
structure Inv (X:Cx) (pins:List (Addr×Obj)) (σ:List (Option V)) (H:Hp) (s:Shared):Prop where
 ok:X.Ok
 os:s.os=X.s₀.os
 bare:AllBare s.gens
 base:Un X.fs X.ex X.H₀ H X.s₀.heap s.heap
 loc:∃ m,s.heap.Ns X.env.locals m/\∀ (i:Nat) (x:Str) (v:V),X.N[i]?=some x->σ[i]?=some (some v)->Vis X.env.scope x->∃ u,RelV v u/\Look X.env s.heap m x u
 cell:∀ x c,X.env.cells.lookup x=some c->∃ v,s.heap.IsCell c v
 free:H X.env.locals=none
 fZ:∀ x c,X.env.cells.lookup x=some c->H c=none
 pin:∀ p∈X.pn++pins,s.heap.get? p.1=some p.2/\H p.1=none/\p.1≠X.env.locals/\p.1 ∉ X.fs/\∀ v,p.2.data≠.cell v
 hok:HOk X.prog X.w H s.heap
 len:σ.length=X.N.length
section
variable {X:Cx} {pins:List (Addr×Obj)} {σ:List (Option V)} {H H':Hp} {s:Shared} {h':Heap}
theorem Cx.Ok.G8 (ok:X.Ok) {b:Addr} {o:Obj} (e:X.base.get? b=some o):b ∉ X.fs:=λ hb=>by
 have:=(ok.mi.mem hb).1
 rw [e] at this;cases this
theorem Inv.bs (I:Inv X pins σ H s):∀ b o,X.base.get? b=some o->s.heap.get? b=some o/\H b=none:=λ b o e=>
 ⟨I.base.keep b o (I.ok.bs b o e).1 (I.ok.bs b o e).2 (I.ok.G8 e) (I.ok.uo b o e),I.base.free b o (I.ok.bs b o e).1 (I.ok.bs b o e).2 (I.ok.uo b o e)⟩
theorem Inv.bk (I:Inv X pins σ H s):∀ b o,X.base.get? b=some o->s.heap.get? b=some o:=λ b o e=>(I.bs b o e).1
theorem Inv.mod (I:Inv X pins σ H s):Mod X.K X.mg X.base:=I.ok.mod
theorem Inv.kIn (I:Inv X pins σ H s):X.K.In s.heap:=I.ok.mod.kin.keeps I.bk
theorem Inv.nolimit (I:Inv X pins σ H s):s.heap.NoLimit:=I.ok.mod.nolimit.keeps I.bk
theorem Inv.fr (I:Inv X pins σ H s):∃ m,Fr X.base X.env.locals s.heap m:=
 let ⟨m,hn,_⟩:=I.loc
 ⟨m,hn,I.bk,Nat.le_trans I.ok.bsz I.ok.above⟩
theorem Inv.lt (I:Inv X pins σ H s):X.env.locals<s.heap.objs.size:=let ⟨_,hn,_⟩:=I.loc;hn.lt
theorem Inv.sz (I:Inv X pins σ H s):X.s₀.heap.objs.size<=s.heap.objs.size:=Nat.le_trans I.ok.above (Nat.le_of_lt I.lt)
theorem Inv.Ho (I:Inv X pins σ H s) {a:Addr} (h:s.heap.objs.size<=a):a ∉ X.fs:=λ hb=>by
 obtain ⟨_,o,ho,_⟩:=I.ok.mi.mem hb
 exact absurd (Nat.lt_of_lt_of_le (Heap.lt_size ho) (Nat.le_trans I.sz h)) (Nat.lt_irrefl _)
theorem Inv.cne (I:Inv X pins σ H s):∀ x c,X.env.cells.lookup x=some c->c≠X.env.locals:=λ x c e z=>by
 obtain ⟨v,o,ho,hd⟩:=I.cell x c e
 obtain ⟨m,⟨o',es,ep,ho',hd',_⟩,_⟩:=I.loc
 rw [z,ho'] at ho;cases ho;rw [hd'] at hd;cases hd
theorem Inv.mi (I:Inv X pins σ H s):s.heap.FunFrames X.base X.outer:=by
 have all:∀ (l:List Env),(∀ b∈frs l,b∈X.fs)->X.s₀.heap.FunFrames X.base l->s.heap.FunFrames X.base l:=by
  intro l
  induction l with
  | nil=>intro _ _;trivial
  | cons env r ih=>
   intro hs hl
   obtain ⟨hk,⟨L,o,hf,hn,ho,hd⟩,hr⟩:=hl
   have hL:L∈X.fs:=hs L (by unfold frs;rw [List.filterMap_cons,hf];exact List.mem_cons_self)
   obtain ⟨sl,e⟩:=I.base.slot L o ho (I.ok.frf L hL) hL λ z=>I.ok.Aq L z hL
   exact ⟨hk,⟨L,_,hf,hn,e,hd⟩,ih (λ b hb=>hs b (by unfold frs;rw [List.filterMap_cons,hf];exact List.mem_cons_of_mem _ hb)) hr⟩
 exact all X.outer (λ _ hb=>hb) I.ok.mi
theorem Inv.stack (I:Inv X pins σ H s):s.heap.FunFrames X.base X.stack:=by
 rcases I.ok.stk with e | ⟨e,hf⟩
 ·rw [e];exact I.mi
 ·rw [e]
  obtain ⟨m,hn,_⟩:=I.loc
  refine .cons (by rw [I.ok.kind];decide) hf hn ?_ I.mi
  exact Heap.get?_none_of_le (Nat.le_trans I.ok.bsz I.ok.above)
theorem Inv.jC (I:Inv X pins σ H s):∀ b∈frs X.stack,b∈X.env.locals::X.fs:=λ b hb=>by
 rcases I.ok.stk with e | ⟨e,hf⟩
 ·rw [e] at hb;exact List.mem_cons_of_mem _ hb
 ·rw [e] at hb
  unfold frs at hb
  rw [List.filterMap_cons,hf] at hb
  exact hb
theorem Inv.j4 (I:Inv X pins σ H s):∀ b∈frs X.stack,H b=none:=λ b hb=>by
 rcases List.mem_cons.mp (I.jC b hb) with e | hb
 ·rw [e];exact I.free
 ·obtain ⟨_,o,ho,_⟩:=I.ok.mi.mem hb
  exact I.base.free b o ho (I.ok.frf b hb) λ z=>I.ok.Aq b z hb
theorem Inv.step {g':Array GenState} {t':Nat} {d':Drawn} {ch:List Addr} (I:Inv X pins σ H s)
  (hch:∀ b∈ch,(b∈X.ex∨X.s₀.heap.objs.size<=b)/\b≠X.env.locals/\(∀ x c,X.env.cells.lookup x=some c->c≠b)/\∀ p∈X.pn++pins,p.1≠b)
  (keep:∀ b o,b≠X.env.locals->b ∉ X.fs->b ∉ ch->s.heap.get? b=some o->H b=none->h'.get? b=some o)
  (slot:∀ b o,b≠X.env.locals->b∈X.fs->b ∉ ch->s.heap.get? b=some o->H b=none->∃ sl,h'.get? b=some { o with slots:=sl }) (free:∀ b o,b ∉ ch->s.heap.get? b=some o->H b=none->H' b=none)
  (there:∀ b o,b ∉ ch->s.heap.get? b=some o->∃ o',h'.get? b=some o')
  (lj:∀ b xs,H b=some (.tup xs)->H' b=some (.tup xs)) (kA:∀ b o u,H b=some (.frz o u)->H' b=some (.frz o u)) (kT:∀ b ps,H b=some (.tbl ps)->∃ more,H' b=some (.tbl (ps++more)))
  (ns:∀ m,s.heap.Ns X.env.locals m->h'.Ns X.env.locals m) (hok:HOk X.prog X.w H' h') (hg:AllBare g'):
  Inv X pins σ H' { s with heap:=h',gens:=g',drawn:=d',toks:=t' }:=by
 have neL:∀ b o,X.s₀.heap.get? b=some o->b≠X.env.locals:=λ b o e=>Nat.ne_of_lt (Nat.lt_of_lt_of_le (Heap.lt_size e) I.ok.above)
 have neC:∀ b o,X.s₀.heap.get? b=some o->b ∉ X.ex->b ∉ ch:=λ b o e hx hb=>by
  rcases (hch b hb).1 with z | z
  ·exact hx z
  ·exact absurd (Nat.lt_of_lt_of_le (Heap.lt_size e) z) (Nat.lt_irrefl _)
 have cellK:∀ x c,X.env.cells.lookup x=some c->∀ v,s.heap.IsCell c v->h'.IsCell c v:=λ x c e v ⟨o,ho,hd⟩=>by
  have nch:c ∉ ch:=λ z=>(hch c z).2.2.1 x c e rfl
  by_cases hc:c∈X.fs
  ·obtain ⟨sl,q⟩:=slot c o (I.cne x c e) hc nch ho (I.fZ x c e)
   exact ⟨_,q,hd⟩
  ·exact ⟨o,keep c o (I.cne x c e) hc nch ho (I.fZ x c e),hd⟩
 refine ⟨I.ok,I.os,hg,⟨λ b o e n hb hx=>?_,λ b o e n hb hx=>?_,λ b o e n hx=>?_,λ b o e hx=>?_,λ b xs e=>lj b xs (I.base.lj b xs e),λ b o xs e=>kA b o xs (I.base.kA b o xs e),λ b ps e=>?_⟩,?_,λ x c e=>?_,?_,λ x c e=>?_,λ p hp=>?_,hok,I.len⟩
 ·exact keep b o (neL b o e) hb (neC b o e hx) (I.base.keep b o e n hb hx) (I.base.free b o e n hx)
 ·obtain ⟨sl,e1⟩:=I.base.slot b o e n hb hx
  obtain ⟨sl',e2⟩:=slot b _ (neL b o e) hb (neC b o e hx) e1 (I.base.free b o e n hx)
  exact ⟨sl',e2⟩
 ·obtain ⟨o',e1⟩:=I.base.there b o e hx
  exact free b o' (neC b o e hx) e1 (I.base.free b o e n hx)
 ·obtain ⟨o',e1⟩:=I.base.there b o e hx
  exact there b o' (neC b o e hx) e1
 ·obtain ⟨m1,e1⟩:=I.base.kT b ps e
  obtain ⟨m2,e2⟩:=kT b _ e1
  exact ⟨m1++m2,by rw [e2,Array.append_assoc]⟩
 ·obtain ⟨m,hn,hl⟩:=I.loc
  refine ⟨m,ns m hn,λ i x v e1 e2 e3=>?_⟩
  obtain ⟨u,r,l⟩:=hl i x v e1 e2 e3
  refine ⟨u,r,?_⟩
  rcases l with l | ⟨k,c,e,z⟩
  ·exact .inl l
  ·exact .inr ⟨k,c,e,cellK x c e _ z⟩
 ·obtain ⟨v,z⟩:=I.cell x c e
  exact ⟨v,cellK x c e v z⟩
 ·obtain ⟨m,⟨o,_,_,ho,_⟩,_⟩:=I.loc
  exact free _ o (λ z=>(hch _ z).2.1 rfl) ho I.free
 ·obtain ⟨v,o,ho,hd⟩:=I.cell x c e
  exact free c o (λ z=>(hch c z).2.2.1 x c e rfl) ho (I.fZ x c e)
 ·obtain ⟨e,n,ne,nf,d⟩:=I.pin p hp
  have nch:p.1 ∉ ch:=λ z=>(hch p.1 z).2.2.2 p hp rfl
  exact ⟨keep p.1 p.2 ne nf nch e n,free p.1 p.2 nch e n,ne,nf,d⟩
theorem Inv.un {t':Nat} (I:Inv X pins σ H s) (u:Un X.fs [] H H' s.heap h') (hok:HOk X.prog X.w H' h'):Inv X pins σ H' { s with heap:=h',toks:=t' }:=by
 obtain ⟨m,⟨o,es,ep,ho,r⟩,_⟩:=id I.loc
 obtain ⟨sl,hL⟩:=u.any ho I.free (by simp)
 exact I.step (g':=s.gens) (d':=s.drawn) (ch:=[]) (λ _ z=>nomatch z) (λ b o _ hb _ e n=>u.keep b o e n hb (by simp)) (λ b o _ hb _ e n=>u.slot b o e n hb (by simp)) (λ b o _ e n=>u.free b o e n (by simp)) (λ b o _ e=>u.there b o e (by simp)) u.lj u.kA u.kT (λ m' hm=>by
  obtain ⟨o',es',ep',ho',r'⟩:=hm
  rw [ho] at ho';cases ho'
  exact ⟨_,es',ep',hL,r'⟩) hok I.bare
theorem Inv.call {g':Array GenState} {t':Nat} {d':Drawn} {ch:List Addr} (I:Inv X pins σ H s) (u:Un (frs X.stack) ch H H' s.heap h') (hok:HOk X.prog X.w H' h') (hg:AllBare g')
  (hch:∀ b∈ch,(b∈X.ex∨X.s₀.heap.objs.size<=b)/\b≠X.env.locals/\(∀ x c,X.env.cells.lookup x=some c->c≠b)/\∀ p∈X.pn++pins,p.1≠b):
  Inv X pins σ H' { s with heap:=h',gens:=g',drawn:=d',toks:=t' }:=by
 obtain ⟨m,⟨o,es,ep,ho,r⟩,_⟩:=id I.loc
 obtain ⟨sl,hL⟩:=u.any ho I.free λ z=>(hch _ z).2.1 rfl
 exact I.step (ch:=ch) hch (λ b o hL hb hc e n=>u.keep b o e n (λ z=>(List.mem_cons.mp (I.jC b z)).elim hL hb) hc) (λ b o _ _ hc e n=>u.any e n hc) (λ b o hc e n=>u.free b o e n hc) (λ b o hc e=>u.there b o e hc) u.lj u.kA u.kT (λ m' hm=>by
  obtain ⟨o',es',ep',ho',r'⟩:=hm
  rw [ho] at ho';cases ho'
  exact ⟨_,es',ep',hL,r'⟩) hok hg
theorem Inv.turned {t':Nat} {it:Addr} (I:Inv X pins σ H s) (k:∀ b o,b≠it->s.heap.get? b=some o->h'.get? b=some o) (hn:H it=none) (hL:it≠X.env.locals)
  (h1:it∈X.ex∨X.s₀.heap.objs.size<=it) (h2:∀ x c,X.env.cells.lookup x=some c->c≠it) (h3:∀ p∈X.pn++pins,p.1≠it):Inv X pins σ H { s with heap:=h',toks:=t' }:=by
 have nit:∀ b u,H b=some u->b≠it:=λ b u e z=>by rw [z,hn] at e;cases e
 refine I.step (g':=s.gens) (d':=s.drawn) (ch:=[it]) (λ b hb=>?_) (λ b o _ _ hc e _=>k b o (λ z=>hc (by simp [z])) e) (λ b o _ _ hc e _=>⟨o.slots,k b o (λ z=>hc (by simp [z])) e⟩) (λ _ _ _ _ n=>n)
  (λ b o hc e=>⟨o,k b o (λ z=>hc (by simp [z])) e⟩) (λ _ _ e=>e) (λ _ _ _ e=>e) (λ b ps e=>⟨#[],by rw [e];simp⟩) (λ m hm=>?_) (λ b u e=>?_) I.bare
 ·have e:b=it:=by simpa using hb
  subst e
  exact ⟨h1,hL,h2,h3⟩
 ·obtain ⟨o,es,ep,ho,r⟩:=hm
  exact ⟨o,es,ep,k _ o (Ne.symm hL) ho,r⟩
 ·refine (I.hok b u e).iL (λ c v hc q=>k c v ?_ q) (λ _ q=>q) λ _ _ q=>q
  rcases hc with z | z
  ·rw [z];exact nit b u e
  ·exact nit c _ z
theorem Inv.tok (I:Inv X pins σ H s) (t:Nat):Inv X pins σ H { s with toks:=t }:=I.un (h':=s.heap) (t':=t) Un.refl I.hok
theorem Inv.kept {t':Nat} (I:Inv X pins σ H s) (k:∀ b u,s.heap.get? b=some u->h'.get? b=some u):Inv X pins σ H { s with heap:=h',toks:=t' }:=I.un (Un.kept k) (I.hok.kept k)
theorem Inv.laid {a:Addr} {o:HO} {t':Nat} (I:Inv X pins σ H s) (k:∀ b u,s.heap.get? b=some u->h'.get? b=some u) (hp:s.heap.objs.size<=a) (new:cm X.prog X.w (upd H a o) h' a o):
  Inv X pins σ (upd H a o) { s with heap:=h',toks:=t' }:=I.un (Un.laid k hp (I.hok.fresh hp)) (I.hok.laid k hp new)
theorem Inv.write {x e:Addr} {o:HO} {t':Nat} (I:Inv X pins σ H s) (mu:Mut (H x)) (he:e=x∨H e=some (.own x)) (k:∀ b u,b≠e->s.heap.get? b=some u->h'.get? b=some u) (heo:∃ u,h'.get? e=some u)
  (new:cm X.prog X.w (upd H x o) h' x o):Inv X pins σ (upd H x o) { s with heap:=h',toks:=t' }:=I.un (Un.write mu he k heo) (I.hok.write mu he k heo new)
theorem Inv.weak {σ':List (Option V)} (I:Inv X pins σ H s) (hl:σ'.length=σ.length) (w:∀ (i:Nat) v,σ'[i]?=some (some v)->σ[i]?=some (some v)):Inv X pins σ' H s:=
 ⟨I.ok,I.os,I.bare,I.base,let ⟨m,hn,hl'⟩:=I.loc;⟨m,hn,λ i x v e1 e2 e3=>hl' i x v e1 (w i v e2) e3⟩,I.cell,I.free,I.fZ,I.pin,I.hok,hl.trans I.len⟩
theorem Inv.vg {pins':List (Addr×Obj)} (I:Inv X pins σ H s) (h:∀ p∈pins',s.heap.get? p.1=some p.2/\H p.1=none/\p.1≠X.env.locals/\p.1 ∉ X.fs/\∀ v,p.2.data≠.cell v):Inv X pins' σ H s:=
 ⟨I.ok,I.os,I.bare,I.base,I.loc,I.cell,I.free,I.fZ,λ p hp=>(List.mem_append.mp hp).elim (λ z=>I.pin p (List.mem_append_left _ z)) (h p),I.hok,I.len⟩
theorem sv {N:List Str} (hN:N.Nodup) {i j:Nat} {x:Str} (a:N[i]?=some x) (b:N[j]?=some x):i=j:=by
 obtain ⟨h1,e1⟩:=List.getElem?_eq_some_iff.mp a
 obtain ⟨h2,e2⟩:=List.getElem?_eq_some_iff.mp b
 exact (List.getElem_inj hN).mp (e1.trans e2.symm)
theorem oS {M:Model} {A:Around} {E:Value->Shared->Prop} {i:Nat} {x:Str} {v:V} {u:Value} {Q:Unit->Shared->Prop} (I:Inv X pins σ H s) (hN:X.N.Nodup) (hi:X.N[i]?=some x) (hx:Loc X.env.scope x) (r:RelV v u)
  (h:∀ s',Inv X pins (σ.set i (some v)) H s'->(∃ a,Heap.SameBut a s.heap s'.heap/\(a=X.env.locals∨X.env.cells.lookup x=some a))->Q () s') (hf:X.fn x=true∨X.env.scope.names.lookup x=some .local:=by first | exact .inl rfl | exact .inr rfl | assumption):wpAny M A (storeName X.env x u) Q E s:=by
 obtain ⟨m,hn,hl⟩:=id I.loc
 have hcls:(X.env.scope.kind==.class||(X.env.scope.kind==.module&&X.env.locals != X.env.globals))=false:=by rw [I.ok.kind];rfl
 have hiσ:i<σ.length:=by rw [I.len];exact (List.getElem?_eq_some_iff.mp hi).1
 have cne:=I.cne
 have tracked:∀ {a:Addr} {h':Heap},(∃ o,s.heap.get? a=some o/\H a=none)->Heap.SameBut a s.heap h'->HOk X.prog X.w H h':=λ {a h'} ha hs b ob e=>by
  obtain ⟨_,_,hfree⟩:=ha
  refine (I.hok b ob e).iL (λ c w' hc q=>(hs.2 c ?_).trans q) (λ _ q=>q) λ _ _ q=>q
  rintro rfl
  rcases hc with rfl | hc
  ·rw [hfree] at e;cases e
  ·rw [hfree] at hc;cases hc
 rcases hx with hk | hk
 ·refine wpAny_storeName_local hk hn (λ h' hn' hs=>?_) hcls
  obtain ⟨oL,_,_,hoL,_⟩:=id hn
  refine h _ ⟨I.ok,I.os,I.bare,⟨λ b o e n hb hx=>?_,λ b o e n hb hx=>?_,I.base.free,λ b o e hx=>?_,I.base.lj,I.base.kA,I.base.kT⟩,⟨_,hn',λ j y v' e1 e2 e3=>?_⟩,λ y c e=>?_,I.free,I.fZ,λ p hp=>?_,tracked ⟨oL,hoL,I.free⟩ hs,by simpa using I.len⟩ ⟨_,hs,.inl rfl⟩
  ·exact (hs.2 b (Nat.ne_of_lt (Nat.lt_of_lt_of_le (Heap.lt_size e) I.ok.above))).trans (I.base.keep b o e n hb hx)
  ·obtain ⟨sl,e1⟩:=I.base.slot b o e n hb hx
   exact ⟨sl,(hs.2 b (Nat.ne_of_lt (Nat.lt_of_lt_of_le (Heap.lt_size e) I.ok.above))).trans e1⟩
  ·obtain ⟨o',e1⟩:=I.base.there b o e hx
   exact ⟨o',(hs.2 b (Nat.ne_of_lt (Nat.lt_of_lt_of_le (Heap.lt_size e) I.ok.above))).trans e1⟩
  ·by_cases hj:j=i
   ·subst hj
    rw [hi] at e1;cases e1
    rw [List.getElem?_set_self hiσ] at e2
    cases e2
    exact ⟨u,r,.inl ⟨hk,by simp⟩⟩
   ·rw [List.getElem?_set_ne (Ne.symm hj)] at e2
    obtain ⟨u',r',q⟩:=hl j y v' e1 e2 e3
    refine ⟨u',r',?_⟩
    rcases q with ⟨k,e⟩ | ⟨k,c,e,z⟩
    ·refine .inl ⟨k,?_⟩
     have:y≠x:=λ e=>hj (sv hN e1 (e ▸ hi))
     simp [this,e]
    ·exact .inr ⟨k,c,e,z.sameBut hs (cne y c e)⟩
  ·obtain ⟨w',z⟩:=I.cell y c e
   exact ⟨w',z.sameBut hs (cne y c e)⟩
  ·obtain ⟨e,n,ne,nf,d⟩:=I.pin p hp
   exact ⟨(hs.2 p.1 ne).trans e,n,ne,nf,d⟩
 ·have hfn:X.fn x=true:=by
   rcases hf with z | z
   ·exact z
   ·rw [z] at hk;cases hk
  obtain ⟨c,hc⟩:=I.ok.has x (.inl hk)
  obtain ⟨w',z⟩:=I.cell x c hc
  refine wpAny_storeName_cell I.ok.kind hk hc z (λ h' hc' hs=>?_)
  obtain ⟨oc,hoc,hocd⟩:=id z
  refine h { s with heap:=h' } ⟨I.ok,I.os,I.bare,⟨λ b o e n hb hx=>?_,λ b o e n hb hx=>?_,I.base.free,λ b o e hx=>?_,I.base.lj,I.base.kA,I.base.kT⟩,⟨m,hn.sameBut hs (Ne.symm (cne x c hc)),λ j y v' e1 e2 e3=>?_⟩,λ y c' e=>?_,I.free,I.fZ,λ p hp=>?_,tracked ⟨oc,hoc,I.fZ x c hc⟩ hs,by simpa using I.len⟩ ⟨c,hs,.inr hc⟩
  ·exact (hs.2 b (Nat.ne_of_lt (Nat.lt_of_lt_of_le (Heap.lt_size e) (I.ok.cab x c hfn hc)))).trans (I.base.keep b o e n hb hx)
  ·obtain ⟨sl,e1⟩:=I.base.slot b o e n hb hx
   exact ⟨sl,(hs.2 b (Nat.ne_of_lt (Nat.lt_of_lt_of_le (Heap.lt_size e) (I.ok.cab x c hfn hc)))).trans e1⟩
  ·obtain ⟨o',e1⟩:=I.base.there b o e hx
   exact ⟨o',(hs.2 b (Nat.ne_of_lt (Nat.lt_of_lt_of_le (Heap.lt_size e) (I.ok.cab x c hfn hc)))).trans e1⟩
  ·by_cases hj:j=i
   ·subst hj
    rw [hi] at e1;cases e1
    rw [List.getElem?_set_self hiσ] at e2
    cases e2
    exact ⟨u,r,.inr ⟨.inl hk,c,hc,hc'⟩⟩
   ·rw [List.getElem?_set_ne (Ne.symm hj)] at e2
    obtain ⟨u',r',q⟩:=hl j y v' e1 e2 e3
    refine ⟨u',r',?_⟩
    rcases q with q | ⟨k,c',e,z'⟩
    ·exact .inl q
    ·refine .inr ⟨k,c',e,z'.sameBut hs ?_⟩
     rintro rfl
     exact hj (sv hN e1 (I.ok.inj _ _ _ e hc ▸ hi))
  ·by_cases hcc:c'=c
   ·subst hcc;exact ⟨_,hc'⟩
   ·obtain ⟨w2,z2⟩:=I.cell y c' e
    exact ⟨w2,z2.sameBut hs hcc⟩
  ·obtain ⟨e,n,ne,nf,d⟩:=I.pin p hp
   refine ⟨(hs.2 p.1 ?_).trans e,n,ne,nf,d⟩
   intro q
   rw [q,hoc] at e
   have q':oc=p.2:=Option.some.inj e
   exact d w' (by rw [<- q'];exact hocd)
theorem rO {M:Model} {A:Around} {E:Value->Shared->Prop} {i:Nat} {x:Str} {v:V} {u:Value} {Q:Unit->Shared->Prop} (I:Inv X pins σ H s) (hN:X.N.Nodup) (hi:X.N[i]?=some x) (hx:Loc X.env.scope x) (r:RelV v u)
  (h:∀ s',Inv X pins (σ.set i (some v)) H s'->Q () s') (hf:X.fn x=true∨X.env.scope.names.lookup x=some .local:=by first | exact .inl rfl | exact .inr rfl | assumption):wpAny M A (storeName X.env x u) Q E s:=
 oS I hN hi hx r (λ s' I' _=>h s' I') hf
theorem Inv.yy {s':Shared} {ch:List Addr} (I:Inv X pins σ H s) (ho:s'.os=s.os) (u:Un (frs X.stack) ch H H' s.heap s'.heap) (hok:HOk X.prog X.w H' s'.heap) (hg:AllBare s'.gens)
  (hch:∀ b∈ch,(b∈X.ex∨X.s₀.heap.objs.size<=b)/\b≠X.env.locals/\(∀ x c,X.env.cells.lookup x=some c->c≠b)/\∀ p∈X.pn++pins,p.1≠b):Inv X pins σ H' s':=by
 obtain ⟨h',g',d',t',o'⟩:=s'
 have e:o'=s.os:=ho
 subst e
 exact I.call (g':=g') (t':=t') (d':=d') u hok hg hch
end
abbrev XK:=Value->Option Addr->Hp->Prop
abbrev St:=List (Option V)
abbrev VK:=V->Hp->Prop
abbrev TE:=St->Hp->VK->Prop
abbrev TT:=St->Hp->(Bool->Hp->Prop)->Prop
abbrev TA:=St->Hp->(List V->Hp->Prop)->Prop
structure Ends where
 nx:St->Hp->Prop
 rt:VK
 bk:St->Hp->Prop:=λ _ _=>False
 ct:St->Hp->Prop:=λ _ _=>False
abbrev TS:=Ends->St->Hp->Prop
def EP (X:Cx) (pins:List (Addr×Obj)) (σ:St) (Q:VK) (u:Value) (s':Shared):Prop:=∃ v H',Inv X pins σ H' s'/\RelV v u/\Q v H'
def TP (X:Cx) (pins:List (Addr×Obj)) (σ:St) (Q:Bool->Hp->Prop) (b:Bool) (s':Shared):Prop:=∃ H',Inv X pins σ H' s'/\Q b H'
def AP (X:Cx) (pins:List (Addr×Obj)) (σ:St) (Q:List V->Hp->Prop) (us:List Value) (s':Shared):Prop:=∃ vs H',Inv X pins σ H' s'/\Vals vs us/\Q vs H'
def SP (X:Cx) (pins:List (Addr×Obj)) (D:Ends) (f:Flow) (s':Shared):Prop:=
 match f with
 | .next=>∃ σ' H',Inv X pins σ' H' s'/\D.nx σ' H'
 | .brk=>∃ σ' H',Inv X pins σ' H' s'/\D.bk σ' H'
 | .cont=>∃ σ' H',Inv X pins σ' H' s'/\D.ct σ' H'
 | .ret u=>∃ v σ' H',Inv X pins σ' H' s'/\RelV v u/\D.rt v H'
def PE (X:Cx) (e:Expr) (t:TE):Prop:=
 ∀ (pins:List (Addr×Obj)) (s:Shared) (σ:St) (H:Hp) (Q:VK),Inv X pins σ H s->t σ H Q->wpAny (model X.prog X.w) X.A (eval e X.env) (EP X pins σ Q) X.xe s
def PT (X:Cx) (e:Expr) (t:TT):Prop:=
 ∀ (pins:List (Addr×Obj)) (s:Shared) (σ:St) (H:Hp) (Q:Bool->Hp->Prop),Inv X pins σ H s->t σ H Q->wpAny (model X.prog X.w) X.A (isTrue e X.env (eval e X.env)) (TP X pins σ Q) X.xe s
def PW (X:Cx) (e:Expr) (t:TT):Prop:=
 ∀ (whole:Sem Value) (pins:List (Addr×Obj)) (s:Shared) (σ:St) (H:Hp) (Q:Bool->Hp->Prop),Inv X pins σ H s->t σ H Q->wpAny (model X.prog X.w) X.A (isTrue e X.env whole) (TP X pins σ Q) X.xe s
theorem PW.pt {X:Cx} {e:Expr} {t:TT} (h:PW X e t):PT X e t:=h _
def PA (X:Cx) (es:List Expr) (t:TA):Prop:=
 ∀ (pos:Pos) (pins:List (Addr×Obj)) (s:Shared) (σ:St) (H:Hp) (Q:List V->Hp->Prop),Inv X pins σ H s->t σ H Q->wpAny (model X.prog X.w) X.A (spliced (backTo pos (starEach es X.env))) (AP X pins σ Q) X.xe s
def PS (X:Cx) (st:Stmt) (t:TS):Prop:=
 ∀ (pins:List (Addr×Obj)) (s:Shared) (σ:St) (H:Hp) (D:Ends),Inv X pins σ H s->t D σ H->wpAny (model X.prog X.w) X.A (exec st X.env) (SP X pins D) X.xe s
def PSs (X:Cx) (st:List Stmt) (t:TS):Prop:=
 ∀ (pins:List (Addr×Obj)) (s:Shared) (σ:St) (H:Hp) (D:Ends),Inv X pins σ H s->t D σ H->wpAny (model X.prog X.w) X.A (execs st X.env) (SP X pins D) X.xe s
theorem thn {α:Type} {t:Sem α} {Q Q':α->Shared->Prop} {M:Model} {A:Around} {E:Value->Shared->Prop} {s:Shared} (h:wpAny M A t Q E s) (hQ:∀ a s,Q a s->Q' a s):wpAny M A t Q' E s:=wpAny_mono h hQ λ _ _ x=>x
section
variable {X:Cx}
def zC (i:Nat):TE:=λ σ H Q=>∃ v,σ[i]?=some (some v)/\Q v H
def tC (v:V):TE:=λ _ H Q=>Q v H
theorem yU {i:Nat} {x:Str} {pos:Pos} (hN:X.N[i]?=some x) (hv:Vis X.env.scope x) (hd:(x==("__debug__":Str))=false:=by decide) (hcd:(x==("__classdict__":Str))=false:=by decide):PE X (.Name x pos) (zC i):=by
 intro pins s σ H Q I h
 obtain ⟨v,e,h⟩:=h
 obtain ⟨m,hn,hl⟩:=I.loc
 obtain ⟨u,r,l⟩:=hl i x v hN e hv
 have fin:EP X pins σ Q u s:=⟨v,H,I,r,h⟩
 rcases l with ⟨hk,hm⟩ | ⟨hk,c,hc,hcell⟩
 ·exact wpAny_Name (wpAny_loadName_local I.ok.kind hk hn hm fin) hd
 ·rcases hk with hk | hk
  ·exact wpAny_Name (wpAny_loadName_cell I.ok.kind hk hc hcell fin) hd
  ·exact wpAny_Name (wpAny_loadName_free I.ok.kind hk hc hcell fin hcd) hd
theorem af {i j pos}:PE X (.Constant (.int i) j pos) (tC (.int i)):=λ _ _ _ H _ I h=>wpAny_Constant_int ⟨.int i,H,I.tok _,⟨_,rfl⟩,h⟩
theorem cb {b j pos}:PE X (.Constant (.bool b) j pos) (tC (.bl b)):=λ _ _ _ H _ I h=>Constant_bool ⟨.bl b,H,I,rfl,h⟩
theorem mJ {j pos}:PE X (.Constant .none j pos) (tC .non):=λ _ _ _ H _ I h=>Constant_none ⟨.non,H,I,rfl,h⟩
theorem aD {x j pos}:PE X (.Constant (.str x) j pos) (tC (.str x)):=λ _ _ _ H _ I h=>Calls.Constant_str ⟨.str x,H,I.tok _,⟨_,rfl⟩,h⟩
def Gl (X:Cx) (x:Str):Prop:=X.env.kindOf x=some .globalImplicit
theorem jN {E:Value->Shared->Prop} {pins:List (Addr×Obj)} {s:Shared} {σ:St} {H:Hp} {x:Str} {u:Value} {pos:Pos} {Q:Value->Shared->Prop} (I:Inv X pins σ H s) (hg:Gl X x) (hm:X.mg x=some u) (h:Q u s)
  (hd:(x==("__debug__":Str))=false:=by decide):wpAny (model X.prog X.w) X.A (eval (.Name x pos) X.env) Q E s:=
 Calls.Name_function_global I.ok.kind hg (Calls.loadGlobal_global (by rw [I.ok.glob];exact I.mod.glob.keeps I.bk) hm h) hd
theorem jB {E:Value->Shared->Prop} {pins:List (Addr×Obj)} {s:Shared} {σ:St} {H:Hp} {x:Str} {u:Value} {pos:Pos} {Q:Value->Shared->Prop} (I:Inv X pins σ H s) (hg:Gl X x) (hm:X.mg x=none) (hv:bootBuiltins x=some u) (h:Q u s)
  (hn:x≠"__name__":=by decide) (hd:(x==("__debug__":Str))=false:=by decide):wpAny (model X.prog X.w) X.A (eval (.Name x pos) X.env) Q E s:=by
 obtain ⟨mb,h1,h2⟩:=I.mod.blt
 exact Calls.Name_function_global I.ok.kind hg (Calls.loadGlobal_builtin (by rw [I.ok.glob];exact I.mod.glob.keeps I.bk) hm (by rw [I.ok.blt];exact h1.keeps I.bk) ((h2 x hn).trans hv) h) hd
theorem bY {x:Str} {v:V} {u:Value} {pos:Pos} (hg:Gl X x) (hm:X.mg x=some u) (r:RelV v u) (hd:(x==("__debug__":Str))=false:=by decide):PE X (.Name x pos) (tC v):=
 λ _ _ _ H _ I h=>jN I hg hm ⟨v,H,I,r,h⟩ hd
theorem je {x:Str} {v:V} {u:Value} {pos:Pos} (hg:Gl X x) (hm:X.mg x=none) (hv:bootBuiltins x=some u) (r:RelV v u) (hn:x≠"__name__":=by decide) (hd:(x==("__debug__":Str))=false:=by decide):PE X (.Name x pos) (tC v):=
 λ _ _ _ H _ I h=>jB I hg hm hv ⟨v,H,I,r,h⟩ hn hd
variable {a b:Expr} {ta tb:TE} {pos:Pos}
def PC (X:Cx) (op:CmpOp) (a b:Expr) (t:TE):Prop:=
 ∀ (pins:List (Addr×Obj)) (s:Shared) (σ:St) (H:Hp) (Q:VK),Inv X pins σ H s->t σ H Q ->
  wpAny (model X.prog X.w) X.A (eval a X.env) (λ v s₁=>wpAny (model X.prog X.w) X.A (eval b X.env) (λ u s₂=>wpAny (model X.prog X.w) X.A (compareOp op v u) (EP X pins σ Q) X.xe s₂) X.xe s₁) X.xe s
theorem yB (b:Expr) {op:CmpOp} (h:op≠.In) (h2:op≠.NotIn):behindInMarks op b=false:=by
 have e1:(op==CmpOp.In)=false:=by cases op <;> first | rfl | exact absurd rfl h
 have e2:(op==CmpOp.NotIn)=false:=by cases op <;> first | rfl | exact absurd rfl h2
 cases b <;> simp [behindInMarks,e1,e2]
def tB (t:TE):TT:=λ σ H Q=>t σ H λ x H1=>∃ c,x=.bl c/\Q c H1
theorem C9 {op:CmpOp} {t:TE} (h:PC X op a b t) (h1:behindInMarks op b=false:=by first | exact yB _ (by decide) (by decide) | rfl):PT X (.Compare a [op] [b] pos) (tB t):=by
 intro pins s σ H Q I hw
 refine wpAny_isTrue_Compare1 (thn (h pins s σ H _ I hw) λ v s1 h1=>thn h1 λ u s2 h2=>thn h2 λ c s3 ⟨x,H1,I1,r1,q1⟩=>?_) h1
 obtain ⟨d,rfl,q⟩:=q1
 cases r1
 exact wpAny_truthy_bool ⟨H1,I1,q⟩
theorem bt {e:Expr} {t:TE} (h:PE X e t) (he:∀ whole,isTrue e X.env whole=(do let v <- whole;standAt e.pos;holding [v] (truthy v)):=by intro _;rfl):PT X e (tB t):=by
 intro pins s σ H Q I hw
 refine isTrue_plain (thn (h pins s σ H _ I hw) λ v s1 ⟨x,H1,I1,r1,q1⟩=>?_) (he _)
 obtain ⟨d,rfl,q⟩:=q1
 cases r1
 exact wpAny_truthy_bool ⟨H1,I1,q⟩
variable {tA tB':TT} {rest:List Expr}
def Gh (t u:TT):TT:=λ σ H Q=>t σ H λ c H1=>if c=true then u σ H1 Q else Q false H1
def tOr (t u:TT):TT:=λ σ H Q=>t σ H λ c H1=>if c=true then Q true H1 else u σ H1 Q
def GO (t:TT):TT:=λ σ H Q=>t σ H λ c H1=>Q (!c) H1
theorem pw_and1 (ha:PT X a tA):PW X (.BoolOp .And [a] pos) tA:=by
 intro wh pins s σ H Q I h
 refine isTrue_and (thn (ha pins s σ H Q I h) λ c s1 e=>?_)
 cases c with
 | true=>exact isTrue_and_nil e
 | false=>exact e
theorem pw_or1 (ha:PT X a tA):PW X (.BoolOp .Or [a] pos) tA:=by
 intro wh pins s σ H Q I h
 refine isTrue_or (thn (ha pins s σ H Q I h) λ c s1 e=>?_)
 cases c with
 | false=>exact isTrue_or_nil e
 | true=>exact e
theorem pw_and (ha:PT X a tA) (hb:PW X (.BoolOp .And (b::rest) pos) tB'):PW X (.BoolOp .And (a::b::rest) pos) (Gh tA tB'):=by
 intro wh pins s σ H Q I h
 refine isTrue_and (thn (ha pins s σ H _ I h) λ c s1 ⟨H1,I1,q1⟩=>?_)
 cases c with
 | true=>exact hb wh pins s1 σ H1 Q I1 q1
 | false=>exact ⟨H1,I1,q1⟩
theorem pw_or (ha:PT X a tA) (hb:PW X (.BoolOp .Or (b::rest) pos) tB'):PW X (.BoolOp .Or (a::b::rest) pos) (tOr tA tB'):=by
 intro wh pins s σ H Q I h
 refine isTrue_or (thn (ha pins s σ H _ I h) λ c s1 ⟨H1,I1,q1⟩=>?_)
 cases c with
 | true=>exact ⟨H1,I1,q1⟩
 | false=>exact hb wh pins s1 σ H1 Q I1 q1
theorem bu (ha:PT X a tA):PT X (.UnaryOp .Not a pos) (GO tA):=by
 intro pins s σ H Q I h
 exact isTrue_not (ha pins s σ H (λ c H1=>Q (!c) H1) I h)
def zq (ta tb:TE):TE:=λ σ H Q=>ta σ H λ x H1=>∃ c,x=.bl c/\if c=true then tb σ H1 Q else Q (.bl false) H1
def E6 (ta tb:TE):TE:=λ σ H Q=>ta σ H λ x H1=>∃ c,x=.bl c/\if c=true then Q (.bl true) H1 else tb σ H1 Q
def BG (ta:TE):TE:=λ σ H Q=>ta σ H λ x H1=>∃ c,x=.bl c/\Q (.bl (!c)) H1
theorem iO {op} {t:TE} (h:PE X a t):PE X (.BoolOp op [a] pos) t:=λ pins s σ H Q I hw=>BoolOp_one (h pins s σ H Q I hw)
theorem iF (ha:PE X a ta) (hb:PE X (.BoolOp .And (b::rest) pos) tb):PE X (.BoolOp .And (a::b::rest) pos) (zq ta tb):=by
 intro pins s σ H Q I h
 refine BoolOp_and (thn (ha pins s σ H _ I h) λ v s1 ⟨x,H1,I1,r1,q1⟩=>?_)
 obtain ⟨c,rfl,q1⟩:=q1
 cases r1
 refine wpAny_truthy_bool ?_
 cases c with
 | true=>exact hb pins s1 σ H1 Q I1 q1
 | false=>exact ⟨.bl false,H1,I1,rfl,q1⟩
theorem xl (ha:PE X a ta) (hb:PE X (.BoolOp .Or (b::rest) pos) tb):PE X (.BoolOp .Or (a::b::rest) pos) (E6 ta tb):=by
 intro pins s σ H Q I h
 refine BoolOp_or (thn (ha pins s σ H _ I h) λ v s1 ⟨x,H1,I1,r1,q1⟩=>?_)
 obtain ⟨c,rfl,q1⟩:=q1
 cases r1
 refine wpAny_truthy_bool ?_
 cases c with
 | false=>exact hb pins s1 σ H1 Q I1 q1
 | true=>exact ⟨.bl true,H1,I1,rfl,q1⟩
theorem xx (ha:PE X a ta):PE X (.UnaryOp .Not a pos) (BG ta):=by
 intro pins s σ H Q I h
 refine UnaryOp_ (thn (ha pins s σ H _ I h) λ v s1 ⟨x,H1,I1,r1,q1⟩=>?_)
 obtain ⟨c,rfl,q1⟩:=q1
 cases r1
 exact not_of (wpAny_truthy_bool ⟨.bl (!c),H1,I1,rfl,q1⟩)
def tIf (t:TT) (ta tb:TE):TE:=λ σ H Q=>t σ H λ c H1=>if c=true then ta σ H1 Q else tb σ H1 Q
theorem xO {c:Expr} (hc:PT X c tA) (ha:PE X a ta) (hb:PE X b tb):PE X (.IfExp c a b pos) (tIf tA ta tb):=by
 intro pins s σ H Q I h
 refine wpAny_IfExp (thn (hc pins s σ H _ I h) λ d s1 ⟨H1,I1,q1⟩=>?_)
 cases d with
 | true=>exact ha pins s1 σ H1 Q I1 q1
 | false=>exact hb pins s1 σ H1 Q I1 q1
end
def SqL (K:PySem.W.Frag) (H:Hp) (a:Addr) (xs:List V):Prop:=
 Rd H a (.lst xs) ∨
  ∃ (o:Obj) (its:Array Value) (n:Nat),K.lookup a=some o/\o.cls=.type "list"/\o.dict=none/\o.data=.seq its n/\its.size<=sizeLine/\Vals xs its.toList
def SqT (K:PySem.W.Frag) (H:Hp) (a:Addr) (xs:List V):Prop:=
 Rd H a (.tup xs) ∨
  ∃ (o:Obj) (its:Array Value) (n:Nat),K.lookup a=some o/\o.cls=.type "tuple"/\o.data=.seq its n/\its.size<=sizeLine/\Vals xs its.toList
def Hg:Value->Option V
 | .none=>some .non
 | .bool b=>some (.bl b)
 | .int i _=>some (.int i)
 | .str x _=>some (.str x)
 | .bytes b _=>some (.byt b)
 | .float b _=>some (.flt b)
 | .ref a=>some (.ref a)
 | .type n=>some (.ty n)
 | _=>none
theorem RelV.abs {x:V} {u:Value} (r:RelV x u):Hg u=some x:=by
 cases x with
 | non=>cases r;rfl
 | bl _=>cases r;rfl
 | int _=>obtain ⟨t,rfl⟩:=r;rfl
 | str _=>obtain ⟨t,rfl⟩:=r;rfl
 | byt _=>obtain ⟨t,rfl⟩:=r;rfl
 | flt _=>obtain ⟨t,rfl⟩:=r;rfl
 | ref _=>cases r;rfl
 | ty _=>cases r;rfl
theorem RelV.inj {x y:V} {u:Value} (r:RelV x u) (q:RelV y u):x=y:=Option.some.inj (r.abs.symm.trans q.abs)
theorem Vals.inj:∀ {xs ys:List V} {us:List Value},Vals xs us->Vals ys us->xs=ys
 | _,_,_,.nil,.nil=>rfl
 | _,_,_,.cons r t,.cons r' t'=>by rw [r.inj r',Vals.inj t t']
section
variable {X:Cx} {pins:List (Addr×Obj)} {σ:St} {H:Hp} {s:Shared} {a:Addr} {xs ys:List V}
theorem SqL.of {K:PySem.W.Frag} (h:H a=some (.lst xs)):SqL K H a xs:=.inl (.inl h)
theorem SqT.of {K:PySem.W.Frag} (h:H a=some (.tup xs)):SqT K H a xs:=.inl (.inl h)
theorem Inv.list (I:Inv X pins σ H s) (h:SqL X.K H a xs):∃ its:List Value,Vals xs its/\PlainL s.heap a its.toArray/\xs.length<=sizeLine:=by
 rcases h with h | ⟨o,its,n,hk,hc,hd,hs,hz,r⟩
 ·obtain ⟨z,its,n,r,e⟩:=h.ok I.hok
  exact ⟨its,r,⟨_,n,e,rfl,rfl,rfl⟩,z⟩
 ·refine ⟨its.toList,r,⟨o,n,I.kIn a o hk,hc,hd,by simpa using hs⟩,?_⟩
  have e:=r.length
  simp only [Array.length_toList] at e
  omega
theorem Inv.tuple (I:Inv X pins σ H s) (h:SqT X.K H a xs):∃ its:List Value,Vals xs its/\IsTup s.heap a its.toArray/\xs.length<=sizeLine:=by
 rcases h with h | ⟨o,its,n,hk,hc,hs,hz,r⟩
 ·obtain ⟨z,its,r,p⟩:=h.ok I.hok
  exact ⟨its,r,p,z⟩
 ·refine ⟨its.toList,r,⟨o,I.kIn a o hk,hc,n,by simpa using hs⟩,?_⟩
  have e:=r.length
  simp only [Array.length_toList] at e
  omega
theorem Inv.kB (I:Inv X pins σ H s) (h:SqL X.K H a xs) (h':SqL X.K H a ys):xs=ys:=by
 obtain ⟨its,r,⟨o,n,e,_,_,d⟩,_⟩:=I.list h
 obtain ⟨its',r',⟨o',n',e',_,_,d'⟩,_⟩:=I.list h'
 rw [e] at e';cases e'
 rw [d] at d'
 injection d' with d1 _
 have:its=its':=by simpa using congrArg Array.toList d1
 subst this
 exact r.inj r'
theorem Inv.wx (I:Inv X pins σ H s) (h:SqT X.K H a xs) (h':SqT X.K H a ys):xs=ys:=by
 obtain ⟨its,r,⟨o,e,_,n,d⟩,_⟩:=I.tuple h
 obtain ⟨its',r',⟨o',e',_,n',d'⟩,_⟩:=I.tuple h'
 rw [e] at e';cases e'
 rw [d] at d'
 injection d' with d1 _
 have:its=its':=by simpa using congrArg Array.toList d1
 subst this
 exact r.inj r'
end
abbrev Cx.oe (X:Cx) (E:Value->Shared->Prop):Cx:={ X with xe:=E }
abbrev Cx.nox (X:Cx):Cx:=X.oe λ _ _=>False
theorem Cx.Ok.oe {X:Cx} (ok:X.Ok) (E:Value->Shared->Prop):(X.oe E).Ok:=
 ⟨ok.mod,ok.kind,ok.glob,ok.blt,ok.above,ok.inj,ok.has,ok.cab,ok.hd,ok.frames,ok.stk,ok.exf,ok.bs,ok.bsz,ok.uo,ok.Aq,ok.mi,ok.frf⟩
theorem Cx.Ok.fo {X:Cx} {E:Value->Shared->Prop} (ok:(X.oe E).Ok):X.Ok:=
 ⟨ok.mod,ok.kind,ok.glob,ok.blt,ok.above,ok.inj,ok.has,ok.cab,ok.hd,ok.frames,ok.stk,ok.exf,ok.bs,ok.bsz,ok.uo,ok.Aq,ok.mi,ok.frf⟩
section
variable {X:Cx} {pins:List (Addr×Obj)} {σ:St} {H:Hp} {s:Shared} {E:Value->Shared->Prop}
theorem Inv.oe (I:Inv X pins σ H s) (E:Value->Shared->Prop):Inv (X.oe E) pins σ H s:=⟨I.ok.oe E,I.os,I.bare,I.base,I.loc,I.cell,I.free,I.fZ,I.pin,I.hok,I.len⟩
theorem Inv.fo (I:Inv (X.oe E) pins σ H s):Inv X pins σ H s:=⟨I.ok.fo,I.os,I.bare,I.base,I.loc,I.cell,I.free,I.fZ,I.pin,I.hok,I.len⟩
theorem SP.fo {D:Ends} {f:Flow} {s':Shared} (h:SP (X.oe E) pins D f s'):SP X pins D f s':=by
 cases f with
 | next=>obtain ⟨σ',H',I,q⟩:=h;exact ⟨σ',H',I.fo,q⟩
 | brk=>obtain ⟨σ',H',I,q⟩:=h;exact ⟨σ',H',I.fo,q⟩
 | cont=>obtain ⟨σ',H',I,q⟩:=h;exact ⟨σ',H',I.fo,q⟩
 | ret u=>obtain ⟨v,σ',H',I,r,q⟩:=h;exact ⟨v,σ',H',I.fo,r,q⟩
theorem PSs.nox {st:List Stmt} {t:TS} (h:PSs X.nox st t):PSs X st t:=λ pins s σ H D I hw=>
 wpAny_mono (h pins s σ H D (I.oe _) hw) (λ _ _ q=>q.fo) λ _ _ z=>False.elim z
end
section
variable {X:Cx} {st:Stmt} {rest:List Stmt} {t u:TS} {e:Expr} {te:TE} {pos:Pos}
def Bf:TS:=λ D σ H=>D.nx σ H
def sW (t u:TS):TS:=λ D σ H=>t { D with nx:=u D } σ H
theorem aH:PSs X [] Bf:=λ _ _ σ H _ I h=>wpAny_execs_nil ⟨σ,H,I,h⟩
theorem ae (h1:PS X st t) (h2:PSs X rest u):PSs X (st::rest) (sW t u):=by
 intro pins s σ H D I h
 refine wpAny_execs_cons (thn (h1 pins s σ H { D with nx:=u D } I h) λ f s1 q=>?_)
 cases f with
 | next=>
  obtain ⟨σ',H',I',q⟩:=q
  exact h2 pins s1 σ' H' D I' q
 | ret v=>exact q
 | brk=>exact q
 | cont=>exact q
theorem ar (h1:PS X st t):PSs X [st] t:=by
 intro pins s σ H D I h
 refine wpAny_execs_cons (thn (h1 pins s σ H D I h) λ f s1 q=>?_)
 cases f with
 | next=>exact wpAny_execs_nil q
 | ret v=>exact q
 | brk=>exact q
 | cont=>exact q
theorem Inv.quiet {pins:List (Addr×Obj)} {σ:St} {H:Hp} {s:Shared} (I:Inv X pins σ H s):interactive X.env=false:=by simp [interactive,I.ok.kind]
def vC (te:TE):TS:=λ D σ H=>te σ H λ _ H1=>D.nx σ H1
theorem bx (he:PE X e te) (hs:swapsWith e none pos.line X.env=pure false:=by rfl):PS X (.Expr e pos) (vC te):=by
 intro pins s σ H D I h
 exact wpAny_Expr_any (thn (he pins s σ H _ I h) λ v s1 ⟨x,H1,I1,r1,q1⟩=>⟨σ,H1,I1,q1⟩) I.quiet hs
def Cj (te:TE):TS:=λ D σ H=>te σ H D.rt
theorem aO (he:PE X e te):PS X (.Return (some e) pos) (Cj te):=by
 intro pins s σ H D I h
 exact wpAny_Return_some (thn (he pins s σ H _ I h) λ v s1 ⟨x,H1,I1,r1,q1⟩=>⟨x,σ,H1,I1,r1,q1⟩)
def qZ (c:TT) (t u:TS):TS:=λ D σ H=>c σ H λ b H1=>if b=true then t D σ H1 else u D σ H1
theorem a8 {c:Expr} {a b:List Stmt} {tc:TT} (hc:PT X c tc) (ha:PSs X a t) (hb:PSs X b u):PS X (.If c a b pos) (qZ tc t u):=by
 intro pins s σ H D I h
 refine wpAny_If (thn (hc pins s σ H _ I h) λ d s1 ⟨H1,I1,q1⟩=>?_)
 cases d with
 | true=>exact ha pins s1 σ H1 D I1 q1
 | false=>exact hb pins s1 σ H1 D I1 q1
def CM:TS:=λ _ _ _=>False
theorem i3:PS X st CM:=λ _ _ _ _ _ _ h=>h.elim
end
abbrev TG:=V->St->Hp->(St->Hp->Prop)->Prop
abbrev TGs:=List V->St->Hp->(St->Hp->Prop)->Prop
def PG (X:Cx) (target:Expr) (t:TG):Prop:=
 ∀ (pins:List (Addr×Obj)) (s:Shared) (σ:St) (H:Hp) (v:V) (u:Value) (Q:St->Hp->Prop),Inv X pins σ H s->RelV v u->t v σ H Q ->
  wpAny (model X.prog X.w) X.A (assign target X.env u) (λ _ s'=>∃ σ' H',Inv X pins σ' H' s'/\Q σ' H') X.xe s
def PGs (X:Cx) (ts:List Expr) (t:TGs):Prop:=
 ∀ (pins:List (Addr×Obj)) (s:Shared) (σ:St) (H:Hp) (vs:List V) (us:List Value) (Q:St->Hp->Prop),Inv X pins σ H s->Vals vs us->t vs σ H Q ->
  wpAny (model X.prog X.w) X.A (assignInOrder ((assignEach ts X.env).map (·.2)) us) (λ _ s'=>∃ σ' H',Inv X pins σ' H' s'/\Q σ' H') X.xe s
abbrev As:=V->V->V->Hp->(Hp->Prop)->Prop
def FJ (X:Cx) (t:As):Prop:=
 ∀ (pins:List (Addr×Obj)) (s:Shared) (σ:St) (H:Hp) (o i v:V) (ov iv u:Value) (Q:Hp->Prop),Inv X pins σ H s->RelV o ov->RelV i iv->RelV v u->t o i v H Q ->
  wpAny (model X.prog X.w) X.A (setItem ov iv u) (λ _ s'=>∃ H',Inv X pins σ H' s'/\Q H') X.xe s
section
variable {X:Cx} {pos:Pos}
def dF (i:Nat):TG:=λ v σ H Q=>Q (σ.set i (some v)) H
theorem az {i:Nat} {x:Str} (hN:X.N.Nodup) (hi:X.N[i]?=some x) (hx:Loc X.env.scope x) (hf:X.fn x=true∨X.env.scope.names.lookup x=some .local:=by first | exact .inl rfl | exact .inr rfl | assumption):PG X (.Name x pos) (dF i):=by
 intro pins s σ H v u Q I r h
 exact wpAny_assign_Name (rO I hN hi hx r (λ s' I'=>⟨_,H,I',h⟩) hf)
def Gu:TGs:=λ vs σ H Q=>vs=[]/\Q σ H
def yw (t:TG) (u:TGs):TGs:=λ vs σ H Q=>∃ v r,vs=v::r/\t v σ H λ σ' H'=>u r σ' H' Q
theorem cF:PGs X [] Gu:=by
 intro pins s σ H vs us Q I r h
 obtain ⟨e,h⟩:=h
 subst e
 cases r
 exact assignInOrder_nil ⟨σ,H,I,h⟩
theorem aM {e:Expr} {es:List Expr} {t:TG} {u:TGs} (h1:PG X e t) (h2:PGs X es u)
  (hs:(assignEach (e::es) X.env).map (·.2)=assign e X.env::(assignEach es X.env).map (·.2):=by rfl):PGs X (e::es) (yw t u):=by
 intro pins s σ H vs us Q I r h
 obtain ⟨v,vr,e1,h⟩:=h
 subst e1
 cases r with
 | cons r rr=>
  rw [hs]
  refine assignInOrder_cons (thn (h1 pins s σ H _ _ _ I r h) λ _ s1 ⟨σ1,H1,I1,q1⟩=>?_)
  exact h2 pins s1 σ1 H1 _ _ Q I1 rr q1
def zZ (K:PySem.W.Frag) (n:Nat) (t:TGs):TG:=λ v σ H Q=>∃ a xs,v=.ref a/\SqT K H a xs/\xs.length=n/\t xs σ H Q
theorem iu {es:List Expr} {k:Nat} {t:TGs} {n:Nat} (hc:X.calm=true) (h:PGs X es t)
  (hn:(assignEach es X.env).length=n:=by rfl) (hst:(assignEach es X.env).findIdx? (·.1)=none:=by rfl):PG X (.Tuple es k pos) (zZ X.K n t):=by
 intro pins s σ H v u Q I r hw
 obtain ⟨a,xs,e1,hq,hl,hw⟩:=hw
 subst e1
 cases r
 obtain ⟨its,rv,ht,hz⟩:=I.tuple hq
 refine assign_Tuple_tuple (I.ok.hd hc) ht (by simp [hn,<- hl,rv.length]) hst λ h' hx=>?_
 have I1:Inv X pins σ H { s with heap:=h' }:=I.kept (t':=s.toks) λ b o e=>hx b o (Nat.ne_of_lt (Heap.lt_size e)) e
 exact h pins _ σ H xs _ Q I1 (by simpa using rv) hw
def FU (to ti:TE) (t:As):TG:=λ v σ H Q=>to σ H λ o H1=>ti σ H1 λ i H2=>t o i v H2 λ H3=>Q σ H3
theorem tW {o i:Expr} {to ti:TE} {t:As} (ho:PE X o to) (hi:PE X i ti) (hs:FJ X t)
  (ha:∀ v,assign (.Subscript o i pos) X.env v=(do
   let ov <- holding [v] (eval o X.env)
   let iv <- holding [v,ov] (eval i X.env)
   standAt pos
   holding [v,ov,iv] (setItem ov iv v)
   release [v,ov,iv] []):=by intro _;rfl):PG X (.Subscript o i pos) (FU to ti t):=by
 intro pins s σ H v u Q I r h
 rw [ha]
 refine wpAny_bind (wpAny_holding (thn (ho pins s σ H _ I h) λ ov s1 ⟨x,H1,I1,r1,q1⟩=>?_))
 refine wpAny_bind (wpAny_holding (thn (hi pins s1 σ H1 _ I1 q1) λ iv s2 ⟨y,H2,I2,r2,q2⟩=>?_))
 refine wpAny_bind (wpAny_standAt (wpAny_bind (wpAny_holding (thn (hs pins s2 σ H2 x y v ov iv u _ I2 r1 r2 r q2) λ _ s3 ⟨H3,I3,q3⟩=>?_))))
 exact wpAny_release ⟨σ,H3,I3,q3⟩
def AG (te:TE) (g:TG):TS:=λ D σ H=>te σ H λ x H1=>g x σ H1 D.nx
theorem ir {tg e:Expr} {te:TE} {g:TG} (he:PE X e te) (hg:PG X tg g) (hs:swapsWithSole [tg] e pos.line X.env=pure false:=by rfl) (hw:swappedStores [tg] e X.env=pure none:=by rfl)
  (h1:(assignEach [tg] X.env).map (·.2)=[assign tg X.env]:=by rfl):PS X (.Assign [tg] e pos) (AG te g):=by
 intro pins s σ H D I h
 refine wpAny_Assign_stores (thn (he pins s σ H _ I h) λ v s1 ⟨x,H1,I1,r1,q1⟩=>?_) hs hw
 rw [h1]
 exact thn (hg pins s1 σ H1 x v _ I1 r1 q1) λ _ s2 q=>q
theorem aN {i:Nat} {x:Str} {e:Expr} {te:TE} {pos':Pos} (hN:X.N.Nodup) (hi:X.N[i]?=some x) (hx:Loc X.env.scope x) (he:PE X e te) (hs:swapsWith e (some (.Name x pos')) pos.line X.env=pure false:=by rfl) (hf:X.fn x=true∨X.env.scope.names.lookup x=some .local:=by first | exact .inl rfl | exact .inr rfl | assumption):
  PS X (.Assign [.Name x pos'] e pos) (AG te (dF i)):=by
 intro pins s σ H D I h
 refine wpAny_Assign_Name (thn (he pins s σ H _ I h) λ v s1 ⟨y,H1,I1,r1,q1⟩=>?_) hs
 exact rO I1 hN hi hx r1 (λ s2 I2=>⟨_,H1,I2,q1⟩) hf
end
section
variable {X:Cx} {pos:Pos}
def yz (c:TT) (tb:TS):TS:=λ D σ H=>∃ W:Nat->St->Hp->Prop,(∃ m,W m σ H)/\∀ m σ H,W m σ H ->
 c σ H λ b H1=>if b=true then ∃ N:St->Hp->Prop,(∀ σ' H',N σ' H'->∃ m',m'<m/\W m' σ' H')/\tb { D with nx:=N,ct:=N,bk:=D.nx } σ H1 else D.nx σ H1
theorem yi {c:Expr} {body:List Stmt} {tc:TT} {tb:TS} (hp:PassesOwn (model X.prog X.w) X.A X.env X.xe) (hc:PT X c tc) (hb:PSs X body tb):PS X (.While c body [] pos) (yz tc tb):=by
 intro pins s σ H D I h
 obtain ⟨W,⟨m0,w0⟩,turn⟩:=h
 refine wpAny_While (codeAny_whileLoop (λ n s'=>∃ σ' H',Inv X pins σ' H' s'/\W n σ' H') ?_ m0 ⟨σ,H,I,w0⟩)
 rintro n s1 ⟨σ1,H1,I1,w1⟩
 refine wpAny_passesOwn hp (thn (hc pins s1 σ1 H1 _ I1 (turn n σ1 H1 w1)) λ b s2 ⟨H2,I2,q2⟩=>?_)
 cases b with
 | true=>
  obtain ⟨N,hN,q2⟩:=q2
  rw [if_pos rfl]
  refine wpAny_passesOwn hp (thn (hb pins s2 σ1 H2 _ I2 q2) λ f s3 q3=>?_)
  cases f with
  | next=>
   obtain ⟨σ3,H3,I3,n3⟩:=q3
   obtain ⟨m',hm,w3⟩:=hN σ3 H3 n3
   exact ⟨m',hm,σ3,H3,I3,w3⟩
  | cont=>
   obtain ⟨σ3,H3,I3,n3⟩:=q3
   obtain ⟨m',hm,w3⟩:=hN σ3 H3 n3
   exact ⟨m',hm,σ3,H3,I3,w3⟩
  | brk=>exact q3
  | ret v=>exact q3
 | false=>
  rw [if_neg Bool.false_ne_true]
  exact wpAny_execs_nil ⟨σ1,H2,I2,q2⟩
end
structure It where
 go:Nat->Hp->Prop
 yld:Nat->Hp->V->Hp->Prop
 stop:Nat->Hp->Prop
def kh (X:Cx) (pins:List (Addr×Obj)) (H:Hp) (b:Addr):Prop:=
 H b=none/\b≠X.env.locals/\b ∉ X.fs/\(b∈X.ex∨X.s₀.heap.objs.size<=b)/\(∀ x c,X.env.cells.lookup x=some c->c≠b)/\∀ p∈X.pn++pins,p.1≠b
theorem Inv.rf {X:Cx} {pins:List (Addr×Obj)} {σ:St} {H H':Hp} {s:Shared} {b:Addr} (I:Inv X pins σ H s) (hb:s.heap.objs.size<=b) (hn:H' b=none):kh X pins H' b:=by
 refine ⟨hn,Nat.ne_of_gt (Nat.lt_of_lt_of_le I.lt hb),I.Ho hb,.inr (Nat.le_trans I.sz hb),λ x c e z=>?_,λ p hp z=>?_⟩
 ·obtain ⟨v,q⟩:=I.cell x c e
  exact absurd (Nat.lt_of_lt_of_le q.lt (by rw [z];exact hb)) (Nat.lt_irrefl _)
 ·exact absurd (Nat.lt_of_lt_of_le (Heap.lt_size (I.pin p hp).1) (by rw [z];exact hb)) (Nat.lt_irrefl _)
structure Turn (P:Program) (w:World) (K:PySem.W.Frag) (tg:Expr) (J:It) (fp:List Addr) (it:Addr) (tn:Nat->Heap->Prop):Prop where
 mem:it∈fp
 obj:∀ i h,tn i h->∀ b∈fp,∃ o,h.get? b=some o/\∀ v,o.data≠.cell v
 keep:∀ i h h',tn i h->(∀ b∈fp,∀ o,h.get? b=some o->h'.get? b=some o)->tn i h'
 item:∀ (X:Cx),X.prog=P->X.w=w->X.K=K->X.calm=true->∀ (i:Nat) (pins:List (Addr×Obj)) (s:Shared) (σ:St) (H:Hp) (E:Value->Shared->Prop),Inv X pins σ H s->(∀ b∈fp,kh X pins H b)->tn i s.heap->J.go i H ->
  wpAny (model P w) X.A (pyNext (.ref it)) (λ r s1=>∃ u,r=some u /\
   wpAny (model P w) X.A (letOwnedTupleGo tg (.ref it) u) (λ _ s2=>∃ x H',Inv X pins σ H' s2/\RelV x u/\J.yld i H x H'/\tn (i+1) s2.heap/\∀ b∈fp,H' b=none) E s1) E s
 done:∀ (X:Cx),X.prog=P->X.w=w->X.K=K->X.calm=true->∀ (i:Nat) (pins:List (Addr×Obj)) (s:Shared) (σ:St) (H:Hp) (E:Value->Shared->Prop),Inv X pins σ H s->(∀ b∈fp,kh X pins H b)->tn i s.heap->J.stop i H ->
  wpAny (model P w) X.A (pyNext (.ref it)) (λ r s1=>r=none/\Inv X pins σ H s1) E s
 self:∀ (A:Around) (i:Nat) (s:Shared) (Q:Value->Shared->Prop) (E:Value->Shared->Prop),tn i s.heap->Q (.ref it) s->wpAny (model P w) A (pyIter (.ref it)) Q E s
abbrev TI:=St->Hp->(It->Hp->Prop)->Prop
def PIE (X:Cx) (pins:List (Addr×Obj)) (σ:St) (tg:Expr) (R:It->Hp->Prop) (itv:Value) (s2:Shared):Prop:=
 ∃ (it:Addr) (fp:List Addr) (tn:Nat->Heap->Prop) (J:It) (H':Hp),itv=.ref it/\Inv X pins σ H' s2/\Turn X.prog X.w X.K tg J fp it tn/\tn 0 s2.heap/\(∀ b∈fp,kh X pins H' b)/\R J H'
def PI (X:Cx) (tg iter:Expr) (wi:TI):Prop:=
 ∀ (pins:List (Addr×Obj)) (s:Shared) (σ:St) (H:Hp) (R:It->Hp->Prop),Inv X pins σ H s->wi σ H R ->
  wpAny (model X.prog X.w) X.A (eval iter X.env) (λ v s1=>wpAny (model X.prog X.w) X.A (pyIter v) (PIE X pins σ tg R) X.xe s1) X.xe s
theorem vF {M:Model} {A:Around} {E:Value->Shared->Prop} {s:Shared} {tg:Expr} {it:Addr} {u:Value} {o:Obj} {n:String} {vs:Array Value} {Q:Unit->Shared->Prop} (ho:s.heap.get? it=some o) (hc:o.cls=.type n) (hd:o.data=.fields vs)
  (hn:["enumerate","zip","dict_itemiterator","dict_reverseitemiterator","odict_iterator","itertools.zip_longest","itertools.pairwise"].contains n=false) (hQ:Q () s):wpAny M A (letOwnedTupleGo tg (.ref it) u) Q E s:=by
 unfold letOwnedTupleGo
 cases tg <;> first
  | exact wpAny_pure hQ
  | (cases u <;> first
    | exact wpAny_pure hQ
    | (refine wpAny_bind (wpAny_load ho ?_);rw [hc,hd];show wpAny M A (if (["enumerate","zip","dict_itemiterator","dict_reverseitemiterator","odict_iterator","itertools.zip_longest","itertools.pairwise"].contains n&&vs[0]? == some (rawInt _))=true then _ else _) Q E s;rw [if_neg (by intro h;rw [hn,Bool.false_and] at h;cases h)];exact wpAny_pure hQ))
def Itl (K:PySem.W.Frag) (a:Addr):It:=
 ⟨λ i H=>∃ xs x,SqL K H a xs/\xs[i]?=some x,λ i H x H'=>H'=H/\∀ xs,SqL K H a xs->xs[i]?=some x,λ i H=>∃ xs,SqL K H a xs/\xs.length<=i⟩
def Itt (K:PySem.W.Frag) (a:Addr):It:=
 ⟨λ i H=>∃ xs x,SqT K H a xs/\xs[i]?=some x,λ i H x H'=>H'=H/\∀ xs,SqT K H a xs->xs[i]?=some x,λ i H=>∃ xs,SqT K H a xs/\xs.length<=i⟩
def Itr (lo:Int) (n:Nat):It:=⟨λ i _=>i<n,λ i H x H'=>H'=H/\x=.int (lo+i),λ i _=>n<=i⟩
theorem wu {P:Program} {w:World} {K:PySem.W.Frag} {tg:Expr} (a it:Addr):Turn P w K tg (Itl K a) [it] it (λ i h=>h.IsListIter it a i) where
 mem:=by simp
 obj:=λ i h st b hb=>by
  have e:b=it:=by simpa using hb
  subst e
  obtain ⟨o,e,c,d⟩:=st
  exact ⟨o,e,λ v z=>by rw [d] at z;cases z⟩
 keep:=λ i h h' st k=>st.at λ o e=>k it (by simp) o e
 item:=by
  intro X hP hw hK hc i pins s σ H E I hf st hg
  subst hP hw hK
  obtain ⟨xs,x,hq,hx⟩:=hg
  obtain ⟨its,rv,p,hz⟩:=I.list hq
  obtain ⟨u,hu,ru⟩:=rv.get hx
  obtain ⟨f0,f1,f2,f3,f4,f5⟩:=hf it (by simp)
  refine wpAny_pyNext_list_item st p.isList (x:=u) (by simpa using hu) λ h' st' sb=>?_
  have I1:Inv X pins σ H { s with heap:=h' }:=I.turned (t':=s.toks) (λ b o hb e=>(sb.2 b hb).trans e) f0 f1 f3 f4 f5
  obtain ⟨o,e,c,d⟩:=id st'
  exact ⟨u,rfl,vF (s:={ s with heap:=h' }) e c d (by decide) ⟨x,H,I1,ru,⟨rfl,λ ys hy=>by rw [I.kB hy hq];exact hx⟩,st',λ b hb=>(hf b hb).1⟩⟩
 done:=by
  intro X hP hw hK hc i pins s σ H E I hf st hg
  subst hP hw hK
  obtain ⟨xs,hq,hx⟩:=hg
  obtain ⟨its,rv,p,hz⟩:=I.list hq
  obtain ⟨f0,f1,f2,f3,f4,f5⟩:=hf it (by simp)
  have hl:=rv.length
  exact wpAny_pyNext_list_end (I.ok.hd hc) st p.isList (by simp;omega) λ h' eb=>⟨rfl,I.turned (t':=s.toks) (λ b o hb e=>eb b o hb e) f0 f1 f3 f4 f5⟩
 self:=λ _ _ _ _ _ st h=>wpAny_pyIter_listiter st h
theorem tE {P:Program} {w:World} {K:PySem.W.Frag} {tg:Expr} (a it:Addr):Turn P w K tg (Itt K a) [it] it (λ i h=>h.IsTupleIter it a i) where
 mem:=by simp
 obj:=λ i h st b hb=>by
  have e:b=it:=by simpa using hb
  subst e
  obtain ⟨o,e,c,d⟩:=st
  exact ⟨o,e,λ v z=>by rw [d] at z;cases z⟩
 keep:=λ i h h' st k=>st.at λ o e=>k it (by simp) o e
 item:=by
  intro X hP hw hK hc i pins s σ H E I hf st hg
  subst hP hw hK
  obtain ⟨xs,x,hq,hx⟩:=hg
  obtain ⟨its,rv,p,hz⟩:=I.tuple hq
  obtain ⟨u,hu,ru⟩:=rv.get hx
  obtain ⟨f0,f1,f2,f3,f4,f5⟩:=hf it (by simp)
  refine wpAny_pyNext_tuple_item st (show s.heap.IsTuple a its.toArray from p) (x:=u) (by simpa using hu) λ h' st' sb=>?_
  have I1:Inv X pins σ H { s with heap:=h' }:=I.turned (t':=s.toks) (λ b o hb e=>(sb.2 b hb).trans e) f0 f1 f3 f4 f5
  obtain ⟨o,e,c,d⟩:=id st'
  exact ⟨u,rfl,vF (s:={ s with heap:=h' }) e c d (by decide) ⟨x,H,I1,ru,⟨rfl,λ ys hy=>by rw [I.wx hy hq];exact hx⟩,st',λ b hb=>(hf b hb).1⟩⟩
 done:=by
  intro X hP hw hK hc i pins s σ H E I hf st hg
  subst hP hw hK
  obtain ⟨xs,hq,hx⟩:=hg
  obtain ⟨its,rv,p,hz⟩:=I.tuple hq
  obtain ⟨f0,f1,f2,f3,f4,f5⟩:=hf it (by simp)
  have hl:=rv.length
  exact wpAny_pyNext_tuple_end (I.ok.hd hc) st (show s.heap.IsTuple a its.toArray from p) (by simp;omega) λ h' eb=>⟨rfl,I.turned (t':=s.toks) (λ b o hb e=>eb b o hb e) f0 f1 f3 f4 f5⟩
 self:=λ _ _ _ _ _ st h=>wpAny_pyIter_tupleiter st h
theorem uH {P:Program} {w:World} {K:PySem.W.Frag} {tg:Expr} (it:Addr) (lo:Int) (n:Nat):Turn P w K tg (Itr lo n) [it] it (λ i h=>IsRangeIter h it (lo+(i:Nat) * 1) ((n:Int) - (i:Nat)) 1) where
 mem:=by simp
 obj:=λ i h st b hb=>by
  have e:b=it:=by simpa using hb
  subst e
  exact ⟨_,st,λ v z=>by
   have z':Data.fields _=Data.cell v:=z
   cases z'⟩
 keep:=λ i h h' st k=>k it (by simp) _ st
 item:=by
  intro X hP hw hK hc i pins s σ H E I hf st hg
  subst hP hw hK
  obtain ⟨f0,f1,f2,f3,f4,f5⟩:=hf it (by simp)
  have W:=Walks.range (prog:=X.prog) (w:=X.w) (I.ok.hd hc) it lo 1 n
  refine W.item i s _ _ hg st λ v h' tk hv st' kk=>?_
  obtain ⟨t,rfl⟩:=hv
  have I1:Inv X pins σ H { s with heap:=h',toks:=tk }:=I.turned (λ b o hb e=>kk b o (by simpa using hb) e) f0 f1 f3 f4 f5
  refine ⟨_,rfl,vF (s:={ s with heap:=h',toks:=tk }) (n:="range_iterator") st' rfl rfl (by decide) ⟨.int (lo+i),H,I1,⟨t,?_⟩,⟨rfl,rfl⟩,st',λ b hb=>(hf b hb).1⟩⟩
  rw [Int.mul_one]
 done:=by
  intro X hP hw hK hc i pins s σ H E I hf st hg
  subst hP hw hK
  obtain ⟨f0,f1,f2,f3,f4,f5⟩:=hf it (by simp)
  exact wpAny_pyNext_range_end (I.ok.hd hc) st (by have:n<=i:=hg;omega) λ h' eb=>⟨rfl,I.turned (t':=s.toks) (λ b o hb e=>eb b o hb e) f0 f1 f3 f4 f5⟩
 self:=λ _ _ _ _ _ st h=>wpAny_pyIter_rangeiter st h
section
variable {X:Cx} {tg:Expr}
def BD (K:PySem.W.Frag) (tl:TE):TI:=λ σ H R=>tl σ H λ x H1=>∃ a,x=.ref a/\(∃ xs,SqL K H1 a xs)/\R (Itl K a) H1
def Fc (K:PySem.W.Frag) (tl:TE):TI:=λ σ H R=>tl σ H λ x H1=>∃ a,x=.ref a/\(∃ xs,SqT K H1 a xs)/\R (Itt K a) H1
theorem bF {l:Expr} {tl:TE} (hl:PE X l tl):PI X tg l (BD X.K tl):=by
 intro pins s σ H R I h
 refine thn (hl pins s σ H _ I h) λ v s1 ⟨x,H1,I1,r1,q1⟩=>?_
 obtain ⟨a,e,⟨xs,hq⟩,q⟩:=q1
 subst e
 cases r1
 obtain ⟨its,rv,p,hz⟩:=I1.list hq
 refine wpAny_pyIter_list p.isList ?_
 refine ⟨s1.heap.objs.size,[s1.heap.objs.size],_,_,H1,rfl,I1.kept (t':=s1.toks) λ b o e=>Heap.get?_push_of_some _ e,wu a _,⟨_,Heap.get?_push_size _ rfl,rfl,rfl⟩,λ b hb=>?_,q⟩
 have e:b=s1.heap.objs.size:=by simpa using hb
 subst e
 exact I1.rf (Nat.le_refl _) (I1.hok.fresh (Nat.le_refl _))
theorem tU {l:Expr} {tl:TE} (hl:PE X l tl):PI X tg l (Fc X.K tl):=by
 intro pins s σ H R I h
 refine thn (hl pins s σ H _ I h) λ v s1 ⟨x,H1,I1,r1,q1⟩=>?_
 obtain ⟨a,e,⟨xs,hq⟩,q⟩:=q1
 subst e
 cases r1
 obtain ⟨its,rv,p,hz⟩:=I1.tuple hq
 refine wpAny_pyIter_tuple (show s1.heap.IsTuple a its.toArray from p) ?_
 refine ⟨s1.heap.objs.size,[s1.heap.objs.size],_,_,H1,rfl,I1.kept (t':=s1.toks) λ b o e=>Heap.get?_push_of_some _ e,tE a _,⟨_,Heap.get?_push_size _ rfl,rfl,rfl⟩,λ b hb=>?_,q⟩
 have e:b=s1.heap.objs.size:=by simpa using hb
 subst e
 exact I1.rf (Nat.le_refl _) (I1.hok.fresh (Nat.le_refl _))
theorem yH {pins:List (Addr×Obj)} {σ:St} {H:Hp} {s:Shared} {R:It->Hp->Prop} {E:Value->Shared->Prop} {lo hi:Int} {t u v:Tok} {tk:Nat} (I:Inv X pins σ H s) (h1:-(2 ^ 62)<=lo) (h2:lo<2 ^ 62) (h3:-(2 ^ 62)<=hi) (h4:hi<2 ^ 62)
  (q:R (Itr lo (hi - lo).toNat) H):wpAny (model X.prog X.w) X.A (pyIter (.ref s.heap.objs.size)) (PIE X pins σ tg R) E { s with heap:=s.heap.push { cls:=.type "range",data:=.fields #[.int lo t,.int hi u,.int 1 v] },toks:=tk }:=by
 refine wpAny_pyIter_range (IsRange.new ..) (small_one h1 h2 h3 h4) ?_
 have I1:Inv X pins σ H { s with heap:=s.heap.push { cls:=.type "range",data:=.fields #[.int lo t,.int hi u,.int 1 v] },toks:=tk }:=I.kept λ b o e=>Heap.get?_push_of_some _ e
 refine ⟨(s.heap.push { cls:=.type "range",data:=.fields #[.int lo t,.int hi u,.int 1 v] }).objs.size,[(s.heap.push { cls:=.type "range",data:=.fields #[.int lo t,.int hi u,.int 1 v] }).objs.size],_,_,H,rfl,
  I1.kept (t':=tk) λ b o e=>Heap.get?_push_of_some _ e,uH _ lo (hi - lo).toNat,?_,λ b hb=>?_,q⟩
 ·have e1:lo+((0:Nat):Int) * 1=lo:=by simp
  have e2:(((hi - lo).toNat:Nat):Int) - ((0:Nat):Int)=Builtin.Range.rangeSize lo hi 1:=by rw [rangeSize_one];split <;> omega
  show IsRangeIter _ _ (lo+((0:Nat):Int) * 1) ((((hi - lo).toNat:Nat):Int) - ((0:Nat):Int)) 1
  rw [e1,e2]
  exact Heap.get?_push_size _ rfl
 ·have e:b=(s.heap.push { cls:=.type "range",data:=.fields #[.int lo t,.int hi u,.int 1 v] }).objs.size:=by simpa using hb
  subst e
  exact I1.rf (Nat.le_refl _) (I1.hok.fresh (Nat.le_refl _))
def BC (ta:TA):TI:=λ σ H R=>ta σ H λ vs H1=>∃ j:Int,vs=[.int j]/\-(2 ^ 62)<=j/\j<2 ^ 62/\R (Itr 0 j.toNat) H1
theorem dH {a:Expr} {ta:TA} {p pos:Pos} (hg:Gl X "range") (hm:X.mg "range"=none) (ha:PA X [a] ta) (hs:starEach [a] X.env=[(false,eval a X.env)]:=by rfl):PI X tg (.Call (.Name "range" p) [a] [] pos) (BC ta):=by
 intro pins s σ H R I h
 refine Call_ (jB I hg hm boot_range (PyProof.Rows.callWith_type1 (thn (ha pos pins s σ H _ I h) λ us s1 ⟨vs,H1,I1,r1,q1⟩=>?_) hs rfl))
 obtain ⟨j,e,q1,q2,q⟩:=q1
 subst e
 cases r1 with
 | cons r rr=>
  cases rr
  obtain ⟨t,rfl⟩:=r
  exact call_range_1 (yH I1 (by omega) (by omega) q1 q2 (by simpa using q))
def EA (wi:TI) (g:TG) (tb:TS):TS:=λ D σ H=>wi σ H λ J H1=>∃ W:Nat->Nat->St->Hp->Prop,(∃ m,W 0 m σ H1)/\∀ i m σ H,W i m σ H ->
 (J.stop i H/\D.nx σ H)∨(J.go i H/\∃ N:St->Hp->Prop,(∀ σ' H',N σ' H'->∃ m',m'<m/\W (i+1) m' σ' H')/\∀ x H',J.yld i H x H'->g x σ H' λ σ2 H2=>tb { D with nx:=N,ct:=N,bk:=D.nx } σ2 H2)
def kK (fp:List Addr) (h:Heap):List (Addr×Obj):=fp.filterMap λ b=>(h.get? b).map λ o=>(b,o)
theorem cK {fp:List Addr} {h:Heap} {b:Addr} {o:Obj} (hb:b∈fp) (e:h.get? b=some o):(b,o)∈kK fp h:=List.mem_filterMap.mpr ⟨b,hb,by rw [e];rfl⟩
theorem wA {fp:List Addr} {h:Heap} {p:Addr×Obj} (hp:p∈kK fp h):p.1∈fp/\h.get? p.1=some p.2:=by
 obtain ⟨b,hb,e⟩:=List.mem_filterMap.mp hp
 cases q:h.get? b with
 | none=>rw [q] at e;cases e
 | some o=>
  rw [q] at e
  have e':(b,o)=p:=Option.some.inj e
  subst e'
  exact ⟨hb,q⟩
theorem Inv.pinned {pins:List (Addr×Obj)} {σ:St} {H:Hp} {s:Shared} {fp:List Addr} (I:Inv X pins σ H s) (hf:∀ b∈fp,kh X pins H b) (ho:∀ b∈fp,∃ o,s.heap.get? b=some o/\∀ v,o.data≠.cell v):Inv X (pins++kK fp s.heap) σ H s:=
 I.vg λ p hp=>(List.mem_append.mp hp).elim (λ z=>I.pin p (List.mem_append_right _ z)) λ z=>by
  obtain ⟨hb,e⟩:=wA z
  obtain ⟨f0,f1,f2,_⟩:=hf p.1 hb
  obtain ⟨o,e',d⟩:=ho p.1 hb
  rw [e] at e';cases e'
  exact ⟨e,f0,f1,f2,d⟩
theorem Inv.hU {pins pl:List (Addr×Obj)} {σ:St} {H:Hp} {s:Shared} (I:Inv X (pins++pl) σ H s):Inv X pins σ H s:=I.vg λ p hp=>I.pin p (List.mem_append_right _ (List.mem_append_left _ hp))
theorem fu {iter:Expr} {body:List Stmt} {wi:TI} {g:TG} {tb:TS} {pos:Pos} (hp:PassesOwn (model X.prog X.w) X.A X.env X.xe) (hc:X.calm=true) (hi:PI X tg iter wi) (hg:PG X tg g) (hb:PSs X body tb)
  (hs:∀ x,foldedSetIterable iter X.env x=pure x:=by intro _;rfl):PS X (.For tg iter body [] pos) (EA wi g tb):=by
 intro pins s σ H D I h
 refine wpAny_For (thn (hi pins s σ H _ I h) λ v s1 h1=>thn h1 λ itv s2 h2=>?_) hs
 obtain ⟨it,fp,tn,J,H2,e,I2,T,st2,f2,W,⟨m0,w0⟩,turn⟩:=h2
 subst e
 -- what stays true of the iterator's objects through the loop
 have stat:∀ {H':Hp},(∀ b∈fp,H' b=none)->∀ b∈fp,kh X pins H' b:=λ hn b hb=>⟨hn b hb,(f2 b hb).2⟩
 refine codeAny_forLoop_any (λ n s'=>∃ i σ' H',Inv X pins σ' H' s'/\tn i s'.heap/\(∀ b∈fp,H' b=none)/\W i n σ' H') ?_ m0 ⟨0,σ,H2,I2,st2,λ b hb=>(f2 b hb).1,w0⟩
 rintro n s3 ⟨i,σ3,H3,I3,st3,fr3,w3⟩
 rcases turn i n σ3 H3 w3 with ⟨stop,qn⟩ | ⟨go,N,hN,step⟩
 ·refine wpAny_passesOwn hp (thn (T.done X rfl rfl rfl hc i pins s3 σ3 H3 X.xe I3 (stat fr3) st3 stop) λ r s4 ⟨hr,I4⟩=>?_)
  subst hr
  exact wpAny_execs_nil ⟨σ3,H3,I4,qn⟩
 ·refine wpAny_passesOwn hp (thn (T.item X rfl rfl rfl hc i pins s3 σ3 H3 X.xe I3 (stat fr3) st3 go) λ r s4 ⟨u,hr,h4⟩=>?_)
  subst hr
  refine wpAny_passesOwn hp (thn h4 λ _ s5 ⟨x,H5,I5,r5,y5,st5,fr5⟩=>?_)
  have I5':=I5.pinned (stat fr5) (T.obj _ _ st5)
  refine wpAny_passesOwn hp (thn (hg _ s5 σ3 H5 x u _ I5' r5 (step x H5 y5)) λ _ s6 ⟨σ6,H6,I6,q6⟩=>?_)
  refine wpAny_passesOwn hp (thn (hb _ s6 σ6 H6 _ I6 q6) λ f s7 q7=>?_)
  have again:∀ {σ7:St} {H7:Hp},Inv X (pins++kK fp s5.heap) σ7 H7 s7->N σ7 H7->∃ m,m<n/\∃ i σ' H',Inv X pins σ' H' s7/\tn i s7.heap/\(∀ b∈fp,H' b=none)/\W i m σ' H':=λ {σ7 H7} I7 n7=>by
   obtain ⟨m',hm,w7⟩:=hN σ7 H7 n7
   refine ⟨m',hm,i+1,σ7,H7,I7.hU,T.keep _ _ _ st5 λ b hb o e=>(I7.pin (b,o) (List.mem_append_right _ (List.mem_append_right _ (cK hb e)))).1,λ b hb=>?_,w7⟩
   obtain ⟨o,e,d⟩:=T.obj _ _ st5 b hb
   exact (I7.pin (b,o) (List.mem_append_right _ (List.mem_append_right _ (cK hb e)))).2.1
  cases f with
  | next=>obtain ⟨σ7,H7,I7,n7⟩:=q7;exact again I7 n7
  | cont=>obtain ⟨σ7,H7,I7,n7⟩:=q7;exact again I7 n7
  | brk=>obtain ⟨σ7,H7,I7,q7⟩:=q7;exact ⟨σ7,H7,I7.hU,q7⟩
  | ret v=>obtain ⟨x7,σ7,H7,I7,r7,q7⟩:=q7;exact ⟨x7,σ7,H7,I7.hU,r7,q7⟩
end
theorem yX {K:PySem.W.Frag} {a:Addr} {xs:List V} {g:TG} {tb:TS} {D:Ends} {σ:St} {H:Hp} (Pv:Nat->St->Hp->Prop) (h0:Pv 0 σ H) (hl:∀ i σ H,i<=xs.length->Pv i σ H->SqL K H a xs)
  (hs:∀ i x σ H,xs[i]?=some x->Pv i σ H->g x σ H λ σ2 H2=>tb { D with nx:=Pv (i+1),ct:=Pv (i+1),bk:=D.nx } σ2 H2) (hd:∀ σ H,Pv xs.length σ H->D.nx σ H):
  ∃ W:Nat->Nat->St->Hp->Prop,(∃ m,W 0 m σ H)/\∀ i m σ H,W i m σ H ->
   ((Itl K a).stop i H/\D.nx σ H)∨((Itl K a).go i H/\∃ N:St->Hp->Prop,(∀ σ' H',N σ' H'->∃ m',m'<m/\W (i+1) m' σ' H')/\∀ x H',(Itl K a).yld i H x H'->g x σ H' λ σ2 H2=>tb { D with nx:=N,ct:=N,bk:=D.nx } σ2 H2):=by
 refine ⟨λ i m σ H=>m=xs.length - i/\i<=xs.length/\Pv i σ H,⟨xs.length,by simp,Nat.zero_le _,h0⟩,?_⟩
 rintro i m σ H ⟨rfl,hi,p⟩
 have q:=hl i σ H hi p
 by_cases hlt:i<xs.length
 ·refine .inr ⟨⟨xs,xs[i],q,by simp [hlt]⟩,Pv (i+1),λ σ' H' p'=>⟨xs.length - (i+1),by omega,rfl,hlt,p'⟩,λ x H' y=>?_⟩
  obtain ⟨e,y⟩:=y
  subst e
  exact hs i x σ _ (y xs q) p
 ·have e:i=xs.length:=by omega
  subst e
  exact .inl ⟨⟨xs,q,Nat.le_refl _⟩,hd σ H p⟩
theorem vX {lo:Int} {n:Nat} {g:TG} {tb:TS} {D:Ends} {σ:St} {H:Hp} (Pv:Nat->St->Hp->Prop) (h0:Pv 0 σ H)
  (hs:∀ i σ H,i<n->Pv i σ H->g (.int (lo+i)) σ H λ σ2 H2=>tb { D with nx:=Pv (i+1),ct:=Pv (i+1),bk:=D.nx } σ2 H2) (hd:∀ σ H,Pv n σ H->D.nx σ H):
  ∃ W:Nat->Nat->St->Hp->Prop,(∃ m,W 0 m σ H)/\∀ i m σ H,W i m σ H ->
   ((Itr lo n).stop i H/\D.nx σ H)∨((Itr lo n).go i H/\∃ N:St->Hp->Prop,(∀ σ' H',N σ' H'->∃ m',m'<m/\W (i+1) m' σ' H')/\∀ x H',(Itr lo n).yld i H x H'->g x σ H' λ σ2 H2=>tb { D with nx:=N,ct:=N,bk:=D.nx } σ2 H2):=by
 refine ⟨λ i m σ H=>m=n - i/\i<=n/\Pv i σ H,⟨n,by simp,Nat.zero_le _,h0⟩,?_⟩
 rintro i m σ H ⟨rfl,hi,p⟩
 by_cases hlt:i<n
 ·refine .inr ⟨hlt,Pv (i+1),λ σ' H' p'=>⟨n - (i+1),by omega,rfl,hlt,p'⟩,λ x H' y=>?_⟩
  obtain ⟨e,y⟩:=y
  subst e y
  exact hs i σ _ hlt p
 ·have e:i=n:=by omega
  subst e
  exact .inl ⟨Nat.le_refl _,hd σ H p⟩
abbrev R2:=V->V->Hp->VK->Prop
def OpR (X:Cx) (f:Value->Value->Sem Value) (r:R2):Prop:=
 ∀ (pins:List (Addr×Obj)) (s:Shared) (σ:St) (H:Hp) (x y:V) (v u:Value) (Q:VK),Inv X pins σ H s->RelV x v->RelV y u->r x y H Q ->
  wpAny (model X.prog X.w) X.A (f v u) (EP X pins σ Q) X.xe s
def UnR (X:Cx) (f:Value->Sem Value) (r:V->Hp->VK->Prop):Prop:=
 ∀ (pins:List (Addr×Obj)) (s:Shared) (σ:St) (H:Hp) (x:V) (v:Value) (Q:VK),Inv X pins σ H s->RelV x v->r x H Q ->
  wpAny (model X.prog X.w) X.A (f v) (EP X pins σ Q) X.xe s
def fA (X:Cx) (f:Value) (r:List V->Hp->VK->Prop):Prop:=
 ∀ (pins:List (Addr×Obj)) (s:Shared) (σ:St) (H:Hp) (xs:List V) (us:List Value) (Q:VK),Inv X pins σ H s->Vals xs us->r xs H Q ->
  wpAny (model X.prog X.w) X.A (call f us) (EP X pins σ Q) X.xe s
def He (X:Cx) (r:V->Hp->(Bool->Hp->Prop)->Prop):Prop:=
 ∀ (pins:List (Addr×Obj)) (s:Shared) (σ:St) (H:Hp) (x:V) (v:Value) (Q:Bool->Hp->Prop),Inv X pins σ H s->RelV x v->r x H Q ->
  wpAny (model X.prog X.w) X.A (truthy v) (TP X pins σ Q) X.xe s
def tOp (r:R2) (ta tb:TE):TE:=λ σ H Q=>ta σ H λ x H1=>tb σ H1 λ y H2=>r x y H2 Q
def tUn (r:V->Hp->VK->Prop) (ta:TE):TE:=λ σ H Q=>ta σ H λ x H1=>r x H1 Q
def rI (C:Int->Int->Prop) (g:Int->Int->V):R2:=λ x y H Q=>∃ i j,x=.int i/\y=.int j/\C i j/\Q (g i j) H
def rI0 (g:Int->Int->V):R2:=λ x y H Q=>∃ i j,x=.int i/\y=.int j/\Q (g i j) H
def rU (g:Int->V):V->Hp->VK->Prop:=λ x H Q=>∃ i,x=.int i/\Q (g i) H
section
variable {X:Cx} {a b c:Expr} {ta tb tc:TE} {pos:Pos}
theorem Cu (ha:PE X a ta) (hb:PE X b tb) {pins:List (Addr×Obj)} {s:Shared} {σ:St} {H:Hp} {R:V->V->Hp->Prop} (I:Inv X pins σ H s)
  (h:ta σ H λ x H1=>tb σ H1 λ y H2=>R x y H2) {Q:Value->Shared->Prop} {f:Value->Value->Sem Value}
  (hf:∀ v u s2 x y H2,Inv X pins σ H2 s2->RelV x v->RelV y u->R x y H2->wpAny (model X.prog X.w) X.A (f v u) Q X.xe s2):
  wpAny (model X.prog X.w) X.A (eval a X.env) (λ v s₁=>wpAny (model X.prog X.w) X.A (eval b X.env) (λ u s₂=>wpAny (model X.prog X.w) X.A (f v u) Q X.xe s₂) X.xe s₁) X.xe s:=by
 refine thn (ha pins s σ H _ I h) λ v s1 ⟨x,H1,I1,r1,q1⟩=>?_
 refine thn (hb pins s1 σ H1 _ I1 q1) λ u s2 ⟨y,H2,I2,r2,q2⟩=>?_
 exact hf v u s2 x y H2 I2 r1 r2 q2
theorem au {op:Operator} {r:R2} (ho:OpR X (binaryOp op) r) (ha:PE X a ta) (hb:PE X b tb):PE X (.BinOp a op b pos) (tOp r ta tb):=by
 intro pins s σ H Q I h
 exact wpAny_BinOp (Cu ha hb I h λ v u s2 x y H2 I2 rx ry q=>ho pins s2 σ H2 x y v u Q I2 rx ry q)
theorem vn {op:UnaryOp} {r:V->Hp->VK->Prop} (ho:UnR X (unaryOp op) r) (ha:PE X a ta):PE X (.UnaryOp op a pos) (tUn r ta):=by
 intro pins s σ H Q I h
 exact UnaryOp_ (thn (ha pins s σ H _ I h) λ v s1 ⟨x,H1,I1,r1,q1⟩=>ho pins s1 σ H1 x v Q I1 r1 q1)
theorem opI {f:Value->Value->Sem Value} {C:Int->Int->Prop} {g:Int->Int->Int}
  (rule:∀ (i j:Int) (t u:Tok) (s:Shared) (Q:Value->Shared->Prop) (E:Value->Shared->Prop),C i j->Q (.int (g i j) s.toks) { s with toks:=s.toks+1 }->wpAny (model X.prog X.w) X.A (f (.int i t) (.int j u)) Q E s):
  OpR X f (rI C λ i j=>.int (g i j)):=by
 intro pins s σ H x y v u Q I rx ry h
 obtain ⟨i,j,rfl,rfl,hc,q⟩:=h
 obtain ⟨t,rfl⟩:=rx
 obtain ⟨t',rfl⟩:=ry
 exact rule i j t t' s _ _ hc ⟨.int (g i j),H,I.tok _,⟨_,rfl⟩,q⟩
theorem Fb {f:Value->Value->Sem Value} {g:Int->Int->Int}
  (rule:∀ (i j:Int) (t u:Tok) (s:Shared) (Q:Value->Shared->Prop) (E:Value->Shared->Prop),Q (.int (g i j) s.toks) { s with toks:=s.toks+1 }->wpAny (model X.prog X.w) X.A (f (.int i t) (.int j u)) Q E s):
  OpR X f (rI0 λ i j=>.int (g i j)):=by
 intro pins s σ H x y v u Q I rx ry h
 obtain ⟨i,j,rfl,rfl,q⟩:=h
 obtain ⟨t,rfl⟩:=rx
 obtain ⟨t',rfl⟩:=ry
 exact rule i j t t' s _ _ ⟨.int (g i j),H,I.tok _,⟨_,rfl⟩,q⟩
theorem AB {f:Value->Value->Sem Value} {g:Int->Int->Bool}
  (rule:∀ (i j:Int) (t u:Tok) (s:Shared) (Q:Value->Shared->Prop) (E:Value->Shared->Prop),Q (.bool (g i j)) s->wpAny (model X.prog X.w) X.A (f (.int i t) (.int j u)) Q E s):
  OpR X f (rI0 λ i j=>.bl (g i j)):=by
 intro pins s σ H x y v u Q I rx ry h
 obtain ⟨i,j,rfl,rfl,q⟩:=h
 obtain ⟨t,rfl⟩:=rx
 obtain ⟨t',rfl⟩:=ry
 exact rule i j t t' s _ _ ⟨.bl (g i j),H,I,rfl,q⟩
def B5 (i j:Int):Prop:=0<j/\j<1073741824
def B7 (i j:Int):Prop:=0<=j/\j<=1000000/\i.natAbs<2 ^ 64
def B6 (i j:Int):Prop:=(-(2 ^ 64)<i/\i<2 ^ 64)∨(-(2 ^ 64)<j/\j<2 ^ 64)
theorem B6.ok {i j:Int} (h:B6 i j):IntMulOk i j:=by
 rcases h with ⟨h1,h2⟩ | ⟨h1,h2⟩
 ·exact .of_left (intBits_le_64 h1 h2)
 ·exact .of_right (intBits_le_64 h1 h2)
theorem bT:OpR X (binaryOp .Add) (rI0 λ i j=>.int (i+j)):=Fb λ _ _ _ _ _ _ _ q=>add_int q
theorem k9:OpR X (binaryOp .Sub) (rI0 λ i j=>.int (i - j)):=Fb λ _ _ _ _ _ _ _ q=>sub_int q
theorem eE:OpR X (binaryOp .Mult) (rI B6 λ i j=>.int (i * j)):=opI λ _ _ _ _ _ _ _ hc q=>mul_int q hc.ok
theorem bc:OpR X (binaryOp .FloorDiv) (rI B5 λ i j=>.int (i / j)):=opI λ i j _ _ _ _ _ hc q=>by
 have h1:(0:Int)<j:=hc.1
 have h2:j<1073741824:=hc.2
 exact floordiv_int (by omega) (by rw [Int.fdiv_eq_ediv_of_nonneg i (by omega)];exact q) (.inl (PyProof.noPylong_small (by omega)))
theorem aG:OpR X (binaryOp .Mod) (rI (λ _ j=>0<j) λ i j=>.int (i % j)):=opI λ i j _ _ _ _ _ hc q=>by
 have h1:(0:Int)<j:=hc
 exact mod_int' (by omega) (by rw [Int.fmod_eq_emod_of_nonneg i (by omega)];exact q)
theorem nP:OpR X (binaryOp .Pow) (rI B7 λ i j=>.int (i ^ j.toNat)):=opI λ _ _ _ _ _ _ _ hc q=>pow_int_small hc.1 hc.2.1 hc.2.2 q
theorem unI {f:Value->Sem Value} {g:Int->Int}
  (rule:∀ (i:Int) (t:Tok) (s:Shared) (Q:Value->Shared->Prop) (E:Value->Shared->Prop),Q (.int (g i) s.toks) { s with toks:=s.toks+1 }->wpAny (model X.prog X.w) X.A (f (.int i t)) Q E s):
  UnR X f (rU λ i=>.int (g i)):=by
 intro pins s σ H x v Q I rx h
 obtain ⟨i,rfl,q⟩:=h
 obtain ⟨t,rfl⟩:=rx
 exact rule i t s _ _ ⟨.int (g i),H,I.tok _,⟨_,rfl⟩,q⟩
theorem qJ:UnR X (unaryOp .USub) (rU λ i=>.int (-i)):=unI λ _ _ _ _ _ q=>neg_int q
end
def Ek:V->V->Bool
 | .non,.non=>true | .non,.int _=>true | .int _,.non=>true | .non,.bl _=>true | .bl _,.non=>true | .non,.str _=>true | .str _,.non=>true
 | .int _,.int _=>true | .bl _,.bl _=>true | .str _,.str _=>true | .byt _,.byt _=>true
 | .int _,.str _=>true | .str _,.int _=>true | .bl _,.str _=>true | .str _,.bl _=>true
 | _,_=>false
def rEq:R2:=λ x y H Q=>Ek x y=true/\Q (.bl (decide (x=y))) H
def rNe:R2:=λ x y H Q=>Ek x y=true/\Q (.bl (!decide (x=y))) H
theorem uT {i j:Int}:decide (V.int i=V.int j)=(i==j):=by
 rw [Bool.eq_iff_iff]
 simp
theorem xW {i j:Bool}:decide (V.bl i=V.bl j)=(i==j):=by
 rw [Bool.eq_iff_iff]
 simp
theorem u5 {i j:Str}:decide (V.str i=V.str j)=(i==j):=by
 rw [Bool.eq_iff_iff]
 simp
theorem vb {i j:Array UInt8}:decide (V.byt i=V.byt j)=(i.toList==j.toList):=by
 rw [Bool.eq_iff_iff]
 cases i
 cases j
 simp
section
variable {X:Cx} {a b c:Expr} {ta tb tc:TE} {pos:Pos}
theorem bj {pins:List (Addr×Obj)} {σ:St} {H:Hp} {s:Shared} {Q:VK} {k k':Bool} (I:Inv X pins σ H s) (q:Q (.bl k) H) (e:k=k'):EP X pins σ Q (.bool k') s:=by
 subst e
 exact ⟨.bl k,H,I,rfl,q⟩
theorem cj:OpR X (compareOp .Eq) rEq:=by
 intro pins s σ H x y v u Q I rx ry h
 obtain ⟨hs,q⟩:=h
 cases x with
 | non=>
  cases rx
  cases y with
  | non=>cases ry;exact PySem.EqNone.eq_none_none (bj I q (by simp))
  | bl j=>cases ry;exact PySem.EqNone.eq_none_bool (bj I q (by simp))
  | int j=>obtain ⟨t',rfl⟩:=ry;exact PySem.EqNone.eq_none_int (bj I q (by simp))
  | str j=>obtain ⟨t',rfl⟩:=ry;exact PySem.EqNone.eq_none_str (bj I q (by simp))
  | _=>exact absurd (show false=true from hs) Bool.false_ne_true
 | bl i=>
  cases rx
  cases y with
  | non=>cases ry;exact PySem.EqNone.eq_bool_none (bj I q (by simp))
  | bl j=>cases ry;exact eq_bool (bj I q xW)
  | str j=>obtain ⟨t',rfl⟩:=ry;exact PySem.EqMixed.eq_bool_str (bj I q (by simp))
  | _=>exact absurd (show false=true from hs) Bool.false_ne_true
 | int i=>
  obtain ⟨t,rfl⟩:=rx
  cases y with
  | non=>cases ry;exact PySem.EqNone.eq_int_none (bj I q (by simp))
  | int j=>obtain ⟨t',rfl⟩:=ry;exact eq_int (bj I q uT)
  | str j=>obtain ⟨t',rfl⟩:=ry;exact PySem.EqMixed.eq_int_str (bj I q (by simp))
  | _=>exact absurd (show false=true from hs) Bool.false_ne_true
 | str i=>
  obtain ⟨t,rfl⟩:=rx
  cases y with
  | non=>cases ry;exact PySem.EqNone.eq_str_none (bj I q (by simp))
  | bl j=>cases ry;exact PySem.EqMixed.eq_str_bool (bj I q (by simp))
  | int j=>obtain ⟨t',rfl⟩:=ry;exact PySem.EqMixed.eq_str_int (bj I q (by simp))
  | str j=>obtain ⟨t',rfl⟩:=ry;exact eq_str (bj I q u5)
  | _=>exact absurd (show false=true from hs) Bool.false_ne_true
 | byt i=>
  obtain ⟨t,rfl⟩:=rx
  cases y with
  | byt j=>obtain ⟨t',rfl⟩:=ry;exact PySem.W.eq_bytes (bj I q vb)
  | _=>exact absurd (show false=true from hs) Bool.false_ne_true
 | _=>cases y <;> exact absurd (show false=true from hs) Bool.false_ne_true
theorem dB:OpR X (compareOp .NotEq) rNe:=by
 intro pins s σ H x y v u Q I rx ry h
 obtain ⟨hs,q⟩:=h
 cases x with
 | non=>
  cases rx
  cases y with
  | non=>cases ry;exact PySem.EqNone.ne_none_none (bj I q (by simp))
  | bl j=>cases ry;exact PySem.EqNone.ne_none_bool (bj I q (by simp))
  | int j=>obtain ⟨t',rfl⟩:=ry;exact PySem.EqNone.ne_none_int (bj I q (by simp))
  | str j=>obtain ⟨t',rfl⟩:=ry;exact PySem.EqNone.ne_none_str (bj I q (by simp))
  | _=>exact absurd (show false=true from hs) Bool.false_ne_true
 | bl i=>
  cases rx
  cases y with
  | non=>cases ry;exact PySem.EqNone.ne_bool_none (bj I q (by simp))
  | bl j=>cases ry;exact ne_bool (bj I q (congrArg not xW))
  | str j=>obtain ⟨t',rfl⟩:=ry;exact PySem.EqMixed.ne_bool_str (bj I q (by simp))
  | _=>exact absurd (show false=true from hs) Bool.false_ne_true
 | int i=>
  obtain ⟨t,rfl⟩:=rx
  cases y with
  | non=>cases ry;exact PySem.EqNone.ne_int_none (bj I q (by simp))
  | int j=>obtain ⟨t',rfl⟩:=ry;exact ne_int (bj I q (congrArg not uT))
  | str j=>obtain ⟨t',rfl⟩:=ry;exact PySem.EqMixed.ne_int_str (bj I q (by simp))
  | _=>exact absurd (show false=true from hs) Bool.false_ne_true
 | str i=>
  obtain ⟨t,rfl⟩:=rx
  cases y with
  | non=>cases ry;exact PySem.EqNone.ne_str_none (bj I q (by simp))
  | bl j=>cases ry;exact PySem.EqMixed.ne_str_bool (bj I q (by simp))
  | int j=>obtain ⟨t',rfl⟩:=ry;exact PySem.EqMixed.ne_str_int (bj I q (by simp))
  | str j=>obtain ⟨t',rfl⟩:=ry;exact ne_str (bj I q (congrArg not u5))
  | _=>exact absurd (show false=true from hs) Bool.false_ne_true
 | byt i=>
  obtain ⟨t,rfl⟩:=rx
  cases y with
  | byt j=>obtain ⟨t',rfl⟩:=ry;exact PySem.W.ne_bytes (bj I q (congrArg not vb))
  | _=>exact absurd (show false=true from hs) Bool.false_ne_true
 | _=>cases y <;> exact absurd (show false=true from hs) Bool.false_ne_true
theorem iU:OpR X (compareOp .Lt) (rI0 λ i j=>.bl (decide (i<j))):=AB λ _ _ _ _ _ _ _ q=>lt_int q
theorem o5:OpR X (compareOp .LtE) (rI0 λ i j=>.bl (decide (i<=j))):=AB λ _ _ _ _ _ _ _ q=>le_int q
theorem nX:OpR X (compareOp .Gt) (rI0 λ i j=>.bl (decide (j<i))):=AB λ _ _ _ _ _ _ _ q=>gt_int q
theorem xK:OpR X (compareOp .GtE) (rI0 λ i j=>.bl (decide (j<=i))):=AB λ _ _ _ _ _ _ _ q=>ge_int q
theorem qy:OpR X (compareOp .Is) (λ x y H Q=>y=.non/\Q (.bl (decide (x=.non))) H):=by
 intro pins s σ H x y v u Q I rx ry h
 obtain ⟨rfl,q⟩:=h
 cases ry
 refine is_none_gen (bj I q ?_)
 cases x <;> first
  | (cases rx;rfl)
  | (obtain ⟨t,rfl⟩:=rx;rfl)
theorem aC (b:Expr) {op:CmpOp} (h:op≠.In:=by decide) (h2:op≠.NotIn:=by decide):behindInMarks op b=false:=by
 have e1:(op==CmpOp.In)=false:=by cases op <;> first | rfl | exact absurd rfl h
 have e2:(op==CmpOp.NotIn)=false:=by cases op <;> first | rfl | exact absurd rfl h2
 cases b <;> simp [behindInMarks,e1,e2]
theorem bI {op:CmpOp} {r:R2} (ho:OpR X (compareOp op) r) (ha:PE X a ta) (hb:PE X b tb) (hm:behindInMarks op b=false):PE X (.Compare a [op] [b] pos) (tOp r ta tb):=by
 intro pins s σ H Q I h
 exact wpAny_Compare1 (Cu ha hb I h λ v u s2 x y H2 I2 rx ry q=>ho pins s2 σ H2 x y v u Q I2 rx ry q) hm
def yR (t:TE):TT:=λ σ H Q=>t σ H λ x H'=>∃ k,x=.bl k/\Q k H'
theorem aL {op:CmpOp} {r:R2} (ho:OpR X (compareOp op) r) (ha:PE X a ta) (hb:PE X b tb) (hm:behindInMarks op b=false):PT X (.Compare a [op] [b] pos) (yR (tOp r ta tb)):=by
 intro pins s σ H Q I h
 refine wpAny_isTrue_Compare1 (thn (ha pins s σ H _ I h) λ v s1 ⟨x,H1,I1,r1,q1⟩=>thn (hb pins s1 σ H1 _ I1 q1) λ u s2 ⟨y,H2,I2,r2,q2⟩=>
  thn (ho pins s2 σ H2 x y v u _ I2 r1 r2 q2) λ c s3 ⟨z,H3,I3,r3,k,e,q3⟩=>?_) hm
 subst e
 cases r3
 exact wpAny_truthy_bool ⟨H3,I3,q3⟩
def sX (r r':R2) (ta tb tc:TE):TE:=λ σ H Q=>ta σ H λ x H1=>tb σ H1 λ y H2=>r x y H2 λ z H3=>∃ k,z=.bl k /\
 (if k=true then tc σ H3 λ w' H4=>r' y w' H4 Q else Q (.bl false) H3)
theorem qY {op op':CmpOp} {r r':R2} (ho:OpR X (compareOp op) r) (ho':OpR X (compareOp op') r') (ha:PE X a ta) (hb:PE X b tb) (hc:PE X c tc)
  (hm:lastMarks [op,op'] [b,c]=false:=by with_unfolding_all rfl):PE X (.Compare a [op,op'] [b,c] pos) (sX r r' ta tb tc):=by
 intro pins s σ H Q I h
 refine Compare_chain (thn (ha pins s σ H _ I h) λ v s1 ⟨x,H1,I1,r1,q1⟩=>chain_link (thn (hb pins s1 σ H1 _ I1 q1) λ u s2 ⟨y,H2,I2,r2,q2⟩=>
  thn (ho pins s2 σ H2 x y v u _ I2 r1 r2 q2) λ d s3 ⟨z,H3,I3,r3,k,e,q3⟩=>?_)) hm
 subst e
 cases r3
 refine wpAny_truthy_bool ?_
 cases k with
 | false=>exact ite_ff ⟨.bl false,H3,I3,rfl,q3⟩
 | true=>exact ite_tt (chain_last (thn (hc pins s3 σ H3 _ I3 q3) λ w' s4 ⟨z',H4,I4,r4,q4⟩=>ho' pins s4 σ H4 y z' u w' Q I4 r2 r4 q4))
theorem jX {op op':CmpOp} {r r':R2} (ho:OpR X (compareOp op) r) (ho':OpR X (compareOp op') r') (ha:PE X a ta) (hb:PE X b tb) (hc:PE X c tc)
  (hm:lastMarks [op,op'] [b,c]=false:=by with_unfolding_all rfl):PT X (.Compare a [op,op'] [b,c] pos) (yR (sX r r' ta tb tc)):=by
 intro pins s σ H Q I h
 refine isTrue_chain (thn (ha pins s σ H _ I h) λ v s1 ⟨x,H1,I1,r1,q1⟩=>test_link (thn (hb pins s1 σ H1 _ I1 q1) λ u s2 ⟨y,H2,I2,r2,q2⟩=>
  thn (ho pins s2 σ H2 x y v u _ I2 r1 r2 q2) λ d s3 ⟨z,H3,I3,r3,k,e,q3⟩=>?_)) hm
 subst e
 cases r3
 refine wpAny_truthy_bool ?_
 cases k with
 | false=>
  obtain ⟨k',e',q'⟩:=q3
  cases e'
  exact ite_ff ⟨H3,I3,q'⟩
 | true=>
  refine ite_tt (test_last (thn (hc pins s3 σ H3 _ I3 q3) λ w' s4 ⟨z',H4,I4,r4,q4⟩=>thn (ho' pins s4 σ H4 y z' u w' _ I4 r2 r4 q4) λ d' s5 ⟨z2,H5,I5,r5,k2,e2,q5⟩=>?_))
  subst e2
  cases r5
  exact wpAny_truthy_bool ⟨H5,I5,q5⟩
def Ep (K:PySem.W.Frag) (x:V) (H:Hp) (k:Bool):Prop:=
 match x with
 | .non=>k=false
 | .bl b=>k=b
 | .int i=>k=(i != 0)
 | .str y=>y.length<=sizeLine/\k=((y.length:Int) != 0)
 | .byt y=>y.size<=sizeLine/\k=((y.size:Int) != 0)
 | .ref p=>(∃ xs,SqL K H p xs/\k=!xs.isEmpty)∨(∃ xs,SqT K H p xs/\k=!xs.isEmpty)∨∃ kvs,H p=some (.dK kvs)/\k=!kvs.isEmpty
 | _=>False
theorem ug {κ:Type} {kvs:List (κ×V)} {vs:List (κ×Value)} (r:KV kvs vs):(!vs.isEmpty)=!kvs.isEmpty:=by
 cases r <;> rfl
theorem mR {xs:List V} {its:List Value} (r:Vals xs its):(!its.toArray.isEmpty)=!xs.isEmpty:=by
 cases r <;> simp
theorem jt:(sizeLine:Nat)<2 ^ 63:=by rw [sizeLine_eq];decide
theorem C7:He X (λ x H Q=>∃ k,Ep X.K x H k/\Q k H):=by
 intro pins s σ H x v Q I rx h
 obtain ⟨k,e,q⟩:=h
 have hl:=jt
 have hs:sizeLine=16777216:=sizeLine_eq
 cases x with
 | non=>
  cases rx
  have e':k=false:=e
  subst e'
  exact truthy_none ⟨H,I,q⟩
 | bl b=>
  cases rx
  have e':k=b:=e
  subst e'
  exact wpAny_truthy_bool ⟨H,I,q⟩
 | int i=>
  obtain ⟨t,rfl⟩:=rx
  have e':k=(i != 0):=e
  subst e'
  exact PySem.P.truthy_int ⟨H,I,q⟩
 | str y=>
  obtain ⟨t,rfl⟩:=rx
  obtain ⟨hy,e'⟩:y.length<=sizeLine/\k=((y.length:Int) != 0):=e
  subst e'
  exact PySem.P.truthy_str (by omega) ⟨H,I.tok _,q⟩
 | byt y=>
  obtain ⟨t,rfl⟩:=rx
  obtain ⟨hy,e'⟩:y.size<=sizeLine/\k=((y.size:Int) != 0):=e
  subst e'
  exact PySem.W.truthy_bytes (by omega) ⟨H,I.tok _,q⟩
 | ref p=>
  cases rx
  have e':(∃ xs,SqL X.K H p xs/\k=!xs.isEmpty)∨(∃ xs,SqT X.K H p xs/\k=!xs.isEmpty)∨∃ kvs,H p=some (.dK kvs)/\k=!kvs.isEmpty:=e
  rcases e' with ⟨xs,hx,e'⟩ | ⟨xs,hx,e'⟩ | ⟨kvs,hx,e'⟩
  ·subst e'
   obtain ⟨its,r,pl,hz⟩:=I.list hx
   have hlen:=r.length
   exact wpAny_truthy_list pl.isList (by simp only [List.size_toArray];omega) ⟨H,I.tok _,by rw [mR r];exact q⟩
  ·subst e'
   obtain ⟨its,r,pl,hz⟩:=I.tuple hx
   have hlen:=r.length
   exact truthy_tuple pl (by simp only [List.size_toArray];omega) ⟨H,I.tok _,by rw [mR r];exact q⟩
  ·subst e'
   obtain ⟨hz,hS,vs,r,m⟩:kvs.length<=sizeLine/\(p==sysModules)=false/\∃ vs,KV kvs vs/\s.heap.DictOf (cu X.prog X.w) p vs:=I.hok p _ hx
   have hlen:kvs.length=vs.length:=Paired.length r
   exact wpAny_truthy_dict hS m (by omega) ⟨H,I.tok _,by rw [ug r];exact q⟩
 | _=>exact (show False from e).elim
theorem rK (ha:PE X a ta) (he:∀ whole,isTrue a X.env whole=(do let v <- whole;standAt a.pos;holding [v] (truthy v))):
  PT X a (λ σ H Q=>ta σ H λ x H'=>∃ k,Ep X.K x H' k/\Q k H'):=by
 intro pins s σ H Q I h
 exact isTrue_plain (thn (ha pins s σ H _ I h) λ v s1 ⟨x,H1,I1,r1,q1⟩=>C7 pins s1 σ H1 x v Q I1 r1 q1) (he _)
theorem bM:OpR X (binaryOp .Add) (λ x y H Q=>∃ i j,x=.str i/\y=.str j/\i.length+j.length<=sizeLine/\Q (.str (i++j)) H):=by
 intro pins s σ H x y v u Q I rx ry h
 obtain ⟨i,j,rfl,rfl,hz,q⟩:=h
 obtain ⟨t,rfl⟩:=rx
 obtain ⟨t',rfl⟩:=ry
 exact add_str (λ t' tk=>⟨.str (i++j),H,I.tok _,⟨_,rfl⟩,q⟩) hz
theorem vals1 {x:V} {us:List Value} (r:Vals [x] us):∃ u,us=[u]/\RelV x u:=by
 cases r with
 | cons r1 r2=>cases r2;exact ⟨_,rfl,r1⟩
theorem vals2 {x y:V} {us:List Value} (r:Vals [x,y] us):∃ u w',us=[u,w']/\RelV x u/\RelV y w':=by
 cases r with
 | cons r1 r2=>
  cases r2 with
  | cons r3 r4=>cases r4;exact ⟨_,_,rfl,r1,r3⟩
theorem wK:fA X (.builtin "abs") (λ xs H Q=>∃ i,xs=[.int i]/\Q (.int (if i<0 then -i else i)) H):=by
 intro pins s σ H xs us Q I r h
 obtain ⟨i,rfl,q⟩:=h
 obtain ⟨u,rfl,t,rfl⟩:=vals1 r
 exact call_abs_int λ u tk=>⟨.int (if i<0 then -i else i),H,I.tok _,⟨_,rfl⟩,q⟩
theorem wg (hc:X.calm=true):fA X (.builtin "max") (λ xs H Q=>∃ i j,xs=[.int i,.int j]/\Q (.int (if j > i then j else i)) H):=by
 intro pins s σ H xs us Q I r h
 obtain ⟨i,j,rfl,q⟩:=h
 obtain ⟨u,w',rfl,⟨t,rfl⟩,⟨t',rfl⟩⟩:=vals2 r
 refine max_two_ints (I.ok.hd hc) λ h' tk k=>⟨_,H,I.kept k,?_,q⟩
 by_cases hj:j > i
 ·rw [if_pos hj,if_pos hj];exact ⟨_,rfl⟩
 ·rw [if_neg hj,if_neg hj];exact ⟨_,rfl⟩
theorem o3 (hc:X.calm=true):fA X (.builtin "min") (λ xs H Q=>∃ i j,xs=[.int i,.int j]/\Q (.int (if j<i then j else i)) H):=by
 intro pins s σ H xs us Q I r h
 obtain ⟨i,j,rfl,q⟩:=h
 obtain ⟨u,w',rfl,⟨t,rfl⟩,⟨t',rfl⟩⟩:=vals2 r
 refine min_two_ints (I.ok.hd hc) λ h' tk k=>⟨_,H,I.kept k,?_,q⟩
 by_cases hj:j<i
 ·rw [if_pos hj,if_pos hj];exact ⟨_,rfl⟩
 ·rw [if_neg hj,if_neg hj];exact ⟨_,rfl⟩
end
structure vZ (h:Heap) (x dx C:Addr) (mA:Str->Option Value):Prop where
 obj:h.get? x=some (PySem.W.instObj C dx)
 ns:h.Ns1 dx mA
 ne:dx≠x
theorem wI {h:Heap} {dx:Addr} {mA:Str->Option Value} (n:h.Ns1 dx mA):∃ od,h.get? dx=some od/\∀ name,PySem.W.lookIn name od=some (mA name):=by
 obtain ⟨o,es,ep,ho,hd,hk,_,hm⟩:=n
 refine ⟨o,ho,λ name=>?_⟩
 have e:=hm name
 unfold nsFind findBy at e
 rw [<- Array.find?_toList] at e
 unfold PySem.W.lookIn
 rw [hd]
 dsimp only
 split
 ·rename_i y q
  rw [q] at e
  exact congrArg some e
 ·rename_i q
  rw [q] at e
  have a:es.toList.any (·.refKey)=false:=by
   rw [List.any_eq_false]
   intro y hy
   obtain ⟨z,t,hkey⟩:=hk y (Array.mem_toList_iff.mp hy)
   simp [DictEntry.refKey,hkey]
  have a':¬ es.toList.any (·.refKey)=true:=by rw [a];exact Bool.false_ne_true
  rw [if_neg a']
  exact congrArg some e
theorem vZ.look {h:Heap} {x dx C:Addr} {mA:Str->Option Value} (I:vZ h x dx C mA):∃ od,PySem.W.InstAt h x (PySem.W.instObj C dx) C (some od)/\∀ name,PySem.W.lookIn name od=some (mA name):=
 let ⟨od,ho,hl⟩:=wI I.ns
 ⟨od,⟨I.obj,rfl,rfl,ho⟩,hl⟩
section
variable {prog:Program} {w:World} {A:Around} {E:Value->Shared->Prop} {s:Shared} {K:PySem.W.Frag} {x dx C f:Addr} {mA:Str->Option Value} {name:Str} {v:Value}
theorem get_map {expr:Bool} {Q:Value->Shared->Prop} (X:K.In s.heap) (I:vZ s.heap x dx C mA) (hg:PySem.W.plainGet K C name=true) (hh:PySem.W.hasDictIn K C=true)
  (ha:PySem.W.findIn K (.ref C) name=some none) (hv:mA name=some v) (hv':PySem.W.handedIn v=true) (h:Q v { s with toks:=s.toks+1 }):
  wpAny (model prog w) A (getAttr (.ref x) name expr) Q E s:=by
 obtain ⟨od,J,hl⟩:=I.look
 exact PySem.W.get_value X J (PySem.W.plainGet_of hg).1 (PySem.W.findObj_own hh ha rfl (by rw [hl,hv])) hv' h
theorem Am {ns:List Str} {Q:Unit->Shared->Prop} (X:K.In s.heap) (I:vZ s.heap x dx C mA)
  (hs:PySem.W.findIn K (.ref C) "__setattr__"=some (some (.builtin "object.__setattr__"))) (hp:PySem.W.plainOver K C=true) (ht:PySem.W.takerIn K C name=some none) (hh:PySem.W.hasDictIn K C=true)
  (hw:PySem.Within mA ns) (hsz:ns.length<=sizeLine)
  (h:∀ h',vZ h' x dx C (λ y=>if y=name then some v else mA y)->Heap.SameBut dx s.heap h'->Q () { s with heap:=h',toks:=s.toks+2 }):
  wpAny (model prog w) A (setAttr (.ref x) name v) Q E s:=by
 obtain ⟨od,J,hl⟩:=I.look
 refine PySem.W.set_plain X J hs (PySem.W.osa_open (s:={ s with toks:=s.toks+1 }) (r:=none) X J hp ht λ b=>?_)
 obtain ⟨cd,hc,hd'⟩:=PySem.W.any_some hh
 have hx:s.heap.get? x=some ⟨.ref C,some dx,.plain,#[]⟩:=I.obj
 refine wpAny_bind (wpAny_pure (wpAny_bind (wpAny_bind (wpAny_loadPart hx (wpAny_bind (PySem.W.Looks.here (s:={ s with toks:=s.toks+1 }) (PySem.W.looks_clsIn X hc) ?_))))))
 rw [hd']
 refine wpAny_pure (a:=some dx) (wpAny_bind (wpAny_pure (wpAny_bind ?_)))
 refine wpAny_nsSet1 (s:={ s with toks:=s.toks+1 }) I.ns λ h' hn2 hs2=>?_
 obtain ⟨oD,esD,epD,hoD,hdD,hcD⟩:=hn2.count (PySem.Within.cons name v hw)
 refine wpAny_bind (wpAny_lookBehind hoD (by rw [hdD];exact pastItsLine_dict (Nat.le_trans hcD (by rw [List.length_cons];omega))) ?_)
 exact wpAny_pure (h _ ⟨(hs2.2 _ (Ne.symm I.ne)).trans I.obj,hn2,I.ne⟩ hs2)
theorem yt {R:Result->Shared->Prop} {vs:List Value} {kw:List (Str×Value)} (X:K.In s.heap) (hm:PySem.W.makesIn K C=true)
  (hi:PySem.W.findIn K (.ref C) "__init__"=some (some (.ref f))) (hf:PySem.W.typeIn K (.ref f)=some (.type "function"))
  (h:codeAny (model prog w) (A.under (.builtin "type.__call__" ⟨.ref C::vs,kw⟩)) (.call (.ref f) ⟨.ref (s.heap.objs.size+1)::vs,kw⟩) (PySem.W.InitBack (s.heap.objs.size+1) R)
   { s with heap:=(s.heap.push PySem.W.emptyDict).push (PySem.W.instObj C s.heap.objs.size) }):
  codeAny (model prog w) A (.call (.ref C) ⟨vs,kw⟩) R s:=by
 obtain ⟨hh,g,d,t,os⟩:=s
 exact PySem.W.make_core (PySem.W.makes_of X hm) (PySem.W.looks_findIn X hi) (λ self=>PySem.W.bind_fn X self hf) (.inl rfl) h
end
def cf (f:Str) (v:V):List (Str×V)->List (Str×V)
 | []=>[(f,v)]
 | (g,x)::r=>if g=f then (g,v)::r else (g,x)::cf f v r
theorem lX (f g:Str) (v:V):∀ fs:List (Str×V),(cf f v fs).lookup g=if g=f then some v else fs.lookup g
 | []=>by
  show List.lookup g [(f,v)]=_
  by_cases h:g=f
  ·have hb:(g==f)=true:=beq_iff_eq.mpr h
   simp only [List.lookup,hb,if_pos h]
  ·have hb:(g==f)=false:=beq_eq_false_iff_ne.mpr h
   simp only [List.lookup,hb,if_neg h]
 | (k,x)::r=>by
  have ih:=lX f g v r
  rw [show cf f v ((k,x)::r)=(if k=f then (k,v)::r else (k,x)::cf f v r) from rfl]
  by_cases hk:k=f
  ·rw [if_pos hk]
   by_cases h:g=k
   ·have hb:(g==k)=true:=beq_iff_eq.mpr h
    simp only [List.lookup,hb,if_pos (h.trans hk)]
   ·have hb:(g==k)=false:=beq_eq_false_iff_ne.mpr h
    simp only [List.lookup,hb,if_neg (λ e:g=f=>h (e.trans hk.symm))]
  ·rw [if_neg hk]
   by_cases h:g=k
   ·have hb:(g==k)=true:=beq_iff_eq.mpr h
    simp only [List.lookup,hb,if_neg (λ e:g=f=>hk (h.symm.trans e))]
   ·have hb:(g==k)=false:=beq_eq_false_iff_ne.mpr h
    simp only [List.lookup,hb]
    exact ih
theorem lL (f:Str) (v:V):∀ fs:List (Str×V),f∈(cf f v fs).map (·.1)/\∀ g,g∈fs.map (·.1)->g∈(cf f v fs).map (·.1)
 | []=>⟨by simp [cf],λ g h=>by simp at h⟩
 | (k,x)::r=>by
  obtain ⟨i1,i2⟩:=lL f v r
  rw [show cf f v ((k,x)::r)=(if k=f then (k,v)::r else (k,x)::cf f v r) from rfl]
  by_cases hk:k=f
  ·rw [if_pos hk]
   subst hk
   exact ⟨by simp,λ g h=>by simpa using h⟩
  ·rw [if_neg hk]
   refine ⟨?_,λ g h=>?_⟩
   ·rw [List.map_cons]
    exact List.mem_cons_of_mem _ i1
   ·rw [List.map_cons] at h ⊢
    rcases List.mem_cons.mp h with e | e
    ·exact List.mem_cons.mpr (.inl e)
    ·exact List.mem_cons_of_mem _ (i2 g e)
theorem lO (f:Str) (v:V):∀ fs:List (Str×V),(cf f v fs).length<=fs.length+1
 | []=>by simp [cf]
 | (k,x)::r=>by
  have ih:=lO f v r
  rw [show cf f v ((k,x)::r)=(if k=f then (k,v)::r else (k,x)::cf f v r) from rfl]
  by_cases hk:k=f
  ·rw [if_pos hk,List.length_cons,List.length_cons];omega
  ·rw [if_neg hk,List.length_cons,List.length_cons];omega
theorem nA.some_of {v:V} {o:Option Value} (r:nA (some v) o):∃ u,o=some u/\RelV v u:=by
 cases o with
 | none=>exact (show False from r).elim
 | some u=>exact ⟨u,rfl,r⟩
theorem wF {v:V} {u:Value} (r:RelV v u):PySem.W.handedIn u=true:=by
 cases v with
 | non=>cases (show u=Value.none from r);rfl
 | bl b=>cases (show u=Value.bool b from r);rfl
 | int i=>obtain ⟨t,e⟩:=(show ∃ t,u=Value.int i t from r);cases e;rfl
 | str x=>obtain ⟨t,e⟩:=(show ∃ t,u=Value.str x t from r);cases e;rfl
 | byt b=>obtain ⟨t,e⟩:=(show ∃ t,u=Value.bytes b t from r);cases e;rfl
 | flt b=>obtain ⟨t,e⟩:=(show ∃ t,u=Value.float b t from r);cases e;rfl
 | ref a=>cases (show u=Value.ref a from r);rfl
 | ty n=>cases (show u=Value.type n from r);rfl
section
variable {P:Program} {w:World} {H H':Hp} {h h':Heap} {a C dx:Addr} {fs fs':List (Str×V)}
theorem pJ (hok:HOk P w H h) (e:H a=some (.ins C dx fs)):∃ mA,vZ h a dx C mA/\(∀ f,nA (fs.lookup f) (mA f))/\PySem.Within mA (fs.map (·.1))/\fs.length<=1000/\H dx=some (.own a):=by
 obtain ⟨d,z,ne,ob,mA,n,r,q⟩:=(show cm P w H h a (.ins C dx fs) from hok a _ e)
 exact ⟨mA,⟨ob,n,ne⟩,r,q,z,d⟩
end
structure Cls (K:PySem.W.Frag) (C:Addr):Prop where
 pg:PySem.W.plainGet K C Str.empty=true
 hd:PySem.W.hasDictIn K C=true
 po:PySem.W.plainOver K C=true
 sa:PySem.W.findIn K (.ref C) "__setattr__"=some (some (.builtin "object.__setattr__"))
theorem Cls.get {K:PySem.W.Frag} {C:Addr} (c:Cls K C) (f:Str):PySem.W.plainGet K C f=true:=c.pg
def bK (K:PySem.W.Frag) (C:Addr) (f:Str):Prop:=PySem.W.findIn K (.ref C) f=some none
theorem bK.Ga {K:PySem.W.Frag} {C:Addr} {f:Str} (n:bK K C f):PySem.W.takerIn K C f=some none:=by
 unfold PySem.W.takerIn
 rw [show PySem.W.findIn K (.ref C) f=some none from n]
 rfl
section
variable {X:Cx} {pins:List (Addr×Obj)} {σ:St} {H:Hp} {s:Shared} {a C dx:Addr} {fs:List (Str×V)} {f:Str} {v:V} {A:Around} {E:Value->Shared->Prop}
theorem tj {b:Bool} {Q:Value->Shared->Prop} (I:Inv X pins σ H s) (e:H a=some (.ins C dx fs)) (c:Cls X.K C) (n:bK X.K C f) (l:fs.lookup f=some v)
  (h:∀ u s',Inv X pins σ H s'->RelV v u->Q u s'):wpAny (model X.prog X.w) A (getAttr (.ref a) f b) Q E s:=by
 obtain ⟨mA,O,r,_,_,_⟩:=pJ I.hok e
 obtain ⟨u,hu,ru⟩:=nA.some_of (v:=v) (o:=mA f) (by rw [<- l];exact r f)
 exact get_map I.kIn O (c.get f) c.hd n hu (wF ru) (h u _ (I.tok _) ru)
theorem uh {y:V} {u:Value} {Q:Unit->Shared->Prop} (I:Inv X pins σ H s) (e:H a=some (.ins C dx fs)) (c:Cls X.K C) (n:bK X.K C f) (hl:fs.length<1000) (ry:RelV y u)
  (h:∀ s',Inv X pins σ (upd H a (.ins C dx (cf f y fs))) s'->Q () s'):wpAny (model X.prog X.w) A (setAttr (.ref a) f u) Q E s:=by
 obtain ⟨mA,O,r,wi,_,ho⟩:=pJ I.hok e
 have hz:(fs.map (·.1)).length<=sizeLine:=by rw [List.length_map,sizeLine_eq];omega
 refine Am I.kIn O c.sa c.po n.Ga c.hd wi hz λ h' O' sb=>h _ ?_
 have hd:∃ o,h'.get? dx=some o:=let ⟨o,_,_,e',_⟩:=O'.ns;⟨o,e'⟩
 refine I.write (x:=a) (e:=dx) (by rw [e];exact True.intro) (.inr ho) (λ b q hb z=>(sb.2 b hb).trans z) hd ?_
 refine ⟨by rw [aq O.ne];exact ho,?_,O.ne,O'.obj,_,O'.ns,λ g=>?_,λ g hg=>?_⟩
 ·have:=lO f y fs;omega
 ·show nA ((cf f y fs).lookup g) (if g=f then some u else mA g)
  rw [lX]
  by_cases q:g=f
  ·rw [if_pos q,if_pos q];exact ry
  ·rw [if_neg q,if_neg q];exact r g
 ·by_cases q:g=f
  ·rw [q];exact (lL f y fs).1
  ·refine (lL f y fs).2 g (wi g λ z=>hg ?_)
   show (if g=f then some u else mA g)=none
   rw [if_neg q];exact z
theorem Inv.made (I:Inv X pins σ H s):Inv X pins σ (upd (upd H s.heap.objs.size (.own (s.heap.objs.size+1))) (s.heap.objs.size+1) (.ins C s.heap.objs.size []))
  { s with heap:=(s.heap.push PySem.W.emptyDict).push (PySem.W.instObj C s.heap.objs.size) }:=by
 have e1:(s.heap.push PySem.W.emptyDict).get? s.heap.objs.size=some PySem.W.emptyDict:=Heap.get?_push_size s.heap rfl
 have e2:((s.heap.push PySem.W.emptyDict).push (PySem.W.instObj C s.heap.objs.size)).get? (s.heap.objs.size+1)=some (PySem.W.instObj C s.heap.objs.size):=by
  have:=Heap.get?_push_size (s.heap.push PySem.W.emptyDict) (o:=PySem.W.instObj C s.heap.objs.size) rfl
  rwa [Heap.size_push] at this
 have e3:(s.heap.push PySem.W.emptyDict).Ns s.heap.objs.size (λ _=>none):=⟨PySem.W.emptyDict,#[],_,e1,rfl,(λ e he=>absurd he (by simp)),λ _=>rfl⟩
 have I1:=I.laid (a:=s.heap.objs.size) (o:=.own (s.heap.objs.size+1)) (h':=s.heap.push PySem.W.emptyDict) (t':=s.toks) (λ b u q=>Heap.get?_push_of_some _ q) (Nat.le_refl _) ⟨_,e1⟩
 refine I1.laid (a:=s.heap.objs.size+1) (o:=.ins C s.heap.objs.size []) (t':=s.toks) (λ b u q=>Heap.get?_push_of_some _ q) (Nat.le_of_eq (Heap.size_push _ _)) ?_
 have ne:s.heap.objs.size≠s.heap.objs.size+1:=Nat.ne_of_lt (Nat.lt_succ_self _)
 refine ⟨by rw [aq ne,ag],Nat.zero_le _,ne,e2,λ _=>none,(Heap.Ns1.of_empty e3).at λ o q=>Heap.get?_push_of_some _ q,λ _=>True.intro,λ y hy=>absurd rfl hy⟩
theorem Af {prog:Program} {w:World} {env:Env} {e:Expr} {f:Str} {pos:Pos} {s:Shared} {Q:Value->Shared->Prop} (hb:attributeBase e f env (eval e env)=eval e env)
  (h:wpAny (model prog w) A (eval e env) (λ o s₁=>wpAny (model prog w) A (getAttr o f true) Q E s₁) E s):wpAny (model prog w) A (eval (.Attribute e f pos) env) Q E s:=
 Attribute_any_ h (by rw [arm_eval_Attribute,hb])
end
def CL (K:PySem.W.Frag) (ta:TE) (f:Str):TE:=λ σ H Q=>ta σ H λ x H1=>∃ a C dx fs v,x=.ref a/\H1 a=some (.ins C dx fs)/\Cls K C/\bK K C f/\fs.lookup f=some v/\Q v H1
def FZ (K:PySem.W.Frag) (ta tv:TE) (f:Str):TS:=λ D σ H=>tv σ H λ y H1=>ta σ H1 λ x H2=>∃ a C dx fs,x=.ref a/\H2 a=some (.ins C dx fs)/\Cls K C/\bK K C f/\fs.length<1000 /\
 D.nx σ (upd H2 a (.ins C dx (cf f y fs)))
section
variable {X:Cx} {o e value:Expr} {f:Str} {pos pos' tpos:Pos} {ta tv:TE}
theorem aF (he:PE X e ta) (hb:attributeBase e f X.env (eval e X.env)=eval e X.env):PE X (.Attribute e f pos) (CL X.K ta f):=by
 intro pins s σ H Q I h
 refine Af hb (thn (he pins s σ H _ I h) λ u s1 ⟨x,H1,I1,rx,a,C,dx,fs,v,ex,ea,c,n,l,q⟩=>?_)
 subst ex
 obtain rfl:u=Value.ref a:=rx
 exact tj I1 ea c n l λ u' s2 I2 ru=>⟨v,H1,I2,ru,q⟩
theorem cp (ha:PE X o ta) (hv:PE X value tv) (hs:swapsWith value (some (.Attribute o f pos')) pos.line X.env=pure false):PS X (.Assign [.Attribute o f pos'] value pos) (FZ X.K ta tv f):=by
 intro pins s σ H D I h
 refine plainObj_wpAny_Assign_Attribute (thn (hv pins s σ H _ I h) λ u s1 ⟨y,H1,I1,ry,q⟩=>thn (ha pins s1 σ H1 _ I1 q) λ ov s2 ⟨x,H2,I2,rx,a,C,dx,fs,ex,ea,c,n,l,q2⟩=>?_) hs
 subst ex
 obtain rfl:ov=Value.ref a:=rx
 exact uh I2 ea c n l ry λ s3 I3=>⟨σ,_,I3,q2⟩
end
section
variable {X:Cx} {pins:List (Addr×Obj)} {σ:St} {H:Hp} {s:Shared} {A:Around} {E:Value->Shared->Prop} {Q:Value->Shared->Prop} {c:Value} {b:Bool}
inductive kO (K:PySem.W.Frag) (H:Hp):V->Value->Prop where
 | non:kO K H .non (.type "NoneType")
 | bl (x:Bool):kO K H (.bl x) (.type "bool")
 | int (i:Int):kO K H (.int i) (.type "int")
 | str (x:Str):kO K H (.str x) (.type "str")
 | flt (x:UInt64):kO K H (.flt x) (.type "float")
 | lst {a:Addr} {xs:List V} (e:H a=some (.lst xs)):kO K H (.ref a) (.type "list")
 | frz {a:Addr} {o:Obj} {xs:List V} (e:H a=some (.frz o (.lst xs))):kO K H (.ref a) (.type "list")
 | tup {a:Addr} {xs:List V} (e:H a=some (.tup xs)):kO K H (.ref a) (.type "tuple")
 | dK {a:Addr} {kvs:List (Key×V)} (e:H a=some (.dK kvs)):kO K H (.ref a) (.type "dict")
 | dT {a:Addr} {kvs:List (List Key×V)} (e:H a=some (.dT kvs)):kO K H (.ref a) (.type "dict")
 | ins {a C dx:Addr} {fs:List (Str×V)} (e:H a=some (.ins C dx fs)) (cl:Cls K C) (ha:PySem.W.findIn K (.ref C) "__class__"=some (some (.builtin "object.__class__")))
   (hn:PySem.W.specialIn K (.builtin "object.__class__") "__get__"=some (some (.builtin "getset_descriptor.__get__"))) (htk:PySem.W.takesIn K (.builtin "object.__class__")=some true)
   (hm:PySem.W.mroIn K C (.type "object")=some true):kO K H (.ref a) (.ref C)
theorem wk {x:V} {u t:Value} (I:Inv X pins σ H s) (rx:RelV x u) (ty:kO X.K H x t) (e:PySem.W.kitOne X.K t c=some b) (h:∀ tk,Q (.bool b) { s with toks:=tk }):
  wpAny (model X.prog X.w) A (call (.builtin "isinstance") [u,c]) Q E s:=by
 cases ty with
 | non=>cases (show u=Value.none from rx);exact PySem.W.kia_one PySem.W.kitx_none I.kIn True.intro e (λ z=>nomatch z) h
 | bl y=>cases (show u=Value.bool y from rx);exact PySem.W.kia_one PySem.W.kitx_bool I.kIn True.intro e (λ z=>nomatch z) h
 | int i=>obtain ⟨t,q⟩:=(show ∃ t,u=Value.int i t from rx);cases q;exact PySem.W.kia_one PySem.W.kitx_int I.kIn True.intro e (λ z=>nomatch z) h
 | str y=>obtain ⟨t,q⟩:=(show ∃ t,u=Value.str y t from rx);cases q;exact PySem.W.kia_one PySem.W.kitx_str I.kIn True.intro e (λ z=>nomatch z) h
 | flt y=>obtain ⟨t,q⟩:=(show ∃ t,u=Value.float y t from rx);cases q;exact PySem.W.kia_one PySem.W.kitx_float I.kIn True.intro e (λ z=>nomatch z) h
 | @lst a xs ea=>
  cases (show u=Value.ref a from rx)
  obtain ⟨_,_,n,_,h1⟩:=(show cm X.prog X.w H s.heap a (.lst xs) from I.hok a _ ea)
  exact PySem.W.kia_one PySem.W.kitx_list I.kIn ⟨_,h1,rfl⟩ e (λ z=>nomatch z) h
 | @frz a ob xs ea=>
  cases (show u=Value.ref a from rx)
  obtain ⟨_,_,_,n,_,h1⟩:=(show cm X.prog X.w H s.heap a (.frz ob (.lst xs)) from I.hok a _ ea)
  exact PySem.W.kia_one PySem.W.kitx_list I.kIn ⟨_,h1,rfl⟩ e (λ z=>nomatch z) h
 | @tup a xs ea=>
  cases (show u=Value.ref a from rx)
  obtain ⟨_,_,_,p⟩:=(show cm X.prog X.w H s.heap a (.tup xs) from I.hok a _ ea)
  obtain ⟨o,h1,h2,_⟩:=p
  exact PySem.W.kia_one PySem.W.kitx_tuple I.kIn ⟨o,h1,h2⟩ e (λ z=>nomatch z) h
 | @dK a kvs ea=>
  cases (show u=Value.ref a from rx)
  obtain ⟨_,_,vs,_,p⟩:=(show cm X.prog X.w H s.heap a (.dK kvs) from I.hok a _ ea)
  obtain ⟨o,es,ep,h1,h2,_⟩:=p
  exact PySem.W.kia_one PySem.W.kitx_dict I.kIn ⟨o,h1,h2.1⟩ e (λ z=>nomatch z) h
 | @dT a kvs ea=>
  cases (show u=Value.ref a from rx)
  obtain ⟨_,_,xs,_,o,es,ep,h1,h2,_⟩:=(show cm X.prog X.w H s.heap a (.dT kvs) from I.hok a _ ea)
  exact PySem.W.kia_one PySem.W.kitx_dict I.kIn ⟨o,h1,h2.1⟩ e (λ z=>nomatch z) h
 | @ins a C dx fs ea cl ha hn htk hm=>
  cases (show u=Value.ref a from rx)
  obtain ⟨mA,O,_⟩:=pJ I.hok ea
  obtain ⟨od,J,_⟩:=O.look
  exact PySem.W.kia_one (PySem.W.kitx_own (cl.get _) cl.hd ha hn htk hm) I.kIn J e (λ z=>nomatch z) h
end
structure bX (k:Nat) (A:Around):Prop where
 hd:A.handled=none
 dp:A.depth+3 * k+5<recursionLimit
 un:A.units+16 * k+200<cLine
theorem bX.mono {j k:Nat} {A:Around} (r:bX k A) (h:j<=k):bX j A:=⟨r.hd,by have:=r.dp;omega,by have:=r.un;omega⟩
theorem bX.deeper {k:Nat} {A:Around} (r:bX (k+1) A) (env:Env):bX k (A.deeper env):=
 ⟨r.hd,by have:=r.dp;show A.depth+1+3 * k+5<_;omega,by have:=r.un;show A.units+3+16 * k+200<_;omega⟩
theorem uO {A:Around} {C:Addr} {us:List Value} {kw:List (Str×Value)}:(A.under (.builtin "type.__call__" ⟨.ref C::us,kw⟩)).depth=A.depth+1:=by
 first | rfl | simp [Around.under,Code.weight,Code.isCreation,Code.isGuard,Code.isCaller,Code.frames,Code.isFrame,guardIds]
theorem tf {A:Around} {C:Addr} {us:List Value} {kw:List (Str×Value)}:(A.under (.builtin "type.__call__" ⟨.ref C::us,kw⟩)).units=A.units+1:=by
 first | rfl | simp [Around.under,Code.cUnits,Code.frames,Code.isFrame]
theorem bX.make {k:Nat} {A:Around} (r:bX (k+1) A) (C:Addr) (us:List Value) (kw:List (Str×Value)):bX k (A.under (.builtin "type.__call__" ⟨.ref C::us,kw⟩)):=
 ⟨r.hd,by have:=r.dp;rw [uO];omega,by have:=r.un;rw [tf];omega⟩
theorem bX.depth {k:Nat} {A:Around} (r:bX k A):A.depth<recursionLimit:=by have:=r.dp;omega
theorem bX.units {k:Nat} {A:Around} (r:bX k A):A.units+64<cLine:=by have:=r.un;omega
def wW:TA:=λ _ H Q=>Q [] H
def xo (ta:TE) (tr:TA):TA:=λ σ H Q=>ta σ H λ x H1=>tr σ H1 λ xs H2=>Q (x::xs) H2
section
variable {X:Cx} {e:Expr} {es:List Expr} {te:TE} {t:TA} {pos:Pos}
theorem aa:PA X [] wW:=λ _ _ _ _ H Q I h=>Calls.spliced_nil ⟨[],H,I,.nil,h⟩
theorem AA (ha:PE X e te) (hr:PA X es t) (hs:starEach (e::es) X.env=(false,eval e X.env)::starEach es X.env:=by rfl):PA X (e::es) (xo te t):=by
 intro pos pins s σ H Q I h
 rw [hs]
 show wpAny _ _ (spliced ((false,eval e X.env)::backTo pos (starEach es X.env))) _ _ s
 refine Calls.spliced_cons (thn (ha pins s σ H _ I h) λ u s1 ⟨x,H1,I1,r1,q1⟩=>?_)
 exact thn (hr pos pins s1 σ H1 _ I1 q1) λ us s2 ⟨xs,H2,I2,r2,q2⟩=>⟨x::xs,H2,I2,.cons r1 r2,q2⟩
def FG (t:TA):TE:=λ σ H Q=>t σ H λ xs H1=>xs.length<=sizeLine/\∀ p,H1 p=none->Q (.ref p) (upd H1 p (.tup xs))
def CN (t:TA):TE:=λ σ H Q=>t σ H λ xs H1=>xs.length<=sizeLine/\∀ p,H1 p=none->Q (.ref p) (upd H1 p (.lst xs))
theorem fT {x1} (h:PA X es t):PE X (.Tuple es x1 pos) (FG t):=by
 intro pins s σ H Q I hq
 refine wpAny_Tuple_spliced (thn (h pos pins s σ H _ I hq) λ us s1 ⟨xs,H1,I1,r,z,q⟩=>⟨by rw [<- r.length];exact z,?_⟩)
 have hf:H1 s1.heap.objs.size=none:=I1.hok.fresh (Nat.le_refl _)
 refine ⟨.ref s1.heap.objs.size,upd H1 s1.heap.objs.size (.tup xs),I1.laid (t':=s1.toks) (λ b u e=>Heap.get?_push_of_some _ e) (Nat.le_refl _) ?_,rfl,q _ hf⟩
 exact ⟨z,us,r,⟨_,Heap.get?_push_size _ rfl,rfl,_,rfl⟩⟩
theorem a5 (h:PA X es t):PE X (.List es pos) (CN t):=by
 intro pins s σ H Q I hq
 refine wpAny_List_spliced (thn (h pos pins s σ H _ I hq) λ us s1 ⟨xs,H1,I1,r,z,q⟩=>⟨by rw [<- r.length];exact z,?_⟩)
 have hf:H1 s1.heap.objs.size=none:=I1.hok.fresh (Nat.le_refl _)
 refine ⟨.ref s1.heap.objs.size,upd H1 s1.heap.objs.size (.lst xs),I1.laid (t':=s1.toks) (λ b u e=>Heap.get?_push_of_some _ e) (Nat.le_refl _) ?_,rfl,q _ hf⟩
 exact ⟨z,us,0,r,Heap.get?_push_size _ rfl⟩
end
abbrev Sp:=List V->Hp->VK->XK->Prop
abbrev CXT:=List Env->Hp->Shared->XK->Value->Shared->Prop
structure tQ (P:Program) (w:World) (K:PySem.W.Frag) (mg:Str->Option Value) (base:Heap) (A:Around) (outer:List Env) (s:Shared) (H:Hp):Prop where
 frames:A.frames=some outer
 mod:Mod K mg base
 bs:∀ b o,base.get? b=some o->s.heap.get? b=some o/\H b=none
 bsz:base.objs.size<=s.heap.objs.size
 mi:s.heap.FunFrames base outer
 frf:∀ b∈frs outer,H b=none
 hok:HOk P w H s.heap
 bare:AllBare s.gens
def CE (outer:List Env) (P:Program) (w:World) (H:Hp) (s:Shared) (Q:VK) (u:Value) (s':Shared):Prop:=
 ∃ v H',s'.os=s.os/\AllBare s'.gens/\Un (frs outer) [] H H' s.heap s'.heap/\HOk P w H' s'.heap/\RelV v u/\Q v H'
def CR (CX:CXT) (outer:List Env) (P:Program) (w:World) (H:Hp) (s:Shared) (Q:VK) (E:XK) (r:Result) (s':Shared):Prop:=
 match r with
 | .ok (.ret u)=>CE outer P w H s Q u s'
 | .ok _=>False
 | .error e=>CX outer H s E e s'
structure cC (P:Program) (w:World) (K:PySem.W.Frag) (mg:Str->Option Value) (base:Heap) (CX:CXT) (k:Nat) (f:Addr) (fd:FuncData) (ps:List Str) (sp:Sp):Prop where
 len:∀ vs H Q E,sp vs H Q E->vs.length=ps.length
 run:∀ (A:Around) (outer:List Env) (s:Shared) (H:Hp) (args:Args) (us:List Value) (vs:List V) (Q:VK) (E:XK),bX k A->tQ P w K mg base A outer s H->BindsTo s fd args (ps.zip us)->Vals vs us->sp vs H Q E ->
  codeAny (model P w) A (.call (.ref f) args) (CR CX outer P w H s Q E) s
theorem cC.mono {P:Program} {w:World} {K:PySem.W.Frag} {mg:Str->Option Value} {base:Heap} {CX:CXT} {j k:Nat} {f:Addr} {fd:FuncData} {ps:List Str} {sp:Sp} (F:cC P w K mg base CX j f fd ps sp) (h:j<=k):
  cC P w K mg base CX k f fd ps sp:=⟨F.len,λ A outer s H args us vs Q E hr=>F.run A outer s H args us vs Q E (hr.mono h)⟩
theorem tQ.make {P:Program} {w:World} {K:PySem.W.Frag} {mg:Str->Option Value} {base:Heap} {A:Around} {outer:List Env} {s:Shared} {H:Hp} (e:tQ P w K mg base A outer s H) (C:Addr) (us:List Value) (kw:List (Str×Value)):
  tQ P w K mg base (A.under (.builtin "type.__call__" ⟨.ref C::us,kw⟩)) outer s H:=⟨by first | exact e.frames | (simpa [Around.under,Code.envs,Code.isFrame,pushEnvs] using e.frames),e.mod,e.bs,e.bsz,e.mi,e.frf,e.hok,e.bare⟩
section
variable {X:Cx} {pins:List (Addr×Obj)} {σ:St} {H:Hp} {s s':Shared}
theorem Inv.FX (I:Inv X pins σ H s):tQ X.prog X.w X.K X.mg X.base X.A X.stack s H:=
 ⟨I.ok.frames,I.ok.mod,I.bs,Nat.le_trans I.ok.bsz I.sz,I.stack,I.j4,I.hok,I.bare⟩
theorem Inv.after {Q:VK} {u:Value} (I:Inv X pins σ H s) (h:CE X.stack X.prog X.w H s Q u s'):EP X pins σ Q u s':=by
 obtain ⟨v,H',os,bare,un,hok,r,q⟩:=h
 obtain ⟨hh,g,d,t,os'⟩:=s'
 obtain rfl:os'=s.os:=os
 exact ⟨v,H',I.call (h':=hh) (g':=g) (d':=d) (t':=t) (ch:=[]) un hok bare (λ b z=>absurd z (by simp)),r,q⟩
end
def By (sp:Sp) (dvs:List V) (E:XK) (t:TA):TE:=λ σ H Q=>t σ H λ vs H1=>sp (vs++dvs) H1 Q E
def xT (C:Addr) (sp:Sp) (dvs:List V) (E:XK) (t:TA):TE:=λ σ H Q=>t σ H λ vs H1=>∀ x dx,H1 x=none->H1 dx=none->dx≠x ->
 sp (.ref x::(vs++dvs)) (upd (upd H1 dx (.own x)) x (.ins C dx [])) (λ v H2=>v=.non/\Q (.ref x) H2) E
def Binds (K:PySem.W.Frag) (fd:FuncData) (ps:List Str) (ds:List Value):Prop:=
 ∀ (s:Shared) (us:List Value),K.In s.heap->(us++ds).length=ps.length->BindsTo s fd ⟨us,[]⟩ (ps.zip (us++ds))
theorem Binds.all {K:PySem.W.Frag} {fd:FuncData} {ps:List Str} (h:∀ us:List Value,us.length=ps.length->bindArgs fd ⟨us,[]⟩=pure (ps.zip us)):Binds K fd ps []:=λ s us _ hl=>by
 rw [List.append_nil] at hl ⊢
 exact .of_eq (h us hl)
def Passes (CX:CXT) (X:Cx) (E:XK):Prop:=∀ (pins:List (Addr×Obj)) (σ:St) (H:Hp) (s:Shared) (e:Value) (s':Shared),Inv X pins σ H s->CX X.stack H s E e s'->X.xe e s'
section
variable {X:Cx} {CX:CXT} {k:Nat} {f C:Addr} {fd:FuncData} {ps:List Str} {sp:Sp} {dvs:List V} {ds:List Value} {E:XK} {x m:Str} {p pos apos:Pos} {e o:Expr} {es:List Expr} {ta:TE} {t:TA}
theorem yc {pins:List (Addr×Obj)} {σ:St} {H:Hp} {s:Shared} {Q:VK} {us:List Value} {vs:List V} (F:cC X.prog X.w X.K X.mg X.base CX k f fd ps sp) (hr:bX k X.A) (hb:Binds X.K fd ps ds) (hd:Vals dvs ds) (hx:Passes CX X E)
  (I:Inv X pins σ H s) (r:Vals vs us) (h:sp (vs++dvs) H Q E):wpAny (model X.prog X.w) X.A (call (.ref f) us) (EP X pins σ Q) X.xe s:=by
 have r2:Vals (vs++dvs) (us++ds):=r.append hd
 have hl:(us++ds).length=ps.length:=by rw [<- r2.length];exact F.len _ _ _ _ h
 refine wpAny_call (codeAny_mono (F.run X.A X.stack s H ⟨us,[]⟩ (us++ds) (vs++dvs) Q E hr I.FX (hb s us I.kIn hl) r2 h) λ r s' hq=>?_)
 cases r with
 | error e=>exact hx pins σ H s e s' I hq
 | ok fl=>
  cases fl with
  | ret u=>exact I.after hq
  | next=>exact False.elim hq
  | brk=>exact False.elim hq
  | cont=>exact False.elim hq
theorem ay (F:cC X.prog X.w X.K X.mg X.base CX k f fd ps sp) (hr:bX k X.A) (hg:Gl X x) (hm:X.mg x=some (.ref f)) (hk:PySem.W.keepIn X.K (.ref f)=true) (hb:Binds X.K fd ps ds) (hd:Vals dvs ds) (hx:Passes CX X E)
  (ha:PA X (e::es) t) (hdb:(x==("__debug__":Str))=false:=by decide) (he:starEach (e::es) X.env=(false,eval e X.env)::starEach es X.env:=by rfl) (hpl:(backTo pos (starEach es X.env)).any (·.1)=false:=by rfl):
  PE X (.Call (.Name x p) (e::es) [] pos) (By sp dvs E t):=by
 intro pins s σ H Q I h
 refine wpAny_Call_Name_kw (jN I hg hm ?_ hdb)
 refine PySem.W.callWith_K (h₀:=X.base) I.ok.mod.kin hk (thn (ha pos pins s σ H _ I h) λ us s1 ⟨vs,H1,I1,r,q⟩=>⟨I1.kIn,?_⟩) he hpl
 exact yc F hr hb hd hx I1 r q
structure Mk (K:PySem.W.Frag) (C f:Addr):Prop where
 makes:PySem.W.makesIn K C=true
 init:PySem.W.findIn K (.ref C) "__init__"=some (some (.ref f))
 fn:PySem.W.isFn K (.ref f)=true
 kp:PySem.W.keepIn K (.ref C)=true
theorem rN {pins:List (Addr×Obj)} {σ:St} {H:Hp} {s:Shared} {Q:VK} {us:List Value} {vs:List V} (M:Mk X.K C f) (F:cC X.prog X.w X.K X.mg X.base CX k f fd ps sp) (hr:bX (k+1) X.A) (hb:Binds X.K fd ps ds) (hd:Vals dvs ds)
  (hx:Passes CX X E) (I:Inv X pins σ H s) (r:Vals vs us)
  (h:∀ x dx,H x=none->H dx=none->dx≠x->sp (.ref x::(vs++dvs)) (upd (upd H dx (.own x)) x (.ins C dx [])) (λ v H2=>v=.non/\Q (.ref x) H2) E):
  wpAny (model X.prog X.w) X.A (call (.ref C) us) (EP X pins σ Q) X.xe s:=by
 have hq:=h (s.heap.objs.size+1) s.heap.objs.size (I.hok.fresh (Nat.le_succ _)) (I.hok.fresh (Nat.le_refl _)) (Nat.ne_of_lt (Nat.lt_succ_self _))
 have I2:=Inv.made (C:=C) I
 have r2:Vals (V.ref (s.heap.objs.size+1)::(vs++dvs)) (Value.ref (s.heap.objs.size+1)::(us++ds)):=.cons rfl (r.append hd)
 have hl:(Value.ref (s.heap.objs.size+1)::us++ds).length=ps.length:=by
  have e:=r2.length
  rw [F.len _ _ _ _ hq] at e
  exact e.symm
 refine wpAny_call (yt (f:=f) I.kIn M.makes M.init (beq_iff_eq.mp M.fn) (codeAny_mono (F.run _ X.stack _ _ ⟨Value.ref (s.heap.objs.size+1)::us,[]⟩ (Value.ref (s.heap.objs.size+1)::(us++ds)) _ _ E (hr.make C us [])
  (I2.FX.make C us []) (hb _ (Value.ref (s.heap.objs.size+1)::us) I2.kIn hl) r2 hq) λ r s' hq'=>?_))
 cases r with
 | error e=>exact hx pins σ _ _ e s' I2 hq'
 | ok fl=>
  cases fl with
  | ret u=>
   obtain ⟨v,H',I3,rv,ev,q3⟩:=I2.after hq'
   subst ev
   exact ⟨rv,⟨V.ref (s.heap.objs.size+1),H',I3,rfl,q3⟩⟩
  | next=>exact False.elim hq'
  | brk=>exact False.elim hq'
  | cont=>exact False.elim hq'
theorem gy (M:Mk X.K C f) (F:cC X.prog X.w X.K X.mg X.base CX k f fd ps sp) (hr:bX (k+1) X.A) (hg:Gl X x) (hm:X.mg x=some (.ref C)) (hb:Binds X.K fd ps ds) (hd:Vals dvs ds) (hx:Passes CX X E)
  (ha:PA X (e::es) t) (hdb:(x==("__debug__":Str))=false:=by decide) (he:starEach (e::es) X.env=(false,eval e X.env)::starEach es X.env:=by rfl) (hpl:(backTo pos (starEach es X.env)).any (·.1)=false:=by rfl):
  PE X (.Call (.Name x p) (e::es) [] pos) (xT C sp dvs E t):=by
 intro pins s σ H Q I h
 refine wpAny_Call_Name_kw (jN I hg hm ?_ hdb)
 refine PySem.W.callWith_K (h₀:=X.base) I.ok.mod.kin M.kp (thn (ha pos pins s σ H _ I h) λ us s1 ⟨vs,H1,I1,r,q⟩=>⟨I1.kIn,?_⟩) he hpl
 exact rN M F hr hb hd hx I1 r q
theorem xX (M:Mk X.K C f) (F:cC X.prog X.w X.K X.mg X.base CX k f fd ps sp) (hr:bX (k+1) X.A) (hg:Gl X x) (hm:X.mg x=some (.ref C)) (hb:Binds X.K fd ps ds) (hd:Vals dvs ds) (hx:Passes CX X E)
  (hdb:(x==("__debug__":Str))=false:=by decide):PE X (.Call (.Name x p) [] [] pos) (xT C sp dvs E wW):=by
 intro pins s σ H Q I h
 refine wpAny_Call_Name_kw (jN I hg hm ?_ hdb)
 exact PySem.W.callWith_K0 I.kIn M.kp (rN (us:=[]) M F hr hb hd hx I .nil h)
end
section
variable {X:Cx} {CX:CXT} {k:Nat} {f C:Addr} {fd:FuncData} {ps ks:List Str} {sp:Sp} {E:XK} {x m:Str} {p pos apos kpos:Pos} {e o:Expr} {es:List Expr} {kws:List Keyword} {te ta:TE} {t tk:TA} {nm:Option Str}
variable {g:List Value->List Value->List Value} {gV:List V->List V->List V}
end
structure aS (N P:List Str) (sc:Scope):Prop where
 kind:sc.kind=.function
 co:sc.isCoroutine=false
 gen:sc.isGenerator=false
 nd:N.Nodup
 pre:N.take P.length=P
 par:∀ x∈P,sc.names.lookup x=some .local∨sc.names.lookup x=some .cell
 DL:∀ y∈sc.names,y.2≠.free
theorem oP {kindOf:Str->Option NameKind} {x:Str}:∀ {binds:List (Str×Value)} {m:Str->Option Value},(∀ v,(x,v) ∉ binds)->bindL kindOf binds m x=m x
 | [],_,_=>rfl
 | (n,v)::r,m,h=>by
  unfold bindL
  rw [oP λ w hw=>h w (List.mem_cons_of_mem _ hw)]
  split
  ·have:x≠n:=by rintro rfl;exact h v List.mem_cons_self
   simp [this]
  ·rfl
theorem pB {kindOf:Str->Option NameKind} {x:Str}:∀ {binds:List (Str×Value)} {m:Str->Option Value},(∀ v,(x,v) ∉ binds)->bindC kindOf binds m x=m x
 | [],_,_=>rfl
 | (n,v)::r,m,h=>by
  unfold bindC
  rw [pB λ w hw=>h w (List.mem_cons_of_mem _ hw)]
  split
  ·rfl
  ·have:x≠n:=by rintro rfl;exact h v List.mem_cons_self
   simp [this]
theorem oH {kindOf:Str->Option NameKind} {x:Str} {v:Value}:∀ {P:List Str} {vs:List Value} {i:Nat} {m:Str->Option Value},P.Nodup->P[i]?=some x->vs[i]?=some v->kindOf x=some .local ->
  bindL kindOf (P.zip vs) m x=some v
 | [],_,_,_,_,h,_,_=>by simp at h
 | _::_,[],_,_,_,_,h,_=>by simp at h
 | p::P,w::vs,0,m,nd,h1,h2,hk=>by
  simp at h1 h2;subst h1;subst h2
  show bindL kindOf ((p,w)::P.zip vs) m p=_
  unfold bindL
  rw [oP λ v hv=>(List.nodup_cons.mp nd).1 (List.of_mem_zip hv).1,if_pos hk]
  simp
 | p::P,w::vs,i+1,m,nd,h1,h2,hk=>by
  show bindL kindOf ((p,w)::P.zip vs) m x=_
  unfold bindL
  exact oH (i:=i) (List.nodup_cons.mp nd).2 (by simpa using h1) (by simpa using h2) hk
theorem o8 {kindOf:Str->Option NameKind} {x:Str} {v:Value}:∀ {P:List Str} {vs:List Value} {i:Nat} {m:Str->Option Value},P.Nodup->P[i]?=some x->vs[i]?=some v->kindOf x≠some .local ->
  bindC kindOf (P.zip vs) m x=some v
 | [],_,_,_,_,h,_,_=>by simp at h
 | _::_,[],_,_,_,_,h,_=>by simp at h
 | p::P,w::vs,0,m,nd,h1,h2,hk=>by
  simp at h1 h2;subst h1;subst h2
  show bindC kindOf ((p,w)::P.zip vs) m p=_
  unfold bindC
  rw [pB λ v hv=>(List.nodup_cons.mp nd).1 (List.of_mem_zip hv).1,if_neg hk]
  simp
 | p::P,w::vs,i+1,m,nd,h1,h2,hk=>by
  show bindC kindOf ((p,w)::P.zip vs) m x=_
  unfold bindC
  exact o8 (i:=i) (List.nodup_cons.mp nd).2 (by simpa using h1) (by simpa using h2) hk
def start (N:List Str) (vs:List V):St:=vs.map some++List.replicate (N.length - vs.length) none
def kg (CX:CXT) (P:Program) (w:World) (K:PySem.W.Frag) (mg:Str->Option Value) (base:Heap) (N:List Str) (qual:Str) (scope:Scope) (f:Addr) (cd:Value) (A:Around) (outer:List Env) (s:Shared) (H:Hp) (E:XK):Cx where
 prog:=P
 w:=w
 K:=K
 mg:=mg
 base:=base
 A:=A.deeper (envOfC qual scope s.heap.objs.size f cd)
 N:=N
 s₀:=s
 H₀:=H
 env:=envOfC qual scope s.heap.objs.size f cd
 outer:=outer
 stack:=envOfC qual scope s.heap.objs.size f cd::outer
 ex:=[]
 calm:=true
 fn:=λ _=>true
 pn:=[]
 xe:=λ e s'=>wpAny (model P w) (A.deeper (envOfC qual scope s.heap.objs.size f cd)) (leaving (envOfC qual scope s.heap.objs.size f cd) e) (λ _ s''=>CX outer H s E e s'') (λ e' s''=>CX outer H s E e' s'') s'
theorem qS {sc:Scope} {n:Nat} {x:Str} (h:sc.names.lookup x=some .cell):∃ c,(cellsFrom n sc.names []).lookup x=some c:=by
 have q:=PySem.W.cellsFrom_some sc.names n [] (.inl h)
 exact Option.isSome_iff_exists.mp q
theorem wH {CX:CXT} {P:Program} {w:World} {K:PySem.W.Frag} {mg:Str->Option Value} {base:Heap} {N ps:List Str} {qual:Str} {scope:Scope} {f:Addr} {cd:Value} {A:Around} {outer:List Env} {s s1:Shared} {H:Hp} {E:XK} {us:List Value} {vs:List V}
  (S:aS N ps scope) (hd:A.handled=none) (e0:tQ P w K mg base A outer s H) (hl:vs.length=ps.length) (r:Vals vs us)
  (x:InCallC s s.heap.objs.size (bindL (envOfC qual scope s.heap.objs.size f cd).kindOf (ps.zip us) λ _=>none) (cellsFrom (s.heap.objs.size+1) scope.names []) (bindC (envOfC qual scope s.heap.objs.size f cd).kindOf (ps.zip us) λ _=>none) s1):
  Inv (kg CX P w K mg base N qual scope f cd A outer s H E) [] (start N vs) H s1:=by
 have hpl:ps.length<=N.length:=by have:=congrArg List.length S.pre;rw [List.length_take] at this;omega
 obtain ⟨h1,tk,rfl,hk⟩:=x.done
 have noA:∀ b:Addr,b ∉ (kg CX P w K mg base N qual scope f cd A outer s H E).ex:=λ b z=>absurd (show b∈([]:List Addr) from z) (by simp)
 refine ⟨⟨e0.mod,S.kind,rfl,rfl,Nat.le_refl _,λ y z c h1 h2=>?_,λ y hy=>?_,λ y c _ h=>?_,λ _=>hd,Around.frames_deeper e0.frames,.inr ⟨rfl,rfl⟩,λ b z=>absurd z (noA b),e0.bs,e0.bsz,λ b _ _=>noA b,λ b z=>absurd z (noA b),e0.mi,e0.frf⟩,
  rfl,e0.bare,Un.kept hk,⟨_,x.toInCall.ns,λ i y v h1 h2 h3=>?_⟩,λ y c h=>⟨_,x.cell y c h⟩,e0.hok.fresh (Nat.le_refl _),λ y c h=>?_,λ p hp=>absurd (show p∈([]:List (Addr×Obj)) from hp) (by simp),e0.hok.kept hk,?_⟩
 ·exact name_of_addr x.apart (PySem.mem_of_lookup h1) (PySem.mem_of_lookup h2)
 ·have hy:scope.names.lookup y=some .cell∨scope.names.lookup y=some .free:=hy
  rcases hy with hy | hy
  ·exact qS hy
  ·exact absurd rfl (S.DL _ (PySem.mem_of_lookup hy))
 ·exact Nat.le_of_lt (x.above y c (PySem.mem_of_lookup h))
 ·have hi:i<vs.length:=by
   unfold start at h2
   by_cases hi:i<vs.length
   ·exact hi
   ·rw [List.getElem?_append_right (by simpa using hi)] at h2
    rw [List.getElem?_replicate] at h2
    split at h2 <;> cases h2
  have ha:vs[i]?=some v:=by
   unfold start at h2
   rw [List.getElem?_append_left (by simpa using hi),List.getElem?_map] at h2
   cases e:vs[i]? with
   | none=>rw [e] at h2;cases h2
   | some a=>rw [e] at h2;cases h2;rfl
  obtain ⟨u,hu,rv⟩:=r.get ha
  have hp:ps[i]?=some y:=by
   rw [<- S.pre,List.getElem?_take_of_lt (by omega)];exact h1
  have ndP:ps.Nodup:=by rw [<- S.pre];exact S.nd.sublist (List.take_sublist _ _)
  refine ⟨u,rv,?_⟩
  rcases S.par y (List.mem_of_getElem? hp) with k | k
  ·exact .inl ⟨k,oH ndP hp hu k⟩
  ·obtain ⟨c,e⟩:=qS (n:=s.heap.objs.size+1) k
   refine .inr ⟨.inl k,c,e,?_⟩
   have q:=x.cell y c e
   rw [o8 ndP hp hu (by show scope.names.lookup y≠_;rw [k];decide)] at q
   exact q
 ·exact e0.hok.fresh (Nat.le_of_lt (x.above y c (PySem.mem_of_lookup h)))
 ·unfold start
  show _=N.length
  rw [List.length_append,List.length_map,List.length_replicate]
  omega
theorem yh {CX:CXT} {P:Program} {w:World} {K:PySem.W.Frag} {mg:Str->Option Value} {base:Heap} {k:Nat} {f:Addr} {name qual:Str} {params:Arguments} {body:List Stmt} {scope:Scope} {dV kV doc pm cdv ct oc:Value} {an od:Option Addr}
  {osl:Array (Option Value)} {N ps:List Str} {sp:Sp} (lk:K.lookup f=some ⟨oc,od,.func (PySem.W.fnOf name qual params body scope dV kV doc pm an cdv ct),osl⟩) (hcd:PySem.W.codeIn K cdv qual=true) (S:aS N ps scope)
  (len:∀ vs H Q E,sp vs H Q E->vs.length=ps.length)
  (hbody:∀ (A:Around) (outer:List Env) (s:Shared) (H:Hp) (vs:List V) (Q:VK) (E:XK),bX k (A.deeper (envOfC qual scope s.heap.objs.size f cdv))->sp vs H Q E ->
   ∃ t,PSs (kg CX P w K mg base N qual scope f cdv A outer s H E) body t/\t { nx:=λ _ H'=>Q .non H',rt:=Q } (start N vs) H):
  cC P w K mg base CX (k+1) f (PySem.W.fnOf name qual params body scope dV kV doc pm an cdv ct) ps sp:=by
 refine ⟨len,λ A outer s H args us vs Q E hr e0 hb r hsp=>?_⟩
 have hl:=len _ _ _ _ hsp
 have KX:K.In s.heap:=e0.mod.kin.keeps λ b o e=>(e0.bs b o e).1
 have lim:s.heap.NoLimit:=e0.mod.nolimit.keeps λ b o e=>(e0.bs b o e).1
 have hkind:∀ y∈ps.zip us,scope.names.lookup y.1=some .local∨(scope.names.lookup y.1=some .cell/\((cellsFrom (s.heap.objs.size+1) scope.names []).lookup y.1).isSome=true):=λ ⟨n,v⟩ hy=>by
  rcases S.par n (List.of_mem_zip hy).1 with q | q
  ·exact .inl q
  ·exact .inr ⟨q,PySem.W.cellsFrom_some _ _ _ (.inl q)⟩
 refine codeAny_call_function hr.depth (KX _ _ lk) rfl S.co S.gen rfl (PySem.W.codeRec_of KX hcd) (hb _ _ _ _ ?_)
 refine wpAny_newFunctionEnv_cells S.kind hkind λ env he s1 x=>?_
 subst he
 refine ⟨lim.keeps x.toInCall.keep,codeAny_func ?_⟩
 obtain ⟨t,ht,hq⟩:=hbody A outer s H vs Q E (hr.deeper _) hsp
 have I:Inv (kg CX P w K mg base N qual scope f cdv A outer s H E) [] (start N vs) H s1:=wH S hr.hd e0 hl r x
 refine wpAny_mono (ht [] s1 (start N vs) H _ I hq) (λ fl s' hs=>?_) λ e s' hs=>hs
 have fin:∀ {σ':St} {H':Hp} {v:V} {u:Value},Inv (kg CX P w K mg base N qual scope f cdv A outer s H E) [] σ' H' s'->RelV v u->Q v H'->CE outer P w H s Q u s':=
  λ {σ' H' v u} J rv q=>⟨v,H',J.os,J.bare,J.base,J.hok,rv,q⟩
 cases fl with
 | ret u=>
  obtain ⟨v,σ',H',J,rv,q⟩:=hs
  exact fin J rv q
 | next=>
  obtain ⟨σ',H',J,q⟩:=hs
  exact fin (v:=V.non) (u:=Value.none) J rfl q
 | brk=>
  obtain ⟨_,_,_,q⟩:=hs
  exact False.elim q
 | cont=>
  obtain ⟨_,_,_,q⟩:=hs
  exact False.elim q
section
variable {X:Cx} {x:Str} {p pos:Pos} {e:Expr} {es:List Expr} {t:TA} {id T:String} {r:List V->Hp->VK->Prop}
def tCB (r:List V->Hp->VK->Prop) (t:TA):TE:=λ σ H Q=>t σ H λ vs H1=>r vs H1 Q
theorem aB (hc:fA X (.builtin id) r) (hg:Gl X x) (hm:X.mg x=none) (hv:bootBuiltins x=some (.builtin id)) (ha:PA X (e::es) t) (hn:x≠"__name__":=by decide) (hdb:(x==("__debug__":Str))=false:=by decide)
  (he:starEach (e::es) X.env=(false,eval e X.env)::starEach es X.env:=by rfl) (hpl:(backTo pos (starEach es X.env)).any (·.1)=false:=by rfl):PE X (.Call (.Name x p) (e::es) [] pos) (tCB r t):=by
 intro pins s σ H Q I h
 refine wpAny_Call_Name_kw (jB I hg hm hv ?_ hn hdb)
 exact PyProof.Rows.callWith_builtin1 (thn (ha pos pins s σ H _ I h) λ us s1 ⟨vs,H1,I1,r1,q1⟩=>hc pins s1 σ H1 vs us Q I1 r1 q1) he hpl
theorem bf (hc:fA X (.type T) r) (hg:Gl X x) (hm:X.mg x=none) (hv:bootBuiltins x=some (.type T)) (ha:PA X (e::es) t) (hn:x≠"__name__":=by decide) (hdb:(x==("__debug__":Str))=false:=by decide)
  (he:starEach (e::es) X.env=(false,eval e X.env)::starEach es X.env:=by rfl) (hpl:(backTo pos (starEach es X.env)).any (·.1)=false:=by rfl):PE X (.Call (.Name x p) (e::es) [] pos) (tCB r t):=by
 intro pins s σ H Q I h
 refine wpAny_Call_Name_kw (jB I hg hm hv ?_ hn hdb)
 exact PyProof.Rows.callWith_type1 (thn (ha pos pins s σ H _ I h) λ us s1 ⟨vs,H1,I1,r1,q1⟩=>hc pins s1 σ H1 vs us Q I1 r1 q1) he hpl
end
end L2
namespace HT
open PySem PyProof.Rows
section
open PySem.SeqAt
open PySem.AutoSeq1 (wpAny_loadPart')
open PySem.MeetsSeq PySem.MeetsSeq2 PySem.MeetsSeq3
end
section
variable {prog:Program} {w:World} {A:Around} {E:Value->Shared->Prop} {s:Shared}
def sIx (n d:Nat):Option Int->Nat
 | none=>d
 | some v=>if v<0 then (v+(n:Int)).toNat else min v.toNat n
theorem jY (n d:Nat):sIx n d none=d:=rfl
theorem jS (n d k:Nat):sIx n d (some (k:Int))=min k n:=by
 show (if (k:Int)<0 then ((k:Int)+(n:Int)).toNat else min (k:Int).toNat n)=min k n
 rw [if_neg (by omega),Int.toNat_natCast]
theorem DY (n d:Nat) (hd:d<=n) (o:Option Int):sIx n d o<=n:=by
 cases o with
 | none=>exact hd
 | some v=>
  show (if v<0 then (v+(n:Int)).toNat else min v.toNat n)<=n
  by_cases hv:v<0
  ·rw [if_pos hv];omega
  ·rw [if_neg hv];exact Nat.min_le_right _ _
theorem vv (v:Int) (n d:Nat):(if v<0 then max (v+(n:Int)) 0 else min v (n:Int))=((sIx n d (some v):Nat):Int):=by
 show (if v<0 then max (v+(n:Int)) 0 else min v (n:Int))=(((if v<0 then (v+(n:Int)).toNat else min v.toNat n):Nat):Int)
 by_cases hv:v<0
 ·simp only [if_pos hv];omega
 ·simp only [if_neg hv];omega
theorem uD (lo hi:Option Int) (n:Nat):Builtin.Slice.sliceAdjust lo hi 1 (n:Int)=(((sIx n 0 lo:Nat):Int),((sIx n n hi:Nat):Int)):=by
 have h1:¬ ((1:Int)<0):=by omega
 unfold Builtin.Slice.sliceAdjust
 simp only [h1,if_false]
 refine Prod.ext ?_ ?_
 ·cases lo with
  | none=>rfl
  | some v=>exact vv v n 0
 ·cases hi with
  | none=>rfl
  | some v=>exact vv v n n
theorem uL (i j:Nat):Builtin.Slice.slicePlaces (i:Int) (j:Int) 1=j - i:=by
 unfold Builtin.Slice.slicePlaces
 have h1:(1:Int) > 0:=by omega
 simp only [h1,if_true,Int.ediv_one]
 split <;> omega
theorem nD {v:Value} {o:Option Int} {Q:Option Int->Shared->Prop} (p:IsPart v o) (h:Q o s):wpAny (model prog w) A (Builtin.Slice.slicePartIndex v) Q E s:=by
 cases p with
 | none=>exact slicePart_none h
 | int i t=>exact slicePart_int h
theorem kN {sl:Addr} {vl vu:Value} {lo hi:Option Int} {n:Nat} {Q:Int×Int×Nat->Shared->Prop} (hs:s.heap.IsSliceOf sl vl vu .none) (pl:IsPart vl lo) (pu:IsPart vu hi)
  (h:Q (((sIx n 0 lo:Nat):Int),1,sIx n n hi - sIx n 0 lo) s):wpAny (model prog w) A (Builtin.Slice.sliceApplied (.ref sl) (pure (n:Int))) Q E s:=by
 obtain ⟨os,hos,hcs,hds⟩:=id hs
 unfold Builtin.Slice.sliceApplied Builtin.Slice.sliceFields
 refine wpAny_bind (wpAny_bind (wpAny_field hos hds (x:=vl) rfl (wpAny_bind (wpAny_field hos hds (x:=vu) rfl (wpAny_bind (wpAny_field hos hds (x:=.none) rfl (wpAny_pure ?_)))))))
 refine wpAny_bind (slicePart_none ?_)
 show wpAny _ _ (if ((1:Int)==0)=true then _ else _) _ _ s
 rw [if_neg (by decide)]
 refine wpAny_bind (nD pl (wpAny_bind (nD pu (wpAny_bind (wpAny_pure ?_)))))
 show wpAny _ _ (match Builtin.Slice.sliceAdjust lo hi 1 (n:Int) with | (lo,hi)=>pure (lo,(1:Int),Builtin.Slice.slicePlaces lo hi 1)) _ _ s
 rw [uD lo hi n]
 show wpAny _ _ (pure (((sIx n 0 lo:Nat):Int),(1:Int),Builtin.Slice.slicePlaces ((sIx n 0 lo:Nat):Int) ((sIx n n hi:Nat):Int) 1)) _ _ s
 rw [uL]
 exact wpAny_pure h
theorem zi (xs:Array Value) (i k:Nat):((List.range k).filterMap λ (m:Nat)=>xs[((i:Int)+(m:Int) * 1).toNat]?).toArray=((xs.toList.drop i).take k).toArray:=by
 have e:(λ (m:Nat)=>xs[((i:Int)+(m:Int) * 1).toNat]?)=λ m=>xs[i+m]?:=by
  funext m
  have:((i:Int)+(m:Int) * 1).toNat=i+m:=by omega
  rw [this]
 rw [e]
 have:=pick_run xs i k
 rw [List.filterMap_map] at this
 have e2:((λ x=>xs[x]?)∘λ x=>i+x)=λ m=>xs[i+m]?:=rfl
 rw [e2] at this
 rw [this]
theorem jV {t sl:Addr} {items:Array Value} {vl vu:Value} {lo hi:Option Int} {Q:Value->Shared->Prop} (ht:IsTup s.heap t items) (hs:s.heap.IsSliceOf sl vl vu .none) (pl:IsPart vl lo) (pu:IsPart vu hi)
  (hw:¬ (sIx items.size 0 lo=0/\sIx items.size items.size hi=items.size))
  (h:Q (.ref s.heap.objs.size) { s with heap:=s.heap.push { cls:=.type "tuple",data:=.seq ((items.toList.drop (sIx items.size 0 lo)).take (sIx items.size items.size hi - sIx items.size 0 lo)).toArray } })
  (hsz:items.size<=sizeLine):wpAny (model prog w) A (getItem (.ref t) (.ref sl)) Q E s:=by
 have htake:sizeOk (.seq ((items.toList.drop (sIx items.size 0 lo)).take (sIx items.size items.size hi - sIx items.size 0 lo)).toArray):=by
  show ((items.toList.drop (sIx items.size 0 lo)).take (sIx items.size items.size hi - sIx items.size 0 lo)).toArray.size<=sizeLine
  rw [List.size_toArray,List.length_take,List.length_drop,Array.length_toList]
  omega
 have hj:sIx items.size items.size hi<=items.size:=DY _ _ (Nat.le_refl _) hi
 obtain ⟨os,hos,hcs,hds⟩:=id hs
 have hTs:s.TypeIs (.ref sl) "slice":=⟨os,hos,hcs⟩
 unfold getItem
 try with_reducible refine wpAny_holding ?_
 first | refine wpAny_bind (wpAny_pure ?_) | skip
 refine wpAny_bind (wpAny_sequenceKey ht.typeIs (by decide) ?_)
 refine wpAny_bind (wpAny_callSpecial?_slot (name:=Str.ofString "__getitem__") ht.typeIs PyProof.Rows.slot_tuple_getitem
  (wpAny_call_entry PyProof.Rows.slot_tuple_getitem ht.typeIs entry_tuple_getitem ?_ (args_tuple_getitem _ _)))
 show wpAny _ _ (Builtin.Tuple.tupleItemsOf (.ref t) >>= _) _ _ s
 refine wpAny_bind (tupleItemsOf_ ht ?_)
 refine wpAny_bind (wpAny_typeOf hTs ?_)
 rw [if_pos (by decide)]
 refine wpAny_bind (kN hs pl pu ?_)
 have hno:¬ ((((sIx items.size 0 lo:Nat):Int)==0&&(1:Int)==1&&(sIx items.size items.size hi - sIx items.size 0 lo)==items.size)=true):=by
  intro q
  rw [Bool.and_eq_true,Bool.and_eq_true] at q
  have q1:((sIx items.size 0 lo:Nat):Int)=0:=eq_of_beq q.1.1
  have q2:sIx items.size items.size hi - sIx items.size 0 lo=items.size:=eq_of_beq q.2
  exact hw ⟨by omega,by omega⟩
 show wpAny _ _ (if (((sIx items.size 0 lo:Nat):Int)==0&&(1:Int)==1&&(sIx items.size items.size hi - sIx items.size 0 lo)==items.size)=true then _ else _) _ _ s
 rw [if_neg hno,zi]
 first
  | exact wpAny_bind (m:=Builtin.Tuple.tupleExact _) (wpAny_newObj_type (wpAny_pure ⟨_,rfl,wpAny_pure h⟩) htake)
  | exact wpAny_bind (m:=Builtin.Tuple.tupleExact _) (wpAny_newObj_type (wpAny_bind (wpAny_pure (wpAny_pure ⟨_,rfl,wpAny_pure h⟩))) htake)
  | exact wpAny_bind (wpAny_bind (m:=Builtin.Tuple.tupleExact _) (wpAny_newObj_type (wpAny_pure (wpAny_pure ⟨_,rfl,wpAny_pure h⟩)) htake))
  | exact wpAny_bind (wpAny_bind (m:=Builtin.Tuple.tupleExact _) (wpAny_newObj_type (wpAny_pure ⟨_,rfl,wpAny_pure h⟩) htake))
end
end HT
namespace L2
open PySem PySem.Spec PyProof.Rows
abbrev TO:=St->Hp->(Option Int->Hp->Prop)->Prop
def PO (X:Cx) (e:Option Expr) (t:TO):Prop:=
 ∀ (pins:List (Addr×Obj)) (s:Shared) (σ:St) (H:Hp) (Q:Option Int->Hp->Prop),Inv X pins σ H s->t σ H Q ->
  wpAny (model X.prog X.w) X.A (evalPart e X.env) (λ u s'=>∃ o H',Inv X pins σ H' s'/\IsPart u o/\Q o H') X.xe s
def uW:TO:=λ _ H Q=>Q none H
def A2 (t:TE):TO:=λ σ H Q=>t σ H λ x H1=>∃ i,x=.int i/\Q (some i) H1
section
variable {X:Cx} {e:Expr} {te:TE} {lo hi:Option Expr} {tl th:TO} {pos p2:Pos}
theorem cX:PO X none uW:=by
 intro pins s σ H Q I h
 rw [evalPart_none]
 exact wpAny_pure ⟨none,H,I,.none,h⟩
theorem b7 (h:PE X e te):PO X (some e) (A2 te):=by
 intro pins s σ H Q I hw
 rw [evalPart_some]
 refine thn (h pins s σ H _ I hw) λ u s1 ⟨x,H1,I1,r1,q1⟩=>?_
 obtain ⟨i,rfl,q⟩:=q1
 obtain ⟨t,rfl⟩:=r1
 exact ⟨some i,H1,I1,.int i t,q⟩
def SlR (X:Cx) (r:V->Option Int->Option Int->Hp->VK->Prop):Prop:=
 ∀ (pins:List (Addr×Obj)) (s:Shared) (σ:St) (H:Hp) (x:V) (v vl vu:Value) (lo hi:Option Int) (sl:Addr) (Q:VK),Inv X pins σ H s->RelV x v->s.heap.IsSliceOf sl vl vu .none->IsPart vl lo->IsPart vu hi->r x lo hi H Q ->
  ∃ T id,typeLookup (.type T) "__getitem__"=pure (some (.builtin id))/\s.TypeIs v T/\wpAny (model X.prog X.w) X.A (getItem v (.ref sl)) (EP X pins σ Q) X.xe s
def tSl (r:V->Option Int->Option Int->Hp->VK->Prop) (te:TE) (tl th:TO):TE:=λ σ H Q=>te σ H λ x H1=>tl σ H1 λ l H2=>th σ H2 λ u H3=>r x l u H3 Q
theorem bU {r:V->Option Int->Option Int->Hp->VK->Prop} (hr:SlR X r) (he:PE X e te) (hl:PO X lo tl) (hu:PO X hi th):PE X (.Subscript e (.Slice lo hi none p2) pos) (tSl r te tl th):=by
 intro pins s σ H Q I h
 refine Subscript_ (thn (he pins s σ H _ I h) λ v s1 ⟨x,H1,I1,r1,q1⟩=>?_)
 refine wpAny_Slice (thn (hl pins s1 σ H1 _ I1 q1) λ vl s2 ⟨l,H2,I2,pl,q2⟩=>thn (hu pins s2 σ H2 _ I2 q2) λ vu s3 ⟨u,H3,I3,pu,q3⟩=>?_)
 rw [evalPart_none]
 refine wpAny_pure ?_
 have I4:Inv X pins σ H3 { s3 with heap:=s3.heap.push { cls:=.type "slice",data:=.fields #[vl,vu,.none] } }:=I3.kept (t':=s3.toks) λ b ob q=>Heap.get?_push_of_some _ q
 obtain ⟨T,id,hT,ht,hg⟩:=hr pins { s3 with heap:=s3.heap.push { cls:=.type "slice",data:=.fields #[vl,vu,.none] } } σ H3 x v vl vu l u s3.heap.objs.size Q I4 r1 (Heap.IsSliceOf.new ..) pl pu q3
 show wpAny (model X.prog X.w) X.A (subscriptTail e (.Slice lo hi none p2) v (.ref s3.heap.objs.size)) (EP X pins σ Q) X.xe { s3 with heap:=s3.heap.push { cls:=.type "slice",data:=.fields #[vl,vu,.none] } }
 exact tail_any (ops:=[.ref s3.heap.objs.size,v]) ht hT hg (by with_unfolding_all rfl)
def f9 (xs:List V) (lo hi:Option Int):List V:=(xs.drop (HT.sIx xs.length 0 lo)).take (HT.sIx xs.length xs.length hi - HT.sIx xs.length 0 lo)
theorem lU (xs:List V) (lo hi:Option Int):(f9 xs lo hi).length<=xs.length:=by
 unfold f9
 rw [List.length_take,List.length_drop]
 omega
def G5 (K:PySem.W.Frag):V->Option Int->Option Int->Hp->VK->Prop:=λ x lo hi H Q=>∃ a xs,x=.ref a/\SqT K H a xs /\
 ¬ (HT.sIx xs.length 0 lo=0/\HT.sIx xs.length xs.length hi=xs.length)/\∀ p,H p=none->Q (.ref p) (upd H p (.tup (f9 xs lo hi)))
theorem yI:SlR X (G5 X.K):=by
 intro pins s σ H x v vl vu lo hi sl Q I rx hs pl pu h
 obtain ⟨a,xs,rfl,hx,hw,q⟩:=h
 cases rx
 obtain ⟨its,r,ht,hz⟩:=I.tuple hx
 have hlen:its.toArray.size=xs.length:=by rw [List.size_toArray];exact r.length.symm
 refine ⟨"tuple",_,PyProof.Rows.slot_tuple_getitem.lookup,ht.typeIs,?_⟩
 refine HT.jV ht hs pl pu (by rw [hlen];exact hw) ?_ (by rw [hlen];exact hz)
 rw [hlen]
 refine ⟨.ref s.heap.objs.size,_,I.laid (t':=s.toks) (o:=.tup (f9 xs lo hi)) (λ b ob q=>Heap.get?_push_of_some _ q) (Nat.le_refl _) ?_,rfl,q _ (I.hok.fresh (Nat.le_refl _))⟩
 exact ⟨Nat.le_trans (lU xs lo hi) hz,_,(r.drop (HT.sIx xs.length 0 lo)).take (HT.sIx xs.length xs.length hi - HT.sIx xs.length 0 lo),IsTup.new _ _⟩
end
def ixN (n:Nat) (i:Int):Option Nat:=if 0<=i then (if i<n then some i.toNat else none) else if -(n:Int)<=i then some (i+n).toNat else none
def atI {α:Type} (xs:List α) (i:Int):Option α:=(ixN xs.length i).bind λ j=>xs[j]?
theorem vh {n:Nat} {i:Int} {j:Nat} (h:ixN n i=some j):seqIndex? i n=some j/\j<n/\-(n:Int)<=i/\i<n:=by
 unfold ixN at h
 by_cases h0:0<=i
 ·rw [if_pos h0] at h
  by_cases h1:i<n
  ·rw [if_pos h1] at h
   have e:i.toNat=j:=Option.some.inj h
   exact ⟨by rw [seqIndex_of h0 h1,e],by omega,by omega,h1⟩
  ·rw [if_neg h1] at h;cases h
 ·rw [if_neg h0] at h
  by_cases h1:-(n:Int)<=i
  ·rw [if_pos h1] at h
   have e:(i+n).toNat=j:=Option.some.inj h
   exact ⟨by rw [seqIndex_neg (by omega) h1,e],by omega,h1,by omega⟩
  ·rw [if_neg h1] at h;cases h
theorem pS {α:Type} {xs:List α} {i:Int} {v:α} (h:atI xs i=some v):∃ j,seqIndex? i xs.length=some j/\xs[j]?=some v/\j<xs.length/\-(xs.length:Int)<=i/\i<xs.length:=by
 unfold atI at h
 cases e:ixN xs.length i with
 | none=>rw [e] at h;cases h
 | some j=>
  rw [e] at h
  obtain ⟨h1,h2,h3,h4⟩:=vh e
  exact ⟨j,h1,h,h2,h3,h4⟩
theorem aX {α:Type} {xs:List α} {j:Nat} {v:α} (h:xs[j]?=some v):atI xs (j:Int)=some v:=by
 have hj:j<xs.length:=(List.getElem?_eq_some_iff.mp h).1
 have e:ixN xs.length (j:Int)=some j:=by
  unfold ixN
  rw [if_pos (by omega),if_pos (by omega)];simp
 unfold atI;rw [e];exact h
theorem yK {α:Type} (xs:List α) (v:α):atI (xs++[v]) (-1)=some v:=by
 have hl:(xs++[v]).length=xs.length+1:=by simp
 have e:ixN (xs++[v]).length (-1)=some xs.length:=by
  unfold ixN
  rw [hl,if_neg (by decide),if_pos (by omega)]
  congr 1
  omega
 unfold atI
 rw [e]
 show (xs++[v])[xs.length]?=some v
 simp
def zz (b:Expr):Prop:=∀ o i,subscripted b false o i=operate [o,i] (getItem o i)
def IxR (X:Cx) (r:R2):Prop:=
 ∀ (value slice:Expr) (pins:List (Addr×Obj)) (s:Shared) (σ:St) (H:Hp) (x y:V) (v u:Value) (Q:VK),Inv X pins σ H s->RelV x v->RelV y u->r x y H Q ->
  subscripted slice false v u=operate [v,u] (getItem v u)->wpAny (model X.prog X.w) X.A (subscriptTail value slice v u) (EP X pins σ Q) X.xe s
def MtR (X:Cx) (id:String) (r:V->List V->Hp->VK->Prop):Prop:=
 ∀ (pins:List (Addr×Obj)) (s:Shared) (σ:St) (H:Hp) (x:V) (xs:List V) (v:Value) (us:List Value) (Q:VK),Inv X pins σ H s->RelV x v->Vals xs us->r x xs H Q ->
  wpAny (model X.prog X.w) X.A (call (.builtin id) (v::us)) (EP X pins σ Q) X.xe s
section
variable {X:Cx} {a b:Expr} {ta tb:TE} {pos:Pos}
theorem aY {r:R2} (hr:IxR X r) (ha:PE X a ta) (hb:PE X b tb) (hs:zz b):PE X (.Subscript a b pos) (tOp r ta tb):=by
 intro pins s σ H Q I h
 exact Subscript_ (Cu ha hb I h λ v u s2 x y H2 I2 rx ry q=>hr a b pins s2 σ H2 x y v u Q I2 rx ry q (hs _ _))
def Fp (K:PySem.W.Frag):R2:=λ x y H Q=>∃ p xs i v,x=.ref p/\y=.int i/\SqL K H p xs/\atI xs i=some v/\Q v H
def GS (K:PySem.W.Frag):R2:=λ x y H Q=>∃ p xs i v,x=.ref p/\y=.int i/\SqT K H p xs/\atI xs i=some v/\Q v H
def G6:R2:=λ x y H Q=>∃ z i c,x=.str z/\y=.int i/\z.length<=sizeLine/\atI z.cps.toList i=some c/\Q (.str ⟨#[c]⟩) H
theorem aQ:IxR X (Fp X.K):=by
 intro value slice pins s σ H x y v u Q I rx ry h hs
 obtain ⟨p,xs,i,z,rfl,rfl,hq,he,q⟩:=h
 cases rx
 obtain ⟨t,rfl⟩:=ry
 obtain ⟨its,r,pl,hz⟩:=I.list hq
 obtain ⟨j,h1,h2,h3,h4,h5⟩:=pS he
 obtain ⟨w,ew,rw'⟩:=r.get h2
 have hl:=r.length
 have hn:=jt
 have fin:EP X pins σ Q w s:=⟨z,H,I,rw',q⟩
 by_cases h0:0<=i
 ·have hj:i.toNat=j:=by
   rw [seqIndex_of h0 h5] at h1
   exact Option.some.inj h1
  exact item_listR pl.isList h0 (by omega) (by rw [hj];simpa using ew) fin hs
 ·have hj:(i+(its.toArray.size:Int)).toNat=j:=by
   rw [seqIndex_neg (by omega) h4] at h1
   rw [List.size_toArray,<- hl]
   exact Option.some.inj h1
  exact subscriptTail_builtinR (x:=w) pl.isList.typeIs slot_list_getitem.lookup
   (wpAny_getItem_list_neg (Q:=λ r s'=>r=w/\EP X pins σ Q r s') pl.isList (by omega) (by rw [List.size_toArray] <;> omega) (by omega) (by rw [hj];simpa using ew) ⟨rfl,fin⟩) hs
theorem mD:IxR X (GS X.K):=by
 intro value slice pins s σ H x y v u Q I rx ry h hs
 obtain ⟨p,xs,i,z,rfl,rfl,hq,he,q⟩:=h
 cases rx
 obtain ⟨t,rfl⟩:=ry
 obtain ⟨its,r,pl,hz⟩:=I.tuple hq
 obtain ⟨j,h1,h2,h3,h4,h5⟩:=pS he
 obtain ⟨w,ew,rw'⟩:=r.get h2
 have hl:=r.length
 have hn:=jt
 have fin:EP X pins σ Q w s:=⟨z,H,I,rw',q⟩
 exact subscriptTail_builtinR (x:=w) pl.typeIs slot_tuple_getitem.lookup
  (getItem_tuple (j:=j) (Q:=λ r s'=>r=w/\EP X pins σ Q r s') pl (by omega) (by omega) (by rw [List.size_toArray,<- hl];exact h1) (by simpa using ew) ⟨rfl,fin⟩) hs
theorem iW:IxR X G6:=by
 intro value slice pins s σ H x y v u Q I rx ry h hs
 obtain ⟨z,i,c,rfl,rfl,hz,he,q⟩:=h
 obtain ⟨t,rfl⟩:=rx
 obtain ⟨t',rfl⟩:=ry
 obtain ⟨j,h1,h2,h3,h4,h5⟩:=pS he
 have hl:z.cps.toList.length=z.length:=by simp [Str.length]
 rw [hl] at h1 h4 h5
 have hn:=jt
 exact tail_any (typeIs_str s z t) slot_str_getitem.lookup (getItem_str (c:=c) (by
  have e1:decide (i < -(2 ^ 63:Int))=false:=decide_eq_false (by omega)
  have e2:decide (i ≥ 2 ^ 63)=false:=decide_eq_false (by omega)
  rw [e1,e2,Bool.or_false]) (by rw [h1];simpa using h2) ⟨.str ⟨#[c]⟩,H,I.tok _,⟨_,rfl⟩,q⟩) hs
theorem uw (its:List Value) (n j:Nat) (u:Value):Obj.mapSeq (·.setIfInBounds j u) { cls:=.type "list",data:=.seq its.toArray n }={ cls:=.type "list",data:=.seq (its.set j u).toArray n }:=by
 simp [Obj.mapSeq]
theorem Inv.lst {pins:List (Addr×Obj)} {σ:St} {H:Hp} {s:Shared} {p:Addr} {xs:List V} (I:Inv X pins σ H s) (h:H p=some (.lst xs)):
  ∃ (its:List Value) (n:Nat),Vals xs its/\s.heap.get? p=some { cls:=.type "list",data:=.seq its.toArray n }/\xs.length<=sizeLine:=by
 obtain ⟨z,its,n,r,e⟩:=I.hok p _ h
 exact ⟨its,n,r,e,z⟩
theorem Inv.CF {pins:List (Addr×Obj)} {σ:St} {H:Hp} {s:Shared} {p:Addr} {xs ys:List V} {its its':List Value} {n n':Nat} {f:Obj->Obj} (I:Inv X pins σ H s) (h:H p=some (.lst xs))
  (ho:s.heap.get? p=some { cls:=.type "list",data:=.seq its.toArray n }) (hf:f { cls:=.type "list",data:=.seq its.toArray n }={ cls:=.type "list",data:=.seq its'.toArray n' }) (r:Vals ys its') (hz:ys.length<=sizeLine) (t:Nat):
  Inv X pins σ (upd H p (.lst ys)) { s with heap:=s.heap.update p f,toks:=t }:=by
 have e:(s.heap.update p f).get? p=some { cls:=.type "list",data:=.seq its'.toArray n' }:=by
  rw [Heap.get?_update_self f ho (by rw [hf] <;> rfl),hf]
 refine I.write (x:=p) (e:=p) (by rw [h];trivial) (.inl rfl) (λ b u hb q=>(Heap.get?_update_other _ _ (Ne.symm hb)).trans q) ⟨_,e⟩ ?_
 exact ⟨hz,its',n',r,e⟩
def FQ:V->V->V->Hp->(Hp->Prop)->Prop:=λ o i v H Q=>∃ p xs k j,o=.ref p/\i=.int k/\H p=some (.lst xs)/\ixN xs.length k=some j/\Q (upd H p (.lst (xs.set j v)))
theorem set_list:FJ X FQ:=by
 intro pins s σ H o i v ov iv u Q I ro ri rv h
 obtain ⟨p,xs,k,j,rfl,rfl,hp,hj,q⟩:=h
 cases ro
 obtain ⟨t,rfl⟩:=ri
 obtain ⟨its,n,r,ho,hz⟩:=I.lst hp
 obtain ⟨h1,h2,h3,h4⟩:=vh hj
 have hl:=r.length
 have hn:=jt
 have I':Inv X pins σ (upd H p (.lst (xs.set j v))) { s with heap:=s.heap.update p (Obj.mapSeq (·.setIfInBounds j u)) }:=
  I.CF hp ho (uw its n j u) (r.set rv j) (by rw [List.length_set];exact hz) s.toks
 by_cases h0:0<=k
 ·have hk:k.toNat=j:=by
   rw [seqIndex_of h0 h4] at h1
   exact Option.some.inj h1
  exact PySem.W.ki_setAt ho h0 (by omega) (by rw [List.size_toArray,<- hl];exact h4) (by rw [hk];exact ⟨_,I',q⟩)
 ·have hk:(k+(its.toArray.size:Int)).toNat=j:=by
   rw [seqIndex_neg (by omega) h3] at h1
   rw [List.size_toArray,<- hl]
   exact Option.some.inj h1
  exact PySem.W.ki_setBack ho (by omega) (by rw [List.size_toArray,<- hl];exact h3) (by omega) (by rw [hk];exact ⟨_,I',q⟩)
theorem qo (lo hi:Option Int) (n:Nat):(sliceBounds lo hi none n).1=((HT.sIx n 0 lo:Nat):Int)/\(sliceBounds lo hi none n).2.1=((HT.sIx n n hi:Nat):Int)/\(sliceBounds lo hi none n).2.2=1:=by
 refine ⟨?_,?_,rfl⟩
 ·cases lo with
  | none=>simp [sliceBounds,HT.sIx]
  | some i=>
   simp only [sliceBounds,HT.sIx,Option.getD_none,show (1:Int) > 0 by decide,if_true]
   by_cases h:i<0
   ·simp only [h,if_true] <;> omega
   ·simp only [h,if_false] <;> omega
 ·cases hi with
  | none=>simp [sliceBounds,HT.sIx]
  | some i=>
   simp only [sliceBounds,HT.sIx,Option.getD_none,show (1:Int) > 0 by decide,if_true]
   by_cases h:i<0
   ·simp only [h,if_true] <;> omega
   ·simp only [h,if_false] <;> omega
theorem oC (its:List Value) (lo hi:Option Int):slicePick its.toArray lo hi none=((its.drop (HT.sIx its.length 0 lo)).take (HT.sIx its.length its.length hi - HT.sIx its.length 0 lo)).toArray:=by
 obtain ⟨h1,h2,h3⟩:=qo lo hi its.toArray.size
 unfold slicePick
 rw [h1,h2,h3]
 simp only [sliceRange_one,pick_run,List.size_toArray] <;> rfl
def GX (K:PySem.W.Frag):V->Option Int->Option Int->Hp->VK->Prop:=λ x lo hi H Q=>∃ a xs,x=.ref a/\SqL K H a xs/\∀ p,H p=none->Q (.ref p) (upd H p (.lst (f9 xs lo hi)))
theorem iq:SlR X (GX X.K):=by
 intro pins s σ H x v vl vu lo hi sl Q I rx hs pl pu h
 obtain ⟨a,xs,rfl,hx,q⟩:=h
 cases rx
 obtain ⟨its,r,ht,hz⟩:=I.list hx
 have hlen:=r.length
 refine ⟨"list",_,slot_list_getitem.lookup,ht.isList.typeIs,?_⟩
 refine wpAny_getItem_list_slice ht.isList hs pl pu .none (by simp) ?_ (by rw [List.size_toArray] <;> omega)
 rw [oC,<- hlen]
 refine ⟨.ref s.heap.objs.size,_,I.laid (t':=s.toks) (o:=.lst (f9 xs lo hi)) (λ b ob q=>Heap.get?_push_of_some _ q) (Nat.le_refl _) ?_,rfl,q _ (I.hok.fresh (Nat.le_refl _))⟩
 exact ⟨Nat.le_trans (lU xs lo hi) hz,_,0,(r.drop (HT.sIx xs.length 0 lo)).take (HT.sIx xs.length xs.length hi - HT.sIx xs.length 0 lo),Heap.get?_push_size _ rfl⟩
def eC:V->Bool
 | .non=>true
 | .bl _=>true
 | .int _=>true
 | .str _=>true
 | _=>false
def eqV:V->V->Bool
 | .non,.non=>true
 | .bl a,.bl b=>a==b
 | .bl a,.int b=>(if a then 1 else 0)==b
 | .int a,.bl b=>a==(if b then 1 else 0)
 | .int a,.int b=>a==b
 | .str a,.str b=>a==b
 | _,_=>false
theorem yV {A:Around} {s:Shared} {y x:V} {u v:Value} (ry:RelV y u) (rx:RelV x v) (fy:eC y=true) (fx:eC x=true):SeqAt.EqAt A s u v (eqV y x):=by
 cases y with
 | non=>
  cases ry
  cases x with
  | non=>cases rx;exact SeqAt.EqAt.same _
  | bl b=>cases rx;exact SeqAt.EqAt.none_bool b
  | int b=>obtain ⟨t,rfl⟩:=rx;exact SeqAt.EqAt.none_int b t
  | str b=>obtain ⟨t,rfl⟩:=rx;exact SeqAt.EqAt.none_str b t
  | _=>exact absurd (show false=true from fx) Bool.false_ne_true
 | bl a=>
  cases ry
  cases x with
  | non=>cases rx;exact SeqAt.EqAt.bool_none a
  | bl b=>cases rx;exact SeqAt.EqAt.bool_bool a b
  | int b=>obtain ⟨t,rfl⟩:=rx;exact SeqAt.EqAt.bool_int a b t
  | str b=>obtain ⟨t,rfl⟩:=rx;exact SeqAt.EqAt.bool_str a b t
  | _=>exact absurd (show false=true from fx) Bool.false_ne_true
 | int a=>
  obtain ⟨t',rfl⟩:=ry
  cases x with
  | non=>cases rx;exact SeqAt.EqAt.int_none a t'
  | bl b=>cases rx;exact SeqAt.EqAt.int_bool a t' b
  | int b=>obtain ⟨t,rfl⟩:=rx;exact SeqAt.EqAt.int_int a t' b t
  | str b=>obtain ⟨t,rfl⟩:=rx;exact SeqAt.EqAt.int_str a t' b t
  | _=>exact absurd (show false=true from fx) Bool.false_ne_true
 | str a=>
  obtain ⟨t',rfl⟩:=ry
  cases x with
  | non=>cases rx;exact SeqAt.EqAt.str_none a t'
  | bl b=>cases rx;exact SeqAt.EqAt.str_bool a t' b
  | int b=>obtain ⟨t,rfl⟩:=rx;exact SeqAt.EqAt.str_int a t' b t
  | str b=>obtain ⟨t,rfl⟩:=rx;exact SeqAt.EqAt.str_str a t' b t
  | _=>exact absurd (show false=true from fx) Bool.false_ne_true
 | _=>exact absurd (show false=true from fy) Bool.false_ne_true
def eqU (x:V) (u:Value):Bool:=match u with
 | .none=>eqV .non x
 | .bool b=>eqV (.bl b) x
 | .int i _=>eqV (.int i) x
 | .str z _=>eqV (.str z) x
 | _=>false
theorem sO {x y:V} {u:Value} (r:RelV y u) (f:eC y=true):eqU x u=eqV y x:=by
 cases y with
 | non=>cases r;rfl
 | bl b=>cases r;rfl
 | int i=>obtain ⟨t,rfl⟩:=r;rfl
 | str z=>obtain ⟨t,rfl⟩:=r;rfl
 | _=>exact absurd (show false=true from f) Bool.false_ne_true
theorem qg {x:V}:∀ {xs:List V} {us:List Value},Vals xs us->xs.all eC=true->us.any (eqU x)=xs.any λ y=>eqV y x
 | _,_,.nil,_=>rfl
 | y::xs,u::us,.cons r t,f=>by
  rw [List.all_cons,Bool.and_eq_true] at f
  rw [List.any_cons,List.any_cons,sO r f.1,qg t f.2]
theorem j7 {A:Around} {s:Shared} {x:V} {v:Value} (rx:RelV x v) (fx:eC x=true):∀ {xs:List V} {us:List Value},Vals xs us->xs.all eC=true->∀ u∈us,SeqAt.EqAt A s u v (eqU x u)
 | _,_,.nil,_=>λ u hu=>by cases hu
 | y::xs,u::us,.cons r t,f=>λ u' hu=>by
  rw [List.all_cons,Bool.and_eq_true] at f
  rcases List.mem_cons.mp hu with rfl | hu
  ·rw [sO r f.1];exact yV r rx f.1 fx
  ·exact j7 rx fx t f.2 u' hu
def inV (x:V) (xs:List V):Bool:=xs.any λ y=>eqV y x
def rIn (K:PySem.W.Frag) (neg:Bool):R2:=λ x y H Q=>∃ p xs,y=.ref p/\(SqL K H p xs∨SqT K H p xs)/\eC x=true/\xs.all eC=true/\Q (.bl (if neg then !inV x xs else inV x xs)) H
theorem kM:OpR X (compareOp .In) (rIn X.K false):=by
 intro pins s σ H x y v u Q I rx ry h
 obtain ⟨p,xs,rfl,hq,fx,fs,q⟩:=h
 cases ry
 rcases hq with hq | hq
 ·obtain ⟨its,r,pl,hz⟩:=I.list hq
  refine SeqAt.in_listAt (eqU x) pl.isList (λ w hw=>j7 rx fx r fs w (by simpa using hw)) ⟨.bl _,H,I,rfl,?_⟩
  rw [show its.toArray.any (eqU x)=its.any (eqU x) by simp,qg r fs]
  exact q
 ·obtain ⟨its,r,pl,hz⟩:=I.tuple hq
  refine SeqAt.in_tupleAt (eqU x) pl (λ w hw=>j7 rx fx r fs w (by simpa using hw)) ⟨.bl _,H,I,rfl,?_⟩
  rw [show its.toArray.any (eqU x)=its.any (eqU x) by simp,qg r fs]
  exact q
theorem aA:fA X (.builtin "len") (λ xs H Q=>∃ p ys,xs=[.ref p]/\(SqL X.K H p ys∨SqT X.K H p ys)/\Q (.int ys.length) H):=by
 intro pins s σ H xs us Q I r h
 obtain ⟨p,ys,rfl,hq,q⟩:=h
 obtain ⟨u,rfl,rx⟩:=vals1 r
 cases rx
 have hn:=jt
 rcases hq with hq | hq
 ·obtain ⟨its,r',pl,hz⟩:=I.list hq
  have hlen:=r'.length
  exact Calls.call_len_list pl.isList (by simp only [List.size_toArray] <;> omega) ⟨.int ys.length,H,I.tok _,⟨s.toks+1,by rw [List.size_toArray,hlen]⟩,q⟩
 ·obtain ⟨its,r',pl,hz⟩:=I.tuple hq
  have hlen:=r'.length
  exact len_tuple pl (by simp only [List.size_toArray] <;> omega) ⟨.int ys.length,H,I.tok _,⟨s.toks+1,by rw [List.size_toArray,hlen]⟩,q⟩
theorem cq:fA X (.builtin "len") (λ xs H Q=>∃ z,xs=[.str z]/\z.length<=sizeLine/\Q (.int z.length) H):=by
 intro pins s σ H xs us Q I r h
 obtain ⟨z,rfl,hz,q⟩:=h
 obtain ⟨u,rfl,t,rfl⟩:=vals1 r
 have hn:=jt
 exact len_str (by omega) ⟨.int z.length,H,I.tok _,⟨_,rfl⟩,q⟩
theorem b8:fA X (.type "list") (λ xs H Q=>∃ p ys,xs=[.ref p]/\(SqL X.K H p ys∨SqT X.K H p ys)/\∀ l,H l=none->Q (.ref l) (upd H l (.lst ys))):=by
 intro pins s σ H xs us Q I r h
 obtain ⟨p,ys,rfl,hq,q⟩:=h
 obtain ⟨u,rfl,rx⟩:=vals1 r
 cases rx
 have fin:∀ (its:List Value),Vals ys its->ys.length<=sizeLine->∀ (h':Heap) (c':Nat),(∀ b o',s.heap.get? b=some o'->h'.get? b=some o') ->
   h'.get? s.heap.objs.size=some { cls:=.type "list",dict:=none,data:=.seq its.toArray c',slots:=#[] }->EP X pins σ Q (.ref s.heap.objs.size) { s with heap:=h' }:=λ its r' hz h' c' kp e=>
  ⟨.ref s.heap.objs.size,_,I.laid (t':=s.toks) kp (Nat.le_refl _) (show cm X.prog X.w _ h' _ (.lst ys) from ⟨hz,its,c',r',e⟩),rfl,q _ (I.hok.fresh (Nat.le_refl _))⟩
 rcases hq with hq | hq
 ·obtain ⟨its,r',pl,hz⟩:=I.list hq
  have hlen:=r'.length
  obtain ⟨o,ho,hc,n,hd⟩:=pl.isList
  exact call_list_seq p (.inl rfl) ho hc hd (λ h' c' kp e=>fin its r' hz h' c' kp e) (by simp only [List.size_toArray] <;> omega)
 ·obtain ⟨its,r',pl,hz⟩:=I.tuple hq
  have hlen:=r'.length
  obtain ⟨o,ho,hc,n,hd⟩:=pl
  exact call_list_seq p (.inr rfl) ho hc hd (λ h' c' kp e=>fin its r' hz h' c' kp e) (by simp only [List.size_toArray] <;> omega)
theorem oB:fA X (.type "tuple") (λ xs H Q=>∃ p ys,xs=[.ref p]/\((SqL X.K H p ys/\∀ l,H l=none->Q (.ref l) (upd H l (.tup ys)))∨(SqT X.K H p ys/\Q (.ref p) H))):=by
 intro pins s σ H xs us Q I r h
 obtain ⟨p,ys,rfl,h⟩:=h
 obtain ⟨u,rfl,rx⟩:=vals1 r
 cases rx
 rcases h with ⟨hq,q⟩ | ⟨hq,q⟩
 ·obtain ⟨its,r',pl,hz⟩:=I.list hq
  have hlen:=r'.length
  refine call_tuple_list pl.isList (λ h' kp=>?_) (by simp only [List.size_toArray] <;> omega)
  have I1:Inv X pins σ H { s with heap:=h' }:=I.kept (t':=s.toks) kp
  have I2:Inv X pins σ (upd H h'.objs.size (.tup ys)) { s with heap:=h'.push { cls:=.type "tuple",data:=.seq its.toArray } }:=
   I1.laid (t':=s.toks) (λ b o e=>Heap.get?_push_of_some _ e) (Nat.le_refl _) (show cm X.prog X.w _ _ _ (.tup ys) from ⟨hz,its,r',IsTup.new _ _⟩)
  exact ⟨.ref h'.objs.size,_,I2,rfl,q _ (I1.hok.fresh (Nat.le_refl _))⟩
 ·obtain ⟨its,r',pl,hz⟩:=I.tuple hq
  exact call_tuple_same pl ⟨.ref p,H,I,rfl,q⟩
def tyV (K:PySem.W.Frag) (T:String) (x:V) (H:Hp):Prop:=match x with
 | .str _=>T="str"
 | .int _=>T="int"
 | .ref p=>(T="list"/\∃ xs,SqL K H p xs)∨(T="tuple"/\∃ o,K.lookup p=some o/\o.cls=.type "tuple"/\o.dict=none) ∨
   (T="dict"/\((∃ kvs,H p=some (.dK kvs))∨∃ kvs,H p=some (.dT kvs)))∨(T="set"/\∃ S n,H p=some (.set S n))
 | _=>False
theorem xb {pins:List (Addr×Obj)} {σ:St} {H:Hp} {s:Shared} {T:String} {x:V} {v:Value} (I:Inv X pins σ H s) (r:RelV x v) (ty:tyV X.K T x H):
  s.TypeIs v T/\∀ a,v=.ref a->∃ ob,s.heap.get? a=some ob/\ob.dict=none:=by
 cases x with
 | str z=>
  obtain ⟨t,rfl⟩:=r
  cases (show T="str" from ty)
  exact ⟨typeIs_str s z t,λ _ e=>nomatch e⟩
 | int i=>
  obtain ⟨t,rfl⟩:=r
  cases (show T="int" from ty)
  exact ⟨typeIs_int s i t,λ _ e=>nomatch e⟩
 | ref p=>
  cases r
  rcases ty with ⟨rfl,xs,hq⟩ | ⟨rfl,o,hk,hc,hd⟩ | ⟨rfl,hk⟩ | ⟨rfl,S,n,hk⟩
  ·obtain ⟨its,_,pl,_⟩:=I.list hq
   refine ⟨pl.isList.typeIs,λ a e=>?_⟩
   cases e
   obtain ⟨o,n,e,c,hd,_⟩:=pl
   exact ⟨o,e,hd⟩
  ·refine ⟨⟨o,I.kIn p o hk,hc⟩,λ a e=>?_⟩
   cases e
   exact ⟨o,I.kIn _ o hk,hd⟩
  ·have z:∃ o,s.heap.get? p=some o/\o.ExactDict:=by
    rcases hk with ⟨kvs,hk⟩ | ⟨kvs,hk⟩
    ·obtain ⟨_,_,_,_,o,_,_,e,ex,_⟩:=I.hok p _ hk
     exact ⟨o,e,ex⟩
    ·obtain ⟨_,_,_,_,o,_,_,e,ex,_⟩:=I.hok p _ hk
     exact ⟨o,e,ex⟩
   obtain ⟨o,e,ex⟩:=z
   refine ⟨⟨o,e,ex.1⟩,λ a e2=>?_⟩
   cases e2
   exact ⟨o,e,ex.2.1⟩
  ·obtain ⟨o,_,_,_,e,ex,_⟩:=I.hok p _ hk
   refine ⟨⟨o,e,ex.1⟩,λ a e2=>?_⟩
   cases e2
   exact ⟨o,e,ex.2.1⟩
 | _=>exact False.elim ty
def GQ (K:PySem.W.Frag) (T:String) (r:V->List V->Hp->VK->Prop) (to:TE):TE:=λ σ H Q=>to σ H λ x H1=>tyV K T x H1/\r x [] H1 Q
def tBM (K:PySem.W.Frag) (T:String) (r:V->List V->Hp->VK->Prop) (to:TE) (t:TA):TE:=λ σ H Q=>to σ H λ x H1=>tyV K T x H1/\t σ H1 λ xs H2=>r x xs H2 Q
variable {o e:Expr} {es:List Expr} {to:TE} {t:TA} {name:Str} {apos cpos:Pos} {T id:String} {r:V->List V->Hp->VK->Prop}
theorem Dx (pa:PlainAttrs T) (slot:Slot T name id) (hty:typeOf (.builtin id)=pure (.type "method_descriptor")) (hm:MtR X id r) (ho:PE X o to)
  (hbase:attributeBase o name X.env (eval o X.env)=eval o X.env:=by rfl) (hline:(apos.endLine==cpos.line)=true:=by rfl):PE X (.Call (.Attribute o name apos) [] [] cpos) (GQ X.K T r to):=by
 intro pins s σ H Q I h
 refine wpAny_Call_method0_late hbase hline (thn (ho pins s σ H _ I h) λ v s1 ⟨x,H1,I1,r1,ty,q1⟩=>?_)
 obtain ⟨h1,h2⟩:=xb I1 r1 ty
 exact ⟨T,id,pa,slot,hty,h1,h2,Calls.callWith_builtin rfl (PySem.evalArgs_none (hm pins s1 σ H1 x [] v [] Q I1 r1 .nil q1))⟩
theorem b6 (pa:PlainAttrs T) (slot:Slot T name id) (hty:typeOf (.builtin id)=pure (.type "method_descriptor")) (hm:MtR X id r) (ho:PE X o to) (ha:PA X (e::es) t)
  (hbase:attributeBase o name X.env (eval o X.env)=eval o X.env:=by rfl)
  (hfew:((backTo cpos (starEach (e::es) X.env)).all (λ x=>!x.1)&&(backToKw cpos (keywordEach [] X.env)).all (λ x=>x.1.isSome)
   && decide ((e::es).length+([]:List Keyword).length+(if ([]:List Keyword).isEmpty then 0 else 1)<30))=true:=by rfl)
  (hline:(apos.endLine==cpos.line)=true:=by rfl) (hs:starEach (e::es) X.env=(false,eval e X.env)::starEach es X.env:=by rfl) (hplain:(backTo cpos (starEach es X.env)).any (·.1)=false:=by rfl):
  PE X (.Call (.Attribute o name apos) (e::es) [] cpos) (tBM X.K T r to t):=by
 intro pins s σ H Q I h
 refine wpAny_Call_method_late hbase hfew hline rfl (thn (ho pins s σ H _ I h) λ v s1 ⟨x,H1,I1,r1,ty,q1⟩=>?_)
 obtain ⟨h1,h2⟩:=xb I1 r1 ty
 refine ⟨T,id,pa,slot,hty,h1,h2,?_⟩
 have hA:=ha cpos pins s1 σ H1 _ I1 q1
 rw [hs] at hA ⊢
 refine Calls.callWith_builtin (by show (false||(backTo cpos (starEach es X.env)).any (·.1))=false;rw [hplain] <;> rfl) (Calls.evalArgs_plain ?_)
 exact thn hA λ us s2 ⟨vs,H2,I2,r2,q2⟩=>hm pins s2 σ H2 x vs v us Q I2 r1 r2 q2
end
def MtM (X:Cx) (id:String) (r:V->List V->Hp->VK->Prop):Prop:=
 ∀ (pins:List (Addr×Obj)) (s:Shared) (σ:St) (H:Hp) (x:V) (xs:List V) (v:Value) (us:List Value) (Q:VK),Inv X pins σ H s->RelV x v->Vals xs us->r x xs H Q ->
  wpAny (model X.prog X.w) X.A (call (.builtin id) (v::us)) (EP X pins σ Q) X.xe s
theorem Vals.one:∀ {x:V} {us:List Value},Vals [x] us->∃ u,us=[u]/\RelV x u
 | _,_,.cons r .nil=>⟨_,rfl,r⟩
theorem Vals.zero:∀ {us:List Value},Vals [] us->us=[]
 | _,.nil=>rfl
theorem Vals.dropLast {xs:List V} {us:List Value} (h:Vals xs us):Vals xs.dropLast us.dropLast:=by
 induction h with
 | nil=>exact .nil
 | cons r t ih=>
  cases t with
  | nil=>exact .nil
  | cons q t'=>exact .cons r ih
theorem Vals.eraseIdx:∀ {xs:List V} {us:List Value} (i:Nat),Vals xs us->Vals (xs.eraseIdx i) (us.eraseIdx i)
 | _,_,_,.nil=>.nil
 | _,_,0,.cons _ t=>t
 | _,_,i+1,.cons r t=>.cons r (Vals.eraseIdx i t)
theorem Vals.rep {xs:List V} {us:List Value} (h:Vals xs us):∀ k:Nat,Vals (List.replicate k xs).flatten (List.replicate k us).flatten
 | 0=>.nil
 | k+1=>by
  rw [List.replicate_succ,List.replicate_succ,List.flatten_cons,List.flatten_cons]
  exact Vals.append h (Vals.rep h k)
theorem ub {α:Type} (l:List α):l.eraseIdx (l.length - 1)=l.dropLast:=by
 induction l with
 | nil=>rfl
 | cons a r ih=>
  cases r with
  | nil=>rfl
  | cons b r=>
   have e:(a::b::r).length - 1=((b::r).length - 1)+1:=by
    have h1:(a::b::r).length=r.length+2:=rfl
    have h2:(b::r).length=r.length+1:=rfl
    omega
   rw [e,List.eraseIdx_cons_succ,ih]
   all_goals rfl
theorem oV {α:Type}:∀ (l:List α) (i:Nat),(l.eraseIdx i).length<=l.length
 | [],_=>Nat.le_refl _
 | _::_,0=>Nat.le_succ _
 | _::r,i+1=>Nat.succ_le_succ (oV r i)
theorem foldl_rep (its:List Value):∀ (k:Nat) (acc:List Value),
  List.foldl (λ x1 x2=>x1++x2) acc.toArray (List.replicate k its.toArray)=(acc++(List.replicate k its).flatten).toArray
 | 0,acc=>by simp
 | k+1,acc=>by
  have e:acc.toArray++its.toArray=(acc++its).toArray:=by simp
  have e2:(acc++its)++(List.replicate k its).flatten=acc++(List.replicate (k+1) its).flatten:=by
   rw [List.replicate_succ,List.flatten_cons,List.append_assoc]
  rw [<- e2,<- foldl_rep its k (acc++its),<- e,List.replicate_succ,List.foldl_cons]
section
variable {X:Cx} {pins:List (Addr×Obj)} {σ:St} {H:Hp} {s:Shared} {l b:Addr} {xs ys zs:List V}
theorem Inv.zT {its its':List Value} {n:Nat} {f:Array Value->Array Value} {t':Nat} (I:Inv X pins σ H s) (hH:H l=some (.lst xs))
  (e:s.heap.get? l=some { cls:=.type "list",data:=.seq its.toArray n }) (hf:f its.toArray=its'.toArray) (hv:Vals ys its') (hz:ys.length<=sizeLine):
  Inv X pins σ (upd H l (.lst ys)) { s with heap:=s.heap.update l (Obj.mapSeq f),toks:=t' }:=by
 have q:=PySem.IsL.update e f
 rw [hf] at q
 refine I.write (x:=l) (e:=l) (by rw [hH];exact trivial) (.inl rfl) (λ b' u hb hu=>(Heap.get?_update_other s.heap (Obj.mapSeq f) (Ne.symm hb)).trans hu) ⟨_,q⟩ ?_
 exact ⟨hz,its',_,hv,q⟩
theorem Inv.CJ {its:List Value} {t':Nat} (I:Inv X pins σ H s) (hv:Vals ys its) (hz:ys.length<=sizeLine):
  Inv X pins σ (upd H s.heap.objs.size (.lst ys)) { s with heap:=s.heap.push { cls:=.type "list",data:=.seq its.toArray },toks:=t' }:=
 I.laid (λ _ _ q=>Heap.get?_push_of_some _ q) (Nat.le_refl _) ⟨hz,its,0,hv,Heap.get?_push_size _ rfl⟩
theorem Inv.fresh (I:Inv X pins σ H s):H s.heap.objs.size=none:=I.hok.fresh (Nat.le_refl _)
theorem Inv.p6 (I:Inv X pins σ H s) (hH:H l=some (.lst xs)):xs.length<=sizeLine/\∃ (its:List Value) (n:Nat),Vals xs its/\xs.length=its.length/\s.heap.get? l=some { cls:=.type "list",data:=.seq its.toArray n }:=by
 obtain ⟨z,its,n,r,e⟩:=I.hok l _ hH
 exact ⟨z,its,n,r,r.length,e⟩
theorem qX {n:Nat} (h:n<=sizeLine):Builtin.List.listTooLong n=false:=by
 unfold Builtin.List.listTooLong
 exact decide_eq_false (by omega)
end
section
variable {X:Cx}
def zM:V->List V->Hp->VK->Prop:=λ x vs H Q=>∃ l xs y,x=.ref l/\vs=[y]/\H l=some (.lst xs)/\xs.length<sizeLine/\Q .non (upd H l (.lst (xs++[y])))
theorem bE:MtM X "list.append" zM:=by
 intro pins s σ H x vs v us Q I rx rv h
 obtain ⟨l,xs,y,rfl,rfl,hH,hz,q⟩:=h
 cases rx
 obtain ⟨u,rfl,ru⟩:=rv.one
 obtain ⟨z,its,n,r,hl,e⟩:=I.p6 hH
 refine call_meets F.slot_list_append ⟨_,e,rfl⟩ F.entry_list_append (F.args_list_append_2 _ _) (PySem.list_append l its.toArray n u (by rw [List.size_toArray];omega)) ⟨e,?_⟩
 refine ⟨.non,_,I.zT (its':=its++[u]) hH e (by simp) (r.append (.cons ru .nil)) ?_,rfl,q⟩
 rw [List.length_append,List.length_singleton]
 omega
def AS:V->List V->Hp->VK->Prop:=λ x vs H Q=>∃ l b xs zs,x=.ref l/\vs=[.ref b]/\H l=some (.lst xs)/\H b=some (.lst zs)/\xs.length+zs.length<=sizeLine/\Q .non (upd H l (.lst (xs++zs)))
theorem fO:MtM X "list.extend" AS:=by
 intro pins s σ H x vs v us Q I rx rv h
 obtain ⟨l,b,xs,zs,rfl,rfl,hH,hB,hz,q⟩:=h
 cases rx
 obtain ⟨u,rfl,ru⟩:=rv.one
 cases ru
 obtain ⟨z,its,n,r,hl,e⟩:=I.p6 hH
 obtain ⟨z2,its2,n2,r2,hl2,e2⟩:=I.p6 hB
 have hsz:its.toArray.size+its2.toArray.size<=sizeLine:=by rw [List.size_toArray,List.size_toArray];omega
 have hlong:¬ (!its.toArray.isEmpty&&Builtin.List.listTooLong (its.toArray.size+its2.toArray.size))=true:=by
  rw [qX hsz,Bool.and_false]
  exact Bool.false_ne_true
 refine call_meets F.slot_list_extend ⟨_,e,rfl⟩ F.entry_list_extend (F.args_list_extend_2 _ _)
  (AutoSeq1.list_extend_list_list_0 l its.toArray n b its2.toArray n2 hlong (by rw [List.size_toArray];omega) (by omega)) ⟨e,e2,?_⟩
 refine ⟨.non,_,I.zT (its':=its++its2) hH e (by simp) (r.append r2) ?_,rfl,q⟩
 rw [List.length_append]
 omega
def G4:V->List V->Hp->VK->Prop:=λ x vs H Q=>∃ l xs y,x=.ref l/\vs=[]/\H l=some (.lst xs)/\xs[xs.length - 1]?=some y/\Q y (upd H l (.lst xs.dropLast))
theorem Dv:MtM X "list.pop" G4:=by
 intro pins s σ H x vs v us Q I rx rv h
 obtain ⟨l,xs,y,rfl,rfl,hH,hy,q⟩:=h
 cases rx
 have hus:=rv.zero
 subst hus
 obtain ⟨z,its,n,r,hl,e⟩:=I.p6 hH
 obtain ⟨u,hu,ru⟩:=r.get hy
 have hy':its.toArray[its.toArray.size - 1]?=some u:=by
  show its.toArray[its.length - 1]?=some u
  rw [<- Array.getElem?_toList,<- hl]
  exact hu
 refine call_meets F.slot_list_pop ⟨_,e,rfl⟩ F.entry_list_pop (F.args_list_pop_1 _) (MeetsSeq.list_pop_last l its.toArray n u hy' (by rw [List.size_toArray];omega)) ⟨e,?_⟩
 refine ⟨y,_,I.zT (its':=its.dropLast) hH e ?_ r.dropLast ?_,ru,q⟩
 ·show its.toArray.eraseIdxIfInBounds (its.toArray.size - 1)=its.dropLast.toArray
  rw [List.size_toArray,List.eraseIdxIfInBounds_toArray,ub]
 ·rw [List.length_dropLast]
  omega
def Dj:V->List V->Hp->VK->Prop:=λ x vs H Q=>∃ l xs i k y,x=.ref l/\vs=[.int i]/\H l=some (.lst xs)/\-(2 ^ 63)<=i/\i<2 ^ 63/\seqIndex? i xs.length=some k/\xs[k]?=some y/\Q y (upd H l (.lst (xs.eraseIdx k)))
theorem xR:MtM X "list.pop" Dj:=by
 intro pins s σ H x vs v us Q I rx rv h
 obtain ⟨l,xs,i,k,y,rfl,rfl,hH,h1,h2,hk,hy,q⟩:=h
 cases rx
 obtain ⟨u,rfl,ru⟩:=rv.one
 obtain ⟨t,rfl⟩:=ru
 obtain ⟨z,its,n,r,hl,e⟩:=I.p6 hH
 obtain ⟨w,hw,rw'⟩:=r.get hy
 refine call_meets F.slot_list_pop ⟨_,e,rfl⟩ F.entry_list_pop (F.args_list_pop_2 _ _)
  (MeetsSeq.list_pop_at l its.toArray n i t k w (fitsIndex_both h1 h2) (by rw [List.size_toArray,<- hl];exact hk) (by rw [<- Array.getElem?_toList];exact hw) (by rw [List.size_toArray];omega)) ⟨e,?_⟩
 refine ⟨y,_,I.zT (its':=its.eraseIdx k) hH e ?_ (r.eraseIdx k) ?_,rw',q⟩
 ·show its.toArray.eraseIdxIfInBounds k=(its.eraseIdx k).toArray
  rw [List.eraseIdxIfInBounds_toArray]
 ·have:=oV xs k
  omega
def BW:R2:=λ x y H Q=>∃ l b xs zs,x=.ref l/\y=.ref b/\H l=some (.lst xs)/\H b=some (.lst zs)/\xs.length+zs.length<=sizeLine/\∀ p,H p=none->Q (.ref p) (upd H p (.lst (xs++zs)))
theorem gM:OpR X (binaryOp .Add) BW:=by
 intro pins s σ H x y v u Q I rx ry h
 obtain ⟨l,b,xs,zs,rfl,rfl,hH,hB,hz,q⟩:=h
 cases rx
 cases ry
 obtain ⟨z,its,n,r,hl,e⟩:=I.p6 hH
 obtain ⟨z2,its2,n2,r2,hl2,e2⟩:=I.p6 hB
 refine PySem.P.add_list e e2 ?_ (by rw [List.size_toArray,List.size_toArray];omega)
 have ea:its.toArray++its2.toArray=(its++its2).toArray:=by simp
 rw [ea]
 exact ⟨.ref _,_,I.CJ (t':=s.toks) (r.append r2) (by rw [List.length_append];omega),rfl,q _ I.fresh⟩
def GV:R2:=λ x y H Q=>∃ l k xs,x=.ref l/\y=.int k/\H l=some (.lst xs)/\-(2 ^ 63)<=k/\k<2 ^ 63/\xs.length * k.toNat<=sizeLine /\
 ∀ p,H p=none->Q (.ref p) (upd H p (.lst (List.replicate k.toNat xs).flatten))
theorem len_rep {α:Type} (xs:List α) (k:Nat):(List.replicate k xs).flatten.length=k * xs.length:=by
 induction k with
 | zero=>simp
 | succ k ih=>rw [List.replicate_succ,List.flatten_cons,List.length_append,ih,Nat.succ_mul,Nat.add_comm]
theorem DC:OpR X (binaryOp .Mult) GV:=by
 intro pins s σ H x y v u Q I rx ry h
 obtain ⟨l,k,xs,rfl,rfl,hH,h1,h2,hz,q⟩:=h
 cases rx
 obtain ⟨t,rfl⟩:=ry
 obtain ⟨z,its,n,r,hl,e⟩:=I.p6 hH
 have hlen:its.toArray.size * k.toNat<=sizeLine:=by rw [List.size_toArray,<- hl];exact hz
 have hcap:¬ its.toArray.size * k.toNat > (2 ^ 63 - 1) / 8:=by
  have:(sizeLine:Nat)<=(2 ^ 63 - 1) / 8:=by decide
  omega
 have hfit:¬ (!Builtin.List.listFitsIndex k)=true:=by
  rw [fitsIndex_both h1 h2]
  exact Bool.false_ne_true
 have hlong:¬ Builtin.List.listTooLong (its.toArray.size * k.toNat)=true:=by
  rw [qX hlen]
  exact Bool.false_ne_true
 have hnew:List.foldl (λ x1 x2=>x1++x2) #[] (List.replicate (if its.toArray.isEmpty=true then 0 else k.toNat) its.toArray)=(List.replicate k.toNat its).flatten.toArray:=by
  have f0:∀ m:Nat,List.foldl (λ x1 x2=>x1++x2) #[] (List.replicate m its.toArray)=(List.replicate m its).flatten.toArray:=λ m=>by
   have:=foldl_rep its m []
   rw [List.nil_append] at this
   exact this
  rw [f0]
  cases its with
  | nil=>simp
  | cons a r'=>rw [if_neg (by simp)]
 refine wpAny_binaryOp_repeat_ref (T:="list") (U:="int") (by decide) ⟨_,e,rfl⟩ (λ s'=>typeIs_int s' k t) noFill_list_mul F.fills_int_mul F.slot_int_rmul repeat_list F.slot_int_index.lookup
  (call_meets F.slot_int_rmul (typeIs_int s k t) F.entry_int_rmul (F.args_int_rmul_2 _ _) (int___rmul___int_list k t l its.toArray n)
   ⟨e,rfl,⟨_,e,rfl⟩,call_meets F.slot_list_mul ⟨_,e,rfl⟩ F.entry_list_mul (F.args_list_mul_2 _ _) (AutoListH.list___mul___list_int_3 l its.toArray n k t hfit hcap hlong) ⟨e,?_⟩⟩)
 rw [hnew]
 exact ⟨.ref _,_,I.CJ (t':=s.toks) (r.rep k.toNat) (by rw [len_rep,Nat.mul_comm];exact hz),rfl,q _ I.fresh⟩
end
section
variable {prog:Program} {w:World} {A:Around} {E:Value->Shared->Prop} {s:Shared}
end
section
variable {X:Cx}
end
end L2
namespace Att
open PySem PySem.W PySem.Calls PyProof.Rows
theorem mh {P:Params} {h:Heap}:∀ (ns:List Int) (vs:List Value),WellAll P h vs (ns.map WData.int)->IntsAre vs ns:=by
 intro ns
 induction ns with
 | nil=>
  intro vs w
  rw [List.map_nil] at w
  cases w
  exact .nil
 | cons n ns ih=>
  intro vs w
  rw [List.map_cons] at w
  cases w with
  | cons a b=>
   cases a
   exact .cons _ _ (ih _ b)
theorem vP {l:OpenLaw} {n:Nat} (hn:l.most=some n) {P:Params} {h:Heap} {args:List WData} {vals:List Value}
  (hpre:l.row.toRowW.claim.pre args=true) (hwl:WellAll P h vals args):
  ∃ a vs ns,vals=[Value.ref a]/\args=[WData.list (ns.map WData.int)]/\h.get? a=some { cls:=.type "list",data:=.seq vs.toArray }/\IntsAre vs ns/\ns.length<=n:=by
 have hsh:WShape.hasAll [] args [.list .int]=true:=(pre_splitW hpre).1
 have hc:l.pre.holds [] { args:=args }=true:=(pre_splitW hpre).2
 obtain ⟨d,r,rfl,h1,h2⟩:=hasAllW_cons hsh
 obtain rfl:=hasAllW_nil h2
 obtain ⟨xs,rfl,h3⟩:=hasW_list h1
 obtain ⟨ns,rfl⟩:=items_int h3
 have hlen:ns.length<=n:=by
  unfold OpenLaw.pre at hc
  have h4:(WTm.not (.lt (.lit (.int (n:Int))) (.len (.arg 0)))).holds [] { args:=[.list (ns.map .int)] }=true:=by
   have h4:=(holds_andW hc).1
   rw [hn] at h4
   exact h4
  have h5:=condW_of h4 (w_not (w_lt w_lit (w_len_list (w_arg rfl))))
  rw [List.length_map] at h5
  refine Nat.le_of_not_lt λ q=>?_
  have q':(n:Int)<((ns.length:Nat):Int):=by omega
  first
   | (rw [decide_eq_true q'] at h5;exact absurd h5 (by decide))
   | (simp at h5;omega)
 cases hwl with
 | cons w1 w2=>
  cases w2
  cases w1 with
  | list ho hall=>exact ⟨_,_,ns,rfl,rfl,ho,mh ns _ hall,hlen⟩
theorem vV (l:OpenLaw) (args:List WData):l.row.toRowW.claim.post args (.bool true) args=true:=
 postW_of (r:=l.row.toRowW) (X:=(true==true))
  (show WShape.has [] (.bool true) .bool=true by first | rfl | decide | simp [WShape.has,WShape.arms,WShape.armsAll])
  (show (WTm.eq .res (.lit (.bool true))).value [] { args:=args,res:=some (.bool true),after:=args }=some (.bool (true==true)) from w_eq_bool (w_res rfl) w_lit) rfl
theorem sj {l:OpenLaw} {n:Nat} {q:Program} {loose:List Str} {XP:(Str->Option Value)->Heap->Prop} {YP:World->Heap->Prop} {d:DefRec}
  (hn:l.most=some n) (hdf:d.params.defaults=[])
  (call:∀ (w:World) (s₀ s₁:Shared) (mg mb:Str->Option Value) (fa:Addr) (o:Obj) (pm cd doc:Value) (a:Addr) (vs:List Value) (ns:List Int),
   Ground q loose [] XP w s₀ mg mb s₁.heap->YP w s₁.heap ->
   s₁.heap.get? fa=some o->o.data=.func (docDef d.name d.params d.body d.scope pm cd doc)->s₁.heap.CodeRec cd d.name->mg d.name=some (.ref fa) ->
   s₁.heap.get? a=some { cls:=.type "list",data:=.seq vs.toArray }->IntsAre vs ns->ns.length<=n->s₁.gens=#[] ->
   codeAny (model l.prog w) callerA (.call (.ref fa) ⟨[.ref a],[]⟩) (λ r s'=>r=.ok (.ret (.bool true))/\OldK s₁.heap s'.heap/\s'.os=s₁.os/\AllBare s'.gens) s₁):
  WalkO q loose XP YP l.row.toRowW d [] (λ f vs=>PySem.call f vs):=by
 intro w s₀ s₁ mg mb G Y fa o pm cd doc dV kV ho hd hcd hD hmg hg args vals as hpre hlay hrd hwl hlo
 obtain rfl:dV=.none:=Dflts.none hD hdf
 obtain rfl:kV=.none:=Dflts.noKw hD
 obtain ⟨a,vs,ns,rfl,rfl,hobj,hints,hlen⟩:=vP hn hpre hwl
 refine enter_call (codeAny_mono (call w s₀ s₁ mg mb fa o pm cd doc a vs ns G Y ho (fd_plain hd) hcd hmg hobj hints hlen hg) λ r s' hq=>?_)
 obtain ⟨rfl,h2,h3,h4⟩:=hq
 exact ⟨.inl ⟨.bool true,.bool true,[],rfl,λ _=>rfl,.bool true,vV l _,λ _=>⟨List.Pairwise.nil,λ _ hm=>(nomatch hm)⟩⟩,h2,h3,h4⟩
section
variable {prog:Program} {w:World} {A:Around} {E:Value->Shared->Prop} {s:Shared} {K:Frag}
end
end Att
namespace L2
open PySem PySem.Spec PyProof.Rows
theorem pk:∀ {vs:List Value} {ns:List Int},IntsAre vs ns->Vals (ns.map V.int) vs
 | _,_,.nil=>.nil
 | _,_,.cons n t h=>.cons ⟨t,rfl⟩ (pk h)
def inClass (s:Stmt) (j:Nat):Stmt:=match s with
 | .ClassDef _ _ _ body _ _ _ _ _ _ _=>body.getD j (.Pass ⟨0,0,0,0⟩)
 | _=>.Pass ⟨0,0,0,0⟩
def bJ (s:Stmt):Arguments:=match s with
 | .FunctionDef _ a _ _ _ _ _ _ _ _=>a
 | _=>{ posonlyargs:=[],args:=[],vararg:=none,kwonlyargs:=[],kw_defaults:=[],kwarg:=none,defaults:=[] }
def bG (s:Stmt):List Stmt:=match s with
 | .FunctionDef _ _ b _ _ _ _ _ _ _=>b
 | _=>[]
def aw (s:Stmt):Scope:=match s with
 | .FunctionDef _ _ _ _ _ _ sc _ _ _=>sc
 | _=>{ kind:=.function,names:=[],isGenerator:=false,isCoroutine:=false }
abbrev CX0:CXT:=λ _ _ _ _ _ _=>False
abbrev E0:XK:=λ _ _ _=>False
theorem aW {X:Cx}:Passes CX0 X E0:=λ _ _ _ _ _ _ _ h=>h.elim
section
variable {P:Program} {w:World} {K:PySem.W.Frag} {mg:Str->Option Value} {base:Heap}
end
theorem vK {A:Around} {k:Nat} (hr:bX k A):A.units+1<cLine:=Nat.lt_of_le_of_lt (Nat.add_le_add_left (by decide:1<=64) _) hr.units
section
variable {X:Cx}
theorem pv (i:Nat) {x:Str} {pos:Pos} (hN:X.N[i]?=some x:=by rfl) (hv:Vis X.env.scope x:=by first | exact Or.inl rfl | exact Or.inr (Or.inl rfl) | exact Or.inr (Or.inr rfl)) (hd:(x==("__debug__":Str))=false:=by decide)
  (hcd:(x==("__classdict__":Str))=false:=by decide):PE X (.Name x pos) (zC i):=yU hN hv hd hcd
end
theorem pP {A B:Prop} (h:B):if false=true then A else B:=by
 rw [if_neg Bool.false_ne_true]
 exact h
theorem tV {A B:Prop} (h:A):if true=true then A else B:=by
 rw [if_pos rfl]
 exact h
def ax (H H':Hp):Prop:=∀ b o,H b=some o->H' b=some o
theorem ax.refl (H:Hp):ax H H:=λ _ _ h=>h
theorem ax.trans {H H1 H2:Hp} (a:ax H H1) (b:ax H1 H2):ax H H2:=λ c o h=>b c o (a c o h)
theorem ax.seq {K:PySem.W.Frag} {H H':Hp} {a:Addr} {xs:List V} (e:ax H H') (h:SqL K H a xs):SqL K H' a xs:=by
 rcases h with (h | ⟨o,h⟩) | h
 ·exact .inl (.inl (e _ _ h))
 ·exact .inl (.inr ⟨o,e _ _ h⟩)
 ·exact .inr h
end L2
set_option maxHeartbeats 4000000
namespace L2
open PySem PySem.Spec PyProof.Rows
theorem BA {M:Model} {Γ:PySem.Ctx} {p:Pos} {t:Sem PySem.Fin} {fs:List PySem.Frame} {s s':Shared} {e:End} (h:Runs M Γ p t fs s e s'):
  s.gens.size<=s'.gens.size:=by
 induction h <;> (try simp only [Shared.setGen,Array.size_setIfInBounds,Array.size_push] at *) <;> omega
theorem Dw {M:Model} {Γ:PySem.Ctx} {p:Pos} {g:Nat} {r:Resume} {s s':Shared} {res:GenResult} (h:Wakes M Γ p g r s res s'):
  s.gens.size<=s'.gens.size:=by
 have sz:∀ (u:Shared) (x:GenState),(u.setGen g x).gens.size=u.gens.size:=λ u x=>by simp [Shared.setGen]
 have go:∀ {Γ':PySem.Ctx} {p':Pos} {t:Sem PySem.Fin} {fs:List PySem.Frame} {e₁:End} {s₁:Shared},
   Runs M Γ' p' t fs (s.setGen g .running) e₁ s₁->s.gens.size<=(s₁.setGen g e₁.genState).gens.size:=λ hr=>by
  have q:=BA hr
  rw [sz] at q ⊢
  exact q
 unfold Wakes at h
 split at h
 ·exact h.elim
 ·split at h
  ·obtain ⟨_,_,hr,_,_,rfl⟩:=h
   exact go hr
  ·rw [h.2]
   exact Nat.le_refl _
  ·rw [h.2,sz]
   exact Nat.le_refl _
 ·obtain ⟨_,_,hr,_,_,rfl⟩:=h
  exact go hr
 ·rw [h.2]
  exact Nat.le_refl _
 ·rw [h.2]
  exact Nat.le_refl _
theorem gWp {α:Type} (M:Model) (Γ:PySem.Ctx) (n:Nat) (t:Sem α):
  ∀ (Q:α->Pos->Shared->Prop) (E:Value->Pos->Shared->Prop) (p:Pos) (s:Shared),n<=s.gens.size->Sem.wp M Γ t Q E p s ->
   Sem.wp M Γ t (λ a p' s'=>n<=s'.gens.size/\Q a p' s') (λ e p' s'=>n<=s'.gens.size/\E e p' s') p s:=by
 induction t with
 | pure a=>exact λ Q E p s l h=>⟨l,h⟩
 | raise e=>exact λ Q E p s l h=>⟨l,h⟩
 | unsupported _=>exact λ Q E p s _ h=>h
 | finish _=>exact λ Q E p s _ h=>h
 | rule _ k ih=>exact λ Q E p s l h=>ih () Q E p s l h
 | «at» p' k ih=>exact λ Q E p s l h=>ih () Q E p' s l h
 | load a _ k ih=>exact λ Q E p s l ⟨o,ho,h⟩=>⟨o,ho,ih o Q E p s l h⟩
 | update a _ f k ih=>exact λ Q E p s l h=>⟨h.1,ih () Q E p _ l h.2⟩
 | loadIfAlive a k ih=>exact λ Q E p s l h=>ih _ Q E p s l h
 | point _ k ih=>exact λ Q E p s l h=>ih () Q E p s l h
 | register _ _=>exact λ Q E p s _ h=>h
 | alloc o k ih=>exact λ Q E p s l h=>ih _ Q E p _ l h
 | fresh k ih=>exact λ Q E p s l h=>ih _ Q E p _ l h
 | ask k ih=>exact λ Q E p s l h=>ih _ Q E p s l h
 | choose src m k ih=>exact λ Q E p s l h=>⟨h.1,ih _ Q E p _ l h.2⟩
 | os q _ k ih=>exact λ Q E p s l h=>ih _ Q E p _ l h
 | call c hd _ _ k ih=>exact λ Q E p s l ⟨r,s',hr,h⟩=>⟨r,s',hr,ih r Q E p s' (Nat.le_trans l (BA hr)) h⟩
 | handled own k ih=>exact λ Q E p s l h=>ih _ Q E p s l h
 | genState g k ih=>exact λ Q E p s l ⟨st,hs,h⟩=>⟨st,hs,ih _ Q E p s l h⟩
 | newGen c k ih=>exact λ Q E p s l h=>ih _ Q E p _ (Nat.le_trans l (by simp)) h
 | resume g r _ k ih=>exact λ Q E p s l ⟨res,s',hw,h⟩=>⟨res,s',hw,ih res Q E p s' (Nat.le_trans l (Dw hw)) h⟩
 | yield _ _ _ _=>exact λ Q E p s _ h=>h
 | stack k ih=>exact λ Q E p s l h=>ih _ Q E p s l h
 | fork _ _=>exact λ Q E p s _ h=>h
 | thread k ih=>exact λ Q E p s l h=>ih _ Q E p s l h
 | await _ _ _ _ _=>exact λ Q E p s _ h=>h
theorem zw {α:Type} {M:Model} {A:Around} {t:Sem α} {Q Q':α->Shared->Prop} {E E':Value->Shared->Prop} {s:Shared} (h:wpAny M A t Q E s)
  (hQ:∀ a s',s.gens.size<=s'.gens.size->Q a s'->Q' a s') (hE:∀ e s',s.gens.size<=s'.gens.size->E e s'->E' e s'):wpAny M A t Q' E' s:=by
 have h2:wpAny M A t (λ a s'=>s.gens.size<=s'.gens.size/\Q a s') (λ e s'=>s.gens.size<=s'.gens.size/\E e s') s:=
  λ Γ p hΓ=>gWp M Γ s.gens.size t _ _ p s (Nat.le_refl _) (h Γ p hΓ)
 exact wpAny_mono h2 (λ a s' z=>hQ a s' z.1 z.2) λ e s' z=>hE e s' z.1 z.2
def tabφ (P:Addr) (h:Heap):Prop:=∃ ps,h.get? P=some (PySem.W.tabObj ps)/\TriplesOk ps.toList
abbrev Tb (P:Addr):HO:=.ext (tabφ P)
theorem tabφ_stay {P:Addr} (h1 h2:Heap) (x:tabφ P h1) (k:∀ o,h1.get? P=some o->h2.get? P=some o):tabφ P h2:=
 let ⟨ps,e,t⟩:=x;⟨ps,k _ e,t⟩
def b5 (K:PySem.W.Frag) (cdv:Value) (P:Addr):Prop:=∃ c,cdv=.ref c/\∀ h,K.In h->PySem.W.CodeHd h c P
section
variable {X:Cx} {pins:List (Addr×Obj)} {σ:St} {H:Hp} {s:Shared}
theorem Inv.A1 {s':Shared} (I:Inv X pins σ H s) (hh:s'.heap=s.heap) (ho:s'.os=s.os) (hg:AllBare s'.gens):Inv X pins σ H s':=by
 obtain ⟨h',g',d',t',o'⟩:=s'
 obtain rfl:h'=s.heap:=hh
 obtain rfl:o'=s.os:=ho
 exact ⟨I.ok,I.os,hg,I.base,I.loc,I.cell,I.free,I.fZ,I.pin,I.hok,I.len⟩
theorem xm {M:Model} {A:Around} {E:Value->Shared->Prop} {P:Addr} {pos:Pos} {q:Str} {scope:Scope} {Q:Value->Shared->Prop} (I:Inv X pins σ H s) (hc:b5 X.K X.env.code P) (hT:H P=some (Tb P))
  (hQ:∀ code h' tk,Inv X pins σ H { s with heap:=h',toks:=tk }->(∀ b o,b≠P->s.heap.get? b=some o->h'.get? b=some o)->Q code { s with heap:=h',toks:=tk }):
  wpAny M A (genexprCode X.env pos q scope) Q E s:=by
 obtain ⟨c,hcd,hd⟩:=hc
 obtain ⟨⟨ps,hP,tr⟩,_,_⟩:=I.hok P _ hT
 have hd:=hd _ I.kIn
 have hok:=hd.code hP tr
 have htab:=hd.tab hP
 cases hf:codeAmong pos ps.toList with
 | some cv=>exact wpAny_genexprCode_hit hcd hok hf (hQ cv s.heap s.toks (I.tok _) λ _ _ _ e=>e)
 | none=>
  refine wpAny_genexprCodeX hcd hok htab hf λ c' h' tk hx _ _ hok' _ htab' _=>hQ _ h' tk (I.un ⟨?_,?_,?_,?_,?_,?_,?_⟩ ?_) λ b o hb e=>hx b o hb e
  ·exact λ b o e n _ _=>hx b o (λ z=>by rw [z,hT] at n;cases n) e
  ·exact λ b o e n _ _=>⟨o.slots,hx b o (λ z=>by rw [z,hT] at n;cases n) e⟩
  ·exact λ b o _ n _=>n
  ·intro b o e _
   by_cases z:b=P
   ·exact ⟨_,z ▸ htab'.2⟩
   ·exact ⟨o,hx b o z e⟩
  ·exact λ _ _ e=>e
  ·exact λ _ _ _ e=>e
  ·exact λ b ps e=>⟨#[],by rw [e];simp⟩
  ·intro b u e
   by_cases z:b=P
   ·subst z
    rw [hT] at e
    cases e
    have tr':TriplesOk (ps++#[rawInt pos.line,rawInt pos.col,Value.ref c']).toList:=by
     obtain ⟨_,_,_,_,_,_,_,_,_,op,_,_,_,_,_,_,_,e1,e2,e3,_⟩:=hok'
     exact e3
    exact ⟨⟨_,htab'.2,tr'⟩,⟨_,htab'.2⟩,tabφ_stay⟩
   ·refine (I.hok b u e).iL (λ a o ha e'=>hx a o ?_ e') (λ _ e=>e) λ _ _ e=>e
    rintro rfl
    rcases ha with ha | ha
    ·exact z ha.symm
    ·rw [hT] at ha
     cases ha
end
def j5 (names:List (Str×NameKind)) (cells:List (Str×Addr)) (acc:List (Str×Addr)):List (Str×Addr):=match names with
 | []=>acc
 | (n,k)::r=>if k==.free then (match cells.lookup n with | some a=>j5 r cells ((n,a)::acc) | none=>acc) else j5 r cells acc
theorem pF {env:Env}:∀ (names:List (Str×NameKind)) (acc:List (Str×Addr)),(∀ y∈names,y.2=.free->∃ c,env.cells.lookup y.1=some c) ->
  (forIn names acc λ (x:Str×NameKind) r=>if x.2==.free then do let a <- cellOf env x.1;pure (ForInStep.yield ((x.1,a)::r)) else pure (ForInStep.yield r):Sem (List (Str×Addr)))=pure (j5 names env.cells acc)
 | [],acc,_=>rfl
 | (n,k)::r,acc,h=>by
  rw [List.forIn_cons]
  unfold j5
  by_cases hk:(k==NameKind.free)=true
  ·obtain ⟨c,hc⟩:=h (n,k) List.mem_cons_self (by simpa using hk)
   have hc':env.cells.lookup n=some c:=hc
   rw [if_pos hk,if_pos hk]
   unfold cellOf
   rw [hc']
   exact pF r _ λ y hy=>h y (List.mem_cons_of_mem _ hy)
  ·rw [if_neg hk,if_neg hk]
   exact pF r _ λ y hy=>h y (List.mem_cons_of_mem _ hy)
theorem jy {env:Env} {scope:Scope} (h:∀ y∈scope.names,y.2=.free->∃ c,env.cells.lookup y.1=some c):closureFor scope env=pure (j5 scope.names env.cells []):=by
 unfold closureFor
 have:=pF (env:=env) scope.names [] h
 exact (bind_congr λ _=>rfl).trans ((congrArg (· >>= pure) this).trans rfl)
def gQ (X:Cx) (scope:Scope) (cl:List (Str×Addr)) (C:Addr) (code:Value) (N:List Str) (A:Around) (s₀:Shared) (H:Hp) (fp:List Addr):Cx where
 prog:=X.prog
 w:=X.w
 K:=X.K
 mg:=X.mg
 base:=X.base
 A:=A
 N:=N
 s₀:=s₀
 H₀:=H
 env:=genEnv scope cl C code builtinsNs X.env
 outer:=X.stack
 stack:=genEnv scope cl C code builtinsNs X.env::X.stack
 ex:=fp
 fn:=λ _=>false
 calm:=true
 pn:=[]
 xe:=λ _ _=>False
def pE (X:Cx) (sc:Scope) (N:List Str):List (Nat×Nat)->Prop
 | []=>True
 | (i,j)::r=>(∃ x,N[i]?=some x/\X.N[j]?=some x/\sc.names.lookup x=some .free/\(X.env.kindOf x=some .cell∨X.env.kindOf x=some .free))/\pE X sc N r
theorem pE.mem {X:Cx} {sc:Scope} {N:List Str}:∀ {fs:List (Nat×Nat)},pE X sc N fs->∀ {i j:Nat},(i,j)∈fs ->
  ∃ x,N[i]?=some x/\X.N[j]?=some x/\sc.names.lookup x=some .free/\(X.env.kindOf x=some .cell∨X.env.kindOf x=some .free)
 | [],_,_,_,h=>by cases h
 | (a,b)::r,F,i,j,h=>by
  rcases List.mem_cons.mp h with e | h
  ·cases e
   exact F.1
  ·exact pE.mem F.2 h
def tau (n:Nat) (fs:List (Nat×Nat)) (σ:St):St:=(List.range n).map λ i=>match fs.lookup i with
 | some j=>(match σ[j]? with | some v=>v | none=>none)
 | none=>none
theorem pO (n:Nat) (fs:List (Nat×Nat)) (σ:St):(tau n fs σ).length=n:=by simp [tau]
theorem lV:∀ {fs:List (Nat×Nat)} {k j:Nat},fs.lookup k=some j->(k,j)∈fs
 | [],_,_,h=>by cases h
 | (a,b)::r,k,j,h=>by
  rw [List.lookup_cons] at h
  split at h
  ·rename_i e
   cases h
   rw [eq_of_beq e]
   exact List.mem_cons_self
  ·exact List.mem_cons_of_mem _ (lV h)
theorem qL {n:Nat} {fs:List (Nat×Nat)} {σ:St} {i:Nat} {v:V} (h:(tau n fs σ)[i]?=some (some v)):∃ j,(i,j)∈fs/\σ[j]?=some (some v):=by
 unfold tau at h
 rw [List.getElem?_map] at h
 cases e:(List.range n)[i]? with
 | none=>rw [e] at h;cases h
 | some k=>
  rw [e] at h
  have ek:k=i:=by
   obtain ⟨h1,h2⟩:=List.getElem?_eq_some_iff.mp e
   simpa using h2.symm
  subst ek
  have h:=Option.some.inj h
  dsimp only at h
  cases e1:fs.lookup k with
  | none=>rw [e1] at h;cases h
  | some j=>
   rw [e1] at h
   dsimp only at h
   cases e2:σ[j]? with
   | none=>rw [e2] at h;cases h
   | some w=>
    rw [e2] at h
    have h:w=some v:=h
    subst h
    exact ⟨j,lV e1,e2⟩
theorem gU {cells:List (Str×Addr)} {y:Str} {c:Addr}:∀ {names:List (Str×NameKind)} {acc:List (Str×Addr)},(acc.lookup y=some c->cells.lookup y=some c)->(j5 names cells acc).lookup y=some c->cells.lookup y=some c
 | [],_,h,e=>h e
 | (n,k)::r,acc,h,e=>by
  unfold j5 at e
  split at e
  ·split at e
   ·rename_i a ha
    refine gU (names:=r) (λ q=>?_) e
    rw [List.lookup_cons] at q
    split at q
    ·rename_i hy
     cases q
     rw [eq_of_beq hy]
     exact ha
    ·exact h q
   ·exact h e
  ·exact gU (names:=r) h e
theorem jv {cells:List (Str×Addr)} {y:Str}:∀ {names:List (Str×NameKind)} {acc:List (Str×Addr)},(acc.lookup y).isSome=true->((j5 names cells acc).lookup y).isSome=true
 | [],_,h=>h
 | (n,k)::r,acc,h=>by
  unfold j5
  split
  ·split
   ·refine jv (names:=r) ?_
    rw [List.lookup_cons]
    split
    ·rfl
    ·exact h
   ·exact h
  ·exact jv (names:=r) h
theorem iT {cells:List (Str×Addr)} {y:Str}:∀ {names:List (Str×NameKind)} {acc:List (Str×Addr)},(∀ z∈names,z.2=.free->∃ c,cells.lookup z.1=some c)->(y,NameKind.free)∈names->((j5 names cells acc).lookup y).isSome=true
 | [],_,_,m=>by cases m
 | (n,k)::r,acc,h,m=>by
  unfold j5
  rcases List.mem_cons.mp m with e | m
  ·cases e
   obtain ⟨c,hc⟩:=h (y,.free) List.mem_cons_self rfl
   have hc:cells.lookup y=some c:=hc
   rw [if_pos (by rfl),hc]
   refine jv ?_
   rw [List.lookup_cons,beq_self_eq_true]
   rfl
  ·split
   ·split
    ·exact iT (λ z hz=>h z (List.mem_cons_of_mem _ hz)) m
    ·rename_i hk _ hn
     obtain ⟨c,hc⟩:=h (n,k) List.mem_cons_self (by simpa using hk)
     have hc:cells.lookup n=some c:=hc
     rw [hn] at hc
     cases hc
   ·exact iT (λ z hz=>h z (List.mem_cons_of_mem _ hz)) m
section
variable {X:Cx} {scope:Scope} {cl:List (Str×Addr)} {C:Addr} {code:Value} {N:List Str} {s₀:Shared} {H:Hp} {fp:List Addr} {A0:Around} {it:Addr} {tn:Nat->Heap->Prop} {J:It}
 {tg elt iter:Expr} {pos:Pos} {pins:List (Addr×Obj)} {τ:St} {n:Nat} {p:Nat->Bool} {G:Hp->Prop} {g:TG} {te:TE}
def Eb (Y:Cx) (pins:List (Addr×Obj)) (τ:St) (G:Hp->Prop):Nat->Shared->Shared->Prop:=λ m _ s=>m=0/\∃ H',G H'/\Inv Y pins τ H' s
def sJ (Y:Cx) (pins:List (Addr×Obj)) (τ:St) (G:Hp->Prop) (n:Nat) (p:Nat->Bool):Protocol:=λ m u v s kap=>
 (∃ H',G H'/\Inv Y pins τ H' s)/\v=.bool (p (n - 1 - m))/\u.gens.size<=s.gens.size/\∀ s2,s2.heap=s.heap->s2.os=s.os->AllBare s2.gens->kap (.send .none) s2
abbrev iZ (elt tg iter:Expr) (scope:Scope) (pos:Pos) (it:Addr) (cenv:Env):Code:=.compLoop (.GeneratorExp elt [⟨tg,iter,[],0⟩] scope pos) 0 (.ref it) .none cenv
def fW (J:It) (g:TG) (te:TE) (τ:St) (G:Hp->Prop) (n:Nat) (p:Nat->Bool):Prop:=∀ H2,G H2->J.stop n H2/\∀ i,i<n->J.go i H2 /\
 ∀ x H3,J.yld i H2 x H3->g x τ H3 λ τ4 H4=>(∀ (j:Nat) v,τ[j]?=some (some v)->τ4[j]?=some (some v))/\te τ4 H4 λ v H5=>G H5/\v=.bl (p i)
theorem Ax (T:Turn X.prog X.w X.K tg J fp it tn) (hco:scope.isCoroutine=false)
  (hg:PG (gQ X scope cl C code N (A0.over (iZ elt tg iter scope pos it (genEnv scope cl C code builtinsNs X.env)) []) s₀ H fp) tg g)
  (he:PE (gQ X scope cl C code N (A0.over (iZ elt tg iter scope pos it (genEnv scope cl C code builtinsNs X.env)) []) s₀ H fp) elt te)
  (hf:∀ b∈fp,b≠C/\b ∉ frs X.stack/\(∀ x c,cl.lookup x=some c->c≠b)/\∀ q∈pins,q.1≠b) (ht:fW J g te τ G n p):
  ∀ (k i:Nat) (u s:Shared) (H2:Hp),n - i=k->i<=n->G H2->(∀ b∈fp,H2 b=none)->Inv (gQ X scope cl C code N (A0.over (iZ elt tg iter scope pos it (genEnv scope cl C code builtinsNs X.env)) []) s₀ H fp) pins τ H2 s->tn i s.heap ->
   u.gens.size<=s.gens.size ->
   Seg (model X.prog X.w) A0 (λ m u r s1=>r=.ok .next/\Eb (gQ X scope cl C code N (A0.over (iZ elt tg iter scope pos it (genEnv scope cl C code builtinsNs X.env)) []) s₀ H fp) pins τ G m u s1)
    (sJ (gQ X scope cl C code N (A0.over (iZ elt tg iter scope pos it (genEnv scope cl C code builtinsNs X.env)) []) s₀ H fp) pins τ G n p) (n - i) u
    (iZ elt tg iter scope pos it (genEnv scope cl C code builtinsNs X.env)) ((model X.prog X.w).den (iZ elt tg iter scope pos it (genEnv scope cl C code builtinsNs X.env))) [] s:=by
 generalize hY:gQ X scope cl C code N (A0.over (iZ elt tg iter scope pos it (genEnv scope cl C code builtinsNs X.env)) []) s₀ H fp=Y at hg he ⊢
 generalize hce:genEnv scope cl C code builtinsNs X.env=cenv at hY ⊢
 have eP:Y.prog=X.prog:=by rw [<- hY];rfl
 have ew:Y.w=X.w:=by rw [<- hY];rfl
 have eK:Y.K=X.K:=by rw [<- hY];rfl
 have ec:Y.calm=true:=by rw [<- hY];rfl
 have eA:Y.A=A0.over (iZ elt tg iter scope pos it cenv) []:=by rw [<- hY];rfl
 have ex:Y.xe=λ _ _=>False:=by rw [<- hY];rfl
 have ee:Y.env=cenv:=by rw [<- hY,<- hce];rfl
 have fpk':∀ {H2:Hp},(∀ b∈fp,H2 b=none)->∀ b∈fp,kh Y pins H2 b:=λ {H2} h b hb=>by
  obtain ⟨a1,a2,a3,a4⟩:=hf b hb
  refine ⟨h b hb,?_,?_,?_,?_,?_⟩
  ·rw [ee,<- hce];exact a1
  ·rw [<- hY];exact a2
  ·rw [<- hY];exact .inl hb
  ·rw [ee,<- hce];exact a3
  ·rw [<- hY];exact a4
 clear hY
 intro k
 induction k with
 | zero=>
  intro i u s H2 hk hi hG fr I st hu
  have hin:i=n:=by omega
  subst hin
  show Seg _ A0 _ _ _ u _ ((compTurn (.GeneratorExp elt [⟨tg,iter,[],0⟩] scope pos) 0 (.ref it) .none cenv).onRaise (leaving cenv)) [] s
  rw [Sem.onRaise_eq_wrap,compTurn_gen]
  refine seg_bind_wrap (wpAny_standAt (seg_bind_wrap ?_))
  have h1:=T.done Y eP ew eK ec i pins s τ H2 (λ _ _=>False) I (fpk' fr) st (ht H2 hG).1
  rw [eA] at h1
  refine wpAny_mono h1 (λ r s1 h=>?_) λ _ _ f=>f.elim
  obtain ⟨hr,I1⟩:=h
  subst hr
  exact seg_end (.ok .next) ⟨rfl,by omega,H2,hG,I1⟩
 | succ k ih=>
  intro i u s H2 hk hi hG fr I st hu
  have hlt:i<n:=by omega
  obtain ⟨m,hm⟩:∃ m,n - i=m+1:=⟨n - i - 1,by omega⟩
  obtain ⟨go,turn⟩:=(ht H2 hG).2 i hlt
  show Seg _ A0 _ _ _ u _ ((compTurn (.GeneratorExp elt [⟨tg,iter,[],0⟩] scope pos) 0 (.ref it) .none cenv).onRaise (leaving cenv)) [] s
  rw [Sem.onRaise_eq_wrap,compTurn_gen,hm]
  refine seg_bind_wrap (wpAny_standAt (seg_bind_wrap ?_))
  have h1:=T.item Y eP ew eK ec i pins s τ H2 (λ _ _=>False) I (fpk' fr) st go
  rw [eA] at h1
  refine zw h1 (λ r s1 g1 h=>?_) λ _ _ _ f=>f.elim
  obtain ⟨v,hr,h2⟩:=h
  subst hr
  refine seg_bind_wrap (zw h2 (λ _ s2 g2 h=>?_) λ _ _ _ f=>f.elim)
  obtain ⟨x,H3,I3,rx,y3,st3,fr3⟩:=h
  have I3':=I3.pinned (fpk' fr3) (T.obj _ _ st3)
  have h3:=hg _ s2 τ H3 x v _ I3' rx (turn x H3 y3)
  rw [eP,ew,eA,ee,ex] at h3
  refine seg_bind_wrap (zw h3 (λ _ s3 g3 h=>?_) λ _ _ _ f=>f.elim)
  obtain ⟨τ4,H4,I4,w4,q4⟩:=h
  refine seg_bind_wrap (wpAny_pure ?_)
  simp only [if_true]
  have hy:∀ v,yieldOut cenv v=yieldValue v:=λ v=>by
   rw [<- hce]
   simp only [yieldOut,genEnv,hco,Bool.false_eq_true,if_false]
  have h4:=he _ s3 τ4 H4 _ I4 q4
  rw [eP,ew,eA,ee,ex] at h4
  simp only [hy]
  rw [Sem.bind_eq_wrap',Sem.bind_eq_wrap',Sem.wrap_wrap,Sem.wrap_wrap]
  refine seg_wrap (zw h4 (λ y s4 g4 h=>?_) λ _ _ _ f=>f.elim)
  obtain ⟨y',H5,I5,ry,hG5,ey⟩:=h
  subst ey
  obtain rfl:y=Value.bool (p i):=ry
  have st5:tn (i+1) s4.heap:=T.keep _ _ _ st3 λ b hb o e=>(I5.pin (b,o) (List.mem_append_right _ (List.mem_append_right _ (cK hb e)))).1
  have fr5:∀ b∈fp,H5 b=none:=λ b hb=>by
   obtain ⟨o,e,_⟩:=T.obj _ _ st3 b hb
   exact (I5.pin (b,o) (List.mem_append_right _ (List.mem_append_right _ (cK hb e)))).2.1
  have I5':Inv Y pins τ H5 s4:=I5.hU.weak (I.len.trans I5.len.symm) w4
  refine seg_at (seg_yield rfl rfl rfl ⟨⟨H5,hG5,I5'⟩,?_,by omega,λ s5 e1 e2 e3=>?_⟩)
  ·rw [show n - 1 - m=i by omega]
  ·have q:=ih (i+1) s5 s5 H5 (by omega) hlt hG5 fr5 (I5'.A1 e1 e2 e3) (by rw [e1];exact st5) (Nat.le_refl _)
   rw [show n - (i+1)=m by omega] at q
   exact seg_again rfl q
end
section
variable {prog:Program} {w:World} {A:Around} {E:Value->Shared->Prop} {Y:Cx} {pins:List (Addr×Obj)} {τ:St} {G:Hp->Prop} {n:Nat} {p:Nat->Bool} {a:Addr} {g:Nat}
def gAt (prog:Program) (w:World) (A:Around) (Y:Cx) (pins:List (Addr×Obj)) (τ:St) (G:Hp->Prop) (n:Nat) (p:Nat->Bool) (g i:Nat) (s:Shared):Prop:=
 (∃ H',G H'/\Inv Y pins τ H' s)/\∃ gs,s.gens[g]?=some gs/\∀ s2,s2.heap=s.heap->s2.os=s.os->AllBare s2.gens ->
  gs.Goes (model prog w) A.in1 (λ m u r s1=>r=.ok .next/\Eb Y pins τ G m u s1) (sJ Y pins τ G n p) (n - i) (.send .none) s2
theorem nv {gens:Array GenState} {g:Nat} {x:GenState} (h:AllBare gens) (hx:x.bare=true):AllBare (gens.setIfInBounds g x):=λ y hy=>by
 rcases Array.mem_or_eq_of_mem_setIfInBounds hy with z | z
 ·exact h y z
 ·rw [z];exact hx
theorem get_set {s:Shared} {g:Nat} {x:GenState} (h:g<s.gens.size):(s.setGen g x).gens[g]?=some x:=by simp [Shared.setGen,h]
theorem wC {gens:Array GenState} {g:Nat} {x:GenState} (h:gens[g]?=some x):g<gens.size:=by
 rcases Nat.lt_or_ge g gens.size with q | q
 ·exact q
 ·rw [Array.getElem?_eq_none q] at h
  cases h
theorem jU {Q:Option Value->Shared->Prop} (hh:A.handled=none) (hr:A.depth<recursionLimit) (hpin:∃ o,(a,o)∈pins/\o.cls=.type "generator"/\(∃ nm qn,o.data=.fields #[.int g 0,nm,qn])/\o.slots=#[])
  {i:Nat} {s:Shared} (hi:i<=n) (h:gAt prog w A Y pins τ G n p g i s) (hQ:∀ s',(i<n->gAt prog w A Y pins τ G n p g (i+1) s'->Q (some (.bool (p i))) s')/\(i=n->(∃ H',G H'/\Inv Y pins τ H' s')->Q none s')):
  wpAny (model prog w) A (pyNext (.ref a)) Q E s:=by
 obtain ⟨⟨H0,hG0,I0⟩,gs,hgs,hgo⟩:=h
 obtain ⟨o,ho,hc,⟨nm,qn,hd⟩,hs⟩:=hpin
 have hg:s.heap.IsGen a g:=⟨o,nm,qn,(I0.pin (a,o) (List.mem_append_right _ ho)).1,hc,hd,hs⟩
 have hlt:=wC hgs
 refine wpAny_pyNext_genexpQ (P:=Eb Y pins τ G) (Y:=sJ Y pins τ G n p) (n:=n - i) hh I0.nolimit hr hg hgs (hgo _ rfl rfl (nv I0.bare rfl)) (λ v s1 gs' hb hv=>?_) (λ s1 hp h' hk=>?_)
 ·obtain ⟨⟨H1,hG1,I1⟩,ev,hsz,hkap⟩:=hv
  have hsz:s.gens.size<=s1.gens.size:=by
   have:(s.setGen g .running).gens.size=s.gens.size:=by simp [Shared.setGen]
   rw [this] at hsz
   exact hsz
  have hin:i<n:=by
   rcases Nat.lt_or_ge i n with q | q
   ·exact q
   ·have z:n - i=0:=by omega
    rw [z] at hkap
    exact (hkap s1 rfl rfl I1.bare).elim
  obtain ⟨m,hm⟩:∃ m,n - i=m+1:=⟨n - i - 1,by omega⟩
  rw [show n - 1 - (n - i - 1)=i by omega] at ev
  subst ev
  rw [hm] at hkap
  have hb':AllBare (s1.setGen g gs').gens:=nv I1.bare hb
  refine (hQ _).1 hin ⟨⟨H1,hG1,I1.A1 rfl rfl hb'⟩,gs',get_set (Nat.lt_of_lt_of_le hlt hsz),λ s2 e1 e2 e3=>?_⟩
  rw [show n - (i+1)=m by omega]
  exact hkap s2 e1 e2 e3
 ·obtain ⟨hn,H1,hG1,I1⟩:=hp
  have I2:Inv Y pins τ H1 { s1 with heap:=h',toks:=s1.toks }:=I1.kept hk
  exact (hQ _).2 (by omega) ⟨H1,hG1,I2.A1 rfl rfl (nv I1.bare rfl)⟩
theorem xQ {R:Result->Shared->Prop} (hh:A.handled=none) (hr:A.in1.depth<recursionLimit) (hpin:∃ o,(a,o)∈pins/\o.cls=.type "generator"/\(∃ nm qn,o.data=.fields #[.int g 0,nm,qn])/\o.slots=#[]):
  ∀ (k i:Nat) (s:Shared),n - i=k->i<=n->gAt prog w A.in1 Y pins τ G n p g i s->(∀ s',(∃ H',G H'/\Inv Y pins τ H' s')->R (.ok (.ret (.bool (((List.range n).drop i).all p)))) s') ->
   codeAny (model prog w) A (.builtin "all.loop" ⟨[.ref a],[]⟩) R s:=by
 intro k
 induction k with
 | zero=>
  intro i s hk hi h hR
  have e:i=n:=by omega
  subst e
  refine codeAny_builtin F.entry_all_loop ?_
  rw [Around.under_plainId F.plain_all_loop _]
  show wpAny _ A.in1 (pyNext (.ref a) >>= _) _ _ s
  refine wpAny_bind (jU (A:=A.in1) hh hr hpin hi h λ s'=>⟨λ z=>absurd z (Nat.lt_irrefl _),λ _ q=>?_⟩)
  refine wpAny_bind (wpAny_rule (wpAny_pure ?_))
  have z:=hR s' q
  rw [List.drop_of_length_le (by simp)] at z
  exact z
 | succ k ih=>
  intro i s hk hi h hR
  have hlt:i<n:=by omega
  have hd:(List.range n).drop i=i::(List.range n).drop (i+1):=range_drop hlt
  refine codeAny_builtin F.entry_all_loop ?_
  rw [Around.under_plainId F.plain_all_loop _]
  show wpAny _ A.in1 (pyNext (.ref a) >>= _) _ _ s
  refine wpAny_bind (jU (A:=A.in1) hh hr hpin hi h λ s'=>⟨λ _ q=>?_,λ z=>absurd z (by omega)⟩)
  refine wpAny_bind (wpAny_holding (wpAny_truthy_bool (wpAny_bind (wpAny_letGo ?_))))
  cases hb:p i with
  | true=>
   simp only [if_true]
   refine wpAny_pure ⟨plainId_quiet F.plain_all_loop _,ih (i+1) s' (by omega) hlt q λ s2 z=>?_⟩
   have y:=hR s2 z
   rw [hd,List.all_cons,hb,Bool.true_and] at y
   exact y
  | false=>
   simp only [Bool.false_eq_true,if_false]
   refine wpAny_bind (wpAny_rule (wpAny_pure ?_))
   have y:=hR s' q.1
   rw [hd,List.all_cons,hb,Bool.false_and] at y
   exact y
theorem xF {R:Result->Shared->Prop} (hh:A.handled=none) (hr:A.in1.depth<recursionLimit) (hpin:∃ o,(a,o)∈pins/\o.cls=.type "generator"/\(∃ nm qn,o.data=.fields #[.int g 0,nm,qn])/\o.slots=#[]):
  ∀ (k i:Nat) (s:Shared),n - i=k->i<=n->gAt prog w A.in1 Y pins τ G n p g i s->(∀ s',(∃ H',G H'/\Inv Y pins τ H' s')->R (.ok (.ret (.bool (((List.range n).drop i).any p)))) s') ->
   codeAny (model prog w) A (.builtin "any.loop" ⟨[.ref a],[]⟩) R s:=by
 intro k
 induction k with
 | zero=>
  intro i s hk hi h hR
  have e:i=n:=by omega
  subst e
  refine codeAny_builtin F.entry_any_loop ?_
  rw [Around.under_plainId F.plain_any_loop _]
  show wpAny _ A.in1 (pyNext (.ref a) >>= _) _ _ s
  refine wpAny_bind (jU (A:=A.in1) hh hr hpin hi h λ s'=>⟨λ z=>absurd z (Nat.lt_irrefl _),λ _ q=>?_⟩)
  refine wpAny_bind (wpAny_rule (wpAny_pure ?_))
  have z:=hR s' q
  rw [List.drop_of_length_le (by simp)] at z
  exact z
 | succ k ih=>
  intro i s hk hi h hR
  have hlt:i<n:=by omega
  have hd:(List.range n).drop i=i::(List.range n).drop (i+1):=range_drop hlt
  refine codeAny_builtin F.entry_any_loop ?_
  rw [Around.under_plainId F.plain_any_loop _]
  show wpAny _ A.in1 (pyNext (.ref a) >>= _) _ _ s
  refine wpAny_bind (jU (A:=A.in1) hh hr hpin hi h λ s'=>⟨λ _ q=>?_,λ z=>absurd z (by omega)⟩)
  refine wpAny_bind (wpAny_holding (wpAny_truthy_bool (wpAny_bind (wpAny_letGo ?_))))
  cases hb:p i with
  | false=>
   simp only [Bool.false_eq_true,if_false]
   refine wpAny_pure ⟨plainId_quiet F.plain_any_loop _,ih (i+1) s' (by omega) hlt q λ s2 z=>?_⟩
   have y:=hR s2 z
   rw [hd,List.any_cons,hb,Bool.false_or] at y
   exact y
  | true=>
   simp only [if_true]
   refine wpAny_bind (wpAny_rule (wpAny_pure ?_))
   have y:=hR s' q.1
   rw [hd,List.any_cons,hb,Bool.true_or] at y
   exact y
end
def iM (base:Heap):Prop:=∀ (M:Model) (A:Around) (E:Value->Shared->Prop) (s:Shared) (Q:Addr->Shared->Prop),(∀ b o,base.get? b=some o->s.heap.get? b=some o)->Q builtinsNs s->wpAny M A (builtinsFor mainGlobals builtinsNs) Q E s
theorem Ag {base:Heap} {mg:Str->Option Value} {bm:Addr} {ob:Obj} (g:base.Ns mainGlobals mg) (e:mg "__builtins__"=some (.ref bm)) (ne:bm≠builtinsNs) (ho:base.get? bm=some ob) (hc:ob.cls=.type "module") (hd:ob.dict=some builtinsNs) (hp:ob.data=.plain):iM base:=
 λ _ _ _ _ _ k q=>wpAny_builtinsFor (g.keeps k) e ne (k _ _ ho) hc hd hp q
structure wL (X:Cx) (scope:Scope) (N:List Str) (fs:List (Nat×Nat)):Prop where
 co:scope.isCoroutine=false
 kind:scope.kind=.function
 zero:scope.names.lookup (".0":Str)=some NameKind.local
 cell:(scope.names.all λ y=>y.2 != .cell)=true
 free:(scope.names.all λ y=>y.2 != .free||(X.env.kindOf y.1==some .cell||X.env.kindOf y.1==some .free))=true
 fs:pE X scope N fs
def tG (K:PySem.W.Frag) (fold:Nat->(Nat->Bool)->Bool) (P:Addr) (nN:Nat) (fs:List (Nat×Nat)) (wi:TI) (g:TG) (te:TE):TE:=λ σ H Q=>
 wi σ H λ J H1=>H1 P=some (Tb P)/\∃ n p G,G H1/\fW J g te (tau nN fs σ) G n p/\∀ H2,G H2->Q (.bl (fold n p)) H2
section
variable {X:Cx} {scope:Scope} {N:List Str} {fs:List (Nat×Nat)} {tg elt iter:Expr} {gpos cpos np:Pos} {k:Nat} {P:Addr} {wi:TI} {g:TG} {te:TE}
theorem yC {A:Around} {c:Code} (hr:bX (k+1) A) (hw:c.weight<=1) (hu:c.cUnits<=3):bX k (A.in1.in1.over c []):=by
 have h1:=hr.dp
 have h2:=hr.un
 refine ⟨hr.hd,?_,?_⟩
 ·show A.depth+0+c.weight+3 * k+5<_
  omega
 ·show A.units+1+1+0+c.cUnits+16 * k+200<_
  omega
theorem rh {id:String} {fold:Nat->(Nat->Bool)->Bool} (S:wL X scope N fs) (hB:iM X.base) (hc:b5 X.K X.env.code P) (hr:bX (k+1) X.A)
  (hi:PI X tg iter wi) (hg:∀ A cl C code s₀ H fp,PG (gQ X scope cl C code N A s₀ H fp) tg g) (he:∀ A cl C code s₀ H fp,bX k A->PE (gQ X scope cl C code N A s₀ H fp) elt te)
  (hs:∀ x,genFold iter X.env x=pure x)
  (hcall:∀ (Y:Cx) (pins:List (Addr×Obj)) (τ:St) (G:Hp->Prop) (n:Nat) (p:Nat->Bool) (a:Addr) (g:Nat) (s:Shared) (Q:Value->Shared->Prop),
   (∃ o,(a,o)∈pins/\o.cls=.type "generator"/\(∃ nm qn,o.data=.fields #[.int g 0,nm,qn])/\o.slots=#[])->gAt X.prog X.w X.A.in1 Y pins τ G n p g 0 s->(∀ s',(∃ H',G H'/\Inv Y pins τ H' s')->Q (.bool (fold n p)) s') ->
   wpAny (model X.prog X.w) X.A (call (.builtin id) [.ref a]) Q X.xe s)
  {x:Str} (hgl:Gl X x) (hm:X.mg x=none) (hv:bootBuiltins x=some (.builtin id)) (hn:x≠"__name__") (hdb:(x==("__debug__":Str))=false):
  PE X (.Call (.Name x np) [.GeneratorExp elt [⟨tg,iter,[],0⟩] scope gpos] [] cpos) (tG X.K fold P N.length fs wi g te):=by
 intro pins s σ H Q I h
 refine wpAny_Call_Name_kw (jB I hgl hm hv ?_ hn hdb)
 refine PyProof.Rows.callWith_builtin1 (Calls.spliced_cons ?_) rfl rfl
 have hfree:∀ y∈scope.names,y.2=.free->∃ c,X.env.cells.lookup y.1=some c:=λ y hy hf=>by
  have q:=List.all_eq_true.mp S.free y hy
  rw [hf] at q
  refine I.ok.has y.1 ?_
  simpa using q
 have hcell:∀ y∈scope.names,y.2≠.cell:=λ y hy=>by simpa using List.all_eq_true.mp S.cell y hy
 have hclo:=jy hfree
 generalize hcl:j5 scope.names X.env.cells []=cl at hclo
 have back:∀ {y c},cl.lookup y=some c->X.env.cells.lookup y=some c:=λ {y c} e=>gU (names:=scope.names) (acc:=[]) (λ z=>by cases z) (by rw [hcl];exact e)
 have hasc:∀ {y},scope.names.lookup y=some .free->∃ c,cl.lookup y=some c:=λ {y} e=>by
  have:=iT (cells:=X.env.cells) (acc:=[]) hfree (PySem.mem_of_lookup e)
  rw [hcl] at this
  exact Option.isSome_iff_exists.mp this
 refine wpAny_GeneratorExp_make S.co hclo hcell S.zero S.kind hr.depth (thn (hi pins s σ H _ I h) λ v s1 h1=>thn h1 λ itv s2 h2=>?_) hs
 obtain ⟨it,fp,tn,J,H1,e,I2,T,st2,f2,hT,n,p,G,hG,ht,hq⟩:=h2
 subst e
 refine ⟨I2.nolimit,xm I2 hc hT λ code h3 tk3 I3 k3=>?_⟩
 have fpP:∀ b∈fp,b≠P:=λ b hb z=>by
  have:=(f2 b hb).1
  rw [z,hT] at this
  cases this
 have st3:tn 0 h3:=T.keep _ _ _ st2 λ b hb o e=>k3 b o (fpP b hb) e
 rw [I.ok.glob,I.ok.blt]
 refine hB _ _ _ _ _ I3.bk λ h4 hns hsb=>?_
 have k4:∀ b o,h3.get? b=some o->h4.get? b=some o:=λ b o e=>hsb.extBut b o (Nat.ne_of_lt (Heap.lt_size e)) (Heap.get?_push_of_some _ e)
 have k5:∀ (og:Obj) b o,h3.get? b=some o->(h4.push og).get? b=some o:=λ og b o e=>Heap.get?_push_of_some _ (k4 b o e)
 refine Calls.spliced_nil ?_
 generalize hog:({ cls:=.type "generator",data:=.fields #[.int s2.gens.size 0,.str "<genexpr>" (tk3+1),.str (X.env.qual++"<genexpr>") (tk3+1+1)] }:Obj)=og
 have fpl:∀ b∈fp,b<h3.objs.size:=λ b hb=>let ⟨_,e,_⟩:=T.obj _ _ st3 b hb;Heap.lt_size e
 have fps:∀ b∈fp,b ∉ frs X.stack:=λ b hb z=>by
  rcases List.mem_cons.mp (I2.jC b z) with q | q
  ·exact (f2 b hb).2.1 q
  ·exact (f2 b hb).2.2.1 q
 have s45:h3.objs.size<h4.objs.size:=by rw [hsb.1,Heap.size_push];exact Nat.lt_succ_self _
 have ga:(h4.push og).get? h4.objs.size=some og:=by rw [<- hog];exact Heap.get?_push_size _ rfl
 have hf:∀ b∈fp,b≠h3.objs.size/\b ∉ frs X.stack/\(∀ x c,cl.lookup x=some c->c≠b)/\∀ q∈[(h4.objs.size,og)],q.1≠b:=λ b hb=>
  ⟨Nat.ne_of_lt (fpl b hb),fps b hb,λ x c e=>(f2 b hb).2.2.2.2.1 x c (back e),λ q hq=>by
   rw [List.mem_singleton.mp hq]
   exact Nat.ne_of_gt (Nat.lt_trans (fpl b hb) s45)⟩
 have fr1:∀ b∈fp,H1 b=none:=λ b hb=>(f2 b hb).1
 let cenv:=genEnv scope cl h3.objs.size code builtinsNs X.env
 let Y:Cx:=gQ X scope cl h3.objs.size code N (X.A.in1.in1.over (iZ elt tg iter scope gpos it cenv) []) { heap:=h3,gens:=s2.gens,drawn:=s2.drawn,toks:=tk3,os:=s2.os } H1 fp
 have hYok:Y.Ok:=by
  refine ⟨I3.ok.mod,S.kind,I.ok.glob,rfl,Nat.le_refl _,λ x y c e1 e2=>I3.ok.inj x y c (back e1) (back e2),λ x hx=>?_,λ x c z=>(by cases z),λ _=>hr.hd,?_,.inr ⟨rfl,rfl⟩,λ b hb=>⟨(hf b hb).1,(hf b hb).2.2.1⟩,I3.bs,Nat.le_trans I3.ok.bsz I3.sz,
   λ b o e hb=>?_,fps,I3.stack,I3.j4⟩
  ·have hx:scope.names.lookup x=some .cell∨scope.names.lookup x=some .free:=hx
   rcases hx with z | z
   ·exact absurd rfl (hcell _ (PySem.mem_of_lookup z))
   ·exact hasc z
  ·show pushEnvs (Code.envs (iZ elt tg iter scope gpos it cenv)) (pushEnvs [] X.A.frames)=_
   rw [I.ok.frames]
   rfl
  ·rcases (f2 b hb).2.2.2.1 with z | z
   ·exact I3.ok.uo b o e z
   ·exact absurd (Nat.lt_of_lt_of_le (Heap.lt_size e) (Nat.le_trans I3.ok.bsz z)) (Nat.lt_irrefl _)
 have IY:∀ (gs:GenState) (tk:Nat),gs.bare=true->Inv Y [(h4.objs.size,og)] (tau N.length fs σ) H1 { heap:=h4.push og,gens:=s2.gens.push gs,drawn:=s2.drawn,toks:=tk,os:=s2.os }:=λ gs tk hb=>by
  refine ⟨hYok,rfl,?_,Un.kept (k5 og),⟨_,hns.push _,λ i x v e1 e2 e3=>?_⟩,λ x c e=>?_,I3.hok.fresh (Nat.le_refl _),λ x c e=>I3.fZ x c (back e),λ q hq=>?_,I3.hok.kept (k5 og),pO _ _ _⟩
  ·intro y hy
   rcases Array.mem_push.mp hy with z | z
   ·exact I3.bare y z
   ·rw [z];exact hb
  ·obtain ⟨j,hj,hv⟩:=qL e2
   obtain ⟨x',q1,q2,q3,q4⟩:=S.fs.mem hj
   have e1:N[i]?=some x:=e1
   rw [e1] at q1
   cases q1
   obtain ⟨m,_,hl⟩:=I3.loc
   obtain ⟨u,ru,lk⟩:=hl j x v q2 hv (by rcases q4 with z | z;exact .inr (.inl z);exact .inr (.inr z))
   refine ⟨u,ru,.inr ⟨.inr q3,?_⟩⟩
   rcases lk with ⟨z,_⟩ | ⟨_,c,e,hcc⟩
   ·rcases q4 with y | y <;> (rw [y] at z;cases z)
   ·obtain ⟨c',e'⟩:=hasc q3
    have z:=back e'
    rw [e] at z
    cases z
    obtain ⟨o,ho,hd⟩:=hcc
    exact ⟨c,e',o,k5 og _ _ ho,hd⟩
  ·obtain ⟨v,o,ho,hd⟩:=I3.cell x c (back e)
   exact ⟨v,o,k5 og _ _ ho,hd⟩
  ·have hq:q∈[(h4.objs.size,og)]:=hq
   rw [List.mem_singleton.mp hq]
   refine ⟨ga,I3.hok.fresh (Nat.le_of_lt s45),Nat.ne_of_gt s45,λ z=>?_,λ v z=>?_⟩
   ·obtain ⟨_,o,ho,_⟩:=I3.stack.mem z
    exact absurd (Nat.lt_trans (Heap.lt_size ho) s45) (Nat.lt_irrefl _)
   ·rw [<- hog] at z
    have z':Data.fields _=Data.cell v:=z
    cases z'
 refine hcall Y [(h4.objs.size,og)] (tau N.length fs σ) G n p _ s2.gens.size _ _ ⟨og,List.mem_singleton.mpr rfl,by rw [<- hog],by rw [<- hog];exact ⟨_,_,rfl⟩,by rw [<- hog]⟩
  ⟨⟨H1,hG,IY _ _ rfl⟩,_,Array.getElem?_push_size ..,λ s6 e1 e2 e3=>⟨rfl,?_⟩⟩ λ s' ⟨H',hG',I'⟩=>?_
 ·have st6:tn 0 s6.heap:=by
   rw [e1]
   exact T.keep _ _ _ st3 λ b _ o e=>k5 og b o e
  have loop:=Ax (A0:=X.A.in1.in1) T S.co (hg _ cl _ code _ H1 fp) (he _ cl _ code { heap:=h3,gens:=s2.gens,drawn:=s2.drawn,toks:=tk3,os:=s2.os } H1 fp (yC hr (Nat.le_of_eq rfl) (Nat.le_of_eq rfl))) hf ht n 0 s6 s6 H1 rfl (Nat.zero_le _) hG fr1
   ((IY .running 0 rfl).A1 e1 e2 e3) st6 (Nat.le_refl _)
  show Seg _ X.A.in1.in1 _ _ _ s6 _ ((compStart (.GeneratorExp elt [⟨tg,iter,[],0⟩] scope gpos) 0 (.ref it) .none cenv).onRaise (leaving cenv)) [] s6
  rw [Sem.onRaise_eq_wrap];unfold compStart
  show Seg _ X.A.in1.in1 _ _ _ s6 _ ((ask >>= _).wrap _ _ _ _) [] s6
  refine seg_bind_wrap (wpAny_askSetting ?_)
  split
  ·exact seg_again rfl loop
  ·refine seg_bind_wrap (wpAny_rule (seg_bind_wrap (wpAny_standAt (seg_bind_wrap ?_))))
   exact T.self _ 0 s6 _ _ st6 (seg_again rfl loop)
 ·refine ⟨.bl (fold n p),H',I3.yy I'.os I'.base I'.hok I'.bare λ b hb=>?_,rfl,hq H' hG'⟩
  obtain ⟨_,z1,z2,z3,z4,z5⟩:=f2 b hb
  exact ⟨z3,z1,z4,z5⟩
end
section
variable {X:Cx} {scope:Scope} {N:List Str} {fs:List (Nat×Nat)} {tg elt iter:Expr} {gpos cpos np:Pos} {k:Nat} {P:Addr} {wi:TI} {g:TG} {te:TE}
def ue (n:Nat) (p:Nat->Bool):Bool:=(List.range n).all p
def oo (n:Nat) (p:Nat->Bool):Bool:=(List.range n).any p
theorem i8 (S:wL X scope N fs) (hB:iM X.base) (hc:b5 X.K X.env.code P) (hr:bX (k+1) X.A) (hgl:Gl X "all") (hm:X.mg "all"=none)
  (hi:PI X tg iter wi) (hg:∀ A cl C code s₀ H fp,PG (gQ X scope cl C code N A s₀ H fp) tg g) (he:∀ A cl C code s₀ H fp,bX k A->PE (gQ X scope cl C code N A s₀ H fp) elt te)
  (hs:∀ x,genFold iter X.env x=pure x:=by intro _;rfl):
  PE X (.Call (.Name "all" np) [.GeneratorExp elt [⟨tg,iter,[],0⟩] scope gpos] [] cpos) (tG X.K ue P N.length fs wi g te):=by
 refine rh (id:="all") S hB hc hr hi hg he hs (λ Y pins τ G n p a g s Q hpin h hQ=>?_) hgl hm PyProof.Rows.boot_all (by decide) (by decide)
 refine call_function_tree PySem.F.kind_all PySem.F.plain_all PySem.F.entry_all (PySem.F.args_all1 _) ?_
 unfold Builtin.«all»
 obtain ⟨o,ho,hc,⟨nm,qn,hd⟩,hs⟩:=id hpin
 obtain ⟨⟨H0,_,I0⟩,_⟩:=id h
 refine wpAny_bind (m:=oneArg "all" _) (wpAny_pure (wpAny_bind (wpAny_pyIter_gen (g:=g) ⟨o,nm,qn,(I0.pin (a,o) (List.mem_append_right _ ho)).1,hc,hd,hs⟩ ?_)))
 refine wpAny_pure ⟨plainId_quiet PySem.F.plain_all_loop _,xQ hr.hd hr.depth hpin n 0 s rfl (Nat.zero_le _) h λ s' z=>?_⟩
 exact hQ s' z
theorem j0 (S:wL X scope N fs) (hB:iM X.base) (hc:b5 X.K X.env.code P) (hr:bX (k+1) X.A) (hgl:Gl X "any") (hm:X.mg "any"=none)
  (hi:PI X tg iter wi) (hg:∀ A cl C code s₀ H fp,PG (gQ X scope cl C code N A s₀ H fp) tg g) (he:∀ A cl C code s₀ H fp,bX k A->PE (gQ X scope cl C code N A s₀ H fp) elt te)
  (hs:∀ x,genFold iter X.env x=pure x:=by intro _;rfl):
  PE X (.Call (.Name "any" np) [.GeneratorExp elt [⟨tg,iter,[],0⟩] scope gpos] [] cpos) (tG X.K oo P N.length fs wi g te):=by
 refine rh (id:="any") S hB hc hr hi hg he hs (λ Y pins τ G n p a g s Q hpin h hQ=>?_) hgl hm PyProof.Rows.boot_any (by decide) (by decide)
 refine call_function_tree PySem.F.kind_any PySem.F.plain_any PySem.F.entry_any (PySem.F.args_any1 _) ?_
 unfold Builtin.«any»
 obtain ⟨o,ho,hc,⟨nm,qn,hd⟩,hs⟩:=id hpin
 obtain ⟨⟨H0,_,I0⟩,_⟩:=id h
 refine wpAny_bind (m:=oneArg "any" _) (wpAny_pure (wpAny_bind (wpAny_pyIter_gen (g:=g) ⟨o,nm,qn,(I0.pin (a,o) (List.mem_append_right _ ho)).1,hc,hd,hs⟩ ?_)))
 refine wpAny_pure ⟨plainId_quiet PySem.F.plain_any_loop _,xF hr.hd hr.depth hpin n 0 s rfl (Nat.zero_le _) h λ s' z=>?_⟩
 exact hQ s' z
theorem xa {K:PySem.W.Frag} {a:Addr} {xs:List V} {H:Hp} {τ:St} {q:V->Bool} (hl:SqL K H a xs) (hτ:τ[0]?=some none) (h:∀ x∈xs,te (τ.set 0 (some x)) H λ v H5=>H5=H/\v=.bl (q x)):
  fW (Itl K a) (dF 0) te τ (·=H) xs.length λ i=>match xs[i]? with | some x=>q x | none=>false:=by
 rintro _ rfl
 refine ⟨⟨xs,hl,Nat.le_refl _⟩,λ i hi=>⟨⟨xs,xs[i],hl,List.getElem?_eq_getElem hi⟩,?_⟩⟩
 rintro x _ ⟨rfl,hx⟩
 have e:=hx xs hl
 refine ⟨λ j v hj=>?_,?_⟩
 ·by_cases z:j=0
  ·subst z;rw [hτ] at hj;cases hj
  ·rw [List.getElem?_set_ne (Ne.symm z)];exact hj
 ·dsimp only;rw [e]
  exact h x (List.mem_of_getElem? e)
theorem B8 {K:PySem.W.Frag} {a:Addr} {xs:List V} {H:Hp} {τ:St} {q:V->Bool} (hl:SqT K H a xs) (hτ:τ[0]?=some none) (h:∀ x∈xs,te (τ.set 0 (some x)) H λ v H5=>H5=H/\v=.bl (q x)):
  fW (Itt K a) (dF 0) te τ (·=H) xs.length λ i=>match xs[i]? with | some x=>q x | none=>false:=by
 rintro _ rfl
 refine ⟨⟨xs,hl,Nat.le_refl _⟩,λ i hi=>⟨⟨xs,xs[i],hl,List.getElem?_eq_getElem hi⟩,?_⟩⟩
 rintro x _ ⟨rfl,hx⟩
 have e:=hx xs hl
 refine ⟨λ j v hj=>?_,?_⟩
 ·by_cases z:j=0
  ·subst z;rw [hτ] at hj;cases hj
  ·rw [List.getElem?_set_ne (Ne.symm z)];exact hj
 ·dsimp only;rw [e]
  exact h x (List.mem_of_getElem? e)
theorem all_range {α:Type} (xs:List α) (q:α->Bool):(List.range xs.length).all (λ i=>match xs[i]? with | some x=>q x | none=>false)=xs.all q:=by
 induction xs with
 | nil=>rfl
 | cons x r ih=>
  rw [List.length_cons,List.range_succ_eq_map,List.all_cons,List.all_map,List.all_cons]
  exact congrArg (q x&&·) ih
theorem any_range {α:Type} (xs:List α) (q:α->Bool):(List.range xs.length).any (λ i=>match xs[i]? with | some x=>q x | none=>false)=xs.any q:=by
 induction xs with
 | nil=>rfl
 | cons x r ih=>
  rw [List.length_cons,List.range_succ_eq_map,List.any_cons,List.any_map,List.any_cons]
  exact congrArg (q x||·) ih
end
def bW (X:Cx) (scope:Scope) (cl:List (Str×Addr)) (C:Addr) (N:List Str) (s₀:Shared) (H:Hp) (fp:List Addr):Cx where
 prog:=X.prog
 w:=X.w
 K:=X.K
 mg:=X.mg
 base:=X.base
 A:=X.A
 N:=N
 s₀:=s₀
 H₀:=H
 env:=compEnvC scope cl C X.env
 outer:=X.stack
 stack:=X.stack
 ex:=fp
 fn:=λ _=>false
 calm:=true
 pn:=[]
 xe:=λ _ _=>False
theorem nV {f:Str×NameKind->Str×NameKind} (hf:∀ y,(f y).1=y.1) (x:Str):∀ names:List (Str×NameKind),(names.map f).lookup x=(names.lookup x).map λ k=>(f (x,k)).2
 | []=>rfl
 | (n,k)::r=>by
  have e:=hf (n,k)
  rw [List.map_cons]
  generalize hq:f (n,k)=q at e
  obtain ⟨n',k'⟩:=q
  have e:n'=n:=e
  subst e
  rw [List.lookup_cons,List.lookup_cons]
  by_cases z:(x==n')=true
  ·have y:=eq_of_beq z
   subst y
   simp only [z,Option.map_some,hq]
  ·have z:(x==n')=false:=by simpa using z
   simp only [z]
   exact nV hf x r
theorem j9 (scope:Scope) (env:Env) (x:Str):(relabel scope env).names.lookup x=(scope.names.lookup x).map λ k=>if (k==.free&&env.scope.kind==.function&&env.kindOf x==some .cell) then NameKind.cell else k:=by
 unfold relabel
 refine (nV (λ y=>?_) x scope.names).trans ?_
 ·obtain ⟨n,k⟩:=y
  dsimp only
  split <;> rfl
 ·cases scope.names.lookup x with
  | none=>rfl
  | some k=>
   simp only [Option.map_some]
   split <;> rfl
theorem jI {scope:Scope} {env:Env} {x:Str} (h:scope.names.lookup x=some .free):(relabel scope env).names.lookup x=some .cell∨(relabel scope env).names.lookup x=some .free:=by
 rw [j9,h,Option.map_some]
 split
 ·exact .inl rfl
 ·exact .inr rfl
theorem fF {scope:Scope} {env:Env} {x:Str} {κ:NameKind} (h:(relabel scope env).names.lookup x=some κ):scope.names.lookup x=some κ∨scope.names.lookup x=some .free:=by
 rw [j9] at h
 cases e:scope.names.lookup x with
 | none=>rw [e] at h;cases h
 | some k=>
  rw [e,Option.map_some] at h
  split at h
  ·rename_i q
   simp only [Bool.and_eq_true,beq_iff_eq] at q
   right
   rw [q.1.1]
  ·left
   exact h
structure nW (X:Cx) (scope:Scope) (N:List Str) (fs:List (Nat×Nat)):Prop where
 kind:scope.kind=.function
 cell:(scope.names.all λ y=>y.2 != .cell)=true
 free:(scope.names.all λ y=>y.2 != .free||(X.env.kindOf y.1==some .cell||X.env.kindOf y.1==some .free))=true
 own:(scope.names.all λ y=>y.2 != .local||scope.names.lookup y.1==some .local)=true
 fs:pE X scope N fs
def PTs (X:Cx) (ifs:List Expr) (t:TT):Prop:=
 ∀ (pins:List (Addr×Obj)) (s:Shared) (σ:St) (H:Hp) (Q:Bool->Hp->Prop),Inv X pins σ H s->t σ H Q ->
  wpAny (model X.prog X.w) X.A (forIn ifs true λ c r=>if r=true then do let ok <- isTrue c X.env (eval c X.env);pure (ForInStep.yield ok) else pure (ForInStep.yield r)) (TP X pins σ Q) X.xe s
def Ab:TT:=λ _ H Q=>Q true H
theorem cg {X:Cx}:PTs X [] Ab:=λ _ _ _ H _ I h=>wpAny_pure ⟨H,I,h⟩
theorem vE {X:Cx} {c:Expr} {t:TT} (h:PT X c t):PTs X [c] t:=λ pins s σ H Q I q=>wpAny_tests_one (h pins s σ H Q I q)
def tLC (nN:Nat) (fs:List (Nat×Nat)) (wi:TI) (g:TG) (tc:TT) (te:TE):TE:=λ σ H Q=>wi σ H λ J H1=>∀ D,H1 D=none->∃ (n:Nat) (W:Nat->List V->Hp->Prop),n<=sizeLine/\W 0 [] (upd H1 D (.lst [])) /\
 ∀ i ys H2,i<=n->W i ys H2->H2 D=some (.lst ys)->(J.stop i H2/\Q (.ref D) H2)∨(i<n/\J.go i H2/\∀ x H3,J.yld i H2 x H3->g x (tau nN fs σ) H3 λ τ4 H4=>
  (∀ (j:Nat) v,(tau nN fs σ)[j]?=some (some v)->τ4[j]?=some (some v))/\tc τ4 H4 λ b H5=>
   if b=true then te τ4 H5 λ v H6=>H6 D=some (.lst ys)/\W (i+1) (ys++[v]) (upd H6 D (.lst (ys++[v]))) else H5 D=some (.lst ys)/\W (i+1) ys H5)
section
variable {X:Cx} {scope:Scope} {N:List Str} {fs:List (Nat×Nat)} {tg elt iter:Expr} {ifs:List Expr} {pos cpos:Pos} {wi:TI} {g:TG} {tc:TT} {te:TE}
theorem o7 {use:Option (Value->Sem Unit)} {R':Value->Shared->Prop} (S:nW X scope N fs) (hcalm:X.calm=true)
  (hi:PI X tg iter wi) (hg:∀ cl C s₀ H fp,PG (bW X scope cl C N s₀ H fp) tg g) (hc:∀ cl C s₀ H fp,PTs (bW X scope cl C N s₀ H fp) ifs tc) (he:∀ cl C s₀ H fp,PE (bW X scope cl C N s₀ H fp) elt te)
  (hs:∀ x,foldedSetIterable iter X.env x=pure x) {pins:List (Addr×Obj)} {s:Shared} {σ:St} {H:Hp} {Q:VK} (I:Inv X pins σ H s) (h:tLC N.length fs wi g tc te σ H Q)
  (hfin:∀ (D C:Addr) (H2:Hp) (s':Shared),Inv X pins σ H2 s'->Q (.ref D) H2->(∃ m,s'.heap.Ns C m)->kh X pins H2 C->compPost (model X.prog X.w) X.A X.xe use R' (.ref D) C (.ok .next) s'):
  wpAny (model X.prog X.w) X.A (comprehension (.ListComp elt [⟨tg,iter,ifs,0⟩] scope pos) scope X.env cpos (newList []) false (eval iter X.env) use) R' X.xe s:=by
 have hfree:∀ y∈scope.names,y.2=.free->∃ c,X.env.cells.lookup y.1=some c:=λ y hy hf=>by
  have q:=List.all_eq_true.mp S.free y hy
  rw [hf] at q
  refine I.ok.has y.1 ?_
  simpa using q
 have hcell:∀ y∈scope.names,y.2≠.cell:=λ y hy=>by simpa using List.all_eq_true.mp S.cell y hy
 have hnames:∀ y∈scope.names,y.2=.local->scope.names.lookup y.1=some .local:=λ y hy hl=>by
  have q:=List.all_eq_true.mp S.own y hy
  rw [hl] at q
  simpa using q
 have hclo:=jy hfree
 generalize hcl:j5 scope.names X.env.cells []=cl at hclo
 have back:∀ {y c},cl.lookup y=some c->X.env.cells.lookup y=some c:=λ {y c} e=>gU (names:=scope.names) (acc:=[]) (λ z=>by cases z) (by rw [hcl];exact e)
 have hasc:∀ {y},scope.names.lookup y=some .free->∃ c,cl.lookup y=some c:=λ {y} e=>by
  have:=iT (cells:=X.env.cells) (acc:=[]) hfree (PySem.mem_of_lookup e)
  rw [hcl] at this
  exact Option.isSome_iff_exists.mp this
 refine wpAny_comprehension_free (use:=use) rfl hs hclo S.kind hnames (thn (hi pins s σ H _ I h) λ v s1 h1=>thn h1 λ itv s2 h2=>?_)
 obtain ⟨it,fp,tn,J,H1,e,I2,T,st2,f2,hq⟩:=h2
 subst e
 have hD:H1 s2.heap.objs.size=none:=I2.fresh
 obtain ⟨n,W,hn,w0,turn⟩:=hq _ hD
 refine wpAny_newObj_type ?_
 have I3:Inv X pins σ (upd H1 s2.heap.objs.size (.lst [])) { s2 with heap:=s2.heap.push { cls:=.type "list",data:=.seq ([]:List Value).toArray },toks:=s2.toks }:=I2.CJ .nil (Nat.zero_le _)
 have st3:tn 0 (s2.heap.push { cls:=.type "list",data:=.seq ([]:List Value).toArray }):=T.keep _ _ _ st2 λ b hb o e=>Heap.get?_push_of_some _ e
 have fpD:∀ b∈fp,b≠s2.heap.objs.size:=λ b hb=>let ⟨_,e,_⟩:=T.obj _ _ st2 b hb;Nat.ne_of_lt (Heap.lt_size e)
 generalize hH3:upd H1 s2.heap.objs.size (.lst [])=H3 at I3 w0
 have fr3:∀ b∈fp,H3 b=none:=λ b hb=>by rw [<- hH3,aq (fpD b hb)];exact (f2 b hb).1
 have hD3:H3 s2.heap.objs.size=some (.lst []):=by rw [<- hH3];exact ag
 clear hH3
 generalize hhp:s2.heap.push { cls:=.type "list",data:=.seq ([]:List Value).toArray }=h3 at I3 st3 ⊢
 have hc3:∀ (E:Value->Shared->Prop) (Q':Env->Shared->Prop),(∀ h4,h4.Ns h3.objs.size (λ _=>none)->(∀ b o,h3.get? b=some o->h4.get? b=some o)->h3.objs.size<h4.objs.size->Q' (newEnv scope h3.objs.size X.env.globals cl X.env.qual none .none (some X.env) X.env.builtins) { s2 with heap:=h4,toks:=s2.toks }) ->
   wpAny (model X.prog X.w) X.A (newFunctionEnv scope X.env.globals cl [] X.env.qual none .none (some X.env)) Q' E { s2 with heap:=h3 }:=λ E Q' k=>by
  refine wpAny_newFunctionEnv hcell (by intro y hy;cases hy) (λ h4 a b=>?_) S.kind
  exact k h4 a (λ b' o e=>b.extBut b' o (Nat.ne_of_lt (Heap.lt_size e)) (Heap.get?_push_of_some _ e)) (by rw [b.1,Heap.size_push];exact Nat.lt_succ_self _)
 refine hc3 _ _ λ h4 hns k4 s34=>?_
 have fpl:∀ b∈fp,b<h3.objs.size:=λ b hb=>let ⟨_,e,_⟩:=T.obj _ _ st3 b hb;Heap.lt_size e
 have fps:∀ b∈fp,b ∉ frs X.stack:=λ b hb z=>by
  rcases List.mem_cons.mp (I2.jC b z) with q | q
  ·exact (f2 b hb).2.1 q
  ·exact (f2 b hb).2.2.1 q
 have fst:∀ {H':Hp},(∀ b∈fp,H' b=none)->∀ b∈fp,kh (bW X scope cl h3.objs.size N { s2 with heap:=h3,toks:=s2.toks } H3 fp) [] H' b:=λ hn b hb=>
  ⟨hn b hb,Nat.ne_of_lt (fpl b hb),fps b hb,.inl hb,λ x c e=>(f2 b hb).2.2.2.2.1 x c (back e),λ q hq=>by cases hq⟩
 have hYok:(bW X scope cl h3.objs.size N { s2 with heap:=h3,toks:=s2.toks } H3 fp).Ok:=by
  refine ⟨I3.ok.mod,S.kind,I.ok.glob,I.ok.blt,Nat.le_refl _,λ x y c e1 e2=>I3.ok.inj x y c (back e1) (back e2),λ x hx=>?_,λ x c z=>(by cases z),λ _=>I.ok.hd hcalm,I.ok.frames,.inl rfl,
   λ b hb=>⟨Nat.ne_of_lt (fpl b hb),λ x c e=>(f2 b hb).2.2.2.2.1 x c (back e)⟩,I3.bs,Nat.le_trans I3.ok.bsz I3.sz,λ b o e hb=>?_,fps,I3.stack,I3.j4⟩
  ·have hx:(relabel scope X.env).names.lookup x=some .cell∨(relabel scope X.env).names.lookup x=some .free:=hx
   have hx2:scope.names.lookup x=some .cell∨scope.names.lookup x=some .free:=by
    rcases hx with z | z
    ·exact fF z
    ·exact (fF z).elim .inr .inr
   rcases hx2 with z | z
   ·exact absurd rfl (hcell _ (PySem.mem_of_lookup z))
   ·exact hasc z
  ·rcases (f2 b hb).2.2.2.1 with z | z
   ·exact I3.ok.uo b o e z
   ·exact absurd (Nat.lt_of_lt_of_le (Heap.lt_size e) (Nat.le_trans I3.ok.bsz z)) (Nat.lt_irrefl _)
 have IY:Inv (bW X scope cl h3.objs.size N { s2 with heap:=h3,toks:=s2.toks } H3 fp) [] (tau N.length fs σ) H3 { s2 with heap:=h4,toks:=s2.toks }:=by
  refine ⟨hYok,rfl,I3.bare,Un.kept k4,⟨_,hns,λ i x v e1 e2 e3=>?_⟩,λ x c e=>?_,I3.hok.fresh (Nat.le_refl _),λ x c e=>I3.fZ x c (back e),λ q hq=>(by cases hq),I3.hok.kept k4,pO _ _ _⟩
  ·obtain ⟨j,hj,hv⟩:=qL e2
   obtain ⟨x',q1,q2,q3,q4⟩:=S.fs.mem hj
   have e1:N[i]?=some x:=e1
   rw [e1] at q1
   cases q1
   obtain ⟨m,_,hl⟩:=I3.loc
   obtain ⟨u,ru,lk⟩:=hl j x v q2 hv (by rcases q4 with z | z;exact .inr (.inl z);exact .inr (.inr z))
   refine ⟨u,ru,.inr ⟨jI q3,?_⟩⟩
   rcases lk with ⟨z,_⟩ | ⟨_,c,e,hcc⟩
   ·rcases q4 with y | y <;> (rw [y] at z;cases z)
   ·obtain ⟨c',e'⟩:=hasc q3
    have z:=back e'
    rw [e] at z
    cases z
    obtain ⟨o,ho,hd⟩:=hcc
    exact ⟨c,e',o,k4 _ _ ho,hd⟩
  ·obtain ⟨v,o,ho,hd⟩:=I3.cell x c (back e)
   exact ⟨v,o,k4 _ _ ho,hd⟩
 have hg:=hg cl h3.objs.size { s2 with heap:=h3,toks:=s2.toks } H3 fp
 have hc:=hc cl h3.objs.size { s2 with heap:=h3,toks:=s2.toks } H3 fp
 have he:=he cl h3.objs.size { s2 with heap:=h3,toks:=s2.toks } H3 fp
 generalize hYd:bW X scope cl h3.objs.size N { s2 with heap:=h3,toks:=s2.toks } H3 fp=Y at hg hc he IY fst
 have eP:Y.prog=X.prog:=by rw [<- hYd];rfl
 have ew:Y.w=X.w:=by rw [<- hYd];rfl
 have eK:Y.K=X.K:=by rw [<- hYd];rfl
 have ec:Y.calm=true:=by rw [<- hYd];rfl
 have eA:Y.A=X.A:=by rw [<- hYd];rfl
 have ex:Y.xe=λ _ _=>False:=by rw [<- hYd];rfl
 have ee:Y.env=compEnvC scope cl h3.objs.size X.env:=by rw [<- hYd];rfl
 have outX:∀ {H':Hp} {τ':St} {s':Shared},Inv Y [] τ' H' s'->Inv X pins σ H' s':=λ {H' τ' s'} J=>by
  have J':=J
  rw [<- hYd] at J'
  refine I3.yy J'.os J'.base J'.hok J'.bare λ b hb=>?_
  obtain ⟨_,z1,z2,z3,z4,z5⟩:=f2 b hb
  exact ⟨z3,z1,z4,z5⟩
 have loop:codeAny (model X.prog X.w) X.A (.compLoop (.ListComp elt [⟨tg,iter,ifs,0⟩] scope pos) 0 (.ref it) (.ref s2.heap.objs.size) (compEnvC scope cl h3.objs.size X.env))
   (compPost (model X.prog X.w) X.A X.xe use R' (.ref s2.heap.objs.size) h3.objs.size) { s2 with heap:=h4,toks:=s2.toks }:=by
  refine codeAny_loop rfl (λ m s'=>∃ i ys H2,m=n - i/\i<=n/\ys.length<=i/\W i ys H2/\H2 s2.heap.objs.size=some (.lst ys)/\(∀ b∈fp,H2 b=none)/\Inv Y [] (tau N.length fs σ) H2 s'/\tn i s'.heap) ?_ n
   ⟨0,[],H3,rfl,Nat.zero_le _,Nat.le_refl _,w0,hD3,fr3,IY,T.keep _ _ _ st3 λ b _ o e=>k4 b o e⟩
  rintro m s5 ⟨i,ys,H2,rfl,hi,hy,w5,hD5,fr5,I5,st5⟩
  show wpAny _ X.A ((compTurn (.ListComp elt [⟨tg,iter,ifs,0⟩] scope pos) 0 (.ref it) (.ref s2.heap.objs.size) (compEnvC scope cl h3.objs.size X.env)).onRaise (λ x=>do noteFrame x (compEnvC scope cl h3.objs.size X.env);theTreesLotGoes x)) _ _ s5
  rw [compTurn_list];refine wpAny_noted (wpAny_bind (wpAny_standAt (wpAny_bind ?_)))
  rcases turn i ys H2 hi w5 hD5 with ⟨stop,q⟩ | ⟨hlt,go,step⟩
  ·have h6:=T.done Y eP ew eK ec i [] s5 _ H2 (λ _ _=>False) I5 (fst fr5) st5 stop
   rw [eA] at h6
   refine wpAny_mono h6 (λ r s6 z=>?_) λ _ _ f=>f.elim
   obtain ⟨hr,I6⟩:=z
   subst hr
   refine wpAny_pure (hfin _ _ H2 s6 (outX I6) q ?_ ?_)
   ·obtain ⟨m,hm,_⟩:=I6.loc
    rw [ee] at hm
    exact ⟨m,hm⟩
   ·have z:=I6.free
    rw [ee] at z
    exact I3.rf (Nat.le_refl _) z
  ·have h6:=T.item Y eP ew eK ec i [] s5 _ H2 (λ _ _=>False) I5 (fst fr5) st5 go
   rw [eA] at h6
   refine wpAny_mono h6 (λ r s6 z=>?_) λ _ _ f=>f.elim
   obtain ⟨v,hr,h7⟩:=z
   subst hr
   refine wpAny_bind (wpAny_mono h7 (λ _ s7 z=>?_) λ _ _ f=>f.elim)
   obtain ⟨x,H7,I7,rx,y7,st7,fr7⟩:=z
   have I7':=I7.pinned (fst fr7) (T.obj _ _ st7)
   have h8:=hg _ s7 _ H7 x v _ I7' rx (step x H7 y7)
   rw [eP,ew,eA,ee,ex] at h8
   refine wpAny_bind (wpAny_mono h8 (λ _ s8 z=>?_) λ _ _ f=>f.elim)
   obtain ⟨τ8,H8,I8,w8,q8⟩:=z
   have h9:=hc _ s8 τ8 H8 _ I8 q8
   rw [eP,ew,eA,ee,ex] at h9
   refine wpAny_bind (wpAny_mono h9 (λ ok s9 z=>?_) λ _ _ f=>f.elim)
   obtain ⟨H9,I9,q9⟩:=z
   have iL:∀ {H':Hp} {s':Shared},Inv Y ([]++kK fp s7.heap) τ8 H' s'->tn (i+1) s'.heap/\(∀ b∈fp,H' b=none)/\Inv Y [] (tau N.length fs σ) H' s':=λ {H' s'} J=>by
    refine ⟨T.keep _ _ _ st7 λ b hb o e=>(J.pin (b,o) (List.mem_append_right _ (List.mem_append_right _ (cK hb e)))).1,λ b hb=>?_,J.hU.weak (I5.len.trans J.len.symm) w8⟩
    obtain ⟨o,e,_⟩:=T.obj _ _ st7 b hb
    exact (J.pin (b,o) (List.mem_append_right _ (List.mem_append_right _ (cK hb e)))).2.1
   cases ok with
   | false=>
    obtain ⟨hD9,w9⟩:=(if_neg Bool.false_ne_true ▸ q9:_)
    obtain ⟨z1,z2,z3⟩:=iL I9
    exact wpAny_pure ⟨rfl,n - (i+1),by omega,i+1,ys,H9,rfl,hlt,by omega,w9,hD9,z2,z3,z1⟩
   | true=>
    have q9:=(if_pos rfl ▸ q9:_)
    have h10:=he _ s9 τ8 H9 _ I9 q9
    rw [eP,ew,eA,ee,ex] at h10
    refine wpAny_bind (wpAny_bind (wpAny_mono h10 (λ y s10 z=>?_) λ _ _ f=>f.elim))
    obtain ⟨y',H10,I10,ry,hD10,w10⟩:=z
    have h11:=bE (X:=Y) _ s10 τ8 H10 (.ref s2.heap.objs.size) [y'] _ [y] (λ _ H'=>H'=upd H10 s2.heap.objs.size (.lst (ys++[y']))) I10 rfl (.cons ry .nil) ⟨_,ys,y',rfl,rfl,hD10,by omega,rfl⟩
    rw [eP,ew,eA,ex] at h11
    refine wpAny_bind (wpAny_mono h11 (λ _ s11 z=>?_) λ _ _ f=>f.elim)
    obtain ⟨_,H11,I11,_,e11⟩:=z
    subst e11
    obtain ⟨z1,z2,z3⟩:=iL I11
    exact wpAny_pure (wpAny_pure ⟨rfl,n - (i+1),by omega,i+1,ys++[y'],_,rfl,hlt,by rw [List.length_append,List.length_singleton];omega,w10,ag,z2,z3,z1⟩)
 exact codeAny_compStart_list loop (T.self _ 0 _ _ _ (T.keep _ _ _ st3 λ b _ o e=>k4 b o e) loop)
end
section
variable {X:Cx} {scope:Scope} {N:List Str} {fs:List (Nat×Nat)} {tg elt iter:Expr} {ifs:List Expr} {pos cpos px:Pos} {wi:TI} {g:TG} {tc:TT} {te:TE}
theorem Inv.off {pins:List (Addr×Obj)} {σ:St} {H:Hp} {s:Shared} {C:Addr} {h':Heap} (I:Inv X pins σ H s) (f:kh X pins H C) (hs:Heap.SameBut C s.heap h'):Inv X pins σ H { s with heap:=h' }:=by
 obtain ⟨f0,f1,f2,f3,f4,f5⟩:=f
 exact I.turned (t':=s.toks) (λ b o hb e=>(hs.2 b hb).trans e) f0 f1 f3 f4 f5
theorem hZ (S:nW X scope N fs) (hcalm:X.calm=true) (hi:PI X tg iter wi) (hg:∀ cl C s₀ H fp,PG (bW X scope cl C N s₀ H fp) tg g) (hc:∀ cl C s₀ H fp,PTs (bW X scope cl C N s₀ H fp) ifs tc)
  (he:∀ cl C s₀ H fp,PE (bW X scope cl C N s₀ H fp) elt te) (hs:∀ x,foldedSetIterable iter X.env x=pure x:=by intro _;rfl):PE X (.ListComp elt [⟨tg,iter,ifs,0⟩] scope pos) (tLC N.length fs wi g tc te):=by
 intro pins s σ H Q I h
 rw [eval_ListComp]
 refine o7 (use:=none) S hcalm hi hg hc he hs I h λ D C H2 s' I' q ⟨m,hm⟩ f=>⟨m,hm,λ h' hs'=>?_⟩
 exact ⟨.ref D,H2,I'.off f hs',rfl,q⟩
def sLC (i:Nat) (t:TE):TS:=λ D σ H=>t σ H λ x H1=>D.nx (σ.set i (some x)) H1
theorem j8 {i:Nat} {x:Str} (hN:X.N.Nodup) (hi':X.N[i]?=some x) (hx:Loc X.env.scope x) (S:nW X scope N fs) (hcalm:X.calm=true) (hi:PI X tg iter wi) (hg:∀ cl C s₀ H fp,PG (bW X scope cl C N s₀ H fp) tg g)
  (hc:∀ cl C s₀ H fp,PTs (bW X scope cl C N s₀ H fp) ifs tc) (he:∀ cl C s₀ H fp,PE (bW X scope cl C N s₀ H fp) elt te) (hs:∀ x,foldedSetIterable iter X.env x=pure x:=by intro _;rfl)
  (hsw:swapsWith (.ListComp elt [⟨tg,iter,ifs,0⟩] scope pos) (some (.Name x px)) cpos.line X.env=pure true:=by rfl)
  (hf:X.fn x=true∨X.env.scope.names.lookup x=some .local:=by first | exact .inl rfl | exact .inr rfl | assumption):
  PS X (.Assign [.Name x px] (.ListComp elt [⟨tg,iter,ifs,0⟩] scope pos) cpos) (sLC i (tLC N.length fs wi g tc te)):=by
 intro pins s σ H D I h
 rw [exec_Assign_Name_used _ _ _ _ hsw]
 refine wpAny_bind (wpAny_standAt (wpAny_bind ?_))
 show wpAny _ X.A (do let _ <- comprehension (.ListComp elt [⟨tg,iter,ifs,0⟩] scope pos) scope X.env _ (newList []) false (eval iter X.env) (some (assign (.Name x px) X.env))) _ _ s
 refine wpAny_bind (thn (o7 (use:=some (assign (.Name x px) X.env)) (R':=λ _ s'=>SP X pins D .next s') S hcalm hi hg hc he hs I h λ D' C H2 s' I' q ⟨m,hm⟩ f=>?_) λ _ s' z=>wpAny_pure (wpAny_pure z))
 show wpAny _ X.A (assign (.Name x px) X.env (.ref D')) _ _ s'
 refine wpAny_assign_Name (oS I' hN hi' hx (show RelV (.ref D') (.ref D') from rfl) (λ s2 I2 ⟨a,sb,ha⟩=>⟨m,?_,λ h' hs'=>⟨_,H2,I2.off f hs',q⟩⟩) hf)
 refine hm.sameBut sb ?_
 obtain ⟨_,f1,_,_,f4,_⟩:=f
 rcases ha with z | z
 ·rw [z];exact f1
 ·exact Ne.symm (f4 _ _ z)
end
section
variable {K:PySem.W.Frag} {nN:Nat} {fs:List (Nat×Nat)} {g:TG} {tc:TT} {te:TE} {σ:St} {H:Hp} {Q:VK}
theorem zX {a D:Addr} {xs:List V} {o:HO} (h:SqL K H a xs) (hD:H D=none):SqL K (upd H D o) a xs:=by
 have ne:∀ {u:HO},H a=some u->a≠D:=λ e=>aj e hD
 rcases h with (h | ⟨o',h⟩) | h
 ·exact .inl (.inl (by rw [aq (ne h)];exact h))
 ·exact .inl (.inr ⟨o',by rw [aq (ne h)];exact h⟩)
 ·exact .inr h
end
theorem cm.there {P:Program} {w:World} {H:Hp} {h:Heap} {a:Addr} {o:HO} (x:cm P w H h a o):∃ ob,h.get? a=some ob:=by
 cases o with
 | lst xs=>obtain ⟨_,_,_,_,e⟩:=x;exact ⟨_,e⟩
 | tup xs=>obtain ⟨_,_,_,o,e,_⟩:=x;exact ⟨_,e⟩
 | dK kvs=>obtain ⟨_,_,_,_,o,_,_,e,_⟩:=x;exact ⟨_,e⟩
 | dT kvs=>obtain ⟨_,_,_,_,o,_,_,e,_⟩:=x;exact ⟨_,e⟩
 | set S n=>obtain ⟨o,_,_,_,e,_⟩:=x;exact ⟨_,e⟩
 | ins C dx fs=>obtain ⟨_,_,_,e,_⟩:=x;exact ⟨_,e⟩
 | own y=>obtain ⟨_,e⟩:=x;exact ⟨_,e⟩
 | xd fs=>obtain ⟨_,⟨_,_,_,e,_⟩,_⟩:=x;exact ⟨_,e⟩
 | rng lo hi=>obtain ⟨_,_,_,e⟩:=x;exact ⟨_,e⟩
 | frz ob u=>obtain ⟨e,_⟩:=x;exact ⟨_,e⟩
 | tbl ps=>exact ⟨_,x⟩
 | met f y=>exact ⟨_,x⟩
 | ext φ=>obtain ⟨_,⟨o,e⟩,_⟩:=x;exact ⟨o,e⟩
structure Cov (B:Heap) (l:List Env) (H':Hp) (h:Heap):Prop where
 old:∀ b o,h.get? b=some o->b ∉ frs l->∃ o',B.get? b=some o'
 trk:∀ b u,H' b=some u->∃ o',B.get? b=some o'
def CXE (P:Program) (w:World):CXT:=λ outer H s E e s'=>∃ (a C t:Addr) (B:Heap) (H':Hp),e=.ref a/\Heap.FlyingW B outer a (.ref C) (.ref t) s'.heap/\Cov B outer H' s.heap /\
 Un (frs outer) [] H H' s.heap s'.heap/\HOk P w H' s'.heap/\H' a=none/\s.heap.get? a=none/\AllBare s'.gens/\s'.os=s.os/\E (.ref C) none H'
theorem rd {P:Program} {w:World} {l:List Env} {B h h1 h2 base:Heap} {H H':Hp} (u:Un (frs l) [] H H' h h1) (hok:HOk P w H' h1) (c:Cov B l H' h) (s1:B.StaysIn h1) (s2:B.StaysIn h2) (f:h1.FunFrames base l) (sm:h1.UpToSlots h2):
  Un (frs l) [] H H' h h2/\HOk P w H' h2:=by
 have same:∀ b o,h1.get? b=some o->(∃ o',B.get? b=some o')->h2.get? b=some o:=λ b o e ⟨o',e'⟩=>by
  have z:=s1 b o' e'
  rw [e] at z
  cases z
  exact s2 b o e'
 refine ⟨⟨λ b o e n hb hx=>same b o (u.keep b o e n hb hx) (c.old b o e hb),λ b o e n hb hx=>?_,u.free,λ b o e hx=>?_,u.lj,u.kA,u.kT⟩,λ b o e=>?_⟩
 ·obtain ⟨sl,e1⟩:=u.slot b o e n hb hx
  obtain ⟨_,o1,e2,nf⟩:=f.mem hb
  rw [e1] at e2
  cases e2
  obtain ⟨sl',e3⟩:=sm b _ e1 nf
  exact ⟨sl',e3⟩
 ·obtain ⟨o1,e1⟩:=u.there b o e hx
  by_cases hb:b∈frs l
  ·obtain ⟨_,o2,e2,nf⟩:=f.mem hb
   obtain ⟨sl',e3⟩:=sm b _ e2 nf
   exact ⟨_,e3⟩
  ·exact ⟨o1,same b o1 e1 (c.old b o e hb)⟩
 ·refine (hok b o e).iL (λ a v ha q=>same a v q ?_) (λ _ q=>q) λ _ _ q=>q
  rcases ha with z | z
  ·rw [z];exact c.trk b o e
  ·exact c.trk a _ z
section
variable {P:Program} {w:World} {K:PySem.W.Frag} {mg:Str->Option Value} {base:Heap} {N:List Str} {qual:Str} {scope:Scope} {f:Addr} {cd:Value} {A:Around} {outer:List Env} {s:Shared} {H:Hp} {E E':XK}
theorem yN (h:∀ C d H',E' C d H'->E C d H'):Passes (CXE P w) (kg (CXE P w) P w K mg base N qual scope f cd A outer s H E) E':=by
 intro pins σ H1 s1 e s' I hx
 obtain ⟨a,C,t,B,H',rfl,fl,cov,un,hok,na,nb,bare,os,q⟩:=hx
 have hst:(kg (CXE P w) P w K mg base N qual scope f cd A outer s H E).stack=envOfC qual scope s.heap.objs.size f cd::outer:=rfl
 have ib:Un (frs outer) [] H H1 s.heap s1.heap:=I.base
 have oldL:∀ b o,s.heap.get? b=some o->b ∉ frs outer->b ∉ frs (envOfC qual scope s.heap.objs.size f cd::outer):=λ b o e hb z=>by
  rcases List.mem_cons.mp (I.jC b z) with y | y
  ·have:b=s.heap.objs.size:=y
   exact absurd (Heap.lt_size e) (by rw [this];exact Nat.lt_irrefl _)
  ·exact hb y
 show wpAny _ _ (leaving (envOfC qual scope s.heap.objs.size f cd) (.ref a)) _ _ s'
 refine wpAny_leaves_onW I.ok.frames rfl fl λ h2 fl2 sm=>?_
 obtain ⟨un2,hok2⟩:=rd un hok cov fl.1 fl2.1 fl.2.2.1 sm
 refine ⟨a,C,t,B,H',rfl,fl2,⟨λ b o e hb=>?_,cov.trk⟩,?_,hok2,na,?_,bare,os.trans I.os,h _ _ _ q⟩
 ·obtain ⟨o1,e1⟩:=ib.there b o e (by simp)
  exact cov.old b o1 e1 (oldL b o e hb)
 ·refine ⟨λ b o e n hb hx=>un2.keep b o (ib.keep b o e n hb hx) (ib.free b o e n hx) (oldL b o e hb) hx,λ b o e n hb hx=>?_,λ b o e n hx=>?_,λ b o e hx=>?_,λ b xs e=>un2.lj b xs (ib.lj b xs e),λ b o u e=>un2.kA b o u (ib.kA b o u e),λ b ps e=>?_⟩
  ·obtain ⟨sl,e1⟩:=ib.slot b o e n hb hx
   have hb':b∈frs (envOfC qual scope s.heap.objs.size f cd::outer):=by
    unfold frs
    rw [List.filterMap_cons]
    exact List.mem_cons_of_mem _ hb
   obtain ⟨sl',e2⟩:=un2.slot b _ e1 (ib.free b o e n hx) hb' hx
   exact ⟨sl',e2⟩
  ·obtain ⟨o1,e1⟩:=ib.there b o e hx
   exact un2.free b o1 e1 (ib.free b o e n hx) hx
  ·obtain ⟨o1,e1⟩:=ib.there b o e hx
   exact un2.there b o1 e1 hx
  ·obtain ⟨m1,e1⟩:=ib.kT b ps e
   obtain ⟨m2,e2⟩:=un2.kT b _ e1
   exact ⟨m1++m2,by rw [e2,Array.append_assoc]⟩
 ·cases z:s.heap.get? a with
  | none=>rfl
  | some o=>
   obtain ⟨o1,e1⟩:=ib.there a o z (by simp)
   rw [nb] at e1
   cases e1
end
theorem qI {K:PySem.W.Frag} {h:Heap} {C:Addr} {bmB:List Value} {newId:String} (X:K.In h) (q:PySem.W.excIn K C bmB newId=true):
  ∃ bm N nm q bs hdct sn sub ab col dd k0 k1 k2 k3 k5 mN,h.get? C=some (excClassObj nm q C N bs bm hdct sn sub ab col dd k0 k1 k2 k3 k5 newId)/\h.Ns N mN/\mN "__init__"=none/\OwnTail h bmB bm:=by
 unfold PySem.W.excIn at q
 split at q
 ·rename_i dd cd sl ho
  split at q
  ·rename_i C' bm k0 k1 k2 k3 n k5 hm hs
   simp only [Bool.and_eq_true,beq_iff_eq,Bool.not_eq_true'] at q
   obtain ⟨⟨⟨⟨⟨rfl,rfl⟩,hdel⟩,ht⟩,hok⟩,hni⟩:=q
   obtain ⟨nm,bs,mro,ns,qn,hd,sn,sub,ab,col,del⟩:=cd
   dsimp only at hm hdel hok hni
   subst hm hdel
   obtain ⟨l⟩:=sl
   simp only at hs
   subst hs
   exact ⟨bm,ns,nm,qn,bs,hd,sn,sub,ab,col,dd,k0,k1,k2,k3,k5,_,X _ _ ho,.of_isNs (PySem.W.isNs_of_in X hok),PySem.W.nsMap_none_of_in X hok hni,PySem.W.tail_of_in X ht⟩
  ·cases q
 ·cases q
def wY (C:Addr) (E:XK) (ta:TA):TS:=λ _ σ H=>ta σ H λ _ H1=>E (.ref C) none H1
section
variable {P:Program} {w:World} {K:PySem.W.Frag} {mg:Str->Option Value} {base:Heap} {N:List Str} {qual:Str} {scope:Scope} {f:Addr} {cd:Value} {A:Around} {outer:List Env} {s:Shared} {H:Hp} {E:XK}
theorem bO {x:Str} {C:Addr} {np cpos pos:Pos} {e:Expr} {ta:TA} {B newId initId:String} {bmB:List Value} (FB:ExcBaseFacts B newId initId bmB) (hC:PySem.W.excIn K C bmB newId=true) (hm:mg x=some (.ref C)) (hh:A.handled=none)
  (hg:Gl (kg (CXE P w) P w K mg base N qual scope f cd A outer s H E) x) (ha:PA (kg (CXE P w) P w K mg base N qual scope f cd A outer s H E) [e] ta) (hd:(x==("__debug__":Str))=false:=by decide)
  (he:starEach [e] (envOfC qual scope s.heap.objs.size f cd)=(false,eval e (envOfC qual scope s.heap.objs.size f cd))::starEach [] (envOfC qual scope s.heap.objs.size f cd):=by rfl)
  (hl:∀ σ H Q,ta σ H Q->ta σ H λ xs H1=>xs.length<=sizeLine/\Q xs H1):
  PS (kg (CXE P w) P w K mg base N qual scope f cd A outer s H E) (.Raise (some (.Call (.Name x np) [e] [] cpos)) none pos) (wY C E ta):=by
 intro pins s1 σ H1 D I h
 obtain ⟨bm,Nn,nm,q,bs,hdct,sn,sub,ab,col,dd,k0,k1,k2,k3,k5,mN,hCo,hN,hni,T⟩:=qI I.ok.mod.kin hC
 have kb:∀ {s2:Shared} {H2:Hp},Inv (kg (CXE P w) P w K mg base N qual scope f cd A outer s H E) pins σ H2 s2->∀ b o,base.get? b=some o->s2.heap.get? b=some o:=λ J=>J.bk
 refine wpAny_Raise_call_subT (C:=C) (nm:=nm) (q:=q) (N:=Nn) (bs:=bs) (bm:=bm) (hdct:=hdct) (sn:=sn) (sub:=sub) (ab:=ab) (col:=col) (dd:=dd) (k0:=k0) (k1:=k1) (k2:=k2) (k3:=k3) (k5:=k5) FB (mN:=mN) (T.hasType FB.hasBase)
  (show (A.deeper _).handled=none from hh) (by
   show (backTo cpos (starEach [e] (envOfC qual scope s.heap.objs.size f cd))).any (·.1)=false
   rw [he];rfl) hni (jN I hg hm ⟨rfl,?_⟩ hd)
 have ha':=thn (ha cpos pins s1 σ H1 _ I (hl _ _ _ h)) λ us s2 (z:AP _ _ _ _ us s2)=>z
 show wpAny _ _ (evalArgs (.ref C) true (backTo cpos (starEach [e] (envOfC qual scope s.heap.objs.size f cd))) []) _ _ s1
 have ha'':wpAny (model P w) (A.deeper (envOfC qual scope s.heap.objs.size f cd)) (spliced (backTo cpos (starEach [e] (envOfC qual scope s.heap.objs.size f cd)))) _ _ s1:=ha'
 rw [he] at ha'' ⊢
 refine Calls.evalArgs_plain (thn ha'' λ us s2 z=>?_)
 obtain ⟨vs,H2,I2,rv,hz,hE⟩:=z
 refine ⟨rfl,by rw [<- rv.length];exact hz,kb I2 _ _ hCo,hN.keeps (kb I2),T.keeps (kb I2),λ h' a hx=>?_⟩
 show wpAny _ _ (leaving (envOfC qual scope s.heap.objs.size f cd) (.ref a)) _ _ _
 have hin:∀ env∈(envOfC qual scope s.heap.objs.size f cd::outer),∀ b,env.frame=some b->b∈frs (envOfC qual scope s.heap.objs.size f cd::outer):=λ env he b hb=>List.mem_filterMap.mpr ⟨env,he,hb⟩
 have FF:s2.heap.FunFrames (PySem.W.hideAll s2.heap (frs (envOfC qual scope s.heap.objs.size f cd::outer))) (envOfC qual scope s.heap.objs.size f cd::outer):=PySem.W.funFrames_hide I2.stack hin
 refine wpAny_leaves_madeW I.ok.frames rfl (λ b o q=>PySem.W.of_hideAll _ q) FF hx λ h2 t fl tup nt sm=>?_
 have ib:Un (frs outer) [] H H2 s.heap s2.heap:=I2.base
 have oldL:∀ b o,s.heap.get? b=some o->b ∉ frs outer->b ∉ frs (envOfC qual scope s.heap.objs.size f cd::outer):=λ b o e hb z=>by
  rcases List.mem_cons.mp (I2.jC b z) with y | y
  ·have:b=s.heap.objs.size:=y
   exact absurd (Heap.lt_size e) (by rw [this];exact Nat.lt_irrefl _)
  ·exact hb y
 have cov:Cov (PySem.W.hideAll s2.heap (frs (envOfC qual scope s.heap.objs.size f cd::outer))) outer H2 s.heap:=by
  refine ⟨λ b o e hb=>?_,λ b u e=>?_⟩
  ·obtain ⟨o1,e1⟩:=ib.there b o e (by simp)
   exact ⟨o1,PySem.W.hideAll_get _ e1 (oldL b o e hb)⟩
  ·obtain ⟨o1,e1⟩:=(I2.hok b u e).there
   refine ⟨o1,PySem.W.hideAll_get _ e1 λ z=>?_⟩
   rw [I2.j4 b z] at e
   cases e
 have f2:h'.FunFrames (PySem.W.hideAll s2.heap (frs (envOfC qual scope s.heap.objs.size f cd::outer))) outer:=by
  have z:h'.FunFrames (PySem.W.hideAll s2.heap (frs (envOfC qual scope s.heap.objs.size f cd::outer))) (envOfC qual scope s.heap.objs.size f cd::outer):=FF.of_keeps λ b o hb _=>⟨o,hx.keeps b o hb,rfl⟩
  obtain ⟨_,_,z⟩:=z
  exact z
 have u1:Un (frs outer) [] H H2 s.heap h':=⟨λ b o e n hb hx'=>hx.keeps _ _ (ib.keep b o e n hb hx'),λ b o e n hb hx'=>let ⟨sl,z⟩:=ib.slot b o e n hb hx';⟨sl,hx.keeps _ _ z⟩,ib.free,λ b o e hx'=>let ⟨o1,z⟩:=ib.there b o e hx';⟨o1,hx.keeps _ _ z⟩,ib.lj,ib.kA,ib.kT⟩
 have na2:∀ {b:Addr},s2.heap.get? b=none->H2 b=none:=λ {b} e=>by
  cases z:H2 b with
  | none=>rfl
  | some u=>
   obtain ⟨o1,e1⟩:=(I2.hok b u z).there
   rw [e] at e1
   cases e1
 obtain ⟨un2,hok2⟩:=rd u1 (I2.hok.kept hx.keeps) cov (λ b o z=>hx.keeps _ _ (PySem.W.of_hideAll _ z)) fl.1 f2 sm
 refine ⟨a,C,t,_,H2,rfl,fl,cov,un2,hok2,na2 hx.new,?_,I2.bare,I2.os,hE⟩
 cases z:s.heap.get? a with
 | none=>rfl
 | some o=>
  obtain ⟨o1,e1⟩:=ib.there a o z (by simp)
  rw [hx.new] at e1
  cases e1
end
def excφ (a C:Addr) (h:Heap):Prop:=∃ o vs,h.get? a=some o/\o.cls=.ref C/\o.data=.fields vs
abbrev Ex (a C:Addr):HO:=.ext (excφ a C)
section
variable {X:Cx} {pins:List (Addr×Obj)} {σ:St} {H:Hp} {s:Shared}
theorem Inv.BR {a:Addr} {o:HO} (I:Inv X pins σ H s) (hn:H a=none) (h0:X.s₀.heap.get? a=none) (hL:a≠X.env.locals) (hc:∀ x c,X.env.cells.lookup x=some c->c≠a) (hp:∀ p∈X.pn++pins,p.1≠a)
  (new:cm X.prog X.w (upd H a o) s.heap a o):Inv X pins σ (upd H a o) s:=by
 have ne:∀ b u,H b=some u->b≠a:=λ b u e z=>by rw [z,hn] at e;cases e
 refine ⟨I.ok,I.os,I.bare,⟨I.base.keep,I.base.slot,λ b ob e n hx=>?_,I.base.there,λ b xs e=>?_,λ b ob u e=>?_,λ b ps e=>?_⟩,I.loc,I.cell,?_,λ x c e=>?_,λ p q=>?_,λ b u e=>?_,I.len⟩
 ·rw [aq (λ z=>by rw [z,h0] at e;cases e)]
  exact I.base.free b ob e n hx
 ·have z:=I.base.lj b xs e
  rw [aq (ne _ _ z)]
  exact z
 ·have z:=I.base.kA b ob u e
  rw [aq (ne _ _ z)]
  exact z
 ·obtain ⟨m,z⟩:=I.base.kT b ps e
  exact ⟨m,by rw [aq (ne _ _ z)];exact z⟩
 ·rw [aq (Ne.symm hL)]
  exact I.free
 ·rw [aq (hc x c e)]
  exact I.fZ x c e
 ·obtain ⟨z1,z2,z3⟩:=I.pin p q
  exact ⟨z1,by rw [aq (hp p q)];exact z2,z3⟩
 ·by_cases z:b=a
  ·subst z
   rw [ag] at e
   cases e
   exact new
  ·rw [aq z] at e
   exact (I.hok b u e).iL (λ _ _ _ q=>q) (λ c q=>by rw [aq (ne _ _ q)];exact q) λ c xs q=>by rw [aq (ne _ _ q)];exact q
end
section
variable {M:Model} {A:Around} {E:Value->Shared->Prop}
end
section
variable {X:Cx} {k:Nat} {f C:Addr} {fd:FuncData} {ps:List Str} {sp:Sp} {ds:List Value} {dvs:List V} {E:XK} {x:Str} {p pos:Pos} {e:Expr} {es:List Expr} {t:TA}
end
section
variable {X:Cx}
end
end L2
namespace L2
open PySem PySem.Spec PyProof.Rows PySem.W
theorem oE {prog:Program} {w:World} {A:Around} {h:Heap} {g:Array GenState} {d:Drawn} {t:Nat} {os:OsState} {a C Nn:Addr} {o:Obj} {bm bmB:List Value} {nm q:Str} {bs:List Value} {hdct:Bool} {sn:List Str} {sub:List Value} {ab:Bool} {col:Option Bool} {dd:Option Addr} {k0 k1 k2 k3 k5:Option Value} {newId:String}
  {R:Result->Shared->Prop} (hCo:h.get? C=some (excClassObj nm q C Nn bs bm hdct sn sub ab col dd k0 k1 k2 k3 k5 newId)) (T:OwnTail h bmB bm) (hob:bmB.contains (.type "object")=true) (hx:h.get? a=some o) (hc:o.cls=.ref C) (hq:R (.ok (.ret (.ref C))) ⟨h,g,d,t,os⟩):
  codeAny (model prog w) A (.call (.builtin "getset_descriptor.__get__") ⟨[.builtin "object.__class__",.ref a,.ref C],[]⟩) R ⟨h,g,d,t,os⟩:=by
 have hT5:(⟨h,g,d,t,os⟩:Shared).TypeIs (.builtin "object.__class__") "getset_descriptor":=F.typeOf_object_class
 have ow:".".intercalate ("object.__class__".cutAt '.').dropLast="object":=by decide +kernel
 have hcB:(Value.ref C::bm).contains (.type (".".intercalate ("object.__class__".cutAt '.').dropLast))=true:=by
  rw [ow,List.contains_cons,T.hasType hob]
  rfl
 refine codeAny_call_builtin F.slot_gs_get.plain F.entry_gs_get (F.slot_gs_get.check _ _ _ _ _ _ _ _ hT5 (F.args_gs_get _ _ _) ?_)
 repeat (any_goals (first | assumption | (with_reducible refine wpAny_loadPart_at hx ?_;rw [hc]) | (with_reducible refine wpAny_isSubtype_exc hCo ?_;rw [hcB]) | wp_step))
 refine ⟨Code.quiet_builtin _ (by decide +kernel),codeAny_builtin F.entry_object_class ?_⟩
 repeat (any_goals (first | assumption | (with_reducible refine wpAny_loadPart_at hx ?_;rw [hc]) | wp_step))
theorem Ap {prog:Program} {w:World} {A:Around} {E:Value->Shared->Prop} {s:Shared} {K:Frag} {a C:Addr} {o:Obj} {vs:Array Value} {bmB:List Value} {B newId:String} {Q:Option Value->Shared->Prop} (X:K.In s.heap) (FB:ExcAttrBase B bmB) (hC:excIn K C bmB newId=true)
  (hga:findIn K (.ref C) "__getattribute__"=some (some (.builtin "BaseException.__getattribute__"))) (hgt:findIn K (.ref C) "__getattr__"=some none)
  (ha:findIn K (.ref C) "__class__"=some (some (.builtin "object.__class__")))
  (hn:specialIn K (.builtin "object.__class__") "__get__"=some (some (.builtin "getset_descriptor.__get__"))) (htk:takesIn K (.builtin "object.__class__")=some true) (hm:mroIn K C (.type "object")=some true)
  (hob:bmB.contains (.type "object")=true) (hx:s.heap.get? a=some o) (hc:o.cls=.ref C) (hd:o.data=.fields vs) (k:Q (some (.ref C)) { s with toks:=s.toks+1 }):wpAny (model prog w) A (getAttr? (.ref a) "__class__") Q E s:=by
 obtain ⟨h,g,d,t,os⟩:=s
 obtain ⟨bm,Nn,nm,q,bs,hdct,sn,sub,ab,col,dd,k0,k1,k2,k3,k5,mN,hCo,hN,hni,T⟩:=qI X hC
 have L0:Looks (model prog w) h (typeOf (.ref a)) (.ref C):=hc ▸ (Looks.ld hx).andThen .now
 have L1:=looks_findIn (M:=model prog w) X hga
 have L2:=looks_findIn (M:=model prog w) X hgt
 have L3:=looks_findIn (M:=model prog w) X ha
 have f3:=FB.ga.bind (.ref a)
 unfold getAttr? getAttrBy? getAttrBy
 refine wpAny_bind (wpAny_mkText (wpAny_bind (wpAny_attempt (wpAny_holding (wpAny_bind (L0.at (wpAny_bind (L1.at ?_))))))))
 have hx2:(Value.builtin "BaseException.__getattribute__"==Value.builtin "object.__getattribute__")=false:=by decide +kernel
 have hx1:(onTheHeap (Value.ref C)&&Value.builtin "BaseException.__getattribute__"==Value.builtin "object.__getattribute__")=false:=by rw [hx2];rfl
 repeat (any_goals (first | assumption | with_reducible refine wpAny_bind (L2.at ?_) | wp_step))
 refine codeAny_call_builtin FB.ga.plain F.entry_bexc_ga ?_
 have hob:bmB.contains (.type "object")=true:=hob
 have hcB:(Value.ref C::bm).contains (.type "BaseException")=true:=by rw [List.contains_cons,T.hasType FB.hasBase];rfl
 have hkd:builtinKind "BaseException.__getattribute__"=some .slot:=by decide +kernel
 have hsp:splitId "BaseException.__getattribute__"=some ("BaseException","__getattribute__"):=by decide +kernel
 have hag:=F.args_bexc_ga (.ref a) (.str "__class__" t)
 simp only [checkBuiltinCall,hkd,hsp]
 refine wpAny_bind ?_
 unfold isInstance
 repeat (first | (with_reducible refine wpAny_loadPart_at hx ?_;rw [hc]) | (with_reducible refine wpAny_isSubtype_exc hCo ?_;rw [hcB]) | wp_step)
 have f5:=F.typeOf_object_class
 have f6:=F.slot_gs_get.lookup
 have f7:=F.slot_gs_set.lookup
 repeat (any_goals (first | assumption | (with_reducible refine wpAny_loadPart_at hx ?_;rw [hc]) | with_reducible refine L3.at ?_ | wp_step))
 refine oE hCo T hob hx hc (wpAny_pure ?_)
 exact handed_on rfl (wpAny_pure k)
section
variable {X:Cx}
theorem ja:OpR X (compareOp .LtE) (λ x y H Q=>∃ i j,x=.str i/\y=.str j/\Q (.bl (!decide (j.cps.toList<i.cps.toList))) H):=by
 intro pins s σ H x y v u Q I rx ry h
 obtain ⟨i,j,rfl,rfl,q⟩:=h
 obtain ⟨t,rfl⟩:=rx
 obtain ⟨t',rfl⟩:=ry
 exact PySem.P.le_str (bj I q rfl)
def u6 (_ j:Int):Prop:=0<j/\j.natAbs.log2<9000
theorem iY:OpR X (binaryOp .FloorDiv) (rI u6 λ i j=>.int (i / j)):=opI λ i j _ _ _ _ _ hc q=>by
 refine floordiv_int (by have:=hc.1;omega) ?_ (.inl (PyProof.noPylong_of_log2 hc.2))
 rw [Int.fdiv_eq_ediv_of_nonneg _ (Int.le_of_lt hc.1)]
 exact q
def eqL (xs ys:List V):Bool:=xs.length==ys.length&&(xs.zip ys).all λ p=>eqV p.1 p.2
theorem uU {f:Nat->Bool}:∀ {xs ys:List V},xs.length=ys.length->(∀ j x y,xs[j]?=some x->ys[j]?=some y->f j=eqV x y)->(List.range xs.length).all f=(xs.zip ys).all λ p=>eqV p.1 p.2
 | [],[],_,_=>rfl
 | x::xs,y::ys,hl,h=>by
  rw [List.length_cons,List.range_succ_eq_map,List.all_cons,List.all_map,List.zip_cons_cons,List.all_cons,h 0 x y rfl rfl]
  refine congrArg (eqV x y&&·) ?_
  exact uU (f:=f∘Nat.succ) (by simpa using hl) λ j a b h1 h2=>h (j+1) a b (by simpa using h1) (by simpa using h2)
def Hk (K:PySem.W.Frag) (neg:Bool):R2:=λ x y H Q=>∃ a b xs ys,x=.ref a/\y=.ref b/\((SqL K H a xs/\SqL K H b ys)∨(SqT K H a xs/\SqT K H b ys))/\xs.all eC=true/\ys.all eC=true/\Q (.bl (if neg then !eqL xs ys else eqL xs ys)) H
theorem rD {xs ys:List V} {us vs:List Value} {A:Around} {s:Shared} (rx:Vals xs us) (ry:Vals ys vs) (fx:xs.all eC=true) (fy:ys.all eC=true) (j:Nat) (h1:j<us.toArray.size) (h2:j<vs.toArray.size):
  SeqAt.EqAt A s us.toArray[j] vs.toArray[j] (match xs[j]?,ys[j]? with | some x,some y=>eqV x y | _,_=>false):=by
 have l1:=rx.length
 have l2:=ry.length
 have k1:j<xs.length:=by simpa [l1] using h1
 have k2:j<ys.length:=by simpa [l2] using h2
 obtain ⟨u,eu,ru⟩:=rx.get (List.getElem?_eq_getElem k1)
 obtain ⟨v,ev,rv⟩:=ry.get (List.getElem?_eq_getElem k2)
 have e1:us.toArray[j]=u:=by
  have:us[j]'(by simpa using h1)=u:=by
   rw [List.getElem?_eq_getElem (by simpa using h1)] at eu
   exact Option.some.inj eu
  simpa using this
 have e2:vs.toArray[j]=v:=by
  have:vs[j]'(by simpa using h2)=v:=by
   rw [List.getElem?_eq_getElem (by simpa using h2)] at ev
   exact Option.some.inj ev
  simpa using this
 rw [e1,e2,List.getElem?_eq_getElem k1,List.getElem?_eq_getElem k2]
 exact yV ru rv (List.all_eq_true.mp fx _ (List.getElem_mem k1)) (List.all_eq_true.mp fy _ (List.getElem_mem k2))
theorem rX {xs ys:List V} (h:xs.length=ys.length):(List.range xs.length).all (λ j=>match xs[j]?,ys[j]? with | some x,some y=>eqV x y | _,_=>false)=eqL xs ys:=by
 rw [uU h λ j x y h1 h2=>by rw [h1,h2]]
 unfold eqL
 rw [h,beq_self_eq_true,Bool.true_and]
theorem nj (hu:X.A.units<cLine):OpR X (compareOp .Eq) (Hk X.K false):=by
 intro pins s σ H x y v u Q I rx ry h
 obtain ⟨a,b,xs,ys,rfl,rfl,hs,fx,fy,q⟩:=h
 cases rx
 cases ry
 rcases hs with ⟨h1,h2⟩ | ⟨h1,h2⟩
 ·obtain ⟨us,r1,p1,_⟩:=I.list h1
  obtain ⟨vs,r2,p2,_⟩:=I.list h2
  have l1:=r1.length
  have l2:=r2.length
  by_cases e:xs.length=ys.length
  ·refine SeqAt.eq_listAt p1.isList p2.isList (by simp;omega) hu (λ j k1 k2=>rD r1 r2 fx fy j k1 k2) (bj I q ?_)
   rw [List.size_toArray,<- l1,rX e]
   rfl
  ·refine SeqAt.eq_list_lengthsAt p1.isList p2.isList (by simp;omega) hu (bj I q ?_)
   show eqL xs ys=false
   unfold eqL
   rw [beq_eq_false_iff_ne.mpr e,Bool.false_and]
 ·obtain ⟨us,r1,p1,_⟩:=I.tuple h1
  obtain ⟨vs,r2,p2,_⟩:=I.tuple h2
  have l1:=r1.length
  have l2:=r2.length
  refine SeqAt.eq_tupleAt (show s.heap.IsTuple a us.toArray from p1) (show s.heap.IsTuple b vs.toArray from p2) hu (λ j k1 k2=>rD r1 r2 fx fy j k1 k2) (bj I q ?_)
  show eqL xs ys=_
  rw [List.size_toArray,List.size_toArray,<- l1,<- l2]
  by_cases e:xs.length=ys.length
  ·rw [e,Nat.min_self,beq_self_eq_true,Bool.and_true,<- e,rX e]
  ·unfold eqL
   rw [beq_eq_false_iff_ne.mpr e,Bool.false_and,Bool.and_false]
def yp (K:PySem.W.Frag):V->List V->Hp->VK->Prop:=λ x vs H Q=>∃ l xs y,x=.ref l/\vs=[y]/\H l=some (.lst xs)/\xs.all eC=true/\eC y=true/\Q (.int ((xs.countP λ z=>eqV z y:Nat):Int)) H
theorem ng {x:V}:∀ {xs:List V} {us:List Value},Vals xs us->xs.all eC=true->us.countP (eqU x)=xs.countP λ z=>eqV z x
 | _,_,.nil,_=>rfl
 | _,_,.cons r t,h=>by
  rw [List.all_cons,Bool.and_eq_true] at h
  rw [List.countP_cons,List.countP_cons,ng t h.2,sO r h.1]
theorem xN:MtR X "list.count" (yp X.K):=by
 intro pins s σ H x vs v us Q I rx rv h
 obtain ⟨l,xs,y,rfl,rfl,hH,fx,fy,q⟩:=h
 cases rx
 obtain ⟨u,rfl,ru⟩:=rv.one
 obtain ⟨z,its,n,r,hl,e⟩:=I.p6 hH
 refine call_meets F.slot_list_count ⟨_,e,rfl⟩ F.entry_list_count (F.args_list_count_2 _ _) (SeqAt.list_countAt l its.toArray n none #[] u (eqU y)) ⟨e,λ w hw=>j7 ru fy r fx w (by simpa using hw),?_⟩
 refine ⟨.int _,H,I.tok _,⟨s.toks,?_⟩,q⟩
 rw [List.toList_toArray,ng r fx]
def rJoin (K:PySem.W.Frag):V->List V->Hp->VK->Prop:=λ x vs H Q=>∃ z p ys,x=.str z/\vs=[.ref p]/\SqL K H p (ys.map V.str)/\(ys.map (·.length)).sum+ys.length * z.length<=16777216/\Q (.str (Txt.join z ys)) H
theorem vH:∀ {ys:List Str} {us:List Value},Vals (ys.map V.str) us->StrsAre us ys
 | [],_,.nil=>.nil
 | y::ys,_,.cons r t=>by
  obtain ⟨k,rfl⟩:=r
  exact .cons _ _ (vH t)
theorem qb:MtR X "str.join" (rJoin X.K):=by
 intro pins s σ H x vs v us Q I rx rv h
 obtain ⟨z,p,ys,rfl,rfl,hq,hz,q⟩:=h
 obtain ⟨t,rfl⟩:=rx
 obtain ⟨u,rfl,ru⟩:=rv.one
 cases ru
 obtain ⟨its,r,pl,_⟩:=I.list hq
 exact PyProof.Rows.join_list pl.isList (by simpa using vH r) hz λ t' k=>⟨.str _,H,I.tok _,⟨_,rfl⟩,q⟩
end
section
variable {X:Cx} {tg:Expr}
def Its (x:Str):It:=⟨λ i _=>i<x.cps.size,λ i H v H'=>H'=H/\∃ c,x.cps[i]?=some c/\v=.str ⟨#[c]⟩,λ i _=>x.cps.size<=i⟩
theorem xi {P:Program} {w:World} {K:PySem.W.Frag} {tg:Expr} (it:Addr) (x:Str) (t:Tok) (ty:String) (hn:["enumerate","zip","dict_itemiterator","dict_reverseitemiterator","odict_iterator","itertools.zip_longest","itertools.pairwise"].contains ty=false)
  (W:∀ A:Around,A.handled=none->Walks P w A it [it] [it] x.cps.size (SignAt x) (λ i h=>h.IsStrIter it ty x t i))
  (hself:∀ (A:Around) (i:Nat) (s:Shared) (Q:Value->Shared->Prop) (E:Value->Shared->Prop),s.heap.IsStrIter it ty x t i->Q (.ref it) s->wpAny (model P w) A (pyIter (.ref it)) Q E s):Turn P w K tg (Its x) [it] it (λ i h=>i<=x.cps.size/\h.IsStrIter it ty x t i) where
 mem:=by simp
 obj:=λ i h st b hb=>by
  have e:b=it:=by simpa using hb
  subst e
  obtain ⟨_,o,e,c,d⟩:=st
  exact ⟨o,e,λ v z=>by rw [d] at z;cases z⟩
 keep:=λ i h h' st k=>⟨st.1,let ⟨o,e,r⟩:=st.2;⟨o,k it (by simp) o e,r⟩⟩
 item:=by
  intro X hP hw hK hc i pins s σ H E I hf st hg
  subst hP hw hK
  obtain ⟨f0,f1,f2,f3,f4,f5⟩:=hf it (by simp)
  refine (W X.A (I.ok.hd hc)).item i s _ _ hg st.2 λ v h' tk hv st' kk=>?_
  obtain ⟨c,u,hc,rfl⟩:=hv
  have I1:Inv X pins σ H { s with heap:=h',toks:=tk }:=I.turned (λ b o hb e=>kk b o (by simpa using hb) e) f0 f1 f3 f4 f5
  obtain ⟨o,e,c1,d⟩:=id st'
  have hg:i<x.cps.size:=hg
  exact ⟨_,rfl,vF (s:={ s with heap:=h',toks:=tk }) e c1 d hn ⟨.str ⟨#[c]⟩,H,I1,⟨u,rfl⟩,⟨rfl,c,hc,rfl⟩,⟨hg,st'⟩,λ b hb=>(hf b hb).1⟩⟩
 done:=by
  intro X hP hw hK hc i pins s σ H E I hf st hg
  subst hP hw hK
  obtain ⟨f0,f1,f2,f3,f4,f5⟩:=hf it (by simp)
  have e:i=x.cps.size:=by have:x.cps.size<=i:=hg;have:=st.1;omega
  subst e
  exact (W X.A (I.ok.hd hc)).done s _ _ st.2 λ h' tk kk=>⟨rfl,I.turned (λ b o hb e=>kk b o (by simpa using hb) e) f0 f1 f3 f4 f5⟩
 self:=λ A i s Q E st h=>hself A i s Q E st.2 h
def ET (tl:TE):TI:=λ σ H R=>tl σ H λ x H1=>∃ z,x=.str z/\R (Its z) H1
theorem tS {l:Expr} {tl:TE} (hl:PE X l tl):PI X tg l (ET tl):=by
 intro pins s σ H R I h
 refine thn (hl pins s σ H _ I h) λ v s1 ⟨x,H1,I1,r1,q1⟩=>?_
 obtain ⟨z,rfl,q⟩:=q1
 obtain ⟨t,rfl⟩:=r1
 have fin:∀ (ty:String),["enumerate","zip","dict_itemiterator","dict_reverseitemiterator","odict_iterator","itertools.zip_longest","itertools.pairwise"].contains ty=false ->
   (∀ A:Around,A.handled=none->Walks X.prog X.w A s1.heap.objs.size [s1.heap.objs.size] [s1.heap.objs.size] z.cps.size (SignAt z) (λ i h=>h.IsStrIter s1.heap.objs.size ty z t i)) ->
   (∀ (A:Around) (i:Nat) (s:Shared) (Q:Value->Shared->Prop) (E:Value->Shared->Prop),s.heap.IsStrIter s1.heap.objs.size ty z t i->Q (.ref s1.heap.objs.size) s->wpAny (model X.prog X.w) A (pyIter (.ref s1.heap.objs.size)) Q E s) ->
   ∀ o:Obj,(s1.heap.push o).IsStrIter s1.heap.objs.size ty z t 0->PIE X pins σ tg R (.ref s1.heap.objs.size) { s1 with heap:=s1.heap.push o }:=λ ty hn W hself o st=>
  ⟨s1.heap.objs.size,[s1.heap.objs.size],_,Its z,H1,rfl,I1.kept (t':=s1.toks) λ b o e=>Heap.get?_push_of_some _ e,xi _ z t ty hn W hself,⟨Nat.zero_le _,st⟩,λ b hb=>by
   have e:b=s1.heap.objs.size:=by simpa using hb
   subst e
   exact I1.rf (Nat.le_refl _) (I1.hok.fresh (Nat.le_refl _)),q⟩
 cases ha:z.cps.all (·<128)
 ·exact wpAny_pyIter_wide ha (fin "str_iterator" (by decide) (λ A hA=>Walks.strWide hA _ z t) (λ A i s Q E st h=>wpAny_pyIter_striter_wide st h) _ ⟨_,Heap.get?_push_size _ rfl,rfl,rfl⟩)
 ·exact wpAny_pyIter_ascii ha (fin "str_ascii_iterator" (by decide) (λ A hA=>Walks.strAscii hA _ z t) (λ A i s Q E st h=>wpAny_pyIter_striter_ascii st h) _ ⟨_,Heap.get?_push_size _ rfl,rfl,rfl⟩)
def Hc:V->Option Int->Option Int->Hp->VK->Prop:=λ x lo hi H Q=>∃ z,x=.str z/\z.length<=sizeLine/\Q (.str (Txt.slice z lo hi)) H
theorem kP:SlR X Hc:=by
 intro pins s σ H x v vl vu lo hi sl Q I rx hs pl pu h
 obtain ⟨z,rfl,hz,q⟩:=h
 obtain ⟨t,rfl⟩:=rx
 refine ⟨"str",_,PySem.F.slot_str_getitem.lookup,typeIs_str _ _ _,?_⟩
 have fin:∀ {r:Str},r=Txt.slice z lo hi->∀ t' k,EP X pins σ Q (.str r t') { s with toks:=k }:=λ e t' k=>⟨.str _,H,I.tok _,⟨t',by rw [e]⟩,q⟩
 cases pl with
 | none=>
  cases pu with
  | none=>exact wpAny_getItem_str_slice (l:=none) (u:=none) (st:=none) hs rfl (post_val_or_str ⟨Nat.le_trans (Txt.slice_le z _ _) hz,λ t' k=>fin rfl t' k⟩)
  | int j uj=>exact wpAny_getItem_str_slice (l:=none) (u:=some (j,uj)) (st:=none) hs rfl (post_val_or_str ⟨Nat.le_trans (Txt.slice_le z _ _) hz,λ t' k=>fin rfl t' k⟩)
 | int i ui=>
  cases pu with
  | none=>exact wpAny_getItem_str_slice (l:=some (i,ui)) (u:=none) (st:=none) hs rfl (post_val_or_str ⟨Nat.le_trans (Txt.slice_le z _ _) hz,λ t' k=>fin rfl t' k⟩)
  | int j uj=>exact wpAny_getItem_str_slice (l:=some (i,ui)) (u:=some (j,uj)) (st:=none) hs rfl (post_val_or_str ⟨Nat.le_trans (Txt.slice_le z _ _) hz,λ t' k=>fin rfl t' k⟩)
theorem sk {prog:Program} {w:World} {A:Around} {bs:List Bool}:TruthOf prog w A (λ i v=>(bs.map Value.bool).toArray[i]?=some v) (λ i=>bs.getD i false):=by
 intro i v s Q E h q
 have h:(bs.map Value.bool)[i]?=some v:=by simpa using h
 rw [List.getElem?_map] at h
 cases e:bs[i]? with
 | none=>rw [e] at h;cases h
 | some b=>
  rw [e] at h
  cases h
  have e2:bs.getD i false=b:=by simp [List.getD,e]
  have q:Q (bs.getD i false) s:=q
  rw [e2] at q
  exact wpAny_truthy_bool q
theorem sE (f:List Nat->(Nat->Bool)->Bool) (bs:List Bool):(List.range bs.length).map (λ i=>bs.getD i false)=bs:=by
 refine List.ext_getElem? λ i=>?_
 rw [List.getElem?_map]
 rcases Nat.lt_or_ge i bs.length with h | h
 ·simp [h]
 ·simp [h]
theorem rz:∀ {bs:List Bool} {us:List Value},Vals (bs.map V.bl) us->us=bs.map Value.bool
 | [],_,.nil=>rfl
 | b::bs,_,.cons r t=>by
  have r:_=Value.bool b:=r
  rw [r,rz t]
  rfl
theorem oQ (hc:X.calm=true):fA X (.builtin "all") (λ xs H Q=>∃ (p:Addr) (bs:List Bool),xs=[.ref p]/\SqL X.K H p (bs.map V.bl)/\Q (.bl (bs.all id)) H):=by
 intro pins s σ H xs us Q I r h
 obtain ⟨p,bs,rfl,hq,q⟩:=h
 obtain ⟨u,rfl,rx⟩:=vals1 r
 cases rx
 obtain ⟨its,rv,pl,hz⟩:=I.list hq
 have e:=rz rv
 subst e
 have hlt:p<s.heap.objs.size:=let ⟨_,z,_⟩:=pl.isList;Heap.lt_size z
 refine call_all_walk (wpAny_pyIter_list pl.isList ⟨s.heap.objs.size,_,_,_,_,_,λ i=>bs.getD i false,rfl,Walks.list (A:=X.A.in1) (I.ok.hd hc) s.heap.objs.size p (Nat.ne_of_lt hlt) _,⟨⟨_,Heap.get?_push_size _ rfl,rfl,rfl⟩,pl.isList.push _⟩,sk,λ h' tk kk=>?_⟩)
 have I1:Inv X pins σ H { s with heap:=h',toks:=tk }:=I.kept λ b o e=>kk b o (by
  intro z
  have z:b=s.heap.objs.size:=by simpa using z
  exact absurd (Heap.lt_size e) (by rw [z];exact Nat.lt_irrefl _)) (Heap.get?_push_of_some _ e)
 refine ⟨.bl _,H,I1,?_,q⟩
 have z:((bs.map Value.bool).toArray.size)=bs.length:=by simp
 rw [z]
 have y:bs.all id=(List.range bs.length).all (λ i=>bs.getD i false):=by
  conv=>lhs;rw [<- sE (λ _ _=>true) bs]
  rw [List.all_map]
  rfl
 rw [y]
 rfl
end
section
variable {X:Cx}
structure Ai (K:PySem.W.Frag) (C:Addr):Prop where
 ex:PySem.W.excIn K C [.type "ValueError",.type "Exception",.type "BaseException",.type "object"] "ValueError.__new__"=true
 ga:PySem.W.findIn K (.ref C) "__getattribute__"=some (some (.builtin "BaseException.__getattribute__"))
 gt:PySem.W.findIn K (.ref C) "__getattr__"=some none
 cl:PySem.W.findIn K (.ref C) "__class__"=some (some (.builtin "object.__class__"))
 gs:PySem.W.specialIn K (.builtin "object.__class__") "__get__"=some (some (.builtin "getset_descriptor.__get__"))
 tk:PySem.W.takesIn K (.builtin "object.__class__")=some true
 ob:PySem.W.mroIn K C (.type "object")=some true
theorem xp {K:PySem.W.Frag} {a C:Addr} (e:Ai K C):PySem.W.KitX K (.ref a) (.ref C) (excφ a C) where
 ty:=λ M h _ p=>by
  obtain ⟨o,vs,h1,h2,_⟩:=p
  exact h2 ▸ (PySem.W.Looks.ld h1).andThen .now
 it:=λ M h X p=>by
  obtain ⟨bm,N,nm,q,bs,hdct,sn,sub,ab,col,dd,k0,k1,k2,k3,k5,mN,hC,_⟩:=qI X e.ex
  intro A' Q' E' s' k q
  unfold isType loadHead
  exact wpAny_bind (wpAny_loadPart (k _ _ hC) (wpAny_pure q))
 ne:=λ h tp dd' its n sl X htp=>by
  obtain ⟨bm,N,nm,q,bs,hdct,sn,sub,ab,col,dd,k0,k1,k2,k3,k5,mN,hC,_⟩:=qI X e.ex
  refine Bool.eq_false_iff.mpr λ z=>?_
  have e:C=tp:=Value.ref.inj (beq_iff_eq.mp z)
  subst e
  rw [hC] at htp
  have z2:=congrArg Obj.cls (Option.some.inj htp)
  exact absurd z2 (by simp)
 ca:=λ {prog w A E Q s} X p k=>by
  obtain ⟨o,vs,h1,h2,h3⟩:=p
  exact Ap X PySem.F.attrBase_ValueError e.ex e.ga e.gt e.cl e.gs e.tk e.ob rfl h1 h2 h3 k
inductive TyX (K:PySem.W.Frag) (H:Hp):V->Value->Prop where
 | v {x:V} {t:Value} (h:kO K H x t):TyX K H x t
 | ex {a C:Addr} (h:H a=some (Ex a C)) (e:Ai K C):TyX K H (.ref a) (.ref C)
def EE:V->Option Value
 | .ty n=>some (.type n)
 | .ref C=>some (.ref C)
 | _=>none
theorem yG {c:V} {cv u:Value} (h:EE c=some cv) (r:RelV c u):u=cv:=by
 cases c with
 | ty n=>cases h;exact r
 | ref C=>cases h;exact r
 | _=>cases h
theorem dP:fA X (.builtin "isinstance") (λ xs H Q=>∃ x c t cv b,xs=[x,c]/\TyX X.K H x t/\EE c=some cv/\PySem.W.kitOne X.K t cv=some b/\Q (.bl b) H):=by
 intro pins s σ H xs us Q I r h
 obtain ⟨x,c,t,cv,b,rfl,ty,hc,hk,q⟩:=h
 obtain ⟨u,w,rfl,rx,rc⟩:=vals2 r
 cases yG hc rc
 cases ty with
 | v ty=>exact wk I rx ty hk λ tk=>⟨.bl b,H,I.tok _,rfl,q⟩
 | @ex a C hH e=>
  cases (show u=Value.ref a from rx)
  exact PySem.W.kia_one (xp e) I.kIn (I.hok a _ hH).1 hk (λ z=>nomatch z) λ tk=>⟨.bl b,H,I.tok _,rfl,q⟩
def Itz (K:PySem.W.Frag) (a b:Addr):It:=⟨λ i H=>∃ xs ys x y,SqL K H a xs/\SqL K H b ys/\xs[i]?=some x/\ys[i]?=some y,
 λ i H v H'=>∃ p,H p=none/\v=.ref p/\∃ x y,H'=upd H p (.tup [x,y])/\(∀ xs,SqL K H a xs->xs[i]?=some x)/\∀ ys,SqL K H b ys->ys[i]?=some y,
 λ i H=>∃ xs ys,SqL K H a xs/\SqL K H b ys/\(xs[i]?=none∨ys[i]?=none)⟩
def Er (z TI TO i1 i2 l1 l2:Addr) (i:Nat) (h:Heap):Prop:=IsZip h z TI TO .none/\IsPair h TI (.ref i1) (.ref i2)/\(∃ a b,IsPair h TO a b)/\h.IsListIter i1 l1 i/\h.IsListIter i2 l2 i
theorem xU {P:Program} {w:World} {K:PySem.W.Frag} {es:List Expr} {k1:Nat} {pos:Pos} (z TI TO i1 i2 l1 l2:Addr) (D:TI≠z/\TO≠z/\i1≠z/\i2≠z/\TI≠TO/\TI≠i1/\TI≠i2/\TO≠i1/\TO≠i2/\i1≠i2):
  Turn P w K (.Tuple es k1 pos) (Itz K l1 l2) [z,TI,TO,i1,i2] z (Er z TI TO i1 i2 l1 l2) where
 mem:=by simp
 obj:=λ i h st b hb=>by
  obtain ⟨h1,h2,⟨_,_,h3⟩,h4,h5⟩:=st
  rcases List.mem_cons.mp hb with rfl | hb
  ·exact ⟨_,h1,λ v e=>nomatch (show Data.fields _=Data.cell v from e)⟩
  rcases List.mem_cons.mp hb with rfl | hb
  ·exact ⟨_,h2,λ v e=>nomatch (show Data.seq _ _=Data.cell v from e)⟩
  rcases List.mem_cons.mp hb with rfl | hb
  ·exact ⟨_,h3,λ v e=>nomatch (show Data.seq _ _=Data.cell v from e)⟩
  rcases List.mem_cons.mp hb with rfl | hb
  ·obtain ⟨o,e,c,d⟩:=h4
   exact ⟨o,e,λ v z=>by rw [d] at z;cases z⟩
  have hb:b=i2:=by simpa using hb
  subst hb
  obtain ⟨o,e,c,d⟩:=h5
  exact ⟨o,e,λ v z=>by rw [d] at z;cases z⟩
 keep:=λ i h h' st k=>by
  obtain ⟨h1,h2,⟨x,y,h3⟩,h4,h5⟩:=st
  exact ⟨k _ (by simp) _ h1,k _ (by simp) _ h2,⟨x,y,k _ (by simp) _ h3⟩,h4.at λ o e=>k _ (by simp) o e,h5.at λ o e=>k _ (by simp) o e⟩
 item:=by
  intro X hP hw hK hc i pins s σ H E I hf st hg
  subst hP hw hK
  obtain ⟨xs,ys,x,y,q1,q2,e1,e2⟩:=hg
  obtain ⟨us,rv1,p1,_⟩:=I.list q1
  obtain ⟨vs,rv2,p2,_⟩:=I.list q2
  obtain ⟨u,hu,ru⟩:=rv1.get e1
  obtain ⟨v,hv,rv⟩:=rv2.get e2
  obtain ⟨h1,h2,⟨oa,ob,h3⟩,h4,h5⟩:=st
  obtain ⟨d1,d2,d3,d4,d5,d6,d7,d8,d9,d10⟩:=D
  have fne:∀ l:Addr,(∃ its,s.heap.IsList l its)->l≠z/\l≠TO/\l≠i1/\l≠i2:=λ l ⟨its,hl⟩=>by
   obtain ⟨o,ho,hcl,_⟩:=hl
   refine ⟨?_,?_,?_,?_⟩
   ·rintro rfl
    rw [h1] at ho;cases ho;exact absurd hcl (by simp)
   ·rintro rfl
    rw [h3] at ho;cases ho;exact absurd hcl (by simp)
   ·rintro rfl
    obtain ⟨o',e',c',_⟩:=h4
    rw [e'] at ho;cases ho;rw [c'] at hcl;exact absurd hcl (by simp)
   ·rintro rfl
    obtain ⟨o',e',c',_⟩:=h5
    rw [e'] at ho;cases ho;rw [c'] at hcl;exact absurd hcl (by simp)
  obtain ⟨a1,a2,a3,a4⟩:=fne l1 ⟨_,p1.isList⟩
  obtain ⟨b1,b2,b3,b4⟩:=fne l2 ⟨_,p2.isList⟩
  refine wpAny_pyNext_zip_item (xs:=us.toArray) (ys:=vs.toArray) (x:=u) (y:=v) ⟨d1,d2,d3,d4,d5,d6,d7,d8,d9,d10,a1,a2,a3,a4,b1,b2,b3,b4⟩ h1 h2 h3 h4 h5 p1.isList p2.isList (by simpa using hu) (by simpa using hv)
   λ h' g1 g2 g3 g4 g5 g6 kk=>⟨_,rfl,?_⟩
  refine wpAny_letOwnedTupleGo_zip g1 λ h2' z1 sb=>?_
  have lt:∀ b∈[z,TI,TO,i1,i2],b<s.heap.objs.size:=λ b hb=>by
   rcases List.mem_cons.mp hb with rfl | hb
   ·exact Heap.lt_size h1
   rcases List.mem_cons.mp hb with rfl | hb
   ·exact Heap.lt_size h2
   rcases List.mem_cons.mp hb with rfl | hb
   ·exact Heap.lt_size h3
   rcases List.mem_cons.mp hb with rfl | hb
   ·obtain ⟨o,e,_⟩:=h4;exact Heap.lt_size e
   have hb:b=i2:=by simpa using hb
   subst hb
   obtain ⟨o,e,_⟩:=h5;exact Heap.lt_size e
  have nz:s.heap.objs.size≠z:=Nat.ne_of_gt (lt z (by simp))
  have kp:∀ c o,c ∉ [z,TO,i1,i2]->s.heap.get? c=some o->h2'.get? c=some o:=λ c o hcn e=>by
   have h':=hcn
   simp only [List.mem_cons,not_or,List.not_mem_nil,not_false_eq_true,and_true] at h'
   exact sb.extBut c o h'.1 (kk c o h'.1 h'.2.1 h'.2.2.1 h'.2.2.2 e)
  have fok:∀ b∈[z,TO,i1,i2],kh X pins H b:=λ b hb=>hf b (by
   simp only [List.mem_cons,List.not_mem_nil,or_false] at hb ⊢
   rcases hb with h | h | h | h <;> simp [h])
  have nit:∀ b u,H b=some u->b ∉ [z,TO,i1,i2]:=λ b u e m=>by
   rw [(fok b m).1] at e
   cases e
  have I1:Inv X pins σ H { s with heap:=h2',toks:=s.toks }:=by
   refine I.step (g':=s.gens) (d':=s.drawn) (ch:=[z,TO,i1,i2]) (λ b hb=>let ⟨_,y1,y2,y3,y4,y5⟩:=fok b hb;⟨y3,y1,y4,y5⟩) (λ b o _ _ hcn e _=>kp b o hcn e) (λ b o _ _ hcn e _=>⟨o.slots,kp b o hcn e⟩) (λ _ _ _ _ n=>n)
    (λ b o hcn e=>⟨o,kp b o hcn e⟩) (λ _ _ e=>e) (λ _ _ _ e=>e) (λ b ps e=>⟨#[],by rw [e];simp⟩) (λ m hm=>?_) (λ b u e=>?_) I.bare
   ·obtain ⟨o,es,ep,ho,r⟩:=hm
    exact ⟨o,es,ep,kp _ o (λ m=>(fok _ m).2.1 rfl) ho,r⟩
   ·refine (I.hok b u e).iL (λ c v hc' q=>kp c v ?_ q) (λ _ q=>q) λ _ _ q=>q
    rcases hc' with y | y
    ·rw [y];exact nit b u e
    ·exact nit c _ y
  have gT:h2'.get? s.heap.objs.size=some { cls:=.type "tuple",data:=.seq #[u,v] }:=sb.extBut _ _ nz g5
  have I2:Inv X pins σ (upd H s.heap.objs.size (.tup [x,y])) { s with heap:=h2',toks:=s.toks }:=by
   refine I1.BR I.fresh ?_ (Nat.ne_of_gt I.lt) (λ y c e=>?_) (λ p hp=>?_) ⟨by show 2<=sizeLine;decide,[u,v],.cons ru (.cons rv .nil),⟨_,gT,rfl,_,rfl⟩⟩
   ·cases q:X.s₀.heap.get? s.heap.objs.size with
    | none=>rfl
    | some o=>exact absurd (Nat.lt_of_lt_of_le (Heap.lt_size q) I.sz) (Nat.lt_irrefl _)
   ·obtain ⟨w,o,ho,_⟩:=I.cell y c e
    exact Nat.ne_of_lt (Heap.lt_size ho)
   ·exact Nat.ne_of_lt (Heap.lt_size (I.pin p hp).1)
  refine ⟨.ref s.heap.objs.size,_,I2,rfl,⟨_,I.fresh,rfl,x,y,rfl,λ xs' h'=>by rw [I.kB h' q1];exact e1,λ ys' h'=>by rw [I.kB h' q2];exact e2⟩,⟨z1,?_,⟨u,v,?_⟩,?_,?_⟩,λ b hb=>?_⟩
  ·exact sb.extBut _ _ d1 (kk _ _ d1 d5 d6 d7 h2)
  ·exact sb.extBut _ _ d2 g2
  ·exact g3.at λ o e=>sb.extBut _ _ d3 e
  ·exact g4.at λ o e=>sb.extBut _ _ d4 e
  ·rw [aq (Nat.ne_of_lt (lt b hb))]
   exact (hf b hb).1
 done:=by
  intro X hP hw hK hc i pins s σ H E I hf st hg
  subst hP hw hK
  obtain ⟨xs,ys,q1,q2,e1⟩:=hg
  obtain ⟨us,rv1,p1,_⟩:=I.list q1
  obtain ⟨vs,rv2,p2,_⟩:=I.list q2
  obtain ⟨h1,h2,⟨oa,ob,h3⟩,h4,h5⟩:=st
  obtain ⟨d1,d2,d3,d4,d5,d6,d7,d8,d9,d10⟩:=D
  have fne:∀ l:Addr,(∃ its,s.heap.IsList l its)->l≠z/\l≠TO/\l≠i1/\l≠i2:=λ l ⟨its,hl⟩=>by
   obtain ⟨o,ho,hcl,_⟩:=hl
   refine ⟨?_,?_,?_,?_⟩
   ·rintro rfl
    rw [h1] at ho;cases ho;exact absurd hcl (by simp)
   ·rintro rfl
    rw [h3] at ho;cases ho;exact absurd hcl (by simp)
   ·rintro rfl
    obtain ⟨o',e',c',_⟩:=h4
    rw [e'] at ho;cases ho;rw [c'] at hcl;exact absurd hcl (by simp)
   ·rintro rfl
    obtain ⟨o',e',c',_⟩:=h5
    rw [e'] at ho;cases ho;rw [c'] at hcl;exact absurd hcl (by simp)
  obtain ⟨a1,a2,a3,a4⟩:=fne l1 ⟨_,p1.isList⟩
  obtain ⟨b1,b2,b3,b4⟩:=fne l2 ⟨_,p2.isList⟩
  have fok:∀ b∈[z,TO,i1,i2],kh X pins H b:=λ b hb=>hf b (by
   simp only [List.mem_cons,List.not_mem_nil,or_false] at hb ⊢
   rcases hb with h | h | h | h <;> simp [h])
  have nit:∀ b u,H b=some u->b ∉ [z,TO,i1,i2]:=λ b u e m=>by
   rw [(fok b m).1] at e
   cases e
  refine wpAny_pyNext_zip_end (xs:=us.toArray) (ys:=vs.toArray) (I.ok.hd hc) ⟨d1,d2,d3,d4,d5,d6,d7,d8,d9,d10,a1,a2,a3,a4,b1,b2,b3,b4⟩ h1 h2 h3 h4 h5 p1.isList p2.isList ?_ λ h' kk=>⟨rfl,?_⟩
  ·have m1:=rv1.length
   have m2:=rv2.length
   rcases e1 with e | e
   ·left;rw [List.getElem?_eq_none_iff] at e;simp;omega
   ·right;rw [List.getElem?_eq_none_iff] at e;simp;omega
  ·have kp:∀ c o,c ∉ [z,TO,i1,i2]->s.heap.get? c=some o->h'.get? c=some o:=λ c o hcn e=>by
    simp only [List.mem_cons,not_or,List.not_mem_nil,not_false_eq_true,and_true] at hcn
    exact kk c o hcn.1 hcn.2.1 hcn.2.2.1 hcn.2.2.2 e
   refine I.step (g':=s.gens) (d':=s.drawn) (t':=s.toks) (ch:=[z,TO,i1,i2]) (λ b hb=>let ⟨_,y1,y2,y3,y4,y5⟩:=fok b hb;⟨y3,y1,y4,y5⟩) (λ b o _ _ hcn e _=>kp b o hcn e) (λ b o _ _ hcn e _=>⟨o.slots,kp b o hcn e⟩) (λ _ _ _ _ n=>n)
    (λ b o hcn e=>⟨o,kp b o hcn e⟩) (λ _ _ e=>e) (λ _ _ _ e=>e) (λ b ps e=>⟨#[],by rw [e];simp⟩) (λ m hm=>?_) (λ b u e=>?_) I.bare
   ·obtain ⟨o,es,ep,ho,r⟩:=hm
    exact ⟨o,es,ep,kp _ o (λ m=>(fok _ m).2.1 rfl) ho,r⟩
   ·refine (I.hok b u e).iL (λ c v hc' q=>kp c v ?_ q) (λ _ q=>q) λ _ _ q=>q
    rcases hc' with y | y
    ·rw [y];exact nit b u e
    ·exact nit c _ y
 self:=λ _ _ _ _ _ st h=>wpAny_pyIter_zip st.1 h
def EB (K:PySem.W.Frag) (ta:TA):TI:=λ σ H R=>ta σ H λ vs H1=>∃ a b,vs=[.ref a,.ref b]/\(∃ xs,SqL K H1 a xs)/\(∃ ys,SqL K H1 b ys)/\R (Itz K a b) H1
theorem Ct {es:List Expr} {k1:Nat} {tpos:Pos} {a b:Expr} {ta:TA} {p pos:Pos} (hg:Gl X "zip") (hm:X.mg "zip"=none) (hv:bootBuiltins "zip"=some (.type "zip")) (ha:PA X [a,b] ta) (hs:starEach [a,b] X.env=[(false,eval a X.env),(false,eval b X.env)]:=by rfl)
  (hs2:starEach [b] X.env=[(false,eval b X.env)]:=by rfl):PI X (.Tuple es k1 tpos) (.Call (.Name "zip" p) [a,b] [] pos) (EB X.K ta):=by
 intro pins s σ H R I h
 refine Call_ (jB I hg hm hv (PyProof.Rows.callWith_type1 (thn (ha pos pins s σ H _ I h) λ us s1 ⟨vs,H1,I1,r1,q1⟩=>?_) (by rw [hs,hs2]) (by rw [hs2];rfl)))
 obtain ⟨l1,l2,e,⟨xs,q1⟩,⟨ys,q2⟩,q⟩:=q1
 subst e
 obtain ⟨u,v,rfl,ru,rv⟩:=vals2 r1
 cases ru
 cases rv
 obtain ⟨us,_,p1,_⟩:=I1.list q1
 obtain ⟨vs,_,p2,_⟩:=I1.list q2
 refine call_zip_2 p1.isList p2.isList λ h' g1 g2 g3 g4 g5 g6 kk=>wpAny_pyIter_zip g1 ?_
 have I2:Inv X pins σ H1 { s1 with heap:=h',toks:=s1.toks }:=I1.kept kk
 refine ⟨_,[s1.heap.objs.size+4,s1.heap.objs.size+2,s1.heap.objs.size+3,s1.heap.objs.size,s1.heap.objs.size+1],_,_,H1,rfl,I2,xU (s1.heap.objs.size+4) (s1.heap.objs.size+2) (s1.heap.objs.size+3) s1.heap.objs.size (s1.heap.objs.size+1) l1 l2 ⟨?_,?_,?_,?_,?_,?_,?_,?_,?_,?_⟩,⟨g1,g2,⟨_,_,g3⟩,g4,g5⟩,λ b hb=>?_,q⟩
 all_goals first | (show (_:Nat)≠_;omega) | skip
 have hb':s1.heap.objs.size<=b:=by
  simp only [List.mem_cons,List.not_mem_nil,or_false] at hb
  rcases hb with h | h | h | h | h <;> (rw [h];first | exact Nat.le_refl _ | exact Nat.le_add_right _ _)
 exact I1.rf hb' (I1.hok.fresh hb')
end
section
variable {σ:St} {H:Hp} {Q:VK} {QB:Bool->Hp->Prop} {QA:List V->Hp->Prop} {QS:St->Hp->Prop} {ta tb tc te:TE} {tt uu:TT} {tA:TA} {t u:TS} {nx:St->Hp->Prop} {rt:VK} {bk ct:St->Hp->Prop} {v:V} {i:Nat} {r r':R2}
theorem w_var (h:σ[i]?=some (some v)) (q:Q v H):zC i σ H Q:=⟨v,h,q⟩
theorem w_C (q:Q v H):tC v σ H Q:=q
theorem F8 (q:ta σ H λ x H1=>tb σ H1 λ y H2=>r x y H2 Q):tOp r ta tb σ H Q:=q
theorem FE {r:V->Hp->VK->Prop} (q:ta σ H λ x H1=>r x H1 Q):tUn r ta σ H Q:=q
theorem E8 {g:Int->Int->V} {a b:Int} (q:Q (g a b) H):rI0 g (.int a) (.int b) H Q:=⟨a,b,rfl,rfl,q⟩
theorem w_U {g:Int->V} {a:Int} (q:Q (g a) H):rU g (.int a) H Q:=⟨a,rfl,q⟩
theorem w_mod {a b:Int} {g:Int->Int->V} (c:0<b) (q:Q (g a b) H):rI (λ _ j=>0<j) g (.int a) (.int b) H Q:=⟨a,b,rfl,rfl,c,q⟩
theorem w_I {C:Int->Int->Prop} {a b:Int} {g:Int->Int->V} (c:C a b) (q:Q (g a b) H):rI C g (.int a) (.int b) H Q:=⟨a,b,rfl,rfl,c,q⟩
theorem A6 {a b:Int} (q:Q (.bl (decide (a=b))) H):rEq (.int a) (.int b) H Q:=⟨rfl,by rw [show decide (V.int a=V.int b)=decide (a=b) from decide_eq_decide.mpr ⟨λ e=>V.int.inj e,λ e=>by rw [e]⟩];exact q⟩
theorem Bn {a b:Int} (q:Q (.bl (!decide (a=b))) H):rNe (.int a) (.int b) H Q:=⟨rfl,by rw [show decide (V.int a=V.int b)=decide (a=b) from decide_eq_decide.mpr ⟨λ e=>V.int.inj e,λ e=>by rw [e]⟩];exact q⟩
theorem Bs {a b:Str} (q:Q (.bl (decide (a=b))) H):rEq (.str a) (.str b) H Q:=⟨rfl,by rw [show decide (V.str a=V.str b)=decide (a=b) from decide_eq_decide.mpr ⟨λ e=>V.str.inj e,λ e=>by rw [e]⟩];exact q⟩
theorem Bb {a b:Str} (q:Q (.bl (!decide (a=b))) H):rNe (.str a) (.str b) H Q:=⟨rfl,by rw [show decide (V.str a=V.str b)=decide (a=b) from decide_eq_decide.mpr ⟨λ e=>V.str.inj e,λ e=>by rw [e]⟩];exact q⟩
theorem Bk {a b:Bool} (q:Q (.bl (!decide (a=b))) H):rNe (.bl a) (.bl b) H Q:=⟨rfl,by rw [show decide (V.bl a=V.bl b)=decide (a=b) from decide_eq_decide.mpr ⟨λ e=>V.bl.inj e,λ e=>by rw [e]⟩];exact q⟩
theorem xZ (q:te σ H λ x H1=>∃ k,x=.bl k/\QB k H1):yR te σ H QB:=q
theorem Fw (q:te σ H λ x H1=>∃ k,x=.bl k/\QB k H1):tB te σ H QB:=q
theorem w_k {P:Bool->Prop} {b:Bool} (q:P b):∃ k,V.bl b=.bl k/\P k:=⟨b,rfl,q⟩
theorem w_and (q:tt σ H λ c H1=>if c=true then uu σ H1 QB else QB false H1):Gh tt uu σ H QB:=q
theorem w_or (q:tt σ H λ c H1=>if c=true then QB true H1 else uu σ H1 QB):tOr tt uu σ H QB:=q
theorem w_not (q:tt σ H λ c H1=>QB (!c) H1):GO tt σ H QB:=q
theorem y8 (q:ta σ H λ x H1=>∃ c,x=.bl c/\if c=true then tb σ H1 Q else Q (.bl false) H1):zq ta tb σ H Q:=q
theorem Bz (q:ta σ H λ x H1=>∃ c,x=.bl c/\if c=true then Q (.bl true) H1 else tb σ H1 Q):E6 ta tb σ H Q:=q
theorem zh (q:ta σ H λ x H1=>∃ c,x=.bl c/\Q (.bl (!c)) H1):BG ta σ H Q:=q
theorem vD (q:ta σ H λ x H1=>tb σ H1 λ y H2=>r x y H2 λ z H3=>∃ k,z=.bl k/\if k=true then tc σ H3 λ w' H4=>r' y w' H4 Q else Q (.bl false) H3):sX r r' ta tb tc σ H Q:=q
theorem Bh (q:QA [] H):wW σ H QA:=q
theorem wM (q:te σ H λ x H1=>tA σ H1 λ xs H2=>QA (x::xs) H2):xo te tA σ H QA:=q
theorem yJ {sp:Sp} {dvs:List V} {E:XK} (q:tA σ H λ vs H1=>sp (vs++dvs) H1 Q E):By sp dvs E tA σ H Q:=q
theorem il {C:Addr} {sp:Sp} {dvs:List V} {E:XK} (q:tA σ H λ vs H1=>∀ x dx,H1 x=none->H1 dx=none->dx≠x->sp (.ref x::(vs++dvs)) (upd (upd H1 dx (.own x)) x (.ins C dx [])) (λ v H2=>v=.non/\Q (.ref x) H2) E):xT C sp dvs E tA σ H Q:=q
theorem E7 {r:List V->Hp->VK->Prop} (q:tA σ H λ vs H1=>r vs H1 Q):tCB r tA σ H Q:=q
theorem BN (q:tA σ H λ xs H1=>xs.length<=sizeLine/\∀ p,H1 p=none->Q (.ref p) (upd H1 p (.tup xs))):FG tA σ H Q:=q
theorem Bi (q:tA σ H λ xs H1=>xs.length<=sizeLine/\∀ p,H1 p=none->Q (.ref p) (upd H1 p (.lst xs))):CN tA σ H Q:=q
theorem ES {r:V->Option Int->Option Int->Hp->VK->Prop} {tl th:TO} (q:te σ H λ x H1=>tl σ H1 λ l H2=>th σ H2 λ u H3=>r x l u H3 Q):tSl r te tl th σ H Q:=q
theorem rq {R:Option Int->Hp->Prop} (q:R none H):uW σ H R:=q
theorem zc {R:Option Int->Hp->Prop} (q:te σ H λ x H1=>∃ i,x=.int i/\R (some i) H1):A2 te σ H R:=q
theorem Eo {P:Int->Prop} {b:Int} (q:P b):∃ k,V.int b=.int k/\P k:=⟨b,rfl,q⟩
theorem Fe {K:PySem.W.Frag} {T:String} {r:V->List V->Hp->VK->Prop} (q:ta σ H λ x H1=>tyV K T x H1/\tA σ H1 λ xs H2=>r x xs H2 Q):tBM K T r ta tA σ H Q:=q
theorem Bv {K:PySem.W.Frag} {T:String} {r:V->List V->Hp->VK->Prop} (q:ta σ H λ x H1=>tyV K T x H1/\r x [] H1 Q):GQ K T r ta σ H Q:=q
theorem w_fld {K:PySem.W.Frag} {f:Str} (q:ta σ H λ x H1=>∃ a C dx fs v,x=.ref a/\H1 a=some (.ins C dx fs)/\Cls K C/\bK K C f/\fs.lookup f=some v/\Q v H1):CL K ta f σ H Q:=q
theorem Ba (q:t ⟨u ⟨nx,rt,bk,ct⟩,rt,bk,ct⟩ σ H):sW t u ⟨nx,rt,bk,ct⟩ σ H:=q
theorem w_next (q:nx σ H):Bf ⟨nx,rt,bk,ct⟩ σ H:=q
theorem Bc (q:te σ H λ x H1=>nx (σ.set i (some x)) H1):AG te (dF i) ⟨nx,rt,bk,ct⟩ σ H:=q
theorem uS (q:te σ H λ x H1=>nx (σ.set i (some x)) H1):sLC i te ⟨nx,rt,bk,ct⟩ σ H:=q
theorem xu {g:TG} (q:te σ H λ x H1=>g x σ H1 nx):AG te g ⟨nx,rt,bk,ct⟩ σ H:=q
theorem A5 (q:te σ H rt):Cj te ⟨nx,rt,bk,ct⟩ σ H:=q
theorem yM (q:te σ H λ _ H1=>nx σ H1):vC te ⟨nx,rt,bk,ct⟩ σ H:=q
theorem GW (q:tt σ H λ b H1=>if b=true then t ⟨nx,rt,bk,ct⟩ σ H1 else u ⟨nx,rt,bk,ct⟩ σ H1):qZ tt t u ⟨nx,rt,bk,ct⟩ σ H:=q
theorem xV {K:PySem.W.Frag} {f:Str} (q:tb σ H λ y H1=>ta σ H1 λ x H2=>∃ a C dx fs,x=.ref a/\H2 a=some (.ins C dx fs)/\Cls K C/\bK K C f/\fs.length<1000/\nx σ (upd H2 a (.ins C dx (cf f y fs)))):FZ K ta tb f ⟨nx,rt,bk,ct⟩ σ H:=q
theorem Bj {wi:TI} {g:TG} (q:wi σ H λ J H1=>∃ W:Nat->Nat->St->Hp->Prop,(∃ m,W 0 m σ H1)/\∀ i m σ H,W i m σ H ->
 (J.stop i H/\nx σ H)∨(J.go i H/\∃ N:St->Hp->Prop,(∀ σ' H',N σ' H'->∃ m',m'<m/\W (i+1) m' σ' H')/\∀ x H',J.yld i H x H'->g x σ H' λ σ2 H2=>t ⟨N,rt,nx,N⟩ σ2 H2)):EA wi g t ⟨nx,rt,bk,ct⟩ σ H:=q
theorem u7 {K:PySem.W.Frag} {R:It->Hp->Prop} (q:te σ H λ x H1=>∃ a,x=.ref a/\(∃ xs,SqL K H1 a xs)/\R (Itl K a) H1):BD K te σ H R:=q
theorem jf {x:V} (q:QS (σ.set i (some x)) H):dF i x σ H QS:=q
theorem uX {C:Addr} {E:XK} (q:tA σ H λ _ H1=>E (.ref C) none H1):wY C E tA ⟨nx,rt,bk,ct⟩ σ H:=q
end
theorem BP {A B:Prop} (h:B):if (!true)=true then A else B:=pP h
theorem BI {A B:Prop} (h:A):if (!false)=true then A else B:=tV h
theorem w_ite {b:Bool} {A B:Prop} (h1:b=true->A) (h2:b=false->B):if b=true then A else B:=by
 cases b with
 | true=>rw [if_pos rfl];exact h1 rfl
 | false=>rw [if_neg Bool.false_ne_true];exact h2 rfl
section
variable {σ:St} {H:Hp} {Q:VK} {te:TE} {τ:St} {K:PySem.W.Frag} {T:Addr}
theorem w_G {fold:Nat->(Nat->Bool)->Bool} {nN:Nat} {fs:List (Nat×Nat)} {wi:TI} {g:TG} (q:wi σ H λ J H1=>H1 T=some (Tb T)/\∃ n p G,G H1/\fW J g te (tau nN fs σ) G n p/\∀ H2,G H2->Q (.bl (fold n p)) H2):tG K fold T nN fs wi g te σ H Q:=q
theorem zo {R:It->Hp->Prop} {tl:TE} (q:tl σ H λ x H1=>∃ z,x=.str z/\R (Its z) H1):ET tl σ H R:=q
theorem yD {R:It->Hp->Prop} {tl:TE} (q:tl σ H λ x H1=>∃ a,x=.ref a/\(∃ xs,SqT K H1 a xs)/\R (Itt K a) H1):Fc K tl σ H R:=q
theorem wN {ta:TA} {R:It->Hp->Prop} (q:ta σ H λ vs H1=>∃ j:Int,vs=[.int j]/\-(2 ^ 62)<=j/\j<2 ^ 62/\R (Itr 0 j.toNat) H1):BC ta σ H R:=q
theorem B9 {x:Str} {q:Nat->Bool} (hτ:τ[0]?=some none) (h:∀ c∈x.cps.toList,te (τ.set 0 (some (.str ⟨#[c]⟩))) H λ v H5=>H5=H/\v=.bl (q c)):
  fW (Its x) (dF 0) te τ (·=H) x.cps.size λ i=>match x.cps.toList[i]? with | some c=>q c | none=>false:=by
 rintro _ rfl
 refine ⟨Nat.le_refl _,λ i hi=>⟨hi,?_⟩⟩
 rintro v _ ⟨rfl,c,hc,rfl⟩
 have e:x.cps.toList[i]?=some c:=by simpa using hc
 refine ⟨λ j v hj=>?_,?_⟩
 ·by_cases z:j=0
  ·subst z;rw [hτ] at hj;cases hj
  ·rw [List.getElem?_set_ne (Ne.symm z)];exact hj
 ·dsimp only;rw [e]
  exact h c (List.mem_of_getElem? e)
theorem BK {x:Str} (q:Nat->Bool) (hP:H T=some (Tb T)) (hτ:τ[0]?=some none) (h:∀ c∈x.cps.toList,te (τ.set 0 (some (.str ⟨#[c]⟩))) H λ v H5=>H5=H/\v=.bl (q c)) (k:Q (.bl (x.cps.toList.all q)) H):
  H T=some (Tb T)/\∃ n p G,G H/\fW (Its x) (dF 0) te τ G n p/\∀ H2,G H2->Q (.bl (ue n p)) H2:=by
 refine ⟨hP,_,_,(·=H),rfl,B9 hτ h,?_⟩
 rintro _ rfl
 have z:=all_range x.cps.toList q
 rw [Array.length_toList] at z
 refine Eq.mpr (congrArg (λ b=>Q (V.bl b) _) (?_:_=x.cps.toList.all q)) k
 unfold ue
 rw [<- z]
 congr 1
 funext i
 cases x.cps.toList[i]? <;> rfl
theorem EV {a:Addr} {xs:List V} (q:V->Bool) (hl:SqL K H a xs) (hP:H T=some (Tb T)) (hτ:τ[0]?=some none) (h:∀ x∈xs,te (τ.set 0 (some x)) H λ v H5=>H5=H/\v=.bl (q x)) (k:Q (.bl (xs.all q)) H):
  H T=some (Tb T)/\∃ n p G,G H/\fW (Itl K a) (dF 0) te τ G n p/\∀ H2,G H2->Q (.bl (ue n p)) H2:=by
 refine ⟨hP,_,_,(·=H),rfl,xa hl hτ h,?_⟩
 rintro _ rfl
 refine Eq.mpr (congrArg (λ b=>Q (V.bl b) _) (?_:_=xs.all q)) k
 unfold ue
 rw [<- all_range xs q]
 congr 1
 funext i
 cases xs[i]? <;> rfl
theorem Ej {a:Addr} {xs:List V} (q:V->Bool) (hl:SqL K H a xs) (hP:H T=some (Tb T)) (hτ:τ[0]?=some none) (h:∀ x∈xs,te (τ.set 0 (some x)) H λ v H5=>H5=H/\v=.bl (q x)) (k:Q (.bl (xs.any q)) H):
  H T=some (Tb T)/\∃ n p G,G H/\fW (Itl K a) (dF 0) te τ G n p/\∀ H2,G H2->Q (.bl (oo n p)) H2:=by
 refine ⟨hP,_,_,(·=H),rfl,xa hl hτ h,?_⟩
 rintro _ rfl
 refine Eq.mpr (congrArg (λ b=>Q (V.bl b) _) (?_:_=xs.any q)) k
 unfold oo
 rw [<- any_range xs q]
 congr 1
 funext i
 cases xs[i]? <;> rfl
theorem BU {a:Addr} {xs:List V} (q:V->Bool) (hl:SqT K H a xs) (hP:H T=some (Tb T)) (hτ:τ[0]?=some none) (h:∀ x∈xs,te (τ.set 0 (some x)) H λ v H5=>H5=H/\v=.bl (q x)) (k:Q (.bl (xs.any q)) H):
  H T=some (Tb T)/\∃ n p G,G H/\fW (Itt K a) (dF 0) te τ G n p/\∀ H2,G H2->Q (.bl (oo n p)) H2:=by
 refine ⟨hP,_,_,(·=H),rfl,B8 hl hτ h,?_⟩
 rintro _ rfl
 refine Eq.mpr (congrArg (λ b=>Q (V.bl b) _) (?_:_=xs.any q)) k
 unfold oo
 rw [<- any_range xs q]
 congr 1
 funext i
 cases xs[i]? <;> rfl
end
theorem ax.upd {H:Hp} {p:Addr} {o:HO} (h:H p=none):ax H (upd H p o):=λ b u e=>by rw [aq (aj e h)];exact e
theorem ax.sqt {K:PySem.W.Frag} {H H':Hp} {a:Addr} {xs:List V} (e:ax H H') (h:SqT K H a xs):SqT K H' a xs:=by
 rcases h with (h | ⟨o,h⟩) | h
 ·exact .inl (.inl (e _ _ h))
 ·exact .inl (.inr ⟨o,e _ _ h⟩)
 ·exact .inr h
section
variable {H:Hp} {QB:Bool->Hp->Prop} {te:TE} {τ:St} {K:PySem.W.Frag} {T a:Addr} {xs:List V}
theorem qd (q:V->Bool) (hl:SqL K H a xs) (hP:H T=some (Tb T)) (hτ:τ[0]?=some none) (h:∀ x∈xs,te (τ.set 0 (some x)) H λ v H5=>H5=H/\v=.bl (q x)) (k:QB (xs.all q) H):
  H T=some (Tb T)/\∃ n p G,G H/\fW (Itl K a) (dF 0) te τ G n p/\∀ H2,G H2->∃ k,V.bl (ue n p)=.bl k/\QB k H2:=EV (Q:=λ v H2=>∃ k,v=.bl k/\QB k H2) q hl hP hτ h ⟨_,rfl,k⟩
theorem ya (q:V->Bool) (hl:SqL K H a xs) (hP:H T=some (Tb T)) (hτ:τ[0]?=some none) (h:∀ x∈xs,te (τ.set 0 (some x)) H λ v H5=>H5=H/\v=.bl (q x)) (k:QB (xs.any q) H):
  H T=some (Tb T)/\∃ n p G,G H/\fW (Itl K a) (dF 0) te τ G n p/\∀ H2,G H2->∃ k,V.bl (oo n p)=.bl k/\QB k H2:=Ej (Q:=λ v H2=>∃ k,v=.bl k/\QB k H2) q hl hP hτ h ⟨_,rfl,k⟩
theorem BX (q:V->Bool) (hl:SqT K H a xs) (hP:H T=some (Tb T)) (hτ:τ[0]?=some none) (h:∀ x∈xs,te (τ.set 0 (some x)) H λ v H5=>H5=H/\v=.bl (q x)) (k:QB (xs.any q) H):
  H T=some (Tb T)/\∃ n p G,G H/\fW (Itt K a) (dF 0) te τ G n p/\∀ H2,G H2->∃ k,V.bl (oo n p)=.bl k/\QB k H2:=BU (Q:=λ v H2=>∃ k,v=.bl k/\QB k H2) q hl hP hτ h ⟨_,rfl,k⟩
end
theorem Fj {K:PySem.W.Frag} {T a b:Addr} {H:Hp} {Q:VK} {te:TE} {xs ys:List V} {n:Nat} (p:Nat->Bool) (h1:SqL K H a xs) (h2:SqL K H b ys) (n1:n<=xs.length) (n2:n<=ys.length) (n3:n=xs.length∨n=ys.length) (hP:H T=some (Tb T))
  (h:∀ i x y H5,i<n->xs[i]?=some x->ys[i]?=some y->ax H H5->te [some x,some y] H5 λ v H6=>ax H H6/\v=.bl (p i)) (k:∀ H2,ax H H2->Q (.bl (oo n p)) H2):
  H T=some (Tb T)/\∃ n p G,G H/\fW (Itz K a b) (zZ K 2 (yw (dF 0) (yw (dF 1) Gu))) te [none,none] G n p/\∀ H2,G H2->Q (.bl (oo n p)) H2:=by
 refine ⟨hP,n,p,ax H,ax.refl H,λ H2 s2=>⟨⟨xs,ys,s2.seq h1,s2.seq h2,?_⟩,λ i hi=>⟨⟨xs,ys,xs[i],ys[i],s2.seq h1,s2.seq h2,List.getElem?_eq_getElem (by omega),List.getElem?_eq_getElem (by omega)⟩,?_⟩⟩,k⟩
 ·rcases n3 with e | e
  ·exact .inl (List.getElem?_eq_none_iff.mpr (by omega))
  ·exact .inr (List.getElem?_eq_none_iff.mpr (by omega))
 ·rintro v H3 ⟨q,hq,rfl,x,y,rfl,e1,e2⟩
  have e1:=e1 xs (s2.seq h1)
  have e2:=e2 ys (s2.seq h2)
  refine ⟨q,[x,y],rfl,SqT.of ag,rfl,x,[y],rfl,y,[],rfl,rfl,λ j v hj=>?_,?_⟩
  ·match j,hj with
   | 0,hj=>cases hj
   | 1,hj=>cases hj
   | (_+2),hj=>cases hj
  ·exact h i x y _ hi e1 e2 (s2.trans (ax.upd hq))
theorem yW {σ:St} {H:Hp} {K:PySem.W.Frag} {ta:TA} {R:It->Hp->Prop} (q:ta σ H λ vs H1=>∃ a b,vs=[.ref a,.ref b]/\(∃ xs,SqL K H1 a xs)/\(∃ ys,SqL K H1 b ys)/\R (Itz K a b) H1):EB K ta σ H R:=q
end L2
local macro_rules | `(tactic| lia) => `(tactic| (repeat array_get_dec))
local macro_rules | `(tactic| array_get_dec) => `(tactic| (first
 | ((with_reducible refine L2.w_var (v:=?v) ?h ?_);(case h=>exact rfl)) | ((with_reducible refine L2.w_mod ?h ?_);(case h=>decide)) | ((with_reducible refine L2.w_I (C:=L2.B5) ?h ?_);(case h=>exact ⟨by decide,by decide⟩))
 | with_reducible refine L2.tV ?_ | with_reducible refine L2.pP ?_ | with_reducible refine L2.BP ?_ | with_reducible refine L2.BI ?_
 | with_reducible refine L2.F8 ?_ | with_reducible refine L2.w_C ?_ | with_reducible refine L2.E8 ?_ | with_reducible refine L2.FE ?_ | with_reducible refine L2.w_U ?_ | with_reducible refine L2.A6 ?_ | with_reducible refine L2.Bn ?_ | with_reducible refine L2.Bs ?_ | with_reducible refine L2.Bb ?_ | with_reducible refine L2.Bk ?_ | with_reducible refine L2.xZ ?_ | with_reducible refine L2.Fw ?_ | with_reducible refine L2.w_k ?_ | with_reducible refine L2.w_and ?_ | with_reducible refine L2.w_or ?_ | with_reducible refine L2.w_not ?_ | with_reducible refine L2.y8 ?_ | with_reducible refine L2.Bz ?_ | with_reducible refine L2.zh ?_ | with_reducible refine L2.vD ?_ | with_reducible refine L2.Bh ?_ | with_reducible refine L2.wM ?_ | with_reducible refine L2.yJ ?_ | with_reducible refine L2.E7 ?_ | with_reducible refine L2.BN ?_ | with_reducible refine L2.Bi ?_ | with_reducible refine L2.ES ?_ | with_reducible refine L2.rq ?_ | with_reducible refine L2.zc ?_ | with_reducible refine L2.Eo ?_ | with_reducible refine L2.Fe ?_ | with_reducible refine L2.Bv ?_ | with_reducible refine L2.w_fld ?_ | with_reducible refine L2.Ba ?_ | with_reducible refine L2.w_next ?_ | with_reducible refine L2.Bc ?_ | with_reducible refine L2.uS ?_ | with_reducible refine L2.A5 ?_ | with_reducible refine L2.yM ?_ | with_reducible refine L2.GW ?_ | with_reducible refine L2.xV ?_ | with_reducible refine L2.Bj ?_ | with_reducible refine L2.u7 ?_ | with_reducible refine L2.jf ?_ | with_reducible refine L2.uX ?_ | with_reducible refine L2.xu ?_ | with_reducible refine L2.w_G ?_ | with_reducible refine L2.zo ?_ | with_reducible refine L2.yD ?_ | with_reducible refine L2.yW ?_ | with_reducible refine L2.wN ?_))
namespace L2
open PySem PySem.Spec PyProof.Rows
section
variable {X:Cx} (K:PySem.W.Frag)
theorem uy (hK:X.K=K:=by rfl):OpR X (compareOp .In) (rIn K false):=by subst hK;exact kM
theorem pU {e:Expr} {f:Str} {pos:Pos} {ta:TE} (he:PE X e ta) (hb:attributeBase e f X.env (eval e X.env)=eval e X.env:=by rfl) (hK:X.K=K:=by rfl):PE X (.Attribute e f pos) (CL K ta f):=by subst hK;exact aF he hb
theorem wj (hK:X.K=K:=by rfl):MtR X "list.count" (yp K):=by subst hK;exact xN
theorem Cp {o e:Expr} {es:List Expr} {to:TE} {t:TA} {name:Str} {apos cpos:Pos} {T id:String} {r:V->List V->Hp->VK->Prop} (pa:PlainAttrs T) (slot:Slot T name id) (hty:typeOf (.builtin id)=pure (.type "method_descriptor")) (hm:MtR X id r) (ho:PE X o to) (ha:PA X (e::es) t) (hK:X.K=K:=by rfl)
  (hbase:attributeBase o name X.env (eval o X.env)=eval o X.env:=by rfl)
  (hfew:((backTo cpos (starEach (e::es) X.env)).all (λ x=>!x.1)&&(backToKw cpos (keywordEach [] X.env)).all (λ x=>x.1.isSome)&&decide ((e::es).length+([]:List Keyword).length+(if ([]:List Keyword).isEmpty then 0 else 1)<30))=true:=by rfl)
  (hline:(apos.endLine==cpos.line)=true:=by rfl) (hs:starEach (e::es) X.env=(false,eval e X.env)::starEach es X.env:=by rfl) (hplain:(backTo cpos (starEach es X.env)).any (·.1)=false:=by rfl):
  PE X (.Call (.Attribute o name apos) (e::es) [] cpos) (tBM K T r to t):=by subst hK;exact b6 pa slot hty hm ho ha hbase hfew hline hs hplain
theorem j3 {es:List Expr} {k:Nat} {t:TGs} {n:Nat} {pos:Pos} (hc:X.calm=true) (h:PGs X es t) (hK:X.K=K:=by rfl)
  (hn:(assignEach es X.env).length=n:=by rfl) (hst:(assignEach es X.env).findIdx? (·.1)=none:=by rfl):PG X (.Tuple es k pos) (zZ K n t):=by subst hK;exact iu hc h hn hst
end
def notStar:Expr->Bool
 | .Starred _ _=>false
 | _=>true
theorem pY {e:Expr} (h:notStar e=true) (es:List Expr) (env:Env):starEach (e::es) env=(false,eval e env)::starEach es env:=by
 cases e <;> first | rfl | cases h
theorem ai {X:Cx} {e:Expr} {es:List Expr} {te:TE} {t:TA} (ha:PE X e te) (hr:PA X es t) (h:notStar e=true:=by rfl):PA X (e::es) (xo te t):=AA ha hr (pY h es X.env)
def cV:Expr->Option V
 | .Constant (.int i) _ _=>some (.int i)
 | .Constant (.str x) _ _=>some (.str x)
 | _=>none
def tK (vs:List V):TA:=λ _ H Q=>Q vs H
theorem EG {X:Cx}:∀ {es:List Expr} {vs:List V},es.map cV=vs.map some->PA X es (tK vs)
 | [],[],_=>aa
 | [],_::_,h=>by cases h
 | _::_,[],h=>by cases h
 | e::es,v::vs,h=>by
  rw [List.map_cons,List.map_cons] at h
  injection h with h1 h2
  have hr:PA X es (tK vs):=EG h2
  have go:∀ {te:TE},PE X e te->notStar e=true->(∀ σ H (Q:VK),Q v H->te σ H Q)->PA X (e::es) (tK (v::vs)):=λ {te} hp hs ht pos pins s σ H Q I q=>ai hp hr hs pos pins s σ H Q I (show te σ H λ x H1=>tK vs σ H1 λ xs H2=>Q (x::xs) H2 from ht _ _ _ q)
  cases e with
  | Constant c j pos=>
   cases c with
   | int i=>cases h1;exact go af rfl λ _ _ _ q=>q
   | str x=>cases h1;exact go aD rfl λ _ _ _ q=>q
   | _=>cases h1
  | _=>cases h1
theorem mz {X:Cx} {es:List Expr} {pos:Pos} (vs:List V) (h:es.map cV=vs.map some:=by rfl):PE X (.List es pos) (CN (tK vs)):=a5 (EG h)
theorem G0 {vs:List V} {σ:St} {H:Hp} {QA:List V->Hp->Prop} (q:QA vs H):tK vs σ H QA:=q
end L2
local macro_rules | `(tactic| array_get_dec) => `(tactic| with_reducible refine L2.G0 ?_)
namespace L2
open PySem PySem.Spec PyProof.Rows
structure Df (K:PySem.W.Frag) (mg:Str->Option Value) (x qual:Str) (st:Stmt) (ps:List Str) where
 f:Addr
 fd:FuncData
 cdv:Value
 ex:∃ (oc:Value) (od:Option Addr) (kV doc pm:Value) (an:Option Addr) (ct:Value) (osl:Array (Option Value)),
  fd=PySem.W.fnOf x qual (bJ st) (bG st) (aw st) .none kV doc pm an cdv ct/\K.lookup f=some ⟨oc,od,.func fd,osl⟩/\PySem.W.codeIn K cdv qual=true
 kp:PySem.W.keepIn K (.ref f)=true
 mg:mg x=some (.ref f)
 bd:Binds K fd ps []
structure DfM (K:PySem.W.Frag) (x qual:Str) (st:Stmt) (ps:List Str) where
 f:Addr
 fd:FuncData
 cdv:Value
 ex:∃ (oc:Value) (od:Option Addr) (kV doc pm:Value) (an:Option Addr) (ct:Value) (osl:Array (Option Value)),
  fd=PySem.W.fnOf x qual (bJ st) (bG st) (aw st) .none kV doc pm an cdv ct/\K.lookup f=some ⟨oc,od,.func fd,osl⟩/\PySem.W.codeIn K cdv qual=true
 kp:PySem.W.keepIn K (.ref f)=true
 bd:Binds K fd ps []
section
variable {P:Program} {w:World} {K:PySem.W.Frag} {mg:Str->Option Value} {base:Heap} {x qual:Str} {st:Stmt} {N ps:List Str} {k:Nat} {sp:Sp}
theorem Df.ok {f:Addr} {fd:FuncData} {cdv:Value} (ex:∃ (oc:Value) (od:Option Addr) (kV doc pm:Value) (an:Option Addr) (ct:Value) (osl:Array (Option Value)),
  fd=PySem.W.fnOf x qual (bJ st) (bG st) (aw st) .none kV doc pm an cdv ct/\K.lookup f=some ⟨oc,od,.func fd,osl⟩/\PySem.W.codeIn K cdv qual=true) (S:aS N ps (aw st)) (len:∀ vs H Q E,sp vs H Q E->vs.length=ps.length)
  (hbody:∀ (A:Around) (outer:List Env) (s:Shared) (H:Hp) (vs:List V) (Q:VK) (E:XK),bX k (A.deeper (envOfC qual (aw st) s.heap.objs.size f cdv))->sp vs H Q E ->
   ∃ t,PSs (kg CX0 P w K mg base N qual (aw st) f cdv A outer s H E).nox (bG st) t/\t ⟨λ _ H'=>Q .non H',Q,λ _ _=>False,λ _ _=>False⟩ (start N vs) H):cC P w K mg base CX0 (k+1) f fd ps sp:=by
 obtain ⟨oc,od,kV,doc,pm,an,ct,osl,rfl,lk,hcd⟩:=ex
 refine yh lk hcd S len λ A outer s H vs Q E hr hsp=>?_
 obtain ⟨t,h,q⟩:=hbody A outer s H vs Q E hr hsp
 exact ⟨t,h.nox,q⟩
theorem Df.okE {f:Addr} {fd:FuncData} {cdv:Value} (ex:∃ (oc:Value) (od:Option Addr) (kV doc pm:Value) (an:Option Addr) (ct:Value) (osl:Array (Option Value)),
  fd=PySem.W.fnOf x qual (bJ st) (bG st) (aw st) .none kV doc pm an cdv ct/\K.lookup f=some ⟨oc,od,.func fd,osl⟩/\PySem.W.codeIn K cdv qual=true) (S:aS N ps (aw st)) (len:∀ vs H Q E,sp vs H Q E->vs.length=ps.length)
  (hbody:∀ (A:Around) (outer:List Env) (s:Shared) (H:Hp) (vs:List V) (Q:VK) (E:XK),bX k (A.deeper (envOfC qual (aw st) s.heap.objs.size f cdv))->sp vs H Q E ->
   ∃ t,PSs (kg (CXE P w) P w K mg base N qual (aw st) f cdv A outer s H E) (bG st) t/\t ⟨λ _ H'=>Q .non H',Q,λ _ _=>False,λ _ _=>False⟩ (start N vs) H):cC P w K mg base (CXE P w) (k+1) f fd ps sp:=by
 obtain ⟨oc,od,kV,doc,pm,an,ct,osl,rfl,lk,hcd⟩:=ex
 exact yh lk hcd S len λ A outer s H vs Q E hr hsp=>hbody A outer s H vs Q E hr hsp
end
def Tells (J:It) (H:Hp) (n:Nat) (src:Nat->V):Prop:=∀ H2,ax H H2->J.stop n H2/\∀ i,i<n->J.go i H2/\∀ x H3,J.yld i H2 x H3->H3=H2/\x=src i
section
variable {K:PySem.W.Frag} {H:Hp} {a:Addr} {xs:List V}
theorem dN (h:SqL K H a xs):Tells (Itl K a) H xs.length λ i=>xs.getD i .non:=λ H2 s=>by
 have hl:=s.seq h
 refine ⟨⟨xs,hl,Nat.le_refl _⟩,λ i hi=>⟨⟨xs,xs[i],hl,List.getElem?_eq_getElem hi⟩,?_⟩⟩
 rintro x H3 ⟨rfl,hx⟩
 exact ⟨rfl,by simp [List.getD,hx xs hl]⟩
theorem Ak (h:SqT K H a xs):Tells (Itt K a) H xs.length λ i=>xs.getD i .non:=λ H2 s=>by
 have hl:=s.sqt h
 refine ⟨⟨xs,hl,Nat.le_refl _⟩,λ i hi=>⟨⟨xs,xs[i],hl,List.getElem?_eq_getElem hi⟩,?_⟩⟩
 rintro x H3 ⟨rfl,hx⟩
 exact ⟨rfl,by simp [List.getD,hx xs hl]⟩
theorem vJ {lo:Int} {n:Nat}:Tells (Itr lo n) H n λ i=>.int (lo+i):=λ H2 s=>by
 refine ⟨Nat.le_refl _,λ i hi=>⟨hi,?_⟩⟩
 rintro x H3 ⟨rfl,rfl⟩
 exact ⟨rfl,rfl⟩
end
theorem jJ {H H2 H6:Hp} {D:Addr} {ys zs:List V} {R:Prop} (hD:H D=none) (s:ax H H2) (e:H2 D=some (.lst ys)) (s6:ax H2 H6) (r:R):H6 D=some (.lst ys)/\ax H (upd H6 D (.lst zs))/\R:=
 ⟨s6 _ _ e,λ b o h=>by rw [aq (aj h hD)];exact s6 _ _ (s _ _ h),r⟩
theorem Hj {H H2 H5:Hp} {D:Addr} {ys:List V} {R:Prop} (s:ax H H2) (e:H2 D=some (.lst ys)) (s5:ax H2 H5) (r:R):H5 D=some (.lst ys)/\ax H H5/\R:=⟨s5 _ _ e,s.trans s5,r⟩
theorem lcG {nN:Nat} {fs:List (Nat×Nat)} {g:TG} {tc:TT} {te:TE} {σ:St} {H:Hp} {QD:Addr->Hp->Prop} {J:It} {n:Nat} {src:Nat->V} (R:Nat->List V->Prop) (hJ:Tells J H n src) (hn:n<=sizeLine) (h0:R 0 [])
  (ht:∀ D i ys H2,i<n->H D=none->ax H H2->H2 D=some (.lst ys)->R i ys->g (src i) (tau nN fs σ) H2 λ τ4 H4=>(∀ (j:Nat) v,(tau nN fs σ)[j]?=some (some v)->τ4[j]?=some (some v))/\tc τ4 H4 λ b H5=>
   if b=true then te τ4 H5 λ v H6=>H6 D=some (.lst ys)/\ax H (upd H6 D (.lst (ys++[v])))/\R (i+1) (ys++[v]) else H5 D=some (.lst ys)/\ax H H5/\R (i+1) ys)
  (hQ:∀ D H2 ys,H D=none->ax H H2->H2 D=some (.lst ys)->R n ys->QD D H2):
  ∀ D,H D=none->∃ (n:Nat) (W:Nat->List V->Hp->Prop),n<=sizeLine/\W 0 [] (upd H D (.lst [])) /\
   ∀ i ys H2,i<=n->W i ys H2->H2 D=some (.lst ys)->(J.stop i H2/\QD D H2)∨(i<n/\J.go i H2/\∀ x H3,J.yld i H2 x H3->g x (tau nN fs σ) H3 λ τ4 H4=>
    (∀ (j:Nat) v,(tau nN fs σ)[j]?=some (some v)->τ4[j]?=some (some v))/\tc τ4 H4 λ b H5=>
     if b=true then te τ4 H5 λ v H6=>H6 D=some (.lst ys)/\W (i+1) (ys++[v]) (upd H6 D (.lst (ys++[v]))) else H5 D=some (.lst ys)/\W (i+1) ys H5):=by
 intro D hD
 refine ⟨n,λ i ys H2=>ax H H2/\R i ys,hn,⟨ax.upd hD,h0⟩,?_⟩
 rintro i ys H2 hi ⟨s2,r⟩ e
 obtain ⟨h1,h2⟩:=hJ H2 s2
 rcases Nat.lt_or_ge i n with hlt | hge
 ·refine .inr ⟨hlt,(h2 i hlt).1,λ x H3 y=>?_⟩
  obtain ⟨rfl,rfl⟩:=(h2 i hlt).2 x H3 y
  exact ht D i ys H3 hlt hD s2 e r
 ·have:i=n:=by omega
  subst this
  exact .inl ⟨h1,hQ D H2 ys hD s2 e r⟩
theorem F9 {nN:Nat} {fs:List (Nat×Nat)} {wi:TI} {g:TG} {tc:TT} {te:TE} {σ:St} {H:Hp} {Q:VK} (q:wi σ H λ J H1=>∀ D,H1 D=none->∃ (n:Nat) (W:Nat->List V->Hp->Prop),n<=sizeLine/\W 0 [] (upd H1 D (.lst [])) /\
 ∀ i ys H2,i<=n->W i ys H2->H2 D=some (.lst ys)->(J.stop i H2/\Q (.ref D) H2)∨(i<n/\J.go i H2/\∀ x H3,J.yld i H2 x H3->g x (tau nN fs σ) H3 λ τ4 H4=>
  (∀ (j:Nat) v,(tau nN fs σ)[j]?=some (some v)->τ4[j]?=some (some v))/\tc τ4 H4 λ b H5=>
   if b=true then te τ4 H5 λ v H6=>H6 D=some (.lst ys)/\W (i+1) (ys++[v]) (upd H6 D (.lst (ys++[v]))) else H5 D=some (.lst ys)/\W (i+1) ys H5)):tLC nN fs wi g tc te σ H Q:=q
theorem uY {σ:St} {H:Hp} {QB:Bool->Hp->Prop} (q:QB true H):Ab σ H QB:=q
end L2
local macro_rules | `(tactic| array_get_dec) => `(tactic| first | with_reducible refine L2.F9 ?_ | with_reducible refine L2.uY ?_)
namespace L2
open PySem PySem.Spec PyProof.Rows
theorem gY {τ:St} {x:V} (h:τ[0]?=some none):∀ (j:Nat) v,τ[j]?=some (some v)->(τ.set 0 (some x))[j]?=some (some v):=λ j v hj=>by
 by_cases z:j=0
 ·subst z;rw [h] at hj;cases hj
 ·rw [List.getElem?_set_ne (Ne.symm z)];exact hj
theorem fX {α:Type} {xs:List α} {i:Int} (h0:0<=i) (h1:i<xs.length):∃ v,v∈xs/\atI xs i=some v:=by
 have hj:i.toNat<xs.length:=by omega
 refine ⟨xs[i.toNat],List.getElem_mem hj,?_⟩
 have e:=aX (xs:=xs) (j:=i.toNat) (List.getElem?_eq_getElem hj)
 rw [Int.toNat_of_nonneg h0] at e
 exact e
section
variable {g:TG} {tb:TS} {nx:St->Hp->Prop} {rt:VK} {σ:St} {H:Hp}
theorem forL {K:PySem.W.Frag} {a:Addr} {xs:List V} (Pv:Nat->St->Hp->Prop) (h0:Pv 0 σ H) (hl:∀ i σ H,i<=xs.length->Pv i σ H->SqL K H a xs)
  (hs:∀ i x σ H,xs[i]?=some x->Pv i σ H->g x σ H λ σ2 H2=>tb ⟨Pv (i+1),rt,nx,Pv (i+1)⟩ σ2 H2) (hd:∀ σ H,Pv xs.length σ H->nx σ H):
  ∃ W:Nat->Nat->St->Hp->Prop,(∃ m,W 0 m σ H)/\∀ i m σ H,W i m σ H ->
   ((Itl K a).stop i H/\nx σ H)∨((Itl K a).go i H/\∃ N:St->Hp->Prop,(∀ σ' H',N σ' H'->∃ m',m'<m/\W (i+1) m' σ' H')/\∀ x H',(Itl K a).yld i H x H'->g x σ H' λ σ2 H2=>tb ⟨N,rt,nx,N⟩ σ2 H2):=yX (D:=⟨nx,rt,λ _ _=>False,λ _ _=>False⟩) Pv h0 hl hs hd
theorem forR {lo:Int} {n:Nat} (Pv:Nat->St->Hp->Prop) (h0:Pv 0 σ H)
  (hs:∀ i σ H,i<n->Pv i σ H->g (.int (lo+i)) σ H λ σ2 H2=>tb ⟨Pv (i+1),rt,nx,Pv (i+1)⟩ σ2 H2) (hd:∀ σ H,Pv n σ H->nx σ H):
  ∃ W:Nat->Nat->St->Hp->Prop,(∃ m,W 0 m σ H)/\∀ i m σ H,W i m σ H ->
   ((Itr lo n).stop i H/\nx σ H)∨((Itr lo n).go i H/\∃ N:St->Hp->Prop,(∀ σ' H',N σ' H'->∃ m',m'<m/\W (i+1) m' σ' H')/\∀ x H',(Itr lo n).yld i H x H'->g x σ H' λ σ2 H2=>tb ⟨N,rt,nx,N⟩ σ2 H2):=vX (D:=⟨nx,rt,λ _ _=>False,λ _ _=>False⟩) Pv h0 hs hd
end
section
variable {tt uu:TT} {te:TE} {σ:St} {H:Hp} {a b:Bool} {v:V}
end
end L2
local macro_rules | `(tactic| array_mem_dec) => `(tactic| (first
 | ((with_reducible refine L2.w_var (v:=?v) ?h ?_);(case h=>exact rfl)) | ((with_reducible refine L2.w_mod ?h ?_);(case h=>decide)) | ((with_reducible refine L2.w_I (C:=L2.B5) ?h ?_);(case h=>exact ⟨by decide,by decide⟩))
 | with_reducible refine L2.tV ?_ | with_reducible refine L2.pP ?_ | with_reducible refine L2.BP ?_ | with_reducible refine L2.BI ?_
 | with_reducible refine L2.F8 ?_ | with_reducible refine L2.w_C ?_ | with_reducible refine L2.E8 ?_ | with_reducible refine L2.FE ?_ | with_reducible refine L2.w_U ?_ | with_reducible refine L2.A6 ?_ | with_reducible refine L2.Bn ?_ | with_reducible refine L2.Bs ?_ | with_reducible refine L2.Bb ?_ | with_reducible refine L2.Bk ?_ | with_reducible refine L2.xZ ?_ | with_reducible refine L2.Fw ?_ | with_reducible refine L2.w_k ?_ | with_reducible refine L2.w_and ?_ | with_reducible refine L2.w_or ?_ | with_reducible refine L2.w_not ?_ | with_reducible refine L2.y8 ?_ | with_reducible refine L2.Bz ?_ | with_reducible refine L2.zh ?_ | with_reducible refine L2.vD ?_ | with_reducible refine L2.Bh ?_ | with_reducible refine L2.wM ?_ | with_reducible refine L2.yJ ?_ | with_reducible refine L2.E7 ?_ | with_reducible refine L2.BN ?_ | with_reducible refine L2.Bi ?_ | with_reducible refine L2.ES ?_ | with_reducible refine L2.rq ?_ | with_reducible refine L2.zc ?_ | with_reducible refine L2.Eo ?_ | with_reducible refine L2.Fe ?_ | with_reducible refine L2.Bv ?_ | with_reducible refine L2.w_fld ?_ | with_reducible refine L2.Ba ?_ | with_reducible refine L2.w_next ?_ | with_reducible refine L2.Bc ?_ | with_reducible refine L2.uS ?_ | with_reducible refine L2.A5 ?_ | with_reducible refine L2.yM ?_ | with_reducible refine L2.xV ?_ | with_reducible refine L2.Bj ?_ | with_reducible refine L2.u7 ?_ | with_reducible refine L2.jf ?_ | with_reducible refine L2.uX ?_ | with_reducible refine L2.xu ?_ | with_reducible refine L2.F9 ?_ | with_reducible refine L2.uY ?_ | with_reducible refine L2.w_G ?_ | with_reducible refine L2.zo ?_ | with_reducible refine L2.yD ?_ | with_reducible refine L2.yW ?_ | with_reducible refine L2.wN ?_))
namespace L2
open PySem PySem.Spec PyProof.Rows
def Pt (tl:TO) (σ:St):Prop:=∀ H (R:Option Int->Hp->Prop),(∀ o,R o H)->tl σ H R
section
variable {K:PySem.W.Frag} {σ:St} {H:Hp} {ta tb te:TE} {tA:TA} {n m k:Nat}
end
def hT (a:Addr) (oa:Option HO) (ts:List Addr):Hp:=λ b=>if b=a then oa else if b∈ts then some (Tb b) else none
theorem wz {P:Program} {w:World} {K:PySem.W.Frag} {mg mb:Str->Option Value} {CX:CXT} {k:Nat} {fa a:Addr} {fd:FuncData} {x:Str} {sp:Sp} {s₁:Shared} {vs:List Value} {ns:List Int} (ts:List Addr)
  (KX:K.In s₁.heap) (hns:s₁.heap.Ns mainGlobals mg) (hb:s₁.heap.Ns builtinsNs mb) (hbb:∀ x:Str,x≠"__name__"->mb x=bootBuiltins x) (hlim:s₁.heap.NoLimit) (hg:s₁.gens=#[])
  (ha:s₁.heap.get? a=some { cls:=.type "list",data:=.seq vs.toArray }) (hi:IntsAre vs ns) (hl:ns.length<=sizeLine) (hr:bX k callerA) (hK:PySem.W.noTabs K=true)
  (hT0:∀ t∈ts,(∃ c,PySem.W.CodeHd s₁.heap c t)/\s₁.heap.get? t=some (PySem.W.tabObj #[]))
  (hbm:∃ bm ob,mg "__builtins__"=some (.ref bm)/\bm≠builtinsNs/\s₁.heap.get? bm=some ob/\ob.cls=.type "module"/\ob.dict=some builtinsNs/\ob.data=.plain)
  (F:∀ base:Heap,K.In base->base.Ns mainGlobals mg->iM base->cC P w K mg base CX k fa fd [x] sp) (hbind:∀ (s:Shared) (u:Value),BindsTo s fd ⟨[u],[]⟩ [(x,u)])
  (hsp:∀ H:Hp,(∀ t∈ts,H t=some (Tb t))->SqL K H a (ns.map V.int)->sp [.ref a] H (λ v H'=>v=.bl true/\∀ t∈ts,H' t=some (Tb t)) λ _ _ _=>False)
  (hCX:∀ H e s',CX [] H s₁ (λ _ _ _=>False) e s'->False):
  codeAny (model P w) callerA (.call (.ref fa) ⟨[.ref a],[]⟩) (λ r s'=>r=.ok (.ret (.bool true))/\OldK s₁.heap s'.heap/\s'.os=s₁.os/\AllBare s'.gens) s₁:=by
 have rv:=pk hi
 have lenV:=hi.length
 have nat:∀ t∈ts,t≠a:=λ t ht e=>by
  have:=(hT0 t ht).2
  rw [e,ha] at this
  have:=congrArg Obj.cls (Option.some.inj this)
  cases this
 have core:∀ oa:Option HO,(oa=none∨(K.lookup a=none/\∃ xs,oa=some (.frz { cls:=.type "list",data:=.seq vs.toArray } (.lst xs))))->SqL K (hT a oa ts) a (ns.map V.int)->(∀ o,oa=some o->cm P w (hT a oa ts) s₁.heap a o) ->
   codeAny (model P w) callerA (.call (.ref fa) ⟨[.ref a],[]⟩) (λ r s'=>r=.ok (.ret (.bool true))/\OldK s₁.heap s'.heap/\s'.os=s₁.os/\AllBare s'.gens) s₁:=by
  intro oa hO hS hoa
  have hTs:∀ t∈ts,hT a oa ts t=some (Tb t):=λ t ht=>by unfold hT;rw [if_neg (nat t ht),if_pos ht]
  have kinds:∀ b,hT a oa ts b=none∨(b=a/\∃ o,oa=some o/\hT a oa ts b=some o)∨(b∈ts/\hT a oa ts b=some (Tb b)):=λ b=>by
   by_cases e:b=a
   ·have hv:hT a oa ts b=oa:=by unfold hT;rw [if_pos e]
    cases q:oa with
    | none=>left;rw [<- q,hv,q]
    | some o=>right;left;exact ⟨e,o,rfl,by rw [<- q,hv,q]⟩
   ·by_cases m:b∈ts
    ·exact .inr (.inr ⟨m,hTs b m⟩)
    ·left;unfold hT;rw [if_neg e,if_neg m]
  have hok:HOk P w (hT a oa ts) s₁.heap:=λ b o e=>by
   rcases kinds b with z | ⟨rfl,o',e1,z⟩ | ⟨m,z⟩
   ·rw [z] at e;cases e
   ·rw [z] at e;cases e
    exact hoa _ e1
   ·rw [z] at e;cases e
    exact ⟨⟨#[],(hT0 b m).2,trivial⟩,⟨_,(hT0 b m).2⟩,tabφ_stay⟩
  have free:∀ {b:Addr} {o:Obj},s₁.heap.get? b=some o->o.data≠.seq vs.toArray 0->o.data≠.fields #[]->hT a oa ts b=none:=λ {b o} e n1 n2=>by
   rcases kinds b with z | ⟨rfl,o',e1,z⟩ | ⟨m,z⟩
   ·exact z
   ·rw [ha] at e;cases e
    exact absurd rfl n1
   ·rw [(hT0 b m).2] at e;cases e
    exact absurd rfl n2
  have nsK:∀ {b:Addr} {m:Str->Option Value},s₁.heap.Ns b m->(pL s₁.heap (hT a oa ts)).Ns b m:=λ {b m} ⟨o,es,ep,e,d,r⟩=>⟨o,es,ep,nH e (free e (by rw [d];simp) (by rw [d];simp)),d,r⟩
  have hKb:K.In (pL s₁.heap (hT a oa ts)):=λ b o e=>nH (KX b o e) (by
   rcases kinds b with z | ⟨rfl,o',e1,z⟩ | ⟨m,z⟩
   ·exact z
   ·rcases hO with q | ⟨q,_⟩
    ·rw [q] at e1;cases e1
    ·rw [q] at e;cases e
   ·have e2:=KX b o e
    rw [(hT0 b m).2] at e2
    have h2:=List.all_eq_true.mp hK (b,o) (PySem.W.mem_of_lookupK e)
    cases e2
    exact absurd (show false=true from h2) Bool.false_ne_true)
  have hM:Mod K mg (pL s₁.heap (hT a oa ts)):=⟨hKb,nsK hns,⟨mb,nsK hb,hbb⟩,let ⟨mc,h1,h2⟩:=hlim;⟨mc,nsK h1,h2⟩⟩
  have hB:iM (pL s₁.heap (hT a oa ts)):=by
   obtain ⟨bm,ob,e1,e2,e3,e4,e5,e6⟩:=hbm
   exact Ag (nsK hns) e1 e2 (nH e3 (free e3 (by rw [e6];simp) (by rw [e6];simp))) e4 e5 e6
  have e0:tQ P w K mg (pL s₁.heap (hT a oa ts)) callerA [] s₁ (hT a oa ts):=⟨rfl,hM,λ b o e=>AU e,Nat.le_of_eq (wa _ _),trivial,λ b hb=>absurd (show b∈([]:List Addr) from hb) (by simp),hok,.of_eq hg⟩
  refine codeAny_mono ((F _ hKb (nsK hns) hB).run callerA [] s₁ _ ⟨[.ref a],[]⟩ [.ref a] [.ref a] _ _ hr e0 (hbind s₁ (.ref a)) (.cons rfl .nil) (hsp _ hTs hS)) λ r s' h=>?_
  cases r with
  | error e=>exact (hCX _ e s' h).elim
  | ok fl=>
   cases fl with
   | next=>exact False.elim h
   | brk=>exact False.elim h
   | cont=>exact False.elim h
   | ret u=>
    obtain ⟨v,H',os,bare,un,hok',r',q⟩:=h
    obtain ⟨q1,q2⟩:=q
    subst q1
    obtain rfl:u=Value.bool true:=r'
    have keep:∀ b o,s₁.heap.get? b=some o->b ∉ ts->s'.heap.get? b=some o:=λ b o e m=>by
     rcases kinds b with z | ⟨rfl,o',e1,z⟩ | ⟨m',_⟩
     ·exact un.keep b o e z (by intro z;exact absurd (show b∈([]:List Addr) from z) (by simp)) (by simp)
     ·rcases hO with q | ⟨_,xs,q⟩
      ·rw [q] at e1;cases e1
      ·rw [q] at e1;cases e1
       have z2:=un.kA b _ _ z
       obtain ⟨g1,_⟩:=hok b _ z
       obtain ⟨g2,_⟩:=hok' b _ z2
       rw [e] at g1;cases g1
       exact g2
     ·exact absurd m' m
    refine ⟨rfl,⟨λ b o e=>?_,λ b o e=>?_⟩,os,bare⟩
    ·by_cases m:b∈ts
     ·obtain ⟨⟨ps,g,_⟩,_⟩:=hok' b _ (q2 b m)
      obtain ⟨⟨c,hc⟩,hp⟩:=hT0 b m
      rw [hp] at e;cases e
      refine .inr (.inl ⟨?_,rfl,#[],ps,rfl,?_⟩)
      ·obtain ⟨o,vs',_,_,_,_,_,_,_,e1,e2,e3,e4,_⟩:=hc
       exact ⟨c,o,vs',e1,e2,e3,e4⟩
      ·rw [g];simp
     ·exact .inl (keep b o e m)
    ·by_cases m:b∈ts
     ·obtain ⟨⟨ps,g,_⟩,_⟩:=hok' b _ (q2 b m)
      exact ⟨_,g⟩
     ·exact ⟨o,keep b o e m⟩
 cases hk:K.lookup a with
 | some o=>
  have e:=KX a o hk
  rw [ha] at e
  cases e
  refine core none (.inl rfl) (.inr ⟨_,vs.toArray,_,hk,rfl,rfl,rfl,by rw [List.size_toArray,lenV];exact hl,by simpa using rv⟩) λ o z=>by cases z
 | none=>
  have hv:hT a (some (.frz { cls:=.type "list",data:=.seq vs.toArray } (.lst (ns.map V.int)))) ts a=some (.frz { cls:=.type "list",data:=.seq vs.toArray } (.lst (ns.map V.int))):=by unfold hT;rw [if_pos rfl]
  refine core (some (.frz { cls:=.type "list",data:=.seq vs.toArray } (.lst (ns.map V.int)))) (.inr ⟨hk,_,rfl⟩) (.inl (.inr ⟨_,hv⟩)) λ o z=>?_
  cases z
  exact ⟨ha,by rw [List.length_map];exact hl,vs,_,rv,ha⟩
section
variable {κ:Type} [DecidableEq κ]
def jk (kvs:List (κ×V)) (k:κ):Option V:=(kvs.find? λ kv=>decide (kv.1=k)).map (·.2)
def putK (kvs:List (κ×V)) (k:κ) (v:V):List (κ×V):=
 if (kvs.any λ kv=>decide (kv.1=k))=true then kvs.map (λ kv=>if kv.1=k then (kv.1,v) else kv) else kvs++[(k,v)]
def BO (kvs:List (κ×V)) (k:κ):List (κ×V):=kvs.filter λ kv=>decide (kv.1≠k)
theorem xf {p:κ×V} {r:List (κ×V)} {k:κ} (e:p.1=k):jk (p::r) k=some p.2:=by simp [jk,List.find?_cons,e]
theorem wQ {p:κ×V} {r:List (κ×V)} {k:κ} (e:¬ p.1=k):jk (p::r) k=jk r k:=by simp [jk,List.find?_cons,e]
theorem nA.wB {o:Option V} {u:Option Value} (r:nA o u):o.isSome=u.isSome:=by
 cases o with
 | none=>cases u with
  | none=>rfl
  | some _=>exact (show False from r).elim
 | some _=>cases u with
  | none=>exact (show False from r).elim
  | some _=>rfl
theorem KV.val {kvs:List (κ×V)} {vs:List (κ×Value)} (r:KV kvs vs) (k:κ):nA (jk kvs k) (valueAt vs k):=by
 unfold KV at r
 induction r with
 | nil=>exact True.intro
 | @cons p q ps qs h t ih=>
  obtain ⟨h1,h2⟩:=h
  by_cases e:p.1=k
  ·have e':q.1=k:=h1.symm.trans e
   have b:valueAt (q::qs) k=some q.2:=by simp [valueAt,List.find?_cons,e']
   rw [xf e,b];exact h2
  ·have e':¬ q.1=k:=λ z=>e (h1.trans z)
   have b:valueAt (q::qs) k=valueAt qs k:=by simp [valueAt,List.find?_cons,e']
   rw [wQ e,b];exact ih
end
theorem Bx {P:Program} {w:World} {k:Key} {u:Value} (r:RelV (kV k) u):(cu P w).is k u=true:=by
 cases k with
 | inl i=>obtain ⟨t,e⟩:=(show ∃ t,u=Value.int i t from r);subst e;exact qV P w i t
 | inr x=>obtain ⟨t,e⟩:=(show ∃ t,u=Value.str x t from r);subst e;exact iV P w x t
abbrev KT (H:Hp):List (List Key×V)->List (List Key×Addr×Value)->Prop:=Paired λ p q=>p.1=q.1/\H q.2.1=some (.tup (p.1.map kV))/\RelV p.2 q.2.2
section
variable {P:Program} {w:World} {H:Hp} {h:Heap} {a:Addr}
theorem vo {u:HO} (ok:HOk P w H h) (e:Rd H a u):cm P w H h a u:=e.ok ok
end
def An (H:Hp) (a:Addr) (y:V) (r:Option V):Prop:=
 (∃ kvs k,Rd H a (.dK kvs)/\y=kV k/\r=jk kvs k)∨∃ kvs k b,Rd H a (.dT kvs)/\y=.ref b/\H b=some (.tup (k.map kV))/\r=jk kvs k
def FV (H:Hp) (a:Addr) (y v:V) (H':Hp):Prop:=
 (∃ kvs k,H a=some (.dK kvs)/\y=kV k/\kvs.length<sizeLine/\H'=upd H a (.dK (putK kvs k v))) ∨
 ∃ kvs k b,H a=some (.dT kvs)/\y=.ref b/\H b=some (.tup (k.map kV))/\kvs.length<sizeLine/\H'=upd H a (.dT (putK kvs k v))
section
variable {X:Cx} {pins:List (Addr×Obj)} {σ:St} {H:Hp} {s:Shared} {a:Addr} {y v:V} {u r:Value} {o:Option V} {A:Around} {E:Value->Shared->Prop}
end
section
variable {X:Cx} {pins:List (Addr×Obj)} {σ:St} {H:Hp} {s:Shared} {a:Addr} {kvs:List (Key×V)} {k:Key} {u:Value} {A:Around} {E:Value->Shared->Prop}
end
def FH (i:Expr):Prop:=∀ ov iv,subscripted i false ov iv=operate [ov,iv] (getItem ov iv)
theorem zY {prog:Program} {w:World} {A:Around} {E:Value->Shared->Prop} {s:Shared} {env:Env} {value slice:Expr} {pos:Pos} {T id:String} {Q:Value->Shared->Prop}
  (hl:typeLookup (.type T) "__getitem__"=pure (some (.builtin id))) (hs:FH slice)
  (h:wpAny (model prog w) A (eval value env) (λ o s₁=>wpAny (model prog w) A (eval slice env) (λ i s₂=>s₂.TypeIs o T/\wpAny (model prog w) A (getItem o i) Q E s₂) E s₁) E s):
  wpAny (model prog w) A (eval (.Subscript value slice pos) env) Q E s:=by
 refine Subscript_ (wpAny_mono h (λ o s₁ h₁=>wpAny_mono h₁ (λ i s₂ h₂=>?_) λ _ _ x=>x) λ _ _ x=>x)
 obtain ⟨hT,h₂⟩:=h₂
 unfold subscriptTail
 refine wpAny_bind ?_
 rw [getitemInPython_of_ne hT.not_modules]
 refine wpAny_bind (wpAny_specialOf hT hl ?_)
 have fin:wpAny (model prog w) A (subscripted slice false o i) (λ r s₃=>wpAny (model prog w) A (letTemporaryGo value o r >>= λ _=>pure r) Q E s₃) E s₂:=by
  rw [hs o i]
  exact wpAny_operating (wpAny_mono h₂ (λ r s₃ h₃=>wpAny_bind (wpAny_letTemporaryGo (wpAny_pure h₃))) λ _ _ x=>x)
 first
  | exact wpAny_pure (wpAny_bind fin)
  | exact wpAny_bind (wpAny_pure (wpAny_bind fin))
  | exact wpAny_bind fin
def F4 (td ty:TE):TE:=λ σ H Q=>td σ H λ x H1=>ty σ H1 λ y H2=>∃ a v,x=.ref a/\An H2 a y (some v)/\Q v H2
def Hn (ty td:TE):TE:=λ σ H Q=>ty σ H λ y H1=>td σ H1 λ x H2=>∃ a o,x=.ref a/\An H2 a y o/\Q (.bl o.isSome) H2
def E5 (td ty tv:TE):TS:=λ D σ H=>tv σ H λ v H1=>td σ H1 λ x H2=>ty σ H2 λ y H3=>∃ a H4,x=.ref a/\FV H3 a y v H4/\D.nx σ H4
section
variable {X:Cx} {o i e value:Expr} {pos pos' tpos:Pos} {td ty tv:TE}
end
def CB:TE:=λ _ H Q=>∀ p,H p=none->Q (.ref p) (upd H p (.dK []))
section
variable {X:Cx} {pos:Pos}
end
def kD:List (TE×TE)->St->Hp->(List (V×V)->Hp->Prop)->Prop
 | [],_,H,Q=>Q [] H
 | (tk,tv)::r,σ,H,Q=>tk σ H λ x H1=>tv σ H1 λ y H2=>kD r σ H2 λ ps H3=>Q ((x,y)::ps) H3
def xB (kvs more:List (Key×V)):List (Key×V):=more.foldl (λ acc kv=>putK acc kv.1 kv.2) kvs
def F6 (trs:List (TE×TE)):TE:=λ σ H Q=>∀ p,H p=none->kD trs σ (upd H p (.dK [])) λ ps H2=>H2 p=some (.dK [])/\∃ kvs:List (Key×V),ps=kvs.map (λ kv=>(kV kv.1,kv.2))/\kvs.length<=15/\Q (.ref p) (upd H2 p (.dK (xB [] kvs)))
structure M1 (X:Cx) (o:Expr) (m:Str) (apos:Pos) (e:Expr) (cpos:Pos):Prop where
 base:attributeBase o m X.env (eval o X.env)=eval o X.env
 few:((backTo cpos (starEach [e] X.env)).all (λ x=>!x.1)&&(backToKw cpos (keywordEach [] X.env)).all (λ x=>x.1.isSome)
  && decide (([e]:List Expr).length+([]:List Keyword).length+(if ([]:List Keyword).isEmpty then 0 else 1)<30))=true
 line:(apos.endLine==cpos.line)=true
 trees:backTo cpos (starEach [e] X.env)=[(false,eval e X.env)]
structure M2 (X:Cx) (o:Expr) (m:Str) (apos:Pos) (e f:Expr) (cpos:Pos):Prop where
 base:attributeBase o m X.env (eval o X.env)=eval o X.env
 few:((backTo cpos (starEach [e,f] X.env)).all (λ x=>!x.1)&&(backToKw cpos (keywordEach [] X.env)).all (λ x=>x.1.isSome)
  && decide (([e,f]:List Expr).length+([]:List Keyword).length+(if ([]:List Keyword).isEmpty then 0 else 1)<30))=true
 line:(apos.endLine==cpos.line)=true
 trees:backTo cpos (starEach [e,f] X.env)=[(false,eval e X.env),(false,eval f X.env)]
def IsD (H:Hp) (a:Addr):Prop:=(∃ kvs,Rd H a (.dK kvs))∨∃ kvs,Rd H a (.dT kvs)
section
variable {X:Cx} {pins:List (Addr×Obj)} {σ:St} {H:Hp} {s:Shared} {a:Addr} {y d:V} {u r:Value} {o:Option V} {A:Around} {E:Value->Shared->Prop}
end
def Cm (td ty:TE):TE:=λ σ H Q=>td σ H λ x H1=>∃ a,x=.ref a/\IsD H1 a/\ty σ H1 λ y H2=>∃ kvs k v,H2 a=some (.dK kvs)/\y=kV k/\jk kvs k=some v/\Q v (upd H2 a (.dK (BO kvs k)))
section
variable {X:Cx} {o e f:Expr} {apos cpos:Pos} {td ty tx:TE}
end
section
variable {X:Cx} {pins:List (Addr×Obj)} {σ:St} {H:Hp} {s:Shared} {a:Addr} {kvs:List (Key×V)} {A:Around} {E:Value->Shared->Prop}
end
section
variable {X:Cx} {pins:List (Addr×Obj)} {σ:St} {H:Hp} {s:Shared} {a:Addr} {y:V} {u:Value} {A:Around} {E:Value->Shared->Prop}
end
section
variable {X:Cx}
end
section
variable {κ:Type} [DecidableEq κ]
theorem uQ:∀ {l:List κ} {k:κ},l.Nodup->¬ k∈l->(l++[k]).Nodup
 | [],k,_,_=>by simp
 | a::r,k,h,hk=>by
  obtain ⟨h1,h2⟩:=List.nodup_cons.mp h
  show (a::(r++[k])).Nodup
  refine List.nodup_cons.mpr ⟨λ m=>?_,uQ h2 λ m=>hk (List.mem_cons.mpr (Or.inr m))⟩
  rcases List.mem_append.mp m with q | q
  ·exact h1 q
  ·exact hk (List.mem_cons.mpr (Or.inl (List.mem_singleton.mp q).symm))
end
def tDC (nN:Nat) (fs:List (Nat×Nat)) (wi:TI) (g:TG) (tc:TT) (tk tv:TE):TE:=λ σ H Q=>wi σ H λ J H1=>∀ D,H1 D=none->∃ (n:Nat) (W:Nat->List (Key×V)->Hp->Prop),n<=sizeLine/\W 0 [] (upd H1 D (.dK [])) /\
 ∀ i ys H2,i<=n->W i ys H2->H2 D=some (.dK ys)->(J.stop i H2/\Q (.ref D) H2)∨(i<n/\J.go i H2/\∀ x H3,J.yld i H2 x H3->g x (tau nN fs σ) H3 λ τ4 H4=>
  (∀ (j:Nat) v,(tau nN fs σ)[j]?=some (some v)->τ4[j]?=some (some v))/\tc τ4 H4 λ b H5=>
   if b=true then tk τ4 H5 λ y H6=>tv τ4 H6 λ v H7=>∃ k:Key,y=kV k/\H7 D=some (.dK ys)/\W (i+1) (putK ys k v) (upd H7 D (.dK (putK ys k v))) else H5 D=some (.dK ys)/\W (i+1) ys H5)
section
variable {X:Cx} {scope:Scope} {N:List Str} {fs:List (Nat×Nat)} {tg kx vx iter:Expr} {ifs:List Expr} {pos cpos:Pos} {wi:TI} {g:TG} {tc:TT} {tk tv:TE}
end
theorem Hh {nN:Nat} {fs:List (Nat×Nat)} {wi:TI} {g:TG} {tc:TT} {tk tv:TE} {σ:St} {H:Hp} {Q:VK} (q:wi σ H λ J H1=>∀ D,H1 D=none->∃ (n:Nat) (W:Nat->List (Key×V)->Hp->Prop),n<=sizeLine/\W 0 [] (upd H1 D (.dK [])) /\
 ∀ i ys H2,i<=n->W i ys H2->H2 D=some (.dK ys)->(J.stop i H2/\Q (.ref D) H2)∨(i<n/\J.go i H2/\∀ x H3,J.yld i H2 x H3->g x (tau nN fs σ) H3 λ τ4 H4=>
  (∀ (j:Nat) v,(tau nN fs σ)[j]?=some (some v)->τ4[j]?=some (some v))/\tc τ4 H4 λ b H5=>
   if b=true then tk τ4 H5 λ y H6=>tv τ4 H6 λ v H7=>∃ k:Key,y=kV k/\H7 D=some (.dK ys)/\W (i+1) (putK ys k v) (upd H7 D (.dK (putK ys k v))) else H5 D=some (.dK ys)/\W (i+1) ys H5)):tDC nN fs wi g tc tk tv σ H Q:=q
section
variable {X:Cx}
end
section
variable {σ:St} {H:Hp} {Q:VK} {td ty tv:TE} {nx:St->Hp->Prop} {rt:VK} {bk ct:St->Hp->Prop}
theorem CU (q:td σ H λ x H1=>ty σ H1 λ y H2=>∃ a v,x=.ref a/\An H2 a y (some v)/\Q v H2):F4 td ty σ H Q:=q
theorem Cc (q:tv σ H λ v H1=>td σ H1 λ x H2=>ty σ H2 λ y H3=>∃ a H4,x=.ref a/\FV H3 a y v H4/\nx σ H4):E5 td ty tv ⟨nx,rt,bk,ct⟩ σ H:=q
theorem CK (q:∀ p,H p=none->Q (.ref p) (upd H p (.dK []))):CB σ H Q:=q
theorem CV {trs:List (TE×TE)} (q:∀ p,H p=none->kD trs σ (upd H p (.dK [])) λ ps H2=>H2 p=some (.dK [])/\∃ kvs:List (Key×V),ps=kvs.map (λ kv=>(kV kv.1,kv.2))/\kvs.length<=15/\Q (.ref p) (upd H2 p (.dK (xB [] kvs)))):F6 trs σ H Q:=q
theorem GD {tk:TE} {r:List (TE×TE)} {R:List (V×V)->Hp->Prop} (q:tk σ H λ x H1=>tv σ H1 λ y H2=>kD r σ H2 λ ps H3=>R ((x,y)::ps) H3):kD ((tk,tv)::r) σ H R:=q
theorem Fl {R:List (V×V)->Hp->Prop} (q:R [] H):kD [] σ H R:=q
end
end L2
local macro_rules | `(tactic| array_get_dec) => `(tactic| first | with_reducible refine L2.Hh ?_ | with_reducible refine L2.CU ?_ | with_reducible refine L2.Cc ?_ | with_reducible refine L2.CK ?_ | with_reducible refine L2.CV ?_ | with_reducible refine L2.GD ?_ | with_reducible refine L2.Fl ?_)
namespace L2
open PySem PySem.Spec PyProof.Rows
theorem gO {α:Type} [DecidableEq α]:∀ {l m:List α},l.Nodup->(∀ x∈l,x∈m)->l.length<=m.length
 | [],_,_,_=>Nat.zero_le _
 | a::l,m,nd,h=>by
  obtain ⟨n1,n2⟩:=List.nodup_cons.mp nd
  have ha:=h a List.mem_cons_self
  have:=gO (m:=m.erase a) n2 λ x hx=>(List.mem_erase_of_ne (show x≠a from λ e=>n1 (by rw [<- e];exact hx))).mpr (h x (List.mem_cons_of_mem _ hx))
  rw [List.length_erase_of_mem ha] at this
  have hp:=List.length_pos_of_mem ha
  rw [List.length_cons]
  omega
theorem wX {v:V} (h:eC v=true):eqV v v=true:=by
 cases v with
 | non=>rfl
 | bl b=>exact beq_self_eq_true b
 | int i=>exact beq_self_eq_true i
 | str x=>exact beq_self_eq_true x
 | _=>cases h
section
variable {X:Cx}
end
section
variable {X:Cx}
theorem oZ:fA X (.type "int") (λ xs H Q=>∃ b,xs=[.bl b]/\Q (.int (if b then 1 else 0)) H):=by
 intro pins s σ H xs us Q I r h
 obtain ⟨b,rfl,q⟩:=h
 obtain ⟨u,rfl,rx⟩:=vals1 r
 cases rx
 exact PySem.call_int_bool ⟨.int _,H,I.tok _,⟨_,rfl⟩,q⟩
end
theorem zu {P:Program} {w:World} {K:PySem.W.Frag} {es:List Expr} {k1:Nat} {pos:Pos} {J:It} {it:Addr} {wr:List Addr} {own:Nat->Heap->Prop} (hit:it∈wr)
  (hobj:∀ i h,own i h->∀ b∈wr,∃ o,h.get? b=some o/\∀ v,o.data≠.cell v) (hkeep:∀ i h h',own i h->(∀ b∈wr,∀ o,h.get? b=some o->h'.get? b=some o)->own i h')
  (hself:∀ (A:Around) (i:Nat) (s:Shared) (Q:Value->Shared->Prop) (E:Value->Shared->Prop),own i s.heap->Q (.ref it) s->wpAny (model P w) A (pyIter (.ref it)) Q E s)
  (hgo:∀ (X:Cx),X.prog=P->X.w=w->X.K=K->X.A.handled=none->∀ (i:Nat) (pins:List (Addr×Obj)) (s:Shared) (σ:St) (H:Hp),Inv X pins σ H s->own i s.heap->J.go i H ->
   ∃ (n:Nat) (fp:List Addr) (Pt:Nat->Array Value->Prop) (src:Heap->Prop) (Mid:Nat->Addr->Heap->Prop),WalksT P w X.A it fp wr n Pt (λ i h=>own i h/\src h) Mid/\i<n/\src s.heap /\
    ∀ vals,Pt i vals->∃ xs:List V,Vals xs vals.toList/\xs.length<=sizeLine/\∀ T,H T=none->J.yld i H (.ref T) (upd H T (.tup xs)))
  (hstop:∀ (X:Cx),X.prog=P->X.w=w->X.K=K->X.A.handled=none->∀ (i:Nat) (pins:List (Addr×Obj)) (s:Shared) (σ:St) (H:Hp),Inv X pins σ H s->own i s.heap->J.stop i H ->
   ∃ (fp:List Addr) (Pt:Nat->Array Value->Prop) (src:Heap->Prop) (Mid:Nat->Addr->Heap->Prop),WalksT P w X.A it fp wr i Pt (λ i h=>own i h/\src h) Mid/\src s.heap):
  Turn P w K (.Tuple es k1 pos) J wr it own where
 mem:=hit
 obj:=hobj
 keep:=hkeep
 self:=hself
 item:=by
  intro X hP hw hK hc i pins s σ H E I hf st hg
  obtain ⟨n,fp,Pt,src,Mid,W,hi,hs,hy⟩:=hgo X hP hw hK (I.ok.hd hc) i pins s σ H I st hg
  subst hP hw hK
  refine W.item i s _ _ hi ⟨st,hs⟩ λ T vals h1 tk hPt hT hTup hMid k1'=>⟨_,rfl,?_⟩
  obtain ⟨xs,rx,lx,yl⟩:=hy vals hPt
  refine W.go es _ _ i T _ _ _ hMid λ h2 hst2 k2=>?_
  have apart:=W.apart _ _ _ hMid
  have kp:∀ c o,c ∉ wr->s.heap.get? c=some o->h2.get? c=some o:=λ c o hcn e=>k2 c o hcn (k1' c o hcn e)
  have nit:∀ b u,H b=some u->b ∉ wr:=λ b u e m=>by
   rw [(hf b m).1] at e
   cases e
  have I1:Inv X pins σ H { s with heap:=h2,toks:=tk }:=by
   refine I.step (g':=s.gens) (d':=s.drawn) (ch:=wr) (λ b hb=>let ⟨_,y1,y2,y3,y4,y5⟩:=hf b hb;⟨y3,y1,y4,y5⟩) (λ b o _ _ hcn e _=>kp b o hcn e) (λ b o _ _ hcn e _=>⟨o.slots,kp b o hcn e⟩) (λ _ _ _ _ n=>n)
    (λ b o hcn e=>?_) (λ _ _ e=>e) (λ _ _ _ e=>e) (λ b ps e=>⟨#[],by rw [e];simp⟩) (λ m hm=>?_) (λ b u e=>?_) I.bare
   ·exact ⟨o,kp b o hcn e⟩
   ·obtain ⟨o,es,ep,ho,r⟩:=hm
    exact ⟨o,es,ep,kp _ o (λ m=>(hf _ m).2.1 rfl) ho,r⟩
   ·refine (I.hok b u e).iL (λ c v hc' q=>kp c v ?_ q) (λ _ q=>q) λ _ _ q=>q
    rcases hc' with y | y
    ·rw [y];exact nit b u e
    ·exact nit c _ y
  have hHT:H T=none:=I.hok.fresh hT
  obtain ⟨oT,gT,cT,nT,dT⟩:=hTup
  have I2:Inv X pins σ (upd H T (.tup xs)) { s with heap:=h2,toks:=tk }:=by
   refine I1.BR hHT ?_ (λ z=>?_) (λ y c e z=>?_) (λ p hp z=>?_) ⟨lx,vals.toList,rx,⟨oT,k2 T oT apart gT,cT,nT,by rw [dT,Array.toArray_toList]⟩⟩
   ·cases q:X.s₀.heap.get? T with
    | none=>rfl
    | some o=>exact absurd (Nat.lt_of_lt_of_le (Heap.lt_size q) (Nat.le_trans I.sz hT)) (Nat.lt_irrefl _)
   ·exact absurd (Nat.lt_of_lt_of_le I.lt hT) (by rw [z];exact Nat.lt_irrefl _)
   ·obtain ⟨w,o,ho,_⟩:=I.cell y c e
    exact absurd (Nat.lt_of_lt_of_le (Heap.lt_size ho) hT) (by rw [z];exact Nat.lt_irrefl _)
   ·exact absurd (Nat.lt_of_lt_of_le (Heap.lt_size (I.pin p hp).1) hT) (by rw [z];exact Nat.lt_irrefl _)
  refine ⟨.ref T,_,I2,rfl,yl T hHT,hst2.1,λ b hb=>?_⟩
  rw [aq (λ z=>apart (by rw [<- z];exact hb))]
  exact (hf b hb).1
 done:=by
  intro X hP hw hK hc i pins s σ H E I hf st hg
  obtain ⟨fp,Pt,src,Mid,W,hs⟩:=hstop X hP hw hK (I.ok.hd hc) i pins s σ H I st hg
  subst hP hw hK
  refine W.done s _ _ ⟨st,hs⟩ λ h1 tk k1'=>⟨rfl,?_⟩
  have nit:∀ b u,H b=some u->b ∉ wr:=λ b u e m=>by
   rw [(hf b m).1] at e
   cases e
  refine I.step (g':=s.gens) (d':=s.drawn) (ch:=wr) (λ b hb=>let ⟨_,y1,y2,y3,y4,y5⟩:=hf b hb;⟨y3,y1,y4,y5⟩) (λ b o _ _ hcn e _=>k1' b o hcn e) (λ b o _ _ hcn e _=>⟨o.slots,k1' b o hcn e⟩) (λ _ _ _ _ n=>n)
   (λ b o hcn e=>⟨o,k1' b o hcn e⟩) (λ _ _ e=>e) (λ _ _ _ e=>e) (λ b ps e=>⟨#[],by rw [e];simp⟩) (λ m hm=>?_) (λ b u e=>?_) I.bare
  ·obtain ⟨o,es,ep,ho,r⟩:=hm
   exact ⟨o,es,ep,k1' _ o (λ m=>(hf _ m).2.1 rfl) ho,r⟩
  ·refine (I.hok b u e).iL (λ c v hc' q=>k1' c v ?_ q) (λ _ q=>q) λ _ _ q=>q
   rcases hc' with y | y
   ·rw [y];exact nit b u e
   ·exact nit c _ y
def Ite (K:PySem.W.Frag) (a:Addr):It:=⟨λ i H=>∃ xs x,SqL K H a xs/\xs[i]?=some x,
 λ i H v H'=>∃ p,H p=none/\v=.ref p/\∃ x,H'=upd H p (.tup [.int i,x])/\∀ xs,SqL K H a xs->xs[i]?=some x,
 λ i H=>∃ xs,SqL K H a xs/\xs.length=i⟩
theorem vY {P:Program} {w:World} {K:PySem.W.Frag} {es:List Expr} {k1:Nat} {pos:Pos} (e it l:Addr) (hei:e≠it):
  Turn P w K (.Tuple es k1 pos) (Ite K l) [e,it] e (λ i h=>(∃ old,IsEnum h e it i old)/\h.IsListIter it l i):=by
 have apart:∀ {i:Nat} {s:Shared} {items:Array Value},((∃ old,IsEnum s.heap e it i old)/\s.heap.IsListIter it l i)->s.heap.IsList l items->l≠e/\l≠it:=λ {i s items} st hl=>by
  obtain ⟨⟨old,h1⟩,h2⟩:=st
  obtain ⟨o,ho,hcl,_⟩:=hl
  refine ⟨?_,?_⟩
  ·rintro rfl
   rw [h1] at ho;cases ho;exact absurd hcl (by simp)
  ·rintro rfl
   obtain ⟨o',e',c',_⟩:=h2
   rw [e'] at ho;cases ho;rw [c'] at hcl;exact absurd hcl (by simp)
 have walk:∀ {A:Around},A.handled=none->l≠e->l≠it->∀ items:Array Value,WalksT P w A e [e,it,l] [e,it] items.size (λ i vals=>∃ t x,items[i]?=some x/\vals=#[.int i t,x])
   (λ i h=>((∃ old,IsEnum h e it i old)/\h.IsListIter it l i)/\h.IsList l items) (λ i T h=>(∃ x,IsEnumOut h e it ((i:Int)+1) x T)/\h.IsListIter it l (i+1)/\h.IsList l items/\T≠e/\T≠it):=λ {A} hh n1 n2 items=>by
  have W:=WalksT.enumerate (prog:=P) (w:=w) (A:=A) hh e it l hei n1 n2 items
  exact ⟨W.sub,λ i h h' st k=>let ⟨a,b,c⟩:=W.frame i h h' ⟨st.1.1,st.1.2,st.2⟩ k;⟨⟨a,b⟩,c⟩,λ i s Q E hi st h=>W.item i s Q E hi ⟨st.1.1,st.1.2,st.2⟩ h,
   λ elts k pos i T s Q E hm h=>W.go elts k pos i T s Q E hm λ h' st=>h h' ⟨⟨st.1,st.2.1⟩,st.2.2⟩,W.apart,λ s Q E st h=>W.done s Q E ⟨st.1.1,st.1.2,st.2⟩ h,λ i s Q E st h=>W.self i s Q E ⟨st.1.1,st.1.2,st.2⟩ h⟩
 refine zu (by simp) (λ i h st b hb=>?_) (λ i h h' st k=>?_) (λ A i s Q E st h=>?_) (λ X hP hw hK hh i pins s σ H I st hg=>?_) (λ X hP hw hK hh i pins s σ H I st hg=>?_)
 ·obtain ⟨⟨old,h1⟩,h2⟩:=st
  rcases List.mem_cons.mp hb with rfl | hb
  ·exact ⟨_,h1,λ v e=>nomatch (show Data.fields _=Data.cell v from e)⟩
  ·have hb:b=it:=by simpa using hb
   subst hb
   obtain ⟨o,e',c,d⟩:=h2
   exact ⟨o,e',λ v z=>by rw [d] at z;cases z⟩
 ·obtain ⟨⟨old,h1⟩,h2⟩:=st
  exact ⟨⟨old,k _ (by simp) _ h1⟩,h2.at λ o e'=>k _ (by simp) o e'⟩
 ·obtain ⟨⟨old,h1⟩,h2⟩:=st
  exact wpAny_pyIter_enum h1 h
 ·obtain ⟨xs,x,q,ex⟩:=hg
  subst hK
  obtain ⟨us,rv,p,hz⟩:=I.list q
  obtain ⟨u,hu,ru⟩:=rv.get ex
  have hl:=p.isList
  obtain ⟨n1,n2⟩:=apart st hl
  have hlt:i<us.length:=(List.getElem?_eq_some_iff.mp hu).1
  refine ⟨us.toArray.size,_,_,_,_,walk hh n1 n2 us.toArray,by simpa using hlt,hl,λ vals hv=>?_⟩
  obtain ⟨t,y,hy,rfl⟩:=hv
  have:y=u:=by
   have e1:us.toArray[i]?=some u:=by simpa using hu
   rw [e1] at hy
   exact (Option.some.inj hy).symm
  subst this
  exact ⟨[.int i,x],.cons ⟨t,rfl⟩ (.cons ru .nil),(show 2<=sizeLine by decide),λ T hT=>⟨T,hT,rfl,x,rfl,λ xs' h'=>by rw [I.kB h' q];exact ex⟩⟩
 ·obtain ⟨xs,q,ex⟩:=hg
  subst hK
  obtain ⟨us,rv,p,hz⟩:=I.list q
  have hl:=p.isList
  obtain ⟨n1,n2⟩:=apart st hl
  have en:us.toArray.size=i:=by have:=rv.length;simp;omega
  have W:=walk (A:=X.A) hh n1 n2 us.toArray
  rw [en] at W
  exact ⟨_,_,_,_,W,hl⟩
section
variable {X:Cx}
def Bg (K:PySem.W.Frag) (ta:TA):TI:=λ σ H R=>ta σ H λ vs H1=>∃ a,vs=[.ref a]/\(∃ xs,SqL K H1 a xs)/\R (Ite K a) H1
theorem vm {es:List Expr} {k1:Nat} {tpos:Pos} {a:Expr} {ta:TA} {p pos:Pos} (hg:Gl X "enumerate") (hm:X.mg "enumerate"=none) (hv:bootBuiltins "enumerate"=some (.type "enumerate")) (ha:PA X [a] ta)
  (hs:starEach [a] X.env=[(false,eval a X.env)]:=by rfl):PI X (.Tuple es k1 tpos) (.Call (.Name "enumerate" p) [a] [] pos) (Bg X.K ta):=by
 intro pins s σ H R I h
 refine Call_ (jB I hg hm hv (PyProof.Rows.callWith_type1 (thn (ha pos pins s σ H _ I h) λ us s1 ⟨vs,H1,I1,r1,q1⟩=>?_) (by rw [hs];rfl) (by rfl)))
 obtain ⟨l,e,⟨xs,q1⟩,q⟩:=q1
 subst e
 obtain ⟨u,rfl,ru⟩:=vals1 r1
 cases ru
 obtain ⟨us,_,p1,_⟩:=I1.list q1
 refine call_enumerate_list p1.isList λ h' g1 g2 g3 kk=>wpAny_pyIter_enum g1 ?_
 have I2:Inv X pins σ H1 { s1 with heap:=h',toks:=s1.toks }:=I1.kept kk
 refine ⟨_,[s1.heap.objs.size+1,s1.heap.objs.size],_,_,H1,rfl,I2,vY (s1.heap.objs.size+1) s1.heap.objs.size l (by show (_:Nat)≠_;omega),⟨⟨_,g1⟩,g2⟩,λ b hb=>?_,q⟩
 have hb':s1.heap.objs.size<=b:=by
  simp only [List.mem_cons,List.not_mem_nil,or_false] at hb
  rcases hb with h | h <;> (rw [h];first | exact Nat.le_refl _ | exact Nat.le_add_right _ _)
 exact I1.rf hb' (I1.hok.fresh hb')
end
section
variable {X:Cx} {pins:List (Addr×Obj)} {σ:St} {H:Hp} {s:Shared}
def FP (t:TS):TS:=λ D σ H=>∃ d kvs,H d=some (.dK kvs)/\t ⟨λ σ' H'=>∃ ob,H' d=some (.frz ob (.dK kvs))/\D.nx σ' (upd H' d (.dK kvs)),λ _ _=>False,λ _ _=>False,λ _ _=>False⟩ σ H
end
def Iti (d:Addr) (ob:Obj) (kvs:List (Key×V)):It:=⟨λ i H=>H d=some (.frz ob (.dK kvs))/\i<kvs.length,
 λ i H v H'=>∃ p k x,H p=none/\v=.ref p/\kvs[i]?=some (k,x)/\H'=upd H p (.tup [kV k,x]),
 λ i H=>H d=some (.frz ob (.dK kvs))/\i=kvs.length⟩
section
variable {X:Cx}
def Ca (td:TE):TI:=λ σ H R=>td σ H λ x H1=>∃ d kvs,x=.ref d/\H1 d=some (.dK kvs)/\∀ ob,R (Iti d ob kvs) (upd H1 d (.frz ob (.dK kvs)))
end
end L2
namespace PySem
theorem SetTable.ze {mask finger moves:Nat} {led plain:Bool} {hs:Array Int} {t:SetTable} {o:Array Nat} (h:SetTable.laid mask finger moves led plain hs=some (t,o)):t.led=led/\t.plain=plain:=by
 unfold SetTable.laid at h
 cases e:SetTable.layClean mask hs with
 | none=>rw [e] at h;cases h
 | some ow=>
  rw [e] at h
  have h:=Option.some.inj h
  have h:=(Prod.mk.inj h).1
  subst h
  exact ⟨rfl,rfl⟩
def TX (w:World) (es:Array (Int×Value)) (t:SetTable):Prop:=t.led=!(w.params.followText "set-order")/\∀ e∈es.toList,plainKind e.2=false->t.plain=false
def nk (w:World) (a:Addr) (h:Heap):Prop:=∃ o es ep t,h.get? a=some o/\o.data=.set es ep t/\TX w es t
theorem nk.keeps {w:World} {a:Addr} {h h':Heap} (x:nk w a h) (k:∀ o,h.get? a=some o->h'.get? a=some o):nk w a h':=by
 obtain ⟨o,es,ep,t,ho,r⟩:=x
 exact ⟨o,es,ep,t,k _ ho,r⟩
theorem yZ {w:World} {es:Array (Int×Value)} {t:SetTable} {wanted:Nat} (h:TX w es t):TX w (relayAll t es wanted).1 (relayAll t es wanted).2.1:=by
 have hp:=relayAll_perm t es wanted
 unfold relayAll at hp ⊢
 split
 ·rename_i t' order e
  obtain ⟨e1,e2⟩:=SetTable.ze e
  rw [e] at hp
  dsimp only at hp ⊢
  split
  ·rename_i hc
   rw [if_pos hc] at hp
   exact ⟨e1.trans h.1,λ x hx k=>e2.trans (h.2 x (hp.mem_iff.mp hx) k)⟩
  ·exact ⟨h.1,λ _ _ _=>rfl⟩
 ·exact ⟨h.1,λ _ _ _=>rfl⟩
theorem Dn {w:World} {es:Array (Int×Value)} {t:SetTable} {h:Int} {x:Value} (tx:TX w es t):
  ((plainKind x=false->(layNew t es h x).2.1.plain=false)->TX w (layNew t es h x).1 (layNew t es h x).2.1)/\(layNew t es h x).2.1.led=!(w.params.followText "set-order")/\((layNew t es h x).2.1.plain=false∨(layNew t es h x).2.1.plain=t.plain):=by
 have hp:=layNew_perm t es h x
 have hl:(layNew t es h x).2.1.led=!(w.params.followText "set-order")/\((layNew t es h x).2.1.plain=false∨(layNew t es h x).2.1.plain=t.plain):=by
  unfold layNew
  split
  ·dsimp only
   unfold SetTable.orStandIn
   split
   ·exact ⟨tx.1,.inr rfl⟩
   ·exact ⟨tx.1,.inl rfl⟩
  ·exact ⟨tx.1,.inl rfl⟩
 refine ⟨λ k=>⟨hl.1,λ e he ke=>?_⟩,hl⟩
 rw [Array.toList_push] at hp
 rcases List.mem_append.mp (hp.mem_iff.mp he) with he | he
 ·rcases hl.2 with z | z
  ·exact z
  ·rw [z];exact tx.2 e he ke
 ·rw [List.mem_singleton] at he;subst he
  exact k ke
section
variable {prog:Program} {w:World} {K:Type} [DecidableEq K] {knd:KeyKind prog w K} {A:Around} {E:Value->Shared->Prop} {s:Shared}
theorem rC {g:Bool->Sem Unit} (hg:∀ (b:Bool) (s₁:Shared) (Q':Unit->Shared->Prop),Q' () s₁->wpAny (model prog w) A (g b) Q' E s₁)
  {a:Addr} {o:Obj} {es:Array (Int×Value)} {ep:Nat} {t:SetTable} (ho:s.heap.get? a=some o) (hex:o.ExactSet) (hd:o.data=.set es ep t)
  {es1:Array (Int×Value)} {t2:SetTable} {S':K->Bool} (hel1:ElemsOf knd es1.toList) (hmem1:∀ k',S' k'=true↔∃ e∈es1.toList,knd.is k' e.2=true)
  (hx1:TX w es1 t2) (hb1:es1.size<scanBound) (hf2:t2.fits es1.size=true) {wasDummy:Bool} {R:Option Bool->Shared->Prop}
  (h:∀ h',Heap.SameBut a s.heap h'->h'.SetOf knd a S' es1.size->nk w a h'->R (some true) { s with heap:=h' }):
  wpAny (model prog w) A (do
    storeSet a es1 t2
    if (!wasDummy&&t2.tooFull)=true then do
      g (relayAll t2 es1 (SetTable.grown es1.size)).2.2
      storeSet a (relayAll t2 es1 (SetTable.grown es1.size)).1 (relayAll t2 es1 (SetTable.grown es1.size)).2.1
      pure (some true)
     else pure (some true)) R E s:=by
 refine wpAny_bind (wpAny_storeSet_of ho hd ?_ (fits_of_scanBound hb1))
 obtain ⟨ho1,hS1⟩:=SetOf_store (knd:=knd) ho hex hd hel1 hmem1 hb1 hf2
 have hsb1:=Heap.SameBut.update s.heap a (Obj.putSet es1 t2)
 split
 ·
  have hp:=relayAll_perm t2 es1 (SetTable.grown es1.size)
  have hx2:=yZ (wanted:=SetTable.grown es1.size) hx1
  have hfr:=relayAll_fits t2 es1 (SetTable.grown es1.size)
  generalize hRl:relayAll t2 es1 (SetTable.grown es1.size)=Rl at hp hx2 hfr ⊢
  obtain ⟨es2,t3,gave2⟩:=Rl
  dsimp only at hp hx2 hfr ⊢
  have hel2:ElemsOf knd es2.toList:=hel1.perm hp
  have hmem2:∀ k',S' k'=true↔∃ e∈es2.toList,knd.is k' e.2=true:=λ k'=>(hmem1 k').trans ⟨λ ⟨e,he,q⟩=>⟨e,hp.mem_iff.mpr he,q⟩,λ ⟨e,he,q⟩=>⟨e,hp.mem_iff.mp he,q⟩⟩
  have hsz:es2.size=es1.size:=by rw [<- Array.length_toList,hp.length_eq,Array.length_toList]
  have hb2:es2.size<scanBound:=by rw [hsz];exact hb1
  refine wpAny_bind (hg _ _ _ ?_)
  refine wpAny_bind (wpAny_storeSet_of ho1 rfl ?_ (fits_of_scanBound hb2))
  obtain ⟨ho2,hS2⟩:=SetOf_store (knd:=knd) ho1 hex rfl hel2 hmem2 hb2 hfr
  rw [hsz] at hS2
  exact wpAny_pure (h _ (hsb1.trans (Heap.SameBut.update _ a _)) hS2 ⟨_,_,_,_,ho2,rfl,hx2⟩)
 ·exact wpAny_pure (h _ hsb1 hS1 ⟨_,_,_,_,ho1,rfl,hx1⟩)
theorem om {a:Addr} {S:K->Bool} {n:Nat} {k:K} {x:Value} {Q:Bool->Shared->Prop} (hkey:knd.is k x=true) (hsc:x.scannable=true) (hS:s.heap.SetOf knd a S n) (hX:nk w a s.heap)
  (hroom:n+1<scanBound)
  (h:∀ h',Heap.SameBut a s.heap h'->h'.SetOf knd a (λ k'=>S k'||decide (k'=k)) (if S k then n else n+1)->nk w a h'->Q (!S k) { s with heap:=h' }):
  wpAny (model prog w) A (setAddHashed a x (knd.hash k)) Q E s:=by
 obtain ⟨o,es,ep,t,ho,hex,hd,hel,hmem,hb,hf,hn⟩:=hS
 have hX0:=hX
 obtain ⟨o0,es0,ep0,t0,ho0,hd0,tx⟩:=hX
 rw [ho] at ho0;cases ho0
 rw [hd] at hd0;cases hd0
 have hb1:es.size+1<scanBound:=by rw [hn];exact hroom
 unfold setAddHashed setAddHashedIn
 refine wpAny_holding (wpAny_bind (wpAny_setState_of ho hd hf ?_))
 dsimp only
 rw [byScan_of hsc hb hel]
 simp only [↓reduceIte]
 unfold setAddByScan
 refine wpAny_bind ?_
 refine wpAny_bind (wpAny_rule ?_)
 refine wpAny_bind (wpAny_setScan_of hkey ho hd hf hel ?_)
 cases hr:List.findIdx? (λ e=>knd.is k e.2) es.toList with
 | some j=>
  dsimp only
  obtain ⟨hj,hpj,_⟩:=List.findIdx?_eq_some_iff_getElem.mp hr
  have hSk:S k=true:=(hmem k).mpr ⟨es.toList[j],List.getElem_mem hj,hpj⟩
  refine wpAny_pure (wpAny_pure ?_)
  have e:s={ s with heap:=s.heap }:=by cases s;rfl
  have:=h s.heap (Heap.SameBut.refl a s.heap) ⟨o,es,ep,t,ho,hex,hd,hel,λ k'=>by
   rw [Bool.or_eq_true,decide_eq_true_eq,<- hmem k']
   exact ⟨λ hk=>hk.elim id (λ e=>e ▸ hSk),.inl⟩,hb,hf,by rw [hSk];exact hn⟩ hX0
  rw [hSk] at this;rw [e];exact this
 | none=>
  dsimp only
  have hSk:S k=false:=by
   cases hk:S k with
   | false=>rfl
   | true=>obtain ⟨e,he,hp⟩:=(hmem k).mp hk;have:=List.findIdx?_eq_none_iff.mp hr e he;rw [hp] at this;exact Bool.noConfusion this
  have hgw:∀ (b:Bool) {s₁:Shared} {Q':Unit->Shared->Prop},Q' () s₁->wpAny (model prog w) A (match b with | true=>rule "set.scan.the-table-gave-way" | false=>pure ()) Q' E s₁:=
   λ b s₁ Q' hq=>by cases b <;> first | exact wpAny_pure hq | exact wpAny_rule hq
  have hperm:=layNew_perm t es (knd.hash k) x
  have hfits:=layNew_fits t es (knd.hash k) x
  have hlay:=Dn (h:=knd.hash k) (x:=x) tx
  generalize hL:layNew t es (knd.hash k) x=L at hperm hfits hlay ⊢
  obtain ⟨es1,t1,wasDummy,gave⟩:=L
  dsimp only at hperm hfits hlay ⊢
  rw [Array.toList_push] at hperm
  have hel1:ElemsOf knd es1.toList:=(hel.push hkey hsc).perm hperm
  have hmem1:∀ k',(S k'||decide (k'=k))=true↔∃ e∈es1.toList,knd.is k' e.2=true:=mem_push_iff hkey hmem hperm
  have hb1':es1.size<scanBound:=by rw [<- Array.length_toList,hperm.length_eq,List.length_append,Array.length_toList];simpa using hb1
  refine wpAny_bind (hgw _ ?_)
  have hsz1:es1.size=n+1:=by rw [<- Array.length_toList,hperm.length_eq,List.length_append,Array.length_toList,hn];rfl
  have hend:∀ h',Heap.SameBut a s.heap h'->h'.SetOf knd a (λ k'=>S k'||decide (k'=k)) es1.size->nk w a h'->Q true { s with heap:=h' }:=by
   intro h' hsb hS' hX';have:=h h' hsb;rw [hSk] at this;rw [hsz1] at hS';exact this hS' hX'
  split
  ·refine wpAny_bind ?_
   rw [hashByValue_scannable 8 hsc]
   refine wpAny_pure ?_
   refine rC ?_ ho hex hd hel1 hmem1 ?_ hb1' ?_ ?_
   ·intro b s₁ Q' hq;cases b <;> first | exact wpAny_pure hq | exact wpAny_rule hq
   ·by_cases e:plainKind x=true
    ·rw [if_pos e];exact hlay.1 (λ z=>by rw [e] at z;cases z)
    ·rw [if_neg e];exact ⟨hlay.2.1,λ _ _ _=>rfl⟩
   ·split
    ·exact hfits
    ·exact SetTable.fits_plain_off hfits
   ·intro h' hsb hS' hX';dsimp only;exact wpAny_pure (hend h' hsb hS' hX')
  ·rename_i hpl
   refine wpAny_bind (wpAny_pure ?_)
   simp only [↓reduceIte]
   refine rC ?_ ho hex hd hel1 hmem1 ?_ hb1' hfits ?_
   ·intro b s₁ Q' hq;cases b <;> first | exact wpAny_pure hq | exact wpAny_rule hq
   ·exact ⟨hlay.2.1,λ _ _ _=>by simpa using hpl⟩
   ·intro h' hsb hS' hX';dsimp only;exact wpAny_pure (hend h' hsb hS' hX')
theorem zG {Q:Value->Shared->Prop}
  (h:∀ led:Bool,(led=!(w.params.followText "set-order"))->Q (.ref s.heap.objs.size) { s with heap:=s.heap.push { cls:=.type "set",dict:=none,data:=.set #[] 0 (.fresh 0 0 led) } }):
  wpAny (model prog w) A (newSet (.type "set")) Q E s:=by
 unfold newSet setsByText
 refine wpAny_bind (wpAny_bind (wpAny_askSetting (wpAny_pure ?_)))
 dsimp only
 simp only [newObj]
 exact wpAny_bind (wpAny_alloc (wpAny_pure (h _ rfl)))
theorem oy {a:Addr} {k:K} {key:Value} {S:K->Bool} {n:Nat} {Q:Value->Shared->Prop} (hkey:knd.is k key=true) (hsc:key.scannable=true) (hS:s.heap.SetOf knd a S n) (hX:nk w a s.heap) (hroom:n+1<scanBound)
  (h:∀ h',Heap.SameBut a s.heap h'->h'.SetOf knd a (λ k'=>S k'||decide (k'=k)) (if S k then n else n+1)->nk w a h'->Q .none { s with heap:=h',toks:=s.toks+1 }):
  wpAny (model prog w) A (call (.builtin "set.add") [.ref a,key]) Q E s:=by
 refine wpAny_call_entry F.slot_set_add hS.typeIs F.entry_set_add ?_ (F.args_set_add_2 _ _)
 unfold Builtin.«set.add» Builtin.Frozenset.oneOther
 simp only [List.isEmpty_nil,bind_assoc]
 unfold Builtin.Frozenset.addrOf setAdd
 refine wpAny_bind (wpAny_pure ?_)
 try dsimp only
 refine wpAny_bind (wpAny_pure ?_)
 try dsimp only
 refine wpAny_bind ?_
 refine wpAny_holding ?_
 refine wpAny_bind (knd.pyHash hkey ?_)
 refine om (s:={ s with toks:=s.toks+1 }) hkey hsc hS hX hroom λ h' hsb hS' hX'=>?_
 show wpAny _ _ (ret Value.none) _ _ _
 exact wpAny_pure ⟨_,rfl,h h' hsb hS' hX'⟩
end
end PySem
namespace PyProof.Rows
open PySem PySem.Spec
section
variable {prog:Program} {w:World} {A:Around} {E:Value->Shared->Prop} {s:Shared}
end
end PyProof.Rows
namespace L2
open PySem PySem.Spec PyProof.Rows
instance DO (k:Key):(L:List Key)->Decidable (k∈L)
 | []=>.isFalse (by simp)
 | a::r=>
  if h:k=a then .isTrue (by rw [h];exact .head _)
  else match DO k r with
   | .isTrue z=>.isTrue (.tail _ z)
   | .isFalse z=>.isFalse (by intro q;rcases List.mem_cons.mp q with e | e;exact h e;exact z e)
def ic (L:List Key) (k:Key):List Key:=if k∈L then L else L++[k]
def jz (ks:List Key):List Key:=ks.foldl ic []
theorem oN (ks:List Key) (k:Key):jz (ks++[k])=ic (jz ks) k:=by unfold jz;rw [List.foldl_append];rfl
theorem qU {L:List Key} {k j:Key}:j∈ic L k↔j∈L∨j=k:=by
 unfold ic
 split
 ·rename_i h;exact ⟨.inl,λ z=>z.elim id λ e=>e ▸ h⟩
 ·simp
theorem zO {L:List Key} {k:Key} (h:L.Nodup):(ic L k).Nodup:=by
 unfold ic
 split
 ·exact h
 ·rename_i hk;exact uQ h hk
theorem nU {L:List Key} {k:Key}:(ic L k).length=if decide (k∈L)=true then L.length else L.length+1:=by
 unfold ic
 by_cases h:k∈L
 ·rw [if_pos h,if_pos (decide_eq_true h)]
 ·rw [if_neg h,if_neg (by simpa using h),List.length_append];rfl
theorem mU {C:List Key->List Key->Prop} (h0:C [] []) (hs:∀ ks k L,C ks L->C (ks++[k]) (ic L k)) (ks:List Key):C ks (jz ks):=by
 have:∀ n,∀ ks:List Key,ks.length=n->C ks (jz ks):=by
  intro n
  induction n with
  | zero=>intro ks e;cases ks with
   | nil=>exact h0
   | cons a b=>cases e
  | succ n ih=>
   intro ks e
   have hne:ks≠[]:=by intro z;rw [z] at e;cases e
   rw [<- List.dropLast_concat_getLast hne,oN]
   exact hs _ _ _ (ih _ (by rw [List.length_dropLast,e];rfl))
 exact this _ ks rfl
theorem rP {ks:List Key} {j:Key}:j∈jz ks↔j∈ks:=mU (C:=λ ks L=>j∈L↔j∈ks) (by simp) (λ ks k L h=>by rw [qU,h];simp) ks
theorem Aj (ks:List Key):(jz ks).Nodup:=mU (C:=λ _ L=>L.Nodup) List.nodup_nil (λ _ _ _ h=>zO h) ks
theorem rp (ks:List Key):(jz ks).length<=ks.length:=mU (C:=λ ks L=>L.length<=ks.length) (Nat.le_refl _) (λ ks k L h=>by rw [nU,List.length_append];split <;> simp <;> omega) ks
theorem zK {ks:List Key} (h:ks.Nodup):(jz ks).length=ks.length:=
 Nat.le_antisymm (rp ks) (gO h λ x hx=>rP.mpr hx)
section
variable {P:Program} {w:World}
def iH (P:Program) (w:World) (a:Addr) (L:List Key) (h:Heap):Prop:=h.SetOf (cu P w) a (λ k=>decide (k∈L)) L.length/\nk w a h
def eH (P:Program) (w:World) (a:Addr) (L:List Key):HO:=.ext (iH P w a L)
theorem iH.keeps {a:Addr} {L:List Key} {h h':Heap} (x:iH P w a L h) (k:∀ o,h.get? a=some o->h'.get? a=some o):iH P w a L h':=by
 obtain ⟨⟨o,es,ep,t,ho,r⟩,x2⟩:=x
 exact ⟨⟨o,es,ep,t,k _ ho,r⟩,x2.keeps k⟩
theorem iH.ok {H:Hp} {a:Addr} {L:List Key} {h:Heap} (x:iH P w a L h):cm P w H h a (eH P w a L):=by
 refine ⟨x,?_,λ h1 h2 y k=>y.keeps k⟩
 obtain ⟨⟨o,es,ep,t,ho,r⟩,_⟩:=x
 exact ⟨o,ho⟩
theorem iH.add {a:Addr} {L:List Key} {h:Heap} {k:Key} (x:h.SetOf (cu P w) a (λ k'=>decide (k'∈L)||decide (k'=k)) (if decide (k∈L)=true then L.length else L.length+1)) (x2:nk w a h):iH P w a (ic L k) h:=by
 unfold iH
 refine ⟨?_,x2⟩
 rw [nU]
 refine Eq.mp (congrArg (λ S=>h.SetOf (cu P w) a S _) (funext λ j=>?_)) x
 show (decide (j∈L)||decide (j=k))=decide (j∈ic L k)
 rw [<- Bool.decide_or]
 exact decide_eq_decide.mpr qU.symm
theorem xP {k:Key} {v:Value} (h:iQ k v=true):v.scannable=true:=by
 rcases bS h with ⟨i,t,rfl,rfl⟩ | ⟨i,t,rfl,rfl⟩ <;> rfl
end
section
variable {P:Program} {w:World} {A:Around} {R:Result->Shared->Prop} {I:Addr} {fp wr:List Addr} {G:Array GenState->Array GenState->Prop} {n:Nat} {Pv:Nat->Value->Prop} {St:Nat->Shared->Prop}
end
abbrev AL (led:Bool):Obj:={ cls:=.type "set",dict:=none,data:=.set #[] 0 (.fresh 0 0 led) }
section
variable {P:Program} {w:World} {A:Around} {E:Value->Shared->Prop} {s:Shared}
theorem Ao {h:Heap} {a:Addr} {led:Bool} (hl:led=!(w.params.followText "set-order")) (e:h.get? a=some (AL led)):iH P w a [] h:=
 ⟨⟨_,#[],0,_,e,⟨rfl,rfl,rfl⟩,rfl,λ e he=>by simp at he,λ k=>by simp,by decide,by rfl,rfl⟩,⟨_,#[],0,_,e,rfl,hl,λ e he=>by simp at he⟩⟩
end
section
variable {P:Program} {w:World} {A:Around} {E:Value->Shared->Prop} {s:Shared}
end
section
variable {P:Program} {w:World} {A:Around} {E:Value->Shared->Prop} {s:Shared}
end
section
variable {P:Program} {w:World} {A:Around} {E:Value->Shared->Prop} {s:Shared}
variable {X:Cx}
end
section
variable {P:Program} {w:World} {A:Around} {E:Value->Shared->Prop} {s:Shared}
end
section
variable {P:Program} {w:World} {A:Around} {E:Value->Shared->Prop} {s:Shared}
end
section
variable {P:Program} {w:World} {A:Around} {E:Value->Shared->Prop} {s:Shared}
variable {X:Cx}
end
theorem F7 {σ:St} {H:Hp} {Q:VK} {ty td:TE} (q:ty σ H λ y H1=>td σ H1 λ x H2=>∃ a o,x=.ref a/\An H2 a y o/\Q (.bl o.isSome) H2):Hn ty td σ H Q:=q
theorem iX {t:TS} {nx:St->Hp->Prop} {rt:VK} {bk ct:St->Hp->Prop} {σ:St} {H:Hp} (J:St->Hp->Prop) (q:∀ nx':St->Hp->Prop,(∀ σ2 H2,J σ2 H2->nx' σ2 H2)->t ⟨nx',rt,bk,ct⟩ σ H) (hj:∀ σ2 H2,J σ2 H2->nx σ2 H2):t ⟨nx,rt,bk,ct⟩ σ H:=q nx hj
theorem DQ {td ty:TE} {σ:St} {H:Hp} {Q:VK} (q:td σ H λ x H1=>∃ a,x=.ref a/\IsD H1 a/\ty σ H1 λ y H2=>∃ kvs k v,H2 a=some (.dK kvs)/\y=kV k/\jk kvs k=some v/\Q v (upd H2 a (.dK (BO kvs k)))):Cm td ty σ H Q:=q
theorem yk {td:TE} {σ:St} {H:Hp} {R:It->Hp->Prop} (q:td σ H λ x H1=>∃ d kvs,x=.ref d/\H1 d=some (.dK kvs)/\∀ ob,R (Iti d ob kvs) (upd H1 d (.frz ob (.dK kvs)))):Ca td σ H R:=q
theorem z0 {K:PySem.W.Frag} {ta:TA} {σ:St} {H:Hp} {R:It->Hp->Prop} (q:ta σ H λ vs H1=>∃ a,vs=[.ref a]/\(∃ xs,SqL K H1 a xs)/\R (Ite K a) H1):Bg K ta σ H R:=q
theorem Ee {t:TS} {nx:St->Hp->Prop} {rt:VK} {bk ct:St->Hp->Prop} {σ:St} {H:Hp} (q:∃ d kvs,H d=some (.dK kvs)/\t ⟨λ σ' H'=>∃ ob,H' d=some (.frz ob (.dK kvs))/\nx σ' (upd H' d (.dK kvs)),λ _ _=>False,λ _ _=>False,λ _ _=>False⟩ σ H):FP t ⟨nx,rt,bk,ct⟩ σ H:=q
end L2
local macro_rules | `(tactic| array_get_dec) => `(tactic| first | with_reducible refine L2.F7 ?_ | with_reducible refine L2.DQ ?_ | with_reducible refine L2.yk ?_ | with_reducible refine L2.z0 ?_ | with_reducible refine L2.Ee ?_)
namespace L2
open PySem PySem.Spec PyProof.Rows
theorem dg {K:PySem.W.Frag} {n:Nat} {t:TGs} {p:Addr} {xs:List V} {σ:St} {H:Hp} {Q:St->Hp->Prop} (h:SqT K H p xs) (hn:xs.length=n) (q:t xs σ H Q):zZ K n t (.ref p) σ H Q:=⟨p,xs,rfl,h,hn,q⟩
theorem nR {X:Cx} (K:PySem.W.Frag) (hK:X.K=K:=by rfl):IxR X (Fp K):=by subst hK;exact aQ
theorem Az {X:Cx} (K:PySem.W.Frag) (hK:X.K=K:=by rfl):IxR X (GS K):=by subst hK;exact mD
theorem lcH {nN:Nat} {fs:List (Nat×Nat)} {g:TG} {tc:TT} {te:TE} {σ:St} {H:Hp} {QD:Addr->Hp->Prop} {J:It} {n:Nat} {src:Nat->V} (R:Addr->Nat->List V->Hp->Prop) (hJ:Tells J H n src) (hn:n<=sizeLine) (h0:∀ D,H D=none->R D 0 [] (upd H D (.lst [])))
  (ht:∀ D i ys H2,i<n->H D=none->ax H H2->H2 D=some (.lst ys)->R D i ys H2->g (src i) (tau nN fs σ) H2 λ τ4 H4=>(∀ (j:Nat) v,(tau nN fs σ)[j]?=some (some v)->τ4[j]?=some (some v))/\tc τ4 H4 λ b H5=>
   if b=true then te τ4 H5 λ v H6=>H6 D=some (.lst ys)/\ax H (upd H6 D (.lst (ys++[v])))/\R D (i+1) (ys++[v]) (upd H6 D (.lst (ys++[v]))) else H5 D=some (.lst ys)/\ax H H5/\R D (i+1) ys H5)
  (hQ:∀ D H2 ys,H D=none->ax H H2->H2 D=some (.lst ys)->R D n ys H2->QD D H2):
  ∀ D,H D=none->∃ (n:Nat) (W:Nat->List V->Hp->Prop),n<=sizeLine/\W 0 [] (upd H D (.lst [])) /\
   ∀ i ys H2,i<=n->W i ys H2->H2 D=some (.lst ys)->(J.stop i H2/\QD D H2)∨(i<n/\J.go i H2/\∀ x H3,J.yld i H2 x H3->g x (tau nN fs σ) H3 λ τ4 H4=>
    (∀ (j:Nat) v,(tau nN fs σ)[j]?=some (some v)->τ4[j]?=some (some v))/\tc τ4 H4 λ b H5=>
     if b=true then te τ4 H5 λ v H6=>H6 D=some (.lst ys)/\W (i+1) (ys++[v]) (upd H6 D (.lst (ys++[v]))) else H5 D=some (.lst ys)/\W (i+1) ys H5):=by
 intro D hD
 refine ⟨n,λ i ys H2=>ax H H2/\R D i ys H2,hn,⟨ax.upd hD,h0 D hD⟩,?_⟩
 rintro i ys H2 hi ⟨s2,r⟩ e
 obtain ⟨h1,h2⟩:=hJ H2 s2
 rcases Nat.lt_or_ge i n with hlt | hge
 ·refine .inr ⟨hlt,(h2 i hlt).1,λ x H3 y=>?_⟩
  obtain ⟨rfl,rfl⟩:=(h2 i hlt).2 x H3 y
  exact ht D i ys H3 hlt hD s2 e r
 ·have:i=n:=by omega
  subst this
  exact .inl ⟨h1,hQ D H2 ys hD s2 e r⟩
section
variable {g:TG} {tb:TS} {nx:St->Hp->Prop} {rt:VK} {σ:St} {H:Hp}
theorem Fo {K:PySem.W.Frag} {a:Addr} {xs:List V} (Pv:Nat->St->Hp->Prop) (h0:Pv 0 σ H) (hl:∀ i σ H,i<=xs.length->Pv i σ H->SqL K H a xs)
  (hs:∀ i x p σ H,xs[i]?=some x->Pv i σ H->H p=none->g (.ref p) σ (upd H p (.tup [.int i,x])) λ σ2 H2=>tb ⟨Pv (i+1),rt,nx,Pv (i+1)⟩ σ2 H2) (hd:∀ σ H,Pv xs.length σ H->nx σ H):
  ∃ W:Nat->Nat->St->Hp->Prop,(∃ m,W 0 m σ H)/\∀ i m σ H,W i m σ H ->
   ((Ite K a).stop i H/\nx σ H)∨((Ite K a).go i H/\∃ N:St->Hp->Prop,(∀ σ' H',N σ' H'->∃ m',m'<m/\W (i+1) m' σ' H')/\∀ x H',(Ite K a).yld i H x H'->g x σ H' λ σ2 H2=>tb ⟨N,rt,nx,N⟩ σ2 H2):=by
 refine ⟨λ i m σ H=>m=xs.length - i/\i<=xs.length/\Pv i σ H,⟨xs.length,by simp,Nat.zero_le _,h0⟩,?_⟩
 rintro i m σ H ⟨rfl,hi,p⟩
 have hq:=hl i σ H hi p
 by_cases hlt:i<xs.length
 ·refine .inr ⟨⟨xs,xs[i],hq,List.getElem?_eq_getElem hlt⟩,Pv (i+1),λ σ' H' p'=>⟨xs.length - (i+1),by omega,rfl,hlt,p'⟩,λ x H' y=>?_⟩
  obtain ⟨q,hn,e1,x',e2,e3⟩:=y
  subst e1 e2
  exact hs i x' q σ H (e3 xs hq) p hn
 ·have e:i=xs.length:=by omega
  subst e
  exact .inl ⟨⟨xs,hq,rfl⟩,hd σ H p⟩
end
def withTabs (H:PySem.W.Hook) (ts:List Addr):PySem.W.Hook where
 α:=H.α×List (Option Obj)
 obs:=λ s=>(H.obs s,ts.map s.heap.get?)
 val:=λ w=>(H.val w,ts.map λ _=>some (PySem.W.tabObj #[]))
 says:=λ w h=>H.says w h/\∀ t∈ts,h.get? t=some (PySem.W.tabObj #[])
 of:=λ w s x=>⟨H.of w s (Prod.mk.inj x).1,List.map_inj_left.mp (Prod.mk.inj x).2⟩
 keeps:=λ w h h' x k=>⟨H.keeps w h h' x.1 k,λ t ht=>k _ _ (x.2 t ht)⟩
theorem B3 {l:PySem.W.OpenLaw} {n k:Nat} {q:Program} {loose:List Str} {XP:(Str->Option Value)->Heap->Prop} {YP:World->Heap->Prop} {d:DefRec} {K:Params->PySem.W.Frag} {CX:World->CXT} {sp:World->Sp} {x:Str} (ts:World->List Addr) (us:List Addr)
  (hn:l.most=some n) (hn2:n<=sizeLine) (hdf:d.params.defaults=[]) (hr:bX k callerA)
  (hY:∀ (w:World) (h:Heap),YP w h->(K w.params).In h/\∀ t∈us,h.get? t=some (PySem.W.tabObj #[])) (hK:∀ w:World,PySem.W.noTabs (K w.params)=true)
  (hts:∀ (w:World),∀ t∈ts w,(∃ y c d',(recsOf q).find? (λ e=>e.name==y)=some d'/\PySem.W.tabIn (K w.params) y=some (c,t))∨(t∈us/\∃ c,PySem.W.codeHdIn (K w.params) c t=true))
  (F:∀ (w:World) (mg:Str->Option Value) (fa:Addr) (h:Heap),(K w.params).In h->h.Ns mainGlobals mg->mg d.name=some (.ref fa) ->
   ∃ fd:FuncData,(∀ (s:Shared) (u:Value),BindsTo s fd ⟨[u],[]⟩ [(x,u)]) /\
    ∀ base:Heap,(K w.params).In base->base.Ns mainGlobals mg->iM base->cC l.prog w (K w.params) mg base (CX w) k fa fd [x] (sp w))
  (hsp:∀ (w:World) (H:Hp) (a:Addr) (ns:List Int),ns.length<=n->(∀ t∈ts w,H t=some (Tb t))->SqL (K w.params) H a (ns.map V.int)->sp w [.ref a] H (λ v H'=>v=.bl true/\∀ t∈ts w,H' t=some (Tb t)) λ _ _ _=>False)
  (hCX:∀ (w:World) (H:Hp) (s:Shared) (e:Value) (s':Shared),CX w [] H s (λ _ _ _=>False) e s'->False):
  PySem.W.WalkO q loose XP YP l.row.toRowW d [] (λ f vs=>PySem.call f vs):=by
 refine Att.sj hn hdf λ w s₀ s₁ mg mb fa o pm cd doc a vs ns G Y ho hd hcd hmg hobj hints hlen hg=>?_
 obtain ⟨KX,KT⟩:=hY w _ Y
 obtain ⟨fd,hb,hF⟩:=F w mg fa _ KX G.T.g hmg
 exact wz (ts w) KX G.T.g G.T.b G.T.builtins G.T.nolimit hg hobj hints (Nat.le_trans hlen hn2) hr (hK w) (λ t ht=>by
  rcases hts w t ht with ⟨y,c,d',e1,e2⟩ | ⟨tu,c,e2⟩
  ·obtain ⟨z1,z2⟩:=PySem.W.tab_of G.T KX e1 e2
   exact ⟨⟨c,z1⟩,z2⟩
  ·exact ⟨⟨c,PySem.W.codeHd_of_K KX e2⟩,KT t tu⟩) G.T.bmain hF hb (λ H h1 h2=>hsp w H a ns hlen h1 h2) λ H e s'=>hCX w H s₁ e s'
theorem zA (z:Str) (n:Int):∀ c∈(Txt.mul z n).cps.toList,c∈z.cps.toList:=by
 unfold Txt.mul
 split
 ·intro c hc;exact absurd hc (by decide +revert)
 split
 ·exact λ _ h=>h
 have:∀ (k:Nat) (acc:Array Nat),(∀ c∈acc.toList,c∈z.cps.toList)->∀ c∈((List.replicate k z.cps).foldl (·++·) acc).toList,c∈z.cps.toList:=by
  intro k
  induction k with
  | zero=>exact λ _ h=>h
  | succ k ih=>
   intro acc h
   rw [List.replicate_succ,List.foldl_cons]
   refine ih _ λ c hc=>?_
   rw [Array.toList_append] at hc
   rcases List.mem_append.mp hc with y | y
   ·exact h c y
   ·exact y
 exact this _ _ (by simp)
section
variable {X:Cx}
theorem dD:OpR X (binaryOp .Mult) (λ x y H Q=>∃ z n,x=.str z/\y=.int n/\0<=n/\n<=65536/\z.length<=256/\∀ r:Str,(r.length:Int)=z.length * n->(∀ c∈r.cps.toList,c∈z.cps.toList)->Q (.str r) H):=by
 intro pins s σ H x y v u Q I rx ry h
 obtain ⟨z,n,rfl,rfl,h1,h2,h3,q⟩:=h
 obtain ⟨t,rfl⟩:=rx
 obtain ⟨t',rfl⟩:=ry
 refine PySem.SB.mul (PyProof.Rows.mulOk_of 256 65536 h3 (by omega) (by omega) (by decide) (by decide)) λ t2 k=>⟨.str _,H,I.tok _,⟨_,rfl⟩,q _ ?_ ?_⟩
 ·rw [PyProof.Rows.len_mul]
  simp only [decide_eq_true_eq]
  rw [if_neg (by omega)]
 ·exact zA z n
end
theorem cH (x:Str):x.length=x.cps.toList.length:=by simp [Str.length]
theorem rj (b:Int) (n:Nat):Builtin.Str.strSliceIndices none (some b) 1 n=Builtin.Str.strSliceIndices (some ((0:Nat):Int)) (some b) 1 n:=by
 have:max (0:Int) (min 0 (n:Int))=0:=by omega
 simp [Builtin.Str.strSliceIndices,this]
theorem n8 (a:Int) (n:Nat):Builtin.Str.strSliceIndices (some a) none 1 n=Builtin.Str.strSliceIndices (some a) (some (n:Int)) 1 n:=by
 have:¬ ((n:Int)<0):=by omega
 simp [Builtin.Str.strSliceIndices,this]
theorem DN (x:Str) {b:Nat} (hb:b<=x.length):(Txt.slice x none (some (b:Int))).cps.toList=x.cps.toList.take b:=by
 unfold Txt.slice
 have e:=StrLaws.sliced_plain x (Nat.zero_le b) hb
 rw [<- rj] at e
 have el:(Builtin.Str.strSliceIndices none (some (b:Int)) 1 x.length).length=b:=by
  rw [rj,StrLaws.strSliceIndices_plain (Nat.zero_le b) hb];simp
 split
 ·rename_i z
  rw [el] at z
  have:b=x.length:=by simpa using z
  rw [this,List.take_of_length_le (by simp [Str.length])]
 ·rw [e];simp
theorem yb (x:Str) {a:Nat} (ha:a<=x.length):(Txt.slice x (some (a:Int)) none).cps.toList=x.cps.toList.drop a:=by
 unfold Txt.slice
 have e:=StrLaws.sliced_plain x ha (Nat.le_refl _)
 rw [<- n8] at e
 have el:(Builtin.Str.strSliceIndices (some (a:Int)) none 1 x.length).length=x.length - a:=by
  rw [n8,StrLaws.strSliceIndices_plain ha (Nat.le_refl _)];simp
 split
 ·rename_i z
  rw [el] at z
  have:x.length - a=x.length:=by simpa using z
  rcases Nat.eq_zero_or_pos a with h | h
  ·subst h;rw [List.drop_zero]
  ·have hz:x.length=0:=by omega
   have:x.cps.toList=[]:=List.length_eq_zero_iff.mp (by simpa [Str.length] using hz)
   rw [this];simp
 ·rw [e]
  show (List.take (x.length - a) (List.drop a x.cps.toList)).toArray.toList=_
  rw [List.toList_toArray,List.take_of_length_le (by simp [Str.length])]
def cl (n:Nat) (i:Int):Nat:=if i<0 then (i+n).toNat else min i.toNat n
theorem wV (x:Str) (i:Int):Txt.slice x none (some i)=Txt.slice x none (some ((cl x.length i:Nat):Int)):=by
 unfold Txt.slice cl
 have:Builtin.Str.strSliceIndices none (some i) 1 x.length=Builtin.Str.strSliceIndices none (some (((if i<0 then (i+x.length).toNat else min i.toNat x.length:Nat)):Int)) 1 x.length:=by
  simp only [Builtin.Str.strSliceIndices,show ((1:Int) > 0)=True from eq_true (by decide),if_true]
  congr 1
  rw [if_neg (show ¬ (((if i<0 then (i+x.length).toNat else min i.toNat x.length:Nat):Int)<0) by omega)]
  split <;> omega
 rw [this]
theorem uG (x:Str) (i:Int):Txt.slice x (some i) none=Txt.slice x (some ((cl x.length i:Nat):Int)) none:=by
 unfold Txt.slice cl
 have:Builtin.Str.strSliceIndices (some i) none 1 x.length=Builtin.Str.strSliceIndices (some (((if i<0 then (i+x.length).toNat else min i.toNat x.length:Nat)):Int)) none 1 x.length:=by
  simp only [Builtin.Str.strSliceIndices,show ((1:Int) > 0)=True from eq_true (by decide),if_true]
  congr 1
  rw [if_neg (show ¬ (((if i<0 then (i+x.length).toNat else min i.toNat x.length:Nat):Int)<0) by omega)]
  split <;> omega
 rw [this]
theorem BE (n:Nat) (i:Int):cl n i<=n:=by unfold cl;split <;> omega
theorem vc (x:Str) (i:Int):(Txt.slice x none (some i)).cps.toList=x.cps.toList.take (cl x.length i):=by rw [wV,DN x (BE _ _)]
theorem pN (x:Str) (i:Int):(Txt.slice x (some i) none).cps.toList=x.cps.toList.drop (cl x.length i):=by rw [uG,yb x (BE _ _)]
theorem zJ {tt:TT} {ta tb:TE} {σ:St} {H:Hp} {Q:VK} (q:tt σ H λ c H1=>if c=true then ta σ H1 Q else tb σ H1 Q):tIf tt ta tb σ H Q:=q
end L2
local macro_rules | `(tactic| array_get_dec) => `(tactic| with_reducible refine L2.zJ ?_)
namespace L2
open PySem PySem.Spec PyProof.Rows
section
variable {g:TG} {tb:TS} {nx:St->Hp->Prop} {rt:VK} {σ:St} {H:Hp}
end
theorem aU (x y:Str):(x++y).cps.toList=x.cps.toList++y.cps.toList:=by show (x.cps++y.cps).toList=_;simp
theorem aT (x y:Str):(x++y).length=x.length+y.length:=by show (x.cps++y.cps).size=_;simp [Str.length]
theorem cD {a b:Str} (h:a.cps.toList=b.cps.toList):a=b:=by
 cases a;cases b
 congr 1
 exact Array.toList_inj.mp h
theorem B0 {to ti:TE} {t:As} {v:V} {σ:St} {H:Hp} {Q:St->Hp->Prop} (q:to σ H λ o H1=>ti σ H1 λ i H2=>t o i v H2 λ H3=>Q σ H3):FU to ti t v σ H Q:=q
end L2
local macro_rules | `(tactic| array_get_dec) => `(tactic| with_reducible refine L2.B0 ?_)
namespace L2
open PySem PySem.Spec PyProof.Rows
def KB (at':Addr) (H H':Hp):Prop:=∀ c o,c≠at'->H c=some o->H' c=some o
theorem KB.refl (at':Addr) (H:Hp):KB at' H H:=λ _ _ _ e=>e
theorem KB.trans {at':Addr} {H H1 H2:Hp} (a:KB at' H H1) (b:KB at' H1 H2):KB at' H H2:=λ c o n e=>b c o n (a c o n e)
theorem KB.of {at':Addr} {H H':Hp} (s:ax H H'):KB at' H H':=λ c o _ e=>s c o e
theorem KB.at {at':Addr} {H:Hp} {o:HO}:KB at' H (upd H at' o):=λ c u n e=>by rw [aq n];exact e
theorem KB.put {at':Addr} {H:Hp} {q:Addr} {o:HO} (h:H q=none):KB at' H (upd H q o):=.of (ax.upd h)
structure bh (H:Hp) (at':Addr) (c:Nat):Prop where
 ob:∃ i n:Int,H at'=some (.lst [.int i,.int n])/\0<=i/\i<=c/\0<=n/\n<2 ^ 31
theorem bh.same {H H':Hp} {at':Addr} {c:Nat} (h:bh H at' c) (s:ax H H'):bh H' at' c:=let ⟨i,n,a,b⟩:=h.ob;⟨i,n,s _ _ a,b⟩
theorem bh.mono {H:Hp} {at':Addr} {c d:Nat} (h:bh H at' c) (l:c<=d):bh H at' d:=let ⟨i,n,a,b,e,f⟩:=h.ob;⟨i,n,a,b,by omega,f⟩
def Scr (K:PySem.W.Frag) (at':Addr) (H:Hp) (p:Addr) (ns:List Int):Prop:=SqL K H p (ns.map .int)/\(p=at'->∀ H',SqL K H' p (ns.map .int))
theorem Scr.kb {K:PySem.W.Frag} {at':Addr} {H H':Hp} {p:Addr} {ns:List Int} (h:Scr K at' H p ns) (k:KB at' H H'):Scr K at' H' p ns:=by
 refine ⟨?_,h.2⟩
 by_cases e:p=at'
 ·exact h.2 e H'
 ·rcases h.1 with (r | ⟨o,r⟩) | r
  ·exact .inl (.inl (k _ _ e r))
  ·exact .inl (.inr ⟨o,k _ _ e r⟩)
  ·exact .inr r
theorem Scr.of {K:PySem.W.Frag} {at':Addr} {H H':Hp} {p:Addr} {ns:List Int} (h:SqL K H p (ns.map .int)) (n:H at'=none) (s:ax H H'):Scr K at' H' p ns:=by
 refine ⟨s.seq h,λ e H2=>?_⟩
 subst e
 rcases h with (r | ⟨o,r⟩) | r
 ·rw [n] at r;cases r
 ·rw [n] at r;cases r
 ·exact .inr r
structure DfD (K:PySem.W.Frag) (x qual:Str) (st:Stmt) (ps:List Str) where
 f:Addr
 fd:FuncData
 cdv:Value
 ex:∃ (oc:Value) (od:Option Addr) (dV kV doc pm:Value) (an:Option Addr) (ct:Value) (osl:Array (Option Value)),
  fd=PySem.W.fnOf x qual (bJ st) (bG st) (aw st) dV kV doc pm an cdv ct/\K.lookup f=some ⟨oc,od,.func fd,osl⟩/\PySem.W.codeIn K cdv qual=true
 kp:PySem.W.keepIn K (.ref f)=true
theorem DfD.ok {P:Program} {w:World} {K:PySem.W.Frag} {mg:Str->Option Value} {base:Heap} {x qual:Str} {st:Stmt} {N ps:List Str} {k:Nat} {sp:Sp} (D:DfD K x qual st ps) (S:aS N ps (aw st)) (len:∀ vs H Q E,sp vs H Q E->vs.length=ps.length)
  (hbody:∀ (A:Around) (outer:List Env) (s:Shared) (H:Hp) (vs:List V) (Q:VK) (E:XK),bX k (A.deeper (envOfC qual (aw st) s.heap.objs.size D.f D.cdv))->sp vs H Q E ->
   ∃ t,PSs (kg CX0 P w K mg base N qual (aw st) D.f D.cdv A outer s H E).nox (bG st) t/\t ⟨λ _ H'=>Q .non H',Q,λ _ _=>False,λ _ _=>False⟩ (start N vs) H):cC P w K mg base CX0 (k+1) D.f D.fd ps sp:=by
 obtain ⟨f,fd,cdv,⟨oc,od,dV,kV,doc,pm,an,ct,osl,rfl,lk,hcd⟩,kp⟩:=D
 refine yh lk hcd S len λ A outer s H vs Q E hr hsp=>?_
 obtain ⟨t,h,q⟩:=hbody A outer s H vs Q E hr hsp
 exact ⟨t,h.nox,q⟩
theorem pM (elt target iter:Expr) (ifs:List Expr) (scope:Scope) (pos:Pos) (it acc:Value) (env:Env):
  compTurn (.SetComp elt [⟨target,iter,ifs,0⟩] scope pos) 0 it acc env=(do
   standAt iter.pos
   match <- pyNext it with
   | none=>pure (.done .next)
   | some v=>
    letOwnedTupleGo target it v
    assign target env v
    let mut ok:=true
    for c in ifs do
     if ok then ok <- isTrue c env (eval c env)
    if ok then
     (do let v <- eval elt env;standAt elt.pos;let _ <- call (.builtin "set.add") [acc,v])
    again (.compLoop (.SetComp elt [⟨target,iter,ifs,0⟩] scope pos) 0 it acc env)):=by rfl
theorem pW {env:Env} (elt:Expr) (gens:List Comprehension) (scope:Scope) (pos:Pos):eval (.SetComp elt gens scope pos) env =
  comprehension (.SetComp elt gens scope pos) scope env (firstIterPos gens pos) (newSet (.type "set")) (firstAsync gens) (firstIter gens env):=rfl
section
variable {prog:Program} {w:World} {A:Around} {R:Result->Shared->Prop} {s:Shared}
theorem iN {elt target iter:Expr} {ifs:List Expr} {rest:List Comprehension} {scope:Scope} {pos:Pos} {it acc:Value} {env:Env}
  (h0:codeAny (model prog w) A (.compLoop (.SetComp elt (⟨target,iter,ifs,0⟩::rest) scope pos) 0 it acc env) R s)
  (h:wpAny (model prog w) A (pyIter it) (λ it' s'=>codeAny (model prog w) A (.compLoop (.SetComp elt (⟨target,iter,ifs,0⟩::rest) scope pos) 0 it' acc env) R s')
   (notedBy (model prog w) A env λ x s'=>R (.error x) s') s):
  codeAny (model prog w) A (.compStart (.SetComp elt (⟨target,iter,ifs,0⟩::rest) scope pos) 0 it acc env) R s:=by
 refine codeAny_of_tree ?_
 show wpAny _ A ((compStart (.SetComp elt (⟨target,iter,ifs,0⟩::rest) scope pos) 0 it acc env).onRaise (λ x=>do noteFrame x env;standAt theWindowsPlace)) _ _ s
 refine wpAny_notedAt ?_
 unfold compStart
 show wpAny _ A (ask >>= _) _ _ s
 refine wpAny_bind (wpAny_askSetting (wpAny_ite ?_))
 split
 ·first
   | exact wpAny_bind (wpAny_pure (wpAny_pure (And.intro rfl h0)))
   | exact wpAny_pure (And.intro rfl h0)
 ·first
   | exact wpAny_bind (wpAny_rule (wpAny_bind (wpAny_standAt (wpAny_bind (wpAny_mono h (λ it' s' h'=>wpAny_pure (And.intro rfl h')) λ _ _ x=>x)))))
   | (refine wpAny_bind (wpAny_rule ?_);show wpAny _ _ (standAt iter.pos >>= _) _ _ s;exact wpAny_bind (wpAny_standAt (wpAny_bind (wpAny_mono h (λ it' s' h'=>wpAny_pure (And.intro rfl h')) λ _ _ x=>x))))
end
theorem ud {k:Key} {v:Value} (r:RelV (kV k) v):iQ k v=true:=by
 cases k with
 | inl i=>obtain ⟨t,rfl⟩:=r;simp [iQ,Value.isInt]
 | inr x=>obtain ⟨t,rfl⟩:=r;simp [iQ,Value.isStrOf]
def tSC (P:Program) (w:World) (nN:Nat) (fs:List (Nat×Nat)) (wi:TI) (g:TG) (tc:TT) (te:TE):TE:=λ σ H Q=>wi σ H λ J H1=>∀ D,H1 D=none->∃ (n:Nat) (W:Nat->List Key->Hp->Prop),n+1<scanBound/\W 0 [] (upd H1 D (eH P w D [])) /\
 ∀ i ys H2,i<=n->W i ys H2->H2 D=some (eH P w D ys)->(J.stop i H2/\Q (.ref D) H2)∨(i<n/\J.go i H2/\∀ x H3,J.yld i H2 x H3->g x (tau nN fs σ) H3 λ τ4 H4=>
  (∀ (j:Nat) v,(tau nN fs σ)[j]?=some (some v)->τ4[j]?=some (some v))/\tc τ4 H4 λ b H5=>
   if b=true then te τ4 H5 λ v H6=>∃ k:Key,v=kV k/\H6 D=some (eH P w D ys)/\W (i+1) (ic ys k) (upd H6 D (eH P w D (ic ys k))) else H5 D=some (eH P w D ys)/\W (i+1) ys H5)
section
variable {X:Cx} {scope:Scope} {N:List Str} {fs:List (Nat×Nat)} {tg elt iter:Expr} {ifs:List Expr} {pos cpos:Pos} {wi:TI} {g:TG} {tc:TT} {te:TE}
theorem uF {use:Option (Value->Sem Unit)} {R':Value->Shared->Prop} (S:nW X scope N fs) (hcalm:X.calm=true)
  (hi:PI X tg iter wi) (hg:∀ cl C s₀ H fp,PG (bW X scope cl C N s₀ H fp) tg g) (hc:∀ cl C s₀ H fp,PTs (bW X scope cl C N s₀ H fp) ifs tc) (he:∀ cl C s₀ H fp,PE (bW X scope cl C N s₀ H fp) elt te)
  (hs:∀ x,foldedSetIterable iter X.env x=pure x) {pins:List (Addr×Obj)} {s:Shared} {σ:St} {H:Hp} {Q:VK} (I:Inv X pins σ H s) (h:tSC X.prog X.w N.length fs wi g tc te σ H Q)
  (hfin:∀ (D C:Addr) (H2:Hp) (s':Shared),Inv X pins σ H2 s'->Q (.ref D) H2->(∃ m,s'.heap.Ns C m)->kh X pins H2 C->compPost (model X.prog X.w) X.A X.xe use R' (.ref D) C (.ok .next) s'):
  wpAny (model X.prog X.w) X.A (comprehension (.SetComp elt [⟨tg,iter,ifs,0⟩] scope pos) scope X.env cpos (newSet (.type "set")) false (eval iter X.env) use) R' X.xe s:=by
 have hfree:∀ y∈scope.names,y.2=.free->∃ c,X.env.cells.lookup y.1=some c:=λ y hy hf=>by
  have q:=List.all_eq_true.mp S.free y hy
  rw [hf] at q
  refine I.ok.has y.1 ?_
  simpa using q
 have hcell:∀ y∈scope.names,y.2≠.cell:=λ y hy=>by simpa using List.all_eq_true.mp S.cell y hy
 have hnames:∀ y∈scope.names,y.2=.local->scope.names.lookup y.1=some .local:=λ y hy hl=>by
  have q:=List.all_eq_true.mp S.own y hy
  rw [hl] at q
  simpa using q
 have hclo:=jy hfree
 generalize hcl:j5 scope.names X.env.cells []=cl at hclo
 have back:∀ {y c},cl.lookup y=some c->X.env.cells.lookup y=some c:=λ {y c} e=>gU (names:=scope.names) (acc:=[]) (λ z=>by cases z) (by rw [hcl];exact e)
 have hasc:∀ {y},scope.names.lookup y=some .free->∃ c,cl.lookup y=some c:=λ {y} e=>by
  have:=iT (cells:=X.env.cells) (acc:=[]) hfree (PySem.mem_of_lookup e)
  rw [hcl] at this
  exact Option.isSome_iff_exists.mp this
 refine wpAny_comprehension_free (use:=use) rfl hs hclo S.kind hnames (thn (hi pins s σ H _ I h) λ v s1 h1=>thn h1 λ itv s2 h2=>?_)
 obtain ⟨it,fp,tn,J,H1,e,I2,T,st2,f2,hq⟩:=h2
 subst e
 have hD:H1 s2.heap.objs.size=none:=I2.fresh
 obtain ⟨n,W,hn,w0,turn⟩:=hq _ hD
 refine zG λ led hled=>?_
 have I3:Inv X pins σ (upd H1 s2.heap.objs.size (eH X.prog X.w s2.heap.objs.size [])) { s2 with heap:=s2.heap.push (AL led),toks:=s2.toks }:=I2.laid (λ b u e=>Heap.get?_push_of_some _ e) (Nat.le_refl _) (Ao hled (Heap.get?_push_size _ rfl)).ok
 have st3:tn 0 (s2.heap.push (AL led)):=T.keep _ _ _ st2 λ b hb o e=>Heap.get?_push_of_some _ e
 have fpD:∀ b∈fp,b≠s2.heap.objs.size:=λ b hb=>let ⟨_,e,_⟩:=T.obj _ _ st2 b hb;Nat.ne_of_lt (Heap.lt_size e)
 generalize hH3:upd H1 s2.heap.objs.size (eH X.prog X.w s2.heap.objs.size [])=H3 at I3 w0
 have fr3:∀ b∈fp,H3 b=none:=λ b hb=>by rw [<- hH3,aq (fpD b hb)];exact (f2 b hb).1
 have hD3:H3 s2.heap.objs.size=some (eH X.prog X.w s2.heap.objs.size []):=by rw [<- hH3];exact ag
 clear hH3
 generalize hhp:s2.heap.push (AL led)=h3 at I3 st3 ⊢
 have hc3:∀ (E:Value->Shared->Prop) (Q':Env->Shared->Prop),(∀ h4,h4.Ns h3.objs.size (λ _=>none)->(∀ b o,h3.get? b=some o->h4.get? b=some o)->h3.objs.size<h4.objs.size->Q' (newEnv scope h3.objs.size X.env.globals cl X.env.qual none .none (some X.env) X.env.builtins) { s2 with heap:=h4,toks:=s2.toks }) ->
   wpAny (model X.prog X.w) X.A (newFunctionEnv scope X.env.globals cl [] X.env.qual none .none (some X.env)) Q' E { s2 with heap:=h3 }:=λ E Q' k=>by
  refine wpAny_newFunctionEnv hcell (by intro y hy;cases hy) (λ h4 a b=>?_) S.kind
  exact k h4 a (λ b' o e=>b.extBut b' o (Nat.ne_of_lt (Heap.lt_size e)) (Heap.get?_push_of_some _ e)) (by rw [b.1,Heap.size_push];exact Nat.lt_succ_self _)
 refine hc3 _ _ λ h4 hns k4 s34=>?_
 have fpl:∀ b∈fp,b<h3.objs.size:=λ b hb=>let ⟨_,e,_⟩:=T.obj _ _ st3 b hb;Heap.lt_size e
 have fps:∀ b∈fp,b ∉ frs X.stack:=λ b hb z=>by
  rcases List.mem_cons.mp (I2.jC b z) with q | q
  ·exact (f2 b hb).2.1 q
  ·exact (f2 b hb).2.2.1 q
 have fst:∀ {H':Hp},(∀ b∈fp,H' b=none)->∀ b∈fp,kh (bW X scope cl h3.objs.size N { s2 with heap:=h3,toks:=s2.toks } H3 fp) [] H' b:=λ hn b hb=>
  ⟨hn b hb,Nat.ne_of_lt (fpl b hb),fps b hb,.inl hb,λ x c e=>(f2 b hb).2.2.2.2.1 x c (back e),λ q hq=>by cases hq⟩
 have hYok:(bW X scope cl h3.objs.size N { s2 with heap:=h3,toks:=s2.toks } H3 fp).Ok:=by
  refine ⟨I3.ok.mod,S.kind,I.ok.glob,I.ok.blt,Nat.le_refl _,λ x y c e1 e2=>I3.ok.inj x y c (back e1) (back e2),λ x hx=>?_,λ x c z=>(by cases z),λ _=>I.ok.hd hcalm,I.ok.frames,.inl rfl,
   λ b hb=>⟨Nat.ne_of_lt (fpl b hb),λ x c e=>(f2 b hb).2.2.2.2.1 x c (back e)⟩,I3.bs,Nat.le_trans I3.ok.bsz I3.sz,λ b o e hb=>?_,fps,I3.stack,I3.j4⟩
  ·have hx:(relabel scope X.env).names.lookup x=some .cell∨(relabel scope X.env).names.lookup x=some .free:=hx
   have hx2:scope.names.lookup x=some .cell∨scope.names.lookup x=some .free:=by
    rcases hx with z | z
    ·exact fF z
    ·exact (fF z).elim .inr .inr
   rcases hx2 with z | z
   ·exact absurd rfl (hcell _ (PySem.mem_of_lookup z))
   ·exact hasc z
  ·rcases (f2 b hb).2.2.2.1 with z | z
   ·exact I3.ok.uo b o e z
   ·exact absurd (Nat.lt_of_lt_of_le (Heap.lt_size e) (Nat.le_trans I3.ok.bsz z)) (Nat.lt_irrefl _)
 have IY:Inv (bW X scope cl h3.objs.size N { s2 with heap:=h3,toks:=s2.toks } H3 fp) [] (tau N.length fs σ) H3 { s2 with heap:=h4,toks:=s2.toks }:=by
  refine ⟨hYok,rfl,I3.bare,Un.kept k4,⟨_,hns,λ i x v e1 e2 e3=>?_⟩,λ x c e=>?_,I3.hok.fresh (Nat.le_refl _),λ x c e=>I3.fZ x c (back e),λ q hq=>(by cases hq),I3.hok.kept k4,pO _ _ _⟩
  ·obtain ⟨j,hj,hv⟩:=qL e2
   obtain ⟨x',q1,q2,q3,q4⟩:=S.fs.mem hj
   have e1:N[i]?=some x:=e1
   rw [e1] at q1
   cases q1
   obtain ⟨m,_,hl⟩:=I3.loc
   obtain ⟨u,ru,lk⟩:=hl j x v q2 hv (by rcases q4 with z | z;exact .inr (.inl z);exact .inr (.inr z))
   refine ⟨u,ru,.inr ⟨jI q3,?_⟩⟩
   rcases lk with ⟨z,_⟩ | ⟨_,c,e,hcc⟩
   ·rcases q4 with y | y <;> (rw [y] at z;cases z)
   ·obtain ⟨c',e'⟩:=hasc q3
    have z:=back e'
    rw [e] at z
    cases z
    obtain ⟨o,ho,hd⟩:=hcc
    exact ⟨c,e',o,k4 _ _ ho,hd⟩
  ·obtain ⟨v,o,ho,hd⟩:=I3.cell x c (back e)
   exact ⟨v,o,k4 _ _ ho,hd⟩
 have hg:=hg cl h3.objs.size { s2 with heap:=h3,toks:=s2.toks } H3 fp
 have hc:=hc cl h3.objs.size { s2 with heap:=h3,toks:=s2.toks } H3 fp
 have he:=he cl h3.objs.size { s2 with heap:=h3,toks:=s2.toks } H3 fp
 generalize hYd:bW X scope cl h3.objs.size N { s2 with heap:=h3,toks:=s2.toks } H3 fp=Y at hg hc he IY fst
 have eP:Y.prog=X.prog:=by rw [<- hYd];rfl
 have ew:Y.w=X.w:=by rw [<- hYd];rfl
 have eK:Y.K=X.K:=by rw [<- hYd];rfl
 have ec:Y.calm=true:=by rw [<- hYd];rfl
 have eA:Y.A=X.A:=by rw [<- hYd];rfl
 have ex:Y.xe=λ _ _=>False:=by rw [<- hYd];rfl
 have ee:Y.env=compEnvC scope cl h3.objs.size X.env:=by rw [<- hYd];rfl
 have outX:∀ {H':Hp} {τ':St} {s':Shared},Inv Y [] τ' H' s'->Inv X pins σ H' s':=λ {H' τ' s'} J=>by
  have J':=J
  rw [<- hYd] at J'
  refine I3.yy J'.os J'.base J'.hok J'.bare λ b hb=>?_
  obtain ⟨_,z1,z2,z3,z4,z5⟩:=f2 b hb
  exact ⟨z3,z1,z4,z5⟩
 have loop:codeAny (model X.prog X.w) X.A (.compLoop (.SetComp elt [⟨tg,iter,ifs,0⟩] scope pos) 0 (.ref it) (.ref s2.heap.objs.size) (compEnvC scope cl h3.objs.size X.env))
   (compPost (model X.prog X.w) X.A X.xe use R' (.ref s2.heap.objs.size) h3.objs.size) { s2 with heap:=h4,toks:=s2.toks }:=by
  refine codeAny_loop rfl (λ m s'=>∃ i ys H2,m=n - i/\i<=n/\ys.length<=i/\W i ys H2/\H2 s2.heap.objs.size=some (eH X.prog X.w s2.heap.objs.size ys)/\(∀ b∈fp,H2 b=none)/\Inv Y [] (tau N.length fs σ) H2 s'/\tn i s'.heap) ?_ n
   ⟨0,[],H3,rfl,Nat.zero_le _,Nat.le_refl _,w0,hD3,fr3,IY,T.keep _ _ _ st3 λ b _ o e=>k4 b o e⟩
  rintro m s5 ⟨i,ys,H2,rfl,hi,hy,w5,hD5,fr5,I5,st5⟩
  show wpAny _ X.A ((compTurn (.SetComp elt [⟨tg,iter,ifs,0⟩] scope pos) 0 (.ref it) (.ref s2.heap.objs.size) (compEnvC scope cl h3.objs.size X.env)).onRaise (λ x=>do noteFrame x (compEnvC scope cl h3.objs.size X.env);theTreesLotGoes x)) _ _ s5
  rw [pM];refine wpAny_noted (wpAny_bind (wpAny_standAt (wpAny_bind ?_)))
  rcases turn i ys H2 hi w5 hD5 with ⟨stop,q⟩ | ⟨hlt,go,step⟩
  ·have h6:=T.done Y eP ew eK ec i [] s5 _ H2 (λ _ _=>False) I5 (fst fr5) st5 stop
   rw [eA] at h6
   refine wpAny_mono h6 (λ r s6 z=>?_) λ _ _ f=>f.elim
   obtain ⟨hr,I6⟩:=z
   subst hr
   refine wpAny_pure (hfin _ _ H2 s6 (outX I6) q ?_ ?_)
   ·obtain ⟨m,hm,_⟩:=I6.loc
    rw [ee] at hm
    exact ⟨m,hm⟩
   ·have z:=I6.free
    rw [ee] at z
    exact I3.rf (Nat.le_refl _) z
  ·have h6:=T.item Y eP ew eK ec i [] s5 _ H2 (λ _ _=>False) I5 (fst fr5) st5 go
   rw [eA] at h6
   refine wpAny_mono h6 (λ r s6 z=>?_) λ _ _ f=>f.elim
   obtain ⟨v,hr,h7⟩:=z
   subst hr
   refine wpAny_bind (wpAny_mono h7 (λ _ s7 z=>?_) λ _ _ f=>f.elim)
   obtain ⟨x,H7,I7,rx,y7,st7,fr7⟩:=z
   have I7':=I7.pinned (fst fr7) (T.obj _ _ st7)
   have h8:=hg _ s7 _ H7 x v _ I7' rx (step x H7 y7)
   rw [eP,ew,eA,ee,ex] at h8
   refine wpAny_bind (wpAny_mono h8 (λ _ s8 z=>?_) λ _ _ f=>f.elim)
   obtain ⟨τ8,H8,I8,w8,q8⟩:=z
   have h9:=hc _ s8 τ8 H8 _ I8 q8
   rw [eP,ew,eA,ee,ex] at h9
   refine wpAny_bind (wpAny_mono h9 (λ ok s9 z=>?_) λ _ _ f=>f.elim)
   obtain ⟨H9,I9,q9⟩:=z
   have iL:∀ {H':Hp} {s':Shared},Inv Y ([]++kK fp s7.heap) τ8 H' s'->tn (i+1) s'.heap/\(∀ b∈fp,H' b=none)/\Inv Y [] (tau N.length fs σ) H' s':=λ {H' s'} J=>by
    refine ⟨T.keep _ _ _ st7 λ b hb o e=>(J.pin (b,o) (List.mem_append_right _ (List.mem_append_right _ (cK hb e)))).1,λ b hb=>?_,J.hU.weak (I5.len.trans J.len.symm) w8⟩
    obtain ⟨o,e,_⟩:=T.obj _ _ st7 b hb
    exact (J.pin (b,o) (List.mem_append_right _ (List.mem_append_right _ (cK hb e)))).2.1
   cases ok with
   | false=>
    obtain ⟨hD9,w9⟩:=(if_neg Bool.false_ne_true ▸ q9:_)
    obtain ⟨z1,z2,z3⟩:=iL I9
    exact wpAny_pure ⟨rfl,n - (i+1),by omega,i+1,ys,H9,rfl,hlt,by omega,w9,hD9,z2,z3,z1⟩
   | true=>
    have q9:=(if_pos rfl ▸ q9:_)
    have h10:=he _ s9 τ8 H9 _ I9 q9
    rw [eP,ew,eA,ee,ex] at h10
    refine wpAny_bind (wpAny_bind (wpAny_mono h10 (λ y s10 z=>?_) λ _ _ f=>f.elim))
    obtain ⟨y',H10,I10,ry,ky,ek,hD10,w10⟩:=z
    subst ek
    have S10:iH X.prog X.w s2.heap.objs.size ys s10.heap:=(I10.hok _ _ hD10).1
    refine wpAny_bind (wpAny_standAt (wpAny_bind ?_))
    refine oy (knd:=cu X.prog X.w) (k:=ky) (ud ry) (xP (ud ry)) S10.1 S10.2 (by omega) λ h' sb S2 X2=>?_
    have S3:=iH.add S2 X2
    have I11:Inv Y _ τ8 (upd H10 s2.heap.objs.size (eH X.prog X.w s2.heap.objs.size (ic ys ky))) { s10 with heap:=h',toks:=s10.toks+1 }:=
     I10.write (by rw [hD10];trivial) (.inl rfl) (λ b u hb e=>(sb.2 b hb).trans e) (let ⟨o,_,_,_,ho,_⟩:=S3.1;⟨o,ho⟩) (by rw [eP,ew];exact S3.ok)
    obtain ⟨z1,z2,z3⟩:=iL I11
    exact wpAny_pure (wpAny_pure ⟨rfl,n - (i+1),by omega,i+1,ic ys ky,_,rfl,hlt,by rw [nU];split <;> omega,w10,ag,z2,z3,z1⟩)
 exact iN loop (T.self _ 0 _ _ _ (T.keep _ _ _ st3 λ b _ o e=>k4 b o e) loop)
theorem F2 (S:nW X scope N fs) (hcalm:X.calm=true) (hi:PI X tg iter wi) (hg:∀ cl C s₀ H fp,PG (bW X scope cl C N s₀ H fp) tg g) (hc:∀ cl C s₀ H fp,PTs (bW X scope cl C N s₀ H fp) ifs tc)
  (he:∀ cl C s₀ H fp,PE (bW X scope cl C N s₀ H fp) elt te) (P:Program) (w:World) (hs:∀ x,foldedSetIterable iter X.env x=pure x:=by intro _;rfl) (hP:X.prog=P:=by rfl) (hw:X.w=w:=by rfl):
  PE X (.SetComp elt [⟨tg,iter,ifs,0⟩] scope pos) (tSC P w N.length fs wi g tc te):=by
 subst hP hw
 intro pins s σ H Q I h
 rw [pW]
 refine uF (use:=none) S hcalm hi hg hc he hs I h λ D C H2 s' I' q ⟨m,hm⟩ f=>⟨m,hm,λ h' hs'=>?_⟩
 exact ⟨.ref D,H2,I'.off f hs',rfl,q⟩
end
section
variable {X:Cx}
theorem oA (P:Program) (w:World) (hP:X.prog=P:=by rfl) (hw:X.w=w:=by rfl):fA X (.builtin "len") (λ xs H Q=>∃ a L,xs=[.ref a]/\H a=some (eH P w a L)/\L.length<2 ^ 62/\Q (.int L.length) H):=by
 subst hP hw
 intro pins s σ H xs us Q I r h
 obtain ⟨a,L,rfl,hH,hl,q⟩:=h
 obtain ⟨u,rfl,rx⟩:=vals1 r
 cases rx
 obtain ⟨o,es,ep,t,ho,hex,hd,h1,h2,h3,h4,h5⟩:s.heap.SetOf (cu X.prog X.w) a (λ k=>decide (k∈L)) L.length:=(I.hok _ _ hH).1.1
 exact call_len_set ho hex hd h4 (by omega) ⟨.int L.length,H,I.tok _,⟨s.toks+1,by rw [h5]⟩,q⟩
end
theorem Hr {P:Program} {w:World} {nN:Nat} {fs:List (Nat×Nat)} {wi:TI} {g:TG} {tc:TT} {te:TE} {σ:St} {H:Hp} {Q:VK} (q:wi σ H λ J H1=>∀ D,H1 D=none->∃ (n:Nat) (W:Nat->List Key->Hp->Prop),n+1<scanBound/\W 0 [] (upd H1 D (eH P w D [])) /\
 ∀ i ys H2,i<=n->W i ys H2->H2 D=some (eH P w D ys)->(J.stop i H2/\Q (.ref D) H2)∨(i<n/\J.go i H2/\∀ x H3,J.yld i H2 x H3->g x (tau nN fs σ) H3 λ τ4 H4=>
  (∀ (j:Nat) v,(tau nN fs σ)[j]?=some (some v)->τ4[j]?=some (some v))/\tc τ4 H4 λ b H5=>
   if b=true then te τ4 H5 λ v H6=>∃ k:Key,v=kV k/\H6 D=some (eH P w D ys)/\W (i+1) (ic ys k) (upd H6 D (eH P w D (ic ys k))) else H5 D=some (eH P w D ys)/\W (i+1) ys H5)):tSC P w nN fs wi g tc te σ H Q:=q
end L2
local macro_rules | `(tactic| array_get_dec) => `(tactic| with_reducible refine L2.Hr ?_)
namespace L2
open PySem PySem.Spec PyProof.Rows
theorem scL {P:Program} {w:World} {K:PySem.W.Frag} {nN:Nat} {fs:List (Nat×Nat)} {te:TE} {σ:St} {H:Hp} {QD:Addr->Hp->Prop} {a:Addr} {xs:List V} (f:Nat->Key) (hl:SqL K H a xs) (hz:xs.length+1<scanBound) (h1:(tau nN fs σ)[0]?=some none)
  (ht:∀ D L i (Qc:VK),H D=none->i<xs.length->Qc (kV (f i)) (upd H D (eH P w D L))->te ((tau nN fs σ).set 0 (some (xs.getD i .non))) (upd H D (eH P w D L)) Qc)
  (hQ:∀ D,H D=none->QD D (upd H D (eH P w D (jz ((List.range xs.length).map f))))):
  ∀ D,H D=none->∃ (n:Nat) (W:Nat->List Key->Hp->Prop),n+1<scanBound/\W 0 [] (upd H D (eH P w D [])) /\
   ∀ i ys H2,i<=n->W i ys H2->H2 D=some (eH P w D ys)->((Itl K a).stop i H2/\QD D H2)∨(i<n/\(Itl K a).go i H2/\∀ x H3,(Itl K a).yld i H2 x H3->dF 0 x (tau nN fs σ) H3 λ τ4 H4=>
    (∀ (j:Nat) v,(tau nN fs σ)[j]?=some (some v)->τ4[j]?=some (some v))/\Ab τ4 H4 λ b H5=>
     if b=true then te τ4 H5 λ v H6=>∃ k:Key,v=kV k/\H6 D=some (eH P w D ys)/\W (i+1) (ic ys k) (upd H6 D (eH P w D (ic ys k))) else H5 D=some (eH P w D ys)/\W (i+1) ys H5):=by
 intro D hD
 refine ⟨xs.length,λ i L H2=>H2=upd H D (eH P w D L)/\L=jz ((List.range i).map f),hz,⟨rfl,rfl⟩,?_⟩
 rintro i L _ hi ⟨rfl,e⟩ _
 have hl':=zX (o:=eH P w D L) hl hD
 rcases Nat.lt_or_ge i xs.length with hlt | hge
 ·refine .inr ⟨hlt,⟨xs,xs[i],hl',List.getElem?_eq_getElem hlt⟩,?_⟩
  rintro x H3 ⟨rfl,hx⟩
  have ex:x=xs.getD i .non:=by
   have:=hx xs hl'
   simp [List.getD,this]
  subst ex
  refine jf ⟨gY h1,?_⟩
  refine uY ?_
  refine tV ?_
  refine ht D L i _ hD hlt ⟨f i,rfl,ag,by rw [AZ],?_⟩
  rw [List.range_succ,List.map_append,List.map_cons,List.map_nil,oN,e]
 ·have:i=xs.length:=by omega
  subst this
  refine .inl ⟨⟨xs,hl',Nat.le_refl _⟩,?_⟩
  rw [e]
  exact hQ D hD
section
variable {X:Cx}
end
section
variable {prog:Program} {w:World} {A:Around} {E:Value->Shared->Prop} {s:Shared}
end
section
variable {P:Program} {w:World} {A:Around} {R:Result->Shared->Prop} {I:Addr} {fp wr:List Addr} {G:Array GenState->Array GenState->Prop} {n:Nat} {Pv:Nat->Value->Prop} {St:Nat->Shared->Prop}
end
section
variable {X:Cx} {pins:List (Addr×Obj)} {σ:St} {H:Hp} {s:Shared}
theorem jW (I:Inv X pins σ H s):∀ {ts:List Addr} {kvs:List (Key×V)},Paired (λ t (p:Key×V)=>H t=some (.tup [kV p.1,p.2])) ts kvs ->
  ∃ ps:List (Key×Value),KV kvs ps/\∀ (i:Nat) t,ts[i]?=some t->∃ k u x,ps[i]?=some (k,x)/\iQ k u=true/\s.heap.IsTuple t #[u,x]
 | _,_,.nil=>⟨[],.nil,λ i t h=>by cases h⟩
 | _,_,.cons (a:=t) (b:=p) h r=>by
  obtain ⟨ps,kv,hp⟩:=jW I r
  obtain ⟨_,its,vi,tu⟩:=I.hok _ _ h
  cases vi with
  | cons r1 vi=>
   cases vi with
   | cons r2 vi=>
    cases vi
    rename_i u x
    refine ⟨(p.1,x)::ps,.cons ⟨rfl,r2⟩ kv,λ i t' ht=>?_⟩
    cases i with
    | zero=>cases ht;exact ⟨p.1,u,x,rfl,ud r1,tu⟩
    | succ i=>exact hp i t' ht
end
section
variable {X:Cx}
def Bq (te:TE):TE:=λ σ H Q=>te σ H λ x H1=>∃ y:Str,x=.str y/\y.length<=sizeLine/\Q (.str y) H1
def Bp (te:TE):TE:=λ σ H Q=>te σ H λ x H1=>∃ i:Int,x=.int i/\i.natAbs.log2<1920/\Q (.str (toString i)) H1
theorem ia {e:Expr} {te:TE} {pos:Pos} (he:PE X e te):PE X (.FormattedValue e (-1) none pos) (Bq te):=by
 intro pins s σ H Q I h
 refine FormattedValue_plain (thn (he pins s σ H _ I h) λ v s1 ⟨x,H1,I1,r1,y,hx,hy,q⟩=>?_)
 subst hx
 obtain ⟨t,rfl⟩:=r1
 exact formatField_str (λ t' tk=>⟨.str y,H1,I1.tok _,⟨_,rfl⟩,q⟩) hy
theorem jx {e:Expr} {te:TE} {pos:Pos} (he:PE X e te):PE X (.FormattedValue e (-1) none pos) (Bp te):=by
 intro pins s σ H Q I h
 refine FormattedValue_plain (thn (he pins s σ H _ I h) λ v s1 ⟨x,H1,I1,r1,i,hx,hi,q⟩=>?_)
 subst hx
 obtain ⟨t,rfl⟩:=r1
 exact formatField_int_small hi ⟨.str (toString i),H1,I1.tok _,⟨_,rfl⟩,q⟩
abbrev TJ:=St->Hp->Str->VK->Prop
def PJ (X:Cx) (es:List Expr) (t:TJ):Prop:=
 ∀ (pins:List (Addr×Obj)) (s:Shared) (σ:St) (H:Hp) (out:Str) (Q:VK),Inv X pins σ H s->t σ H out Q->wpAny (model X.prog X.w) X.A (joinParts out (evalEach es X.env)) (EP X pins σ Q) X.xe s
def Hi:TJ:=λ _ H out Q=>out.length<=sizeLine/\Q (.str out) H
def A7 (te:TE) (t:TJ):TJ:=λ σ H out Q=>te σ H λ x H1=>∃ y:Str,x=.str y/\(out++y).length<=sizeLine/\t σ H1 (out++y) Q
theorem lC:PJ X [] Hi:=by
 intro pins s σ H out Q I h
 exact joinParts_nil ⟨.str out,H,I.tok _,⟨_,rfl⟩,h.2⟩ h.1
theorem c9 {e:Expr} {es:List Expr} {te:TE} {t:TJ} (he:PE X e te) (hr:PJ X es t):PJ X (e::es) (A7 te t):=by
 intro pins s σ H out Q I h
 show wpAny _ _ (joinParts out (eval e X.env::evalEach es X.env)) _ _ s
 refine joinParts_cons (thn (he pins s σ H _ I h) λ v s1 ⟨x,H1,I1,r1,y,hx,hz,q⟩=>?_)
 subst hx
 obtain ⟨t',rfl⟩:=r1
 exact ⟨hz,hr pins s1 σ H1 _ Q I1 q⟩
def tJ (t:TJ):TE:=λ σ H Q=>t σ H Str.empty Q
theorem pf {e1 e2:Expr} {es:List Expr} {pos:Pos} {t:TJ} (h:PJ X (e1::e2::es) t):PE X (.JoinedStr (e1::e2::es) pos) (tJ t):=by
 intro pins s σ H Q I hq
 exact JoinedStr_many (h pins s σ H _ Q I hq)
theorem G2 {t:TJ} {σ:St} {H:Hp} {Q:VK} (q:t σ H Str.empty Q):tJ t σ H Q:=q
theorem Hl {te:TE} {t:TJ} {σ:St} {H:Hp} {out:Str} {Q:VK} (q:te σ H λ x H1=>∃ y:Str,x=.str y/\(out++y).length<=sizeLine/\t σ H1 (out++y) Q):A7 te t σ H out Q:=q
theorem GZ {te:TE} {σ:St} {H:Hp} {Q:VK} (q:te σ H λ x H1=>∃ y:Str,x=.str y/\y.length<=sizeLine/\Q (.str y) H1):Bq te σ H Q:=q
theorem Hf {te:TE} {σ:St} {H:Hp} {Q:VK} (q:te σ H λ x H1=>∃ i:Int,x=.int i/\i.natAbs.log2<1920/\Q (.str (toString i)) H1):Bp te σ H Q:=q
theorem ji:fA X (.type "str") (λ xs H Q=>∃ i:Int,xs=[.int i]/\i.natAbs.log2<1920/\Q (.str (toString i)) H):=by
 intro pins s σ H xs us Q I r h
 obtain ⟨i,rfl,hi,q⟩:=h
 obtain ⟨u,rfl,t,rfl⟩:=vals1 r
 exact P.str_of_int hi ⟨.str (toString i),H,I.tok _,⟨_,rfl⟩,q⟩
end
end L2
local macro_rules | `(tactic| array_get_dec) => `(tactic| with_reducible refine L2.G2 ?_)
local macro_rules | `(tactic| array_get_dec) => `(tactic| with_reducible refine L2.Hl ?_)
local macro_rules | `(tactic| array_get_dec) => `(tactic| with_reducible refine L2.GZ ?_)
local macro_rules | `(tactic| array_get_dec) => `(tactic| with_reducible refine L2.Hf ?_)
namespace L2
open PySem PySem.Spec PyProof.Rows
section
variable {X:Cx} {pins ps:List (Addr×Obj)} {σ:St} {H:Hp} {s:Shared} {E E':XK}
end
section
variable {X:Cx}
end
section
variable {X:Cx} {CX:CXT} {k:Nat} {f C:Addr} {fd:FuncData} {ps ks:List Str} {sp:Sp} {E:XK} {x:Str} {p pos:Pos} {e:Expr} {es:List Expr} {kws:List Keyword} {t tk:TA} {g:List Value->List Value->List Value} {gV:List V->List V->List V}
end
section
variable {X:Cx}
end
section
variable {X:Cx}
end
section
variable {X:Cx}
end
section
variable {X:Cx}
end
section
variable {prog:Program} {w:World} {A:Around} {E:Value->Shared->Prop}
theorem BH {j l:Addr} {its:Array Value} (ne:l≠j):∀ (n i:Nat) (s:Shared) (Q:List Value->Shared->Prop),s.heap.IsListIter j l i->s.heap.IsList l its->i+n<=its.size ->
  (∀ h1,h1.IsListIter j l (i+n)->Heap.SameBut j s.heap h1->Q ((its.toList.drop i).take n) { s with heap:=h1 })->wpAny (model prog w) A (draw (.ref j) n) Q E s
 | 0,i,s,Q,hj,_,_,q=>by
  have:=q s.heap hj (Heap.SameBut.refl ..)
  rw [List.take_zero] at this
  exact wpAny_pure this
 | n+1,i,s,Q,hj,hl,le,q=>by
  have lt:i<its.size:=by omega
  show wpAny _ _ (pyNext (.ref j) >>= _) Q E s
  refine wpAny_bind (wpAny_pyNext_list_item hj hl (x:=its[i]) (Array.getElem?_eq_getElem lt) λ h1 j1 s1=>?_)
  have hl1:h1.IsList l its:=by
   obtain ⟨o,e,r⟩:=hl
   exact ⟨o,s1.extBut _ _ ne e,r⟩
  refine wpAny_bind (wpAny_holding (BH ne n (i+1) _ _ j1 hl1 (by omega) λ h2 j2 s2=>wpAny_pure ?_))
  have ed:its.toList.drop i=its[i]::its.toList.drop (i+1):=by rw [List.drop_eq_getElem_cons (by simpa using lt)];simp
  have z:=q h2 (by rw [show i+(n+1)=i+1+n by omega];exact j2) (s1.trans s2)
  rw [ed,List.take_succ_cons] at z
  exact z
theorem zr {s:Shared} {l:Addr} {its:Array Value} {Q:List Value->Shared->Prop} (hh:A.handled=none) (hl:s.heap.IsList l its)
  (q:∀ h1,Heap.ExtBut s.heap.objs.size s.heap h1->Q its.toList { s with heap:=h1 }):wpAny (model prog w) A (unpackItems (.ref l) its.size none) Q E s:=by
 have ne:l≠s.heap.objs.size:=by obtain ⟨o,e,_⟩:=hl;exact Nat.ne_of_lt (Heap.lt_size e)
 have hp:∀ ob,(s.heap.push ob).IsList l its:=λ ob=>by
  obtain ⟨o,e,r⟩:=hl
  exact ⟨o,Heap.get?_push_of_some _ e,r⟩
 unfold unpackItems
 refine wpAny_bind ?_
 unfold notIterableAtAll
 refine wpAny_bind (wpAny_specialOf hl.typeIs slot_list_iter.lookup ?_)
 refine wpAny_pure ?_
 simp only [Bool.false_eq_true,if_false]
 refine wpAny_bind (wpAny_holding (wpAny_pyIter_list hl ?_))
 refine wpAny_bind (wpAny_holding (BH ne its.size 0 _ _ ⟨_,Heap.get?_push_size _ rfl,rfl,rfl⟩ (hp _) (by omega) λ h1 j1 s1=>?_))
 have al:List.take its.size (List.drop 0 its.toList)=its.toList:=by
  rw [List.drop_zero,List.take_of_length_le (by simp)]
 have hl1:h1.IsList l its:=by
  obtain ⟨o,e,r⟩:=hl
  exact ⟨o,s1.extBut _ _ ne (Heap.get?_push_of_some _ e),r⟩
 rw [al,if_neg (by simp)]
 refine wpAny_bind (wpAny_holding (wpAny_pyNext_list_end hh j1 hl1 (by simp) λ h2 e2=>?_))
 simp only [Option.isSome_none,Bool.false_eq_true,if_false]
 exact wpAny_pure (q h2 λ b o hb e=>e2 b o hb (s1.extBut b o hb (Heap.get?_push_of_some _ e)))
end
section
variable {X:Cx} {pos:Pos}
def Fx (K:PySem.W.Frag) (n:Nat) (t:TGs):TG:=λ v σ H Q=>∃ a xs,v=.ref a/\SqL K H a xs/\xs.length=n/\t xs σ H Q
theorem AO {es:List Expr} {k:Nat} {t:TGs} {n:Nat} (K:PySem.W.Frag) (hc:X.calm=true) (h:PGs X es t) (hK:X.K=K:=by rfl)
  (hn:(assignEach es X.env).length=n:=by rfl) (hst:(assignEach es X.env).findIdx? (·.1)=none:=by rfl):PG X (.Tuple es k pos) (Fx K n t):=by
 subst hK
 intro pins s σ H v u Q I r hw
 obtain ⟨a,xs,e1,hq,hl,hw⟩:=hw
 subst e1
 cases r
 obtain ⟨its,rv,ht,hz⟩:=I.list hq
 have hlen:=rv.length
 rw [assign_Tuple]
 refine wpAny_bind (wpAny_standAt ?_)
 unfold unpack
 rw [hst,hn,show n=its.toArray.size by rw [List.size_toArray];omega]
 refine wpAny_bind (wpAny_holding (zr (I.ok.hd hc) ht.isList λ h' hx=>?_))
 have I1:Inv X pins σ H { s with heap:=h' }:=I.kept (t':=s.toks) λ b o e=>hx b o (Nat.ne_of_lt (Heap.lt_size e)) e
 exact h pins _ σ H xs _ Q I1 (by simpa using rv) hw
end
section
variable {prog:Program} {w:World} {A:Around} {R:Result->Shared->Prop} {s:Shared}
end
section
variable {Y:Cx} {elt tg0 iter0 tg iter:Expr} {ifs:List Expr} {scope:Scope} {pos:Pos} {wi:TI} {g:TG} {tc:TT} {te:TE}
end
section
variable {X:Cx} {scope:Scope} {N:List Str} {fs:List (Nat×Nat)} {tg elt iter tg2 iter2:Expr} {ifs:List Expr} {pos cpos:Pos} {wi wi2:TI} {g g2:TG} {tc:TT} {te:TE}
end
end L2
namespace PySem.F
end PySem.F
namespace PySem
section
variable {P:Program} {w:World} {A:Around} {E:Value->Shared->Prop} {s:Shared}
section
variable {it d:Addr} {o:Obj} {es:Array (Int×Value)} {ep i:Nat} {t:SetTable}
end
end
end PySem
namespace PySem
open PyProof.Rows
section
variable {P:Program} {w:World} {A:Around} {E:Value->Shared->Prop} {s:Shared} {d:Addr} {o:Obj} {es:Array (Int×Value)} {ep:Nat} {t:SetTable}
end
end PySem
namespace L2
end L2
namespace PySem
open PyProof.Rows PySem.W PySem.Spec
section
variable {P:Program} {w:World} {A:Around} {E:Value->Shared->Prop} {s:Shared} {d:Addr} {o:Obj} {es:Array (Int×Value)} {ep:Nat} {t:SetTable}
end
end PySem
namespace L2
open PySem PySem.Spec PyProof.Rows
section
variable {X:Cx}
end
section
variable {X:Cx}
end
section
variable {X:Cx}
end
section
variable {X:Cx}
end
inductive DE (H:Hp):Nat->V->V->Prop
 | int {n:Nat} (i:Int):DE H n (.int i) (.int i)
 | str {n:Nat} (x:Str):DE H n (.str x) (.str x)
 | same {n:Nat} (a:Addr):DE H n (.ref a) (.ref a)
 | lst {n:Nat} {a b:Addr} {xs ys:List V} (ha:H a=some (.lst xs)) (hb:H b=some (.lst ys)) (hl:xs.length=ys.length) (h:∀ (i:Nat) x y,xs[i]?=some x->ys[i]?=some y->DE H n x y):DE H (n+1) (.ref a) (.ref b)
 | tup {n:Nat} {a b:Addr} {xs ys:List V} (ha:H a=some (.tup xs)) (hb:H b=some (.tup ys)) (hl:xs.length=ys.length) (h:∀ (i:Nat) x y,xs[i]?=some x->ys[i]?=some y->DE H n x y):DE H (n+1) (.ref a) (.ref b)
section
variable {X:Cx} {pins:List (Addr×Obj)} {σ:St} {H:Hp} {s:Shared}
theorem all_true (n:Nat):((List.range n).all λ _=>true)=true:=by simp
theorem DE.eq (I:Inv X pins σ H s) {n:Nat} {v w:V} (h:DE H n v w):∀ (A:Around),A.units+n<cLine->∀ {u u':Value},RelV v u->RelV w u'->SeqAt.EqAt A s u u' true:=by
 induction h with
 | int i=>
  intro A _ u u' r r'
  obtain ⟨t,rfl⟩:=r
  obtain ⟨t',rfl⟩:=r'
  exact (beq_self_eq_true i) ▸ SeqAt.EqAt.int_int i t i t'
 | str x=>
  intro A _ u u' r r'
  obtain ⟨t,rfl⟩:=r
  obtain ⟨t',rfl⟩:=r'
  exact (beq_self_eq_true x) ▸ SeqAt.EqAt.str_str x t x t'
 | same a=>
  intro A _ u u' r r'
  cases r;cases r'
  exact SeqAt.EqAt.same _
 | @lst n a b xs ys ha hb hl h ih=>
  intro A hu u u' r r'
  cases r;cases r'
  by_cases z:a=b
  ·subst z;exact SeqAt.EqAt.same _
  obtain ⟨vs,r1,q1,_⟩:=I.list (SqL.of ha)
  obtain ⟨ws,r2,q2,_⟩:=I.list (SqL.of hb)
  refine SeqAt.EqAt.of_refs z ?_
  have:=SeqAt.RcAt.lists (A:=A) (e:=λ _=>true) q1.isList q2.isList (by simp [<- r1.length,<- r2.length,hl]) (Nat.lt_of_le_of_lt (Nat.le_add_right _ _) hu) (λ j k1 k2=>by
   have k1:j<vs.length:=by simpa using k1
   have k2:j<ws.length:=by simpa using k2
   have l1:j<xs.length:=by rw [r1.length];exact k1
   have l2:j<ys.length:=by rw [r2.length];exact k2
   obtain ⟨x1,e1,rx⟩:=r1.get (List.getElem?_eq_getElem l1)
   obtain ⟨y1,e2,ry⟩:=r2.get (List.getElem?_eq_getElem l2)
   rw [List.getElem?_eq_getElem k1] at e1
   rw [List.getElem?_eq_getElem k2] at e2
   have g:=ih j _ _ (List.getElem?_eq_getElem l1) (List.getElem?_eq_getElem l2) A.in1 (show A.units+1+n<cLine by omega) rx ry
   rw [<- Option.some.inj e1,<- Option.some.inj e2] at g
   simpa using g)
  rw [all_true] at this
  exact this
 | @tup n a b xs ys ha hb hl h ih=>
  intro A hu u u' r r'
  cases r;cases r'
  by_cases z:a=b
  ·subst z;exact SeqAt.EqAt.same _
  obtain ⟨vs,r1,q1,_⟩:=I.tuple (SqT.of ha)
  obtain ⟨ws,r2,q2,_⟩:=I.tuple (SqT.of hb)
  refine SeqAt.EqAt.of_refs z ?_
  have ll:vs.length=ws.length:=by rw [<- r1.length,<- r2.length,hl]
  have:=SeqAt.RcAt.tuples (A:=A) (e:=λ _=>true) (show s.heap.IsTuple a _ from q1) (show s.heap.IsTuple b _ from q2) (Nat.lt_of_le_of_lt (Nat.le_add_right _ _) hu) (λ j k1 k2=>by
   have k1:j<vs.length:=by simpa using k1
   have k2:j<ws.length:=by simpa using k2
   have l1:j<xs.length:=by rw [r1.length];exact k1
   have l2:j<ys.length:=by rw [r2.length];exact k2
   obtain ⟨x1,e1,rx⟩:=r1.get (List.getElem?_eq_getElem l1)
   obtain ⟨y1,e2,ry⟩:=r2.get (List.getElem?_eq_getElem l2)
   rw [List.getElem?_eq_getElem k1] at e1
   rw [List.getElem?_eq_getElem k2] at e2
   have g:=ih j _ _ (List.getElem?_eq_getElem l1) (List.getElem?_eq_getElem l2) A.in1 (show A.units+1+n<cLine by omega) rx ry
   rw [<- Option.some.inj e1,<- Option.some.inj e2] at g
   simpa using g)
  rw [all_true,show (vs.toArray.size==ws.toArray.size)=true by simp [ll]] at this
  exact this
theorem AX (hu:X.A.units+64<cLine):OpR X (compareOp .NotEq) (λ x y H Q=>∃ (n:Nat) (a b:Addr) (xs ys:List V),x=.ref a/\y=.ref b/\H a=some (.tup xs)/\H b=some (.tup ys)/\xs.length=ys.length/\n<=60/\(∀ (i:Nat) x y,xs[i]?=some x->ys[i]?=some y->DE H n x y)/\Q (.bl false) H):=by
 intro pins s σ H x y v u Q I rx ry h
 obtain ⟨n,a,b,xs,ys,rfl,rfl,ha,hb,hl,n60,hd,q⟩:=h
 cases rx
 cases ry
 obtain ⟨vs,r1,q1,_⟩:=I.tuple (SqT.of ha)
 obtain ⟨ws,r2,q2,_⟩:=I.tuple (SqT.of hb)
 have ll:vs.length=ws.length:=by rw [<- r1.length,<- r2.length,hl]
 refine SeqAt.RcNeAt.tuples (A:=X.A) (e:=λ _=>true) (show s.heap.IsTuple a _ from q1) (show s.heap.IsTuple b _ from q2) (by omega) (λ j k1 k2=>?_) _ _ _ _ (bj I q (by rw [all_true,show (vs.toArray.size==ws.toArray.size)=true by simp [ll]];rfl))
 have k1:j<vs.length:=by simpa using k1
 have k2:j<ws.length:=by simpa using k2
 have l1:j<xs.length:=by rw [r1.length];exact k1
 have l2:j<ys.length:=by rw [r2.length];exact k2
 obtain ⟨x1,e1,rx⟩:=r1.get (List.getElem?_eq_getElem l1)
 obtain ⟨y1,e2,ry⟩:=r2.get (List.getElem?_eq_getElem l2)
 rw [List.getElem?_eq_getElem k1] at e1
 rw [List.getElem?_eq_getElem k2] at e2
 have g:=DE.eq I (hd j _ _ (List.getElem?_eq_getElem l1) (List.getElem?_eq_getElem l2)) X.A.in1 (show X.A.units+1+n<cLine by omega) rx ry
 rw [<- Option.some.inj e1,<- Option.some.inj e2] at g
 simpa using g
end
theorem Ha {A:Around} {k:Nat} (hr:bX k A):A.units+64<cLine:=hr.units
theorem o6:∀ l:List (Str×Tok),Vals ((l.map (·.1)).map V.str) (strValues l)
 | []=>.nil
 | p::l=>.cons ⟨p.2,rfl⟩ (o6 l)
theorem split_len (x y:Str):(Txt.split x y).length<=x.length+2:=by
 unfold Txt.split
 split
 ·simp
 ·split
  ·simp
  ·have e1:=StrLaws.occ_length_le x y 0 x.length (x.length+1)
   rw [length_partsBetween];omega
section
variable {X:Cx}
def C8:V->List V->Hp->VK->Prop:=λ x vs H Q=>∃ z y:Str,x=.str z/\vs=[.str y]/\(y.length==0)=false/\z.length+2<=sizeLine/\∀ l,H l=none->Q (.ref l) (upd H l (.lst ((Txt.split z y).map V.str)))
theorem si:MtR X "str.split" C8:=by
 intro pins s σ H x vs v us Q I rx rv h
 obtain ⟨z,y,rfl,rfl,hy,hz,q⟩:=h
 obtain ⟨t,rfl⟩:=rx
 obtain ⟨u',rfl,ru⟩:=rv.one
 obtain ⟨u,rfl⟩:=ru
 have fin:∀ (l:List (Str×Tok)) (k:Nat),l.map (·.1)=Txt.split z y->EP X pins σ Q (.ref s.heap.objs.size) { s with heap:=s.heap.push { cls:=.type "list",data:=.seq (strValues l).toArray },toks:=k }:=λ l k e=>by
  refine ⟨.ref s.heap.objs.size,_,I.laid (t':=k) (λ b o ho=>Heap.get?_push_of_some _ ho) (Nat.le_refl _) (show cm X.prog X.w _ _ _ (.lst ((Txt.split z y).map V.str)) from ⟨?_,strValues l,0,by rw [<- e];exact o6 l,Heap.get?_push_size _ rfl⟩),rfl,q _ (I.hok.fresh (Nat.le_refl _))⟩
  rw [List.length_map]
  exact Nat.le_trans (split_len z y) hz
 have hn:(Builtin.Str.partsBetween z (Builtin.Str.occurrences z y 0 z.length (z.length+1)) y.length).length<=sizeLine:=by
  have e1:=StrLaws.occ_length_le z y 0 z.length (z.length+1)
  rw [length_partsBetween];omega
 cases h1:(decide (z.length<y.length)||decide (Builtin.Str.strKind z<Builtin.Str.strKind y))
 ·cases hf:(Builtin.Str.occurrences z y 0 z.length (z.length+1)).isEmpty
  ·refine call_meets F.slot_str_split (typeIs_str _ _ _) F.entry_str_split (F.args_str_split_2 _ _) (meets_str_split_sep z y t u h1 hy hf (by omega) hn) ?_
   show wants _ _ _ { s with toks:=_,heap:=s.heap.push { cls:=.type "list",data:=.seq (strsFrom s.toks (Builtin.Str.partsBetween z (Builtin.Str.occurrences z y 0 z.length (z.length+1)) y.length)).toArray } }
   rw [strsFrom_eq]
   exact fin (numbered s.toks _) _ ((numbered_texts _ _).trans ((if_neg (ne_true_of_eq_false h1)).trans (if_neg (ne_true_of_eq_false hf))).symm)
  ·exact call_meets F.slot_str_split (typeIs_str _ _ _) F.entry_str_split (F.args_str_split_2 _ _) (meets_str_split_not_found z y t u h1 hy hf)
    (fin [(z,t)] s.toks ((if_neg (ne_true_of_eq_false h1)).trans (if_pos hf)).symm)
 ·exact call_meets F.slot_str_split (typeIs_str _ _ _) F.entry_str_split (F.args_str_split_2 _ _) (meets_str_split_cannot_occur z y t u h1)
   (fin [(z,t)] s.toks (if_pos h1).symm)
theorem jj:fA X (.type "int") (λ xs H Q=>∃ (x:Str) (n:Int),xs=[.str x]/\PySem.intText? x=some n/\x.length<=640/\Q (.int n) H):=by
 intro pins s σ H xs us Q I r h
 obtain ⟨x,n,rfl,hn,hl,q⟩:=h
 obtain ⟨u,rfl,t,rfl⟩:=vals1 r
 exact PySem.W.KIN.call_text hn hl ⟨.int n,H,I.tok _,⟨_,rfl⟩,q⟩
def jn (P:Program) (w:World) (K:PySem.W.Frag) (a:Addr) (kvs:List (Key×V)):Prop:=
 (a==sysModules)=false/\∃ o vs,K.lookup a=some o/\KV kvs vs/\o.IsDictOf (cu P w) vs
def BM (a:Addr) (kvs:List (Key×V)) (td ty:TE):TE:=λ σ H Q=>td σ H λ x H1=>ty σ H1 λ y H2=>∃ k v,x=.ref a/\y=kV k/\jk kvs k=some v/\Q v H2
def vw (a:Addr) (kvs:List (Key×V)) (ty td:TE):TE:=λ σ H Q=>ty σ H λ y H1=>td σ H1 λ x H2=>∃ k,x=.ref a/\y=kV k/\Q (.bl (!(jk kvs k).isSome)) H2
theorem jn.at {pins:List (Addr×Obj)} {σ:St} {H:Hp} {s:Shared} {a:Addr} {kvs:List (Key×V)} (C:jn X.prog X.w X.K a kvs) (I:Inv X pins σ H s):(a==sysModules)=false/\∃ vs,KV kvs vs/\s.heap.DictOf (cu X.prog X.w) a vs:=by
 obtain ⟨z,o,vs,lk,rel,d⟩:=C
 exact ⟨z,vs,rel,Heap.dictOf_iff.mpr ⟨o,I.kIn _ _ lk,d⟩⟩
theorem pH {P:Program} {w:World} {K:PySem.W.Frag} {o i:Expr} {pos:Pos} {td ty:TE} {a:Addr} {kvs:List (Key×V)} (C:jn P w K a kvs) (ho:PE X o td) (hi:PE X i ty) (hs:FH i) (hP:X.prog=P:=by rfl) (hw:X.w=w:=by rfl) (hK:X.K=K:=by rfl):PE X (.Subscript o i pos) (BM a kvs td ty):=by
 subst hP hw hK
 intro pins s σ H Q I h
 refine zY PySem.F.slot_dict_getitem.lookup hs (thn (ho pins s σ H _ I h) λ u s1 ⟨x,H1,I1,rx,q1⟩=>thn (hi pins s1 σ H1 _ I1 q1) λ iv s2 ⟨y,H2,I2,ry,k,v,ex,ey,g,q2⟩=>?_)
 subst ex ey
 obtain rfl:u=Value.ref a:=rx
 obtain ⟨z,vs,rel,dd⟩:=C.at I2
 obtain ⟨w',hw,rw'⟩:=nA.some_of (v:=v) (o:=valueAt vs k) (by rw [<- g];exact rel.val k)
 exact ⟨dd.typeIs,wpAny_getItem_of (Bx ry) dd.mapOf hw ⟨v,H2,I2.tok _,rw',q2⟩⟩
theorem vQ {P:Program} {w:World} {K:PySem.W.Frag} {o i:Expr} {td ty:TE} {a:Addr} {kvs:List (Key×V)} (C:jn P w K a kvs) (hi:PE X i ty) (ho:PE X o td) (hP:X.prog=P:=by rfl) (hw:X.w=w:=by rfl) (hK:X.K=K:=by rfl):PC X .NotIn i o (vw a kvs ty td):=by
 subst hP hw hK
 intro pins s σ H Q I h
 refine thn (hi pins s σ H _ I h) λ iv s1 ⟨y,H1,I1,ry,q1⟩=>thn (ho pins s1 σ H1 _ I1 q1) λ u s2 ⟨x,H2,I2,rx,k,ex,ey,q2⟩=>?_
 subst ex ey
 obtain rfl:u=Value.ref a:=rx
 obtain ⟨z,vs,rel,dd⟩:=C.at I2
 refine wpAny_notIn_of (Bx ry) z dd.mapOf ?_
 rw [<- (rel.val k).wB]
 exact ⟨.bl _,H2,I2.tok _,rfl,q2⟩
theorem Eg {a:Addr} {kvs:List (Key×V)} {td ty:TE} {σ:St} {H:Hp} {Q:VK} (q:td σ H λ x H1=>ty σ H1 λ y H2=>∃ k v,x=.ref a/\y=kV k/\jk kvs k=some v/\Q v H2):BM a kvs td ty σ H Q:=q
theorem yA {a:Addr} {kvs:List (Key×V)} {td ty:TE} {σ:St} {H:Hp} {Q:VK} (q:ty σ H λ y H1=>td σ H1 λ x H2=>∃ k,x=.ref a/\y=kV k/\Q (.bl (!(jk kvs k).isSome)) H2):vw a kvs ty td σ H Q:=q
structure Cal (P:Program) (w:World) (K:PySem.W.Frag) (mg:Str->Option Value) (base:Heap) (CX:CXT) (k:Nat) (ps:List Str) where
 f:Addr
 fd:FuncData
 sp:Sp
 F:cC P w K mg base CX k f fd ps sp
 kp:PySem.W.keepIn K (.ref f)=true
 bd:Binds K fd ps []
def xH {P:Program} {w:World} {K:PySem.W.Frag} {mg:Str->Option Value} {base:Heap} {CX:CXT} {k:Nat} {ps:List Str} {ι:Type} (C:ι->Cal P w K mg base CX k ps) (i:Nat) (E:XK) (t:TA):TE:=
 λ σ H Q=>∃ j,σ[i]?=some (some (.ref (C j).f))/\t σ H λ vs H1=>(C j).sp vs H1 Q E
theorem yu {P:Program} {w:World} {K:PySem.W.Frag} {mg:Str->Option Value} {base:Heap} {CX:CXT} {k:Nat} {ps:List Str} {ι:Type} (C:ι->Cal P w K mg base CX k ps) {i:Nat} {E:XK} {x:Str} {p pos:Pos} {e:Expr} {es:List Expr} {t:TA} (hr:bX k X.A) (hN:X.N[i]?=some x) (hv:Vis X.env.scope x) (hx:Passes CX X E)
  (ha:PA X (e::es) t) (hP:X.prog=P:=by rfl) (hw:X.w=w:=by rfl) (hK:X.K=K:=by rfl) (hm:X.mg=mg:=by rfl) (hb:X.base=base:=by rfl) (hd:(x==("__debug__":Str))=false:=by decide) (hcd:(x==("__classdict__":Str))=false:=by decide) (he:starEach (e::es) X.env=(false,eval e X.env)::starEach es X.env:=by rfl) (hpl:(backTo pos (starEach es X.env)).any (·.1)=false:=by rfl):
  PE X (.Call (.Name x p) (e::es) [] pos) (xH C i E t):=by
 subst hP hw hK hm hb
 intro pins s σ H Q I h
 obtain ⟨j,e1,h⟩:=h
 have:=yU (X:=X) (pos:=p) hN hv hd hcd pins s σ H (λ v H1=>v=.ref (C j).f/\H1=H) I ⟨_,e1,rfl,rfl⟩
 refine wpAny_Call_Name_kw (wpAny_mono this (λ u s1 ⟨v,H1,I1,rv,ev,eh⟩=>?_) λ _ _ z=>z)
 subst ev eh
 cases rv
 refine PySem.W.callWith_K (h₀:=X.base) I1.ok.mod.kin (C j).kp (thn (ha pos pins s1 σ H1 _ I1 h) λ us s1 ⟨vs,H1,I1,r,q⟩=>⟨I1.kIn,?_⟩) he hpl
 exact yc (C j).F hr (C j).bd .nil hx I1 r (by rw [List.append_nil];exact q)
theorem AD {P:Program} {w:World} {K:PySem.W.Frag} {mg:Str->Option Value} {base:Heap} {CX:CXT} {k:Nat} {ps:List Str} {ι:Type} {C:ι->Cal P w K mg base CX k ps} {i:Nat} {E:XK} {t:TA} {σ:St} {H:Hp} {Q:VK}
  (q:∃ j,σ[i]?=some (some (.ref (C j).f))/\t σ H λ vs H1=>(C j).sp vs H1 Q E):xH C i E t σ H Q:=q
theorem zB (hu:X.A.units+64<cLine):OpR X (compareOp .NotEq) (λ x y H Q=>∃ (n:Nat) (a b:Addr) (xs ys:List V),x=.ref a/\y=.ref b/\H a=some (.lst xs)/\H b=some (.lst ys)/\xs.length=ys.length/\n<=60/\(∀ (i:Nat) x y,xs[i]?=some x->ys[i]?=some y->DE H n x y)/\Q (.bl false) H):=by
 intro pins s σ H x y v u Q I rx ry h
 obtain ⟨n,a,b,xs,ys,rfl,rfl,ha,hb,hl,n60,hd,q⟩:=h
 cases rx
 cases ry
 obtain ⟨vs,r1,q1,_⟩:=I.list (SqL.of ha)
 obtain ⟨ws,r2,q2,_⟩:=I.list (SqL.of hb)
 have ll:vs.length=ws.length:=by rw [<- r1.length,<- r2.length,hl]
 refine SeqAt.RcNeAt.lists (e:=λ _=>true) q1.isList q2.isList (by simp;omega) (by omega) (λ j k1 k2=>?_) _ _ _ _ (bj I q (by simp))
 have k1:j<vs.length:=by simpa using k1
 have k2:j<ws.length:=by simpa using k2
 have l1:j<xs.length:=by rw [r1.length];exact k1
 have l2:j<ys.length:=by rw [r2.length];exact k2
 obtain ⟨x1,e1,rx⟩:=r1.get (List.getElem?_eq_getElem l1)
 obtain ⟨y1,e2,ry⟩:=r2.get (List.getElem?_eq_getElem l2)
 rw [List.getElem?_eq_getElem k1] at e1
 rw [List.getElem?_eq_getElem k2] at e2
 have g:=DE.eq I (hd j _ _ (List.getElem?_eq_getElem l1) (List.getElem?_eq_getElem l2)) X.A.in1 (show X.A.units+1+n<cLine by omega) rx ry
 rw [<- Option.some.inj e1,<- Option.some.inj e2] at g
 simpa using g
def Bt (t:TS):TS:=λ D σ H=>t D σ H
theorem Ay {body:List Stmt} {h:ExceptHandler} {hs:List ExceptHandler} {pos:Pos} {t:TS} (hb:PSs X.nox body t):PS X (.Try body (h::hs) [] [] pos) (Bt t):=by
 intro pins s σ H D I hw
 refine wpAny_Try_except (wpAny_mono (hb pins s σ H D (I.oe _) hw) (λ fl s1 z=>?_) λ e s1 z=>False.elim z)
 cases fl with
 | next=>
  obtain ⟨σ',H',I',q⟩:=z
  exact wpAny_execs_nil ⟨σ',H',I'.fo,q⟩
 | brk=>obtain ⟨σ',H',I',q⟩:=z;exact ⟨σ',H',I'.fo,q⟩
 | cont=>obtain ⟨σ',H',I',q⟩:=z;exact ⟨σ',H',I'.fo,q⟩
 | ret u=>obtain ⟨v,σ',H',I',r,q⟩:=z;exact ⟨v,σ',H',I'.fo,r,q⟩
theorem D0 {t:TS} {D:Ends} {σ:St} {H:Hp} (q:t D σ H):Bt t D σ H:=q
end
end L2
local macro_rules | `(tactic| array_get_dec) => `(tactic| first | with_reducible refine L2.Eg ?_ | with_reducible refine L2.yA ?_ | with_reducible refine L2.D0 ?_)
namespace L2
open PySem PySem.Spec PyProof.Rows
abbrev cpL (x:Str):List Nat:=x.cps.toList
theorem rV {c:Nat}:∀ {p q x y:List Nat},c ∉ p->c ∉ q->p++c::x=q++c::y->p=q/\x=y
 | [],[],_,_,_,_,h=>⟨rfl,(List.cons.inj h).2⟩
 | [],b::q,_,_,_,hq,h=>absurd (List.cons.inj h).1 λ e=>hq (by rw [e];simp)
 | a::p,[],_,_,hp,_,h=>absurd (List.cons.inj h).1 λ e=>hp (by rw [<- e];simp)
 | a::p,b::q,_,_,hp,hq,h=>by
  injection h with h1 h2
  obtain ⟨e1,e2⟩:=rV (λ z=>hp (List.mem_cons_of_mem _ z)) (λ z=>hq (List.mem_cons_of_mem _ z)) h2
  exact ⟨by rw [h1,e1],e2⟩
theorem rW {c:Nat}:∀ {ps qs:List Str},ps≠[]->qs≠[]->(∀ p∈ps,c ∉ cpL p)->(∀ p∈qs,c ∉ cpL p)->Str.join ⟨#[c]⟩ ps=Str.join ⟨#[c]⟩ qs->ps=qs
 | [],_,h,_,_,_,_=>absurd rfl h
 | _,[],_,h,_,_,_=>absurd rfl h
 | [p],[q],_,_,_,_,h=>by rw [show p=q from h]
 | [p],q::q'::r,_,_,hp,_,h=>by
  have e:cpL p=cpL (q++⟨#[c]⟩++Str.join ⟨#[c]⟩ (q'::r)):=congrArg cpL h
  refine absurd (?_:c∈cpL p) (hp p (by simp))
  rw [e,cpL,aU,aU]
  simp
 | p::p'::r,[q],_,_,_,hq,h=>by
  have e:cpL (p++⟨#[c]⟩++Str.join ⟨#[c]⟩ (p'::r))=cpL q:=congrArg cpL h
  refine absurd (?_:c∈cpL q) (hq q (by simp))
  rw [<- e,cpL,aU,aU]
  simp
 | p::p'::r,q::q'::t,_,_,hp,hq,h=>by
  have e:cpL (p++⟨#[c]⟩++Str.join ⟨#[c]⟩ (p'::r))=cpL (q++⟨#[c]⟩++Str.join ⟨#[c]⟩ (q'::t)):=congrArg cpL h
  rw [cpL,cpL,aU,aU,aU,aU,List.append_assoc,List.append_assoc] at e
  obtain ⟨e1,e2⟩:=rV (hp p (by simp)) (hq q (by simp)) e
  have i:=rW (by simp) (by simp) (λ z hz=>hp z (List.mem_cons_of_mem _ hz)) (λ z hz=>hq z (List.mem_cons_of_mem _ hz)) (cD e2)
  rw [cD e1,i]
theorem nh (x:Str) (c:Nat):Txt.split x ⟨#[c]⟩≠[]:=λ e=>by
 have:=split_pos x ⟨#[c]⟩
 rw [e] at this
 exact absurd this (by decide)
theorem mZ {c:Nat} {ps:List Str} (h0:ps≠[]) (h:∀ p∈ps,c ∉ cpL p):Txt.split (Str.join ⟨#[c]⟩ ps) ⟨#[c]⟩=ps:=
 rW (nh _ _) h0 (StrLaws.split_free _ c) h (StrLaws.join_split _ _)
theorem lD {c:Nat} {x:Str} (h:c ∉ cpL x):Txt.split x ⟨#[c]⟩=[x]:=mZ (ps:=[x]) (by simp) λ p hp=>by rw [List.mem_singleton.mp hp];exact h
theorem jD {c:Nat} {p:Str} (h:c ∉ cpL p) (x:Str):Txt.split (p++⟨#[c]⟩++x) ⟨#[c]⟩=p::Txt.split x ⟨#[c]⟩:=by
 have e:p++⟨#[c]⟩++x=Str.join ⟨#[c]⟩ (p::Txt.split x ⟨#[c]⟩):=by
  have j:=StrLaws.join_split x ⟨#[c]⟩
  cases z:Txt.split x ⟨#[c]⟩ with
  | nil=>exact absurd z (nh x c)
  | cons q r=>
   rw [z] at j
   show _=p++⟨#[c]⟩++Str.join ⟨#[c]⟩ (q::r)
   rw [j]
 rw [e]
 refine mZ (by simp) λ q hq=>?_
 rcases List.mem_cons.mp hq with rfl | hq
 ·exact h
 ·exact StrLaws.split_free x c q hq
def ws (x:Str):List Str:=(Txt.split x " ").filter λ z=>!decide (z="")
theorem vy:(" ":Str)=⟨#[32]⟩:=rfl
theorem Be:("\n":Str)=⟨#[10]⟩:=rfl
def gG (x:Str):Prop:=∀ c∈cpL x,c=32
theorem Fq (x:Str):ws (⟨#[32]⟩++x)=ws x:=by
 unfold ws
 have e:(⟨#[32]⟩:Str)++x=("":Str)++⟨#[32]⟩++x:=cD (by rw [aU,aU,aU];rfl)
 rw [e,vy,jD (by exact List.not_mem_nil)]
 rfl
theorem jK {b:Str} (h:gG b) (x:Str):ws (b++x)=ws x:=by
 obtain ⟨⟨l⟩⟩:=b
 induction l with
 | nil=>congr 1;exact cD (by rw [aU];rfl)
 | cons c l ih=>
  have ec:c=32:=h c (by simp [cpL])
  subst ec
  have e:(⟨⟨32::l⟩⟩:Str)++x=⟨#[32]⟩++(⟨⟨l⟩⟩++x):=cD (by rw [aU,aU,aU];rfl)
  rw [e,Fq]
  exact ih λ c hc=>h c (List.mem_cons_of_mem _ hc)
theorem oh:ws ""=[]:=by
 unfold ws
 rw [vy,lD (by exact List.not_mem_nil)]
 rfl
theorem qE {w:Str} (h:32 ∉ cpL w) (h0:w≠"") (x:Str):ws (w++(⟨#[32]⟩++x))=w::ws x:=by
 unfold ws
 have e:w++(⟨#[32]⟩++x)=w++⟨#[32]⟩++x:=cD (by rw [aU,aU,aU,aU,List.append_assoc])
 rw [e,vy,jD h,List.filter_cons_of_pos (by rw [decide_eq_false h0];rfl)]
theorem xJ {w:Str} (h:32 ∉ cpL w) (h0:w≠""):ws w=[w]:=by
 unfold ws
 rw [vy,lD h,List.filter_cons_of_pos (by rw [decide_eq_false h0];rfl)]
 rfl
theorem Dz {w b:Str} (h:32 ∉ cpL w) (h0:w≠"") (hb:gG b):ws (w++b)=[w]:=by
 obtain ⟨⟨l⟩⟩:=b
 cases l with
 | nil=>
  have e:w++(⟨⟨[]⟩⟩:Str)=w:=cD (by rw [aU];exact List.append_nil _)
  rw [e,xJ h h0]
 | cons c l=>
  have ec:c=32:=hb c (by simp [cpL])
  subst ec
  have e:w++(⟨⟨32::l⟩⟩:Str)=w++(⟨#[32]⟩++((⟨⟨l⟩⟩:Str)++"")):=cD (by rw [aU,aU,aU,aU,show ("":Str).cps.toList=[] from rfl,List.append_nil];rfl)
  rw [e,qE h h0,jK (λ c hc=>hb c (List.mem_cons_of_mem _ hc)),oh]
theorem lB {b:Str} (h:gG b):ws b=[]:=by
 have e:b=b++"":=cD (by rw [aU];exact (List.append_nil _).symm)
 rw [e,jK h,oh]
def kq (line:Str) (done:List Str):Prop:=∀ x,ws (line++x)=done++ws x
theorem kq.nil {b:Str} (h:gG b):kq b []:=λ x=>jK h x
theorem kq.word {line w part:Str} {done:List Str} (o:kq line done) (h:32 ∉ cpL w) (h0:w≠"") (hb:gG part) (hp:0<part.length):kq (line++w++part) (done++[w]):=λ x=>by
 obtain ⟨⟨l⟩⟩:=part
 cases l with
 | nil=>exact absurd hp (by decide)
 | cons c l=>
  have ec:c=32:=hb c (by simp [cpL])
  subst ec
  have e:line++w++(⟨⟨32::l⟩⟩:Str)++x=line++(w++(⟨#[32]⟩++((⟨⟨l⟩⟩:Str)++x))):=cD (by rw [aU,aU,aU,aU,aU,aU,aU];simp)
  rw [e,o,qE h h0,jK (λ c hc=>hb c (List.mem_cons_of_mem _ hc)),List.append_assoc]
  rfl
theorem kq.last {line w b:Str} {done:List Str} (o:kq line done) (h:32 ∉ cpL w) (h0:w≠"") (hb:gG b):ws (line++w++b)=done++[w]:=by
 have e:line++w++b=line++(w++b):=cD (by rw [aU,aU,aU,aU,List.append_assoc])
 rw [e,o,Dz h h0 hb]
theorem vp:∀ {r:List Str},(∀ w∈r,32 ∉ cpL w/\w≠"")->ws (Str.join ⟨#[32]⟩ r)=r
 | [],_=>oh
 | [w],h=>xJ (h w (by simp)).1 (h w (by simp)).2
 | w::v::r,h=>by
  have e:Str.join ⟨#[32]⟩ (w::v::r)=w++(⟨#[32]⟩++Str.join ⟨#[32]⟩ (v::r)):=cD (by show cpL (w++⟨#[32]⟩++_)=_;rw [cpL,aU,aU,aU,aU,List.append_assoc])
  rw [e,qE (h w (by simp)).1 (h w (by simp)).2,vp λ z hz=>h z (List.mem_cons_of_mem _ hz)]
def dZ (x:Str):List (List Str):=((Txt.split x "\n").map ws).filter λ r=>!r.isEmpty
theorem vS {p:Str} (h:10 ∉ cpL p) (x:Str):dZ (p++⟨#[10]⟩++x)=(if (ws p).isEmpty then [] else [ws p])++dZ x:=by
 unfold dZ
 rw [Be,jD h,List.map_cons,List.filter_cons]
 cases (ws p).isEmpty <;> rfl
theorem rF {p:Str} (h:10 ∉ cpL p):dZ p=if (ws p).isEmpty then [] else [ws p]:=by
 unfold dZ
 rw [Be,lD h,List.map_cons,List.filter_cons]
 cases (ws p).isEmpty <;> rfl
theorem pC:∀ {ps:List Str},(∀ p∈ps,10 ∉ cpL p)->dZ (Str.join ⟨#[10]⟩ ps)=(ps.map ws).filter λ r=>!r.isEmpty
 | [],_=>by show dZ ""=[];rw [rF (by exact List.not_mem_nil),oh];rfl
 | [p],h=>by show dZ p=_;rw [rF (h p (by simp)),List.map_cons,List.filter_cons];cases (ws p).isEmpty <;> rfl
 | p::q::r,h=>by
  show dZ (p++⟨#[10]⟩++Str.join ⟨#[10]⟩ (q::r))=_
  rw [vS (h p (by simp)),pC λ z hz=>h z (List.mem_cons_of_mem _ hz),List.map_cons (l:=q::r),List.filter_cons (xs:=(q::r).map ws)]
  cases (ws p).isEmpty <;> rfl
theorem join_snoc (c:Nat):∀ {ps:List Str} (x:Str),ps≠[]->Str.join ⟨#[c]⟩ (ps++[x])=Str.join ⟨#[c]⟩ ps++⟨#[c]⟩++x
 | [],_,h=>absurd rfl h
 | [p],x,_=>rfl
 | p::q::r,x,_=>by
  show p++⟨#[c]⟩++Str.join ⟨#[c]⟩ ((q::r)++[x])=p++⟨#[c]⟩++Str.join ⟨#[c]⟩ (q::r)++⟨#[c]⟩++x
  rw [join_snoc c x (by simp)]
  exact cD (by simp only [aU,List.append_assoc])
def so (x:Str):Bool:=decide (1<=x.length)&&decide (x.length<=60)&&x.cps.toList.all (λ c=>decide (48<=c)&&decide (c<=57))&&(decide (x="0")||!decide (x.cps.toList.head?=some 48))
theorem zf:∀ (m:Nat),0<m->(Nat.toDigits 10 m).head?≠some '0':=by
 intro m
 induction m using Nat.strongRecOn with
 | _ m ih=>
  intro h0
  by_cases h:m<10
  ·rw [Nat.toDigits_of_lt_base h]
   have:∀ d:Nat,d<10->0<d->([Nat.digitChar d]:List Char).head?≠some '0':=by decide
   exact this m h h0
  ·have hm:m % 10<10:=Nat.mod_lt m (by decide)
   have t:Nat.toDigits 10 (m / 10)++Nat.toDigits 10 (m % 10)=Nat.toDigits 10 (10 * (m / 10)+m % 10):=Nat.toDigits_append_toDigits (by decide) (by omega) hm
   rw [Nat.div_add_mod] at t
   rw [<- t]
   have i:=ih (m / 10) (by omega) (by omega)
   cases z:Nat.toDigits 10 (m / 10) with
   | nil=>have:=toDigits_len_ge 10 (m / 10);rw [z] at this;exact absurd this (by decide)
   | cons a r=>rw [z] at i;exact i
theorem jL (m:Nat):(Str.ofString (toString ((m:Nat):Int))).cps.toList=(Nat.toDigits 10 m).map Char.toNat:=PySem.W.KIN.signs_num m
theorem mY {n:Int} (h0:0<=n):PySem.NumText.AllDigits (Str.ofString (toString n)).cps.toList:=by
 obtain ⟨m,rfl⟩:=Int.eq_ofNat_of_zero_le h0
 intro c hc
 rw [jL] at hc
 obtain ⟨ch,hch,e⟩:=List.mem_map.mp hc
 have r:=digit_range (Nat.isDigit_of_mem_toDigits (by decide) (by decide) hch)
 rw [<- e]
 exact r
theorem qj {n:Int} (h0:0<=n):(Str.ofString (toString n)).cps.toList≠[]:=by
 obtain ⟨m,rfl⟩:=Int.eq_ofNat_of_zero_le h0
 rw [jL]
 intro e
 have h:=toDigits_len_ge 10 m
 rw [List.map_eq_nil_iff.mp e] at h
 exact absurd h (by decide)
theorem jH {n:Int} (h0:0<=n) (h:n<10 ^ 60):(Str.ofString (toString n)).length<=60:=toString_length_le h0 (by decide) h
theorem tH {n:Int} (h0:0<=n) (h:n<10 ^ 60):PySem.intText? (Str.ofString (toString n))=some n:=by
 have hl:=jH h0 h
 have hd:=mY h0
 have hne:=qj h0
 obtain ⟨m,rfl⟩:=Int.eq_ofNat_of_zero_le h0
 have e:=PySem.intText_digits hd hne (Nat.le_trans hl (by decide))
 rw [jL,PySem.W.KIN.val_back] at e
 exact e
theorem Al {n:Int} (h0:0<=n) (h:n<10 ^ 60):so (Str.ofString (toString n))=true:=by
 have hl:=jH h0 h
 have hd:=mY h0
 have hne:=qj h0
 unfold so
 have l1:1<=(Str.ofString (toString n)).length:=by
  have:(Str.ofString (toString n)).cps.toList.length=(Str.ofString (toString n)).length:=by simp [Str.length]
  cases z:(Str.ofString (toString n)).cps.toList with
  | nil=>exact absurd z hne
  | cons a r=>rw [<- this,z];simp
 rw [decide_eq_true l1,decide_eq_true hl,Bool.true_and,Bool.true_and,Bool.and_eq_true]
 refine ⟨List.all_eq_true.mpr λ c hc=>by have:=hd c hc;rw [decide_eq_true this.1,decide_eq_true this.2];rfl,?_⟩
 obtain ⟨m,rfl⟩:=Int.eq_ofNat_of_zero_le h0
 by_cases z:m=0
 ·subst z
  rw [decide_eq_true (show Str.ofString (toString ((0:Nat):Int))="0" from rfl)];rfl
 ·rw [Bool.or_eq_true,jL]
  right
  have i:=zf m (by omega)
  rw [decide_eq_false]
  ·rfl
  ·intro e
   rw [List.head?_map] at e
   obtain ⟨ch,h1,h2⟩:=Option.map_eq_some_iff.mp e
   have:ch='0':=by
    apply Char.ext
    apply UInt32.toNat.inj
    exact h2
   rw [this] at h1
   exact i h1
theorem oU {n:Int} (h0:0<=n) {c:Nat} (hc:c<48):c ∉ cpL (Str.ofString (toString n)):=λ hm=>by
 have:=(mY h0 c hm).1
 omega
end L2
namespace K33
open PySem PySem.Spec PyProof.Rows L2
abbrev F0 (P:Program) (w:World) (base:Heap) {K:PySem.W.Frag} {mg:Str->Option Value} {x q:Str} {st:Stmt} {ps:List Str} (n:Nat) (D:Df K mg x q st ps) (sp:Sp):Prop:=cC P w K mg base CX0 n D.f D.fd ps sp
abbrev F1 (P:Program) (w:World) (base:Heap) {K:PySem.W.Frag} {mg:Str->Option Value} {x q:Str} {st:Stmt} {ps:List Str} (n:Nat) (D:Df K mg x q st ps) (sp:Sp):Prop:=cC P w K mg base (CXE P w) n D.f D.fd ps sp
def top (i:Nat):Stmt:=PySem.Challenge.pw_numbersay_k33_whole_tongues_read_back.main.body.getD i (.Pass ⟨0,0,0,0⟩)
structure Ad where
 dw:Addr
 bH:Addr
 Kind:Addr
 xk:Addr
 jh:Addr
 xI:Addr
 zx:Addr
 FK:Addr
 my:Addr
 vA:Addr
 iS:Addr
 jw:Addr
 tSL:Addr
 tCP:Addr
 tTF:Addr
 tHA:Addr
 tTI:Addr
 tWP:Addr
 bZ:Addr
 lQ:Addr
 mE:Addr
 tFI:Addr
 tTR:Addr
 tTK:Addr
def sV (l:List Str):List V:=l.map V.str
structure Txt (K:PySem.W.Frag) (mg:Str->Option Value) (a:Ad):Prop where
 br:mg "len"=none
 bo:mg "isinstance"=none
 jq:mg "str"=none
 iG:mg "int"=none
 lK:mg "bool"=none
 cL:mg "list"=none
 gn:mg "tuple"=none
 gX:mg "all"=none
 js:mg "any"=none
 cO:mg "range"=none
 oO:mg "zip"=none
 pw:mg "max"=none
 mL:mg "min"=none
 rZ:mg "set"=none
 tw:∃ t,mg "TIE"=some (.str "+" t)
 uV:∃ t,mg "MOST_PIECES"=some (.int 8 t)
 ig:mg "SIGNS"=some (.ref a.vA)
 cA:mg "TIMES_SIGNS"=some (.ref a.iS)
 cY:mg "REST_SIGNS"=some (.ref a.jw)
 mv:∀ H,SqT K H a.vA (sV ["Q","N","W","U","R","K"])
 qF:∀ H,SqT K H a.iS (sV ["Q","N","W","U"])
 yF:∀ H,SqT K H a.jw (sV ["R","K"])
 iy:mg "Rule"=some (.ref a.dw)
 eX:mg "Tongue"=some (.ref a.bH)
 iA:mg "Kind"=some (.ref a.Kind)
 gg:mg "SayError"=some (.ref a.xk)
 bz:mg "BadRule"=some (.ref a.jh)
 fQ:mg "BadBound"=some (.ref a.xI)
 gZ:mg "BadMelt"=some (.ref a.zx)
 ki:mg "Twice"=some (.ref a.FK)
 dJ:mg "BadKind"=some (.ref a.my)
 bq:Ai K a.jh
 jd:Ai K a.my
 y9:PySem.W.kitOne K (.ref a.dw) (.ref a.dw)=some true
 zp:PySem.W.kitOne K (.ref a.Kind) (.ref a.Kind)=some true
 wZ:PySem.W.kitOne K (.ref a.bH) (.ref a.bH)=some true
 xh:PySem.W.kitOne K (.type "list") (.type "list")=some true
 zb:PySem.W.kitOne K (.type "tuple") (.type "tuple")=some true
 A8:PySem.W.kitOne K (.type "str") (.type "str")=some true
 FN:PySem.W.kitOne K (.type "int") (.type "int")=some true
 Gm:PySem.W.kitOne K (.type "int") (.type "bool")=some false
 clR:Cls K a.dw
 EZ:PySem.W.findIn K (.ref a.dw) "__class__"=some (some (.builtin "object.__class__"))
 FD:PySem.W.mroIn K a.dw (.type "object")=some true
 cl:Cls K a.bH
 clc:PySem.W.findIn K (.ref a.bH) "__class__"=some (some (.builtin "object.__class__"))
 clm:PySem.W.mroIn K a.bH (.type "object")=some true
 clK:Cls K a.Kind
 ER:PySem.W.findIn K (.ref a.Kind) "__class__"=some (some (.builtin "object.__class__"))
 FI:PySem.W.mroIn K a.Kind (.type "object")=some true
 fU:bK K a.dw "low"
 fm:bK K a.dw "high"
 du:bK K a.dw "base"
 dh:bK K a.dw "first"
 fV:bK K a.dw "last"
 cz:bK K a.dw "pieces"
 fN:bK K a.bH "bound"
 fD:bK K a.bH "rules"
 fM:bK K a.bH "melts"
 eO:bK K a.bH "kinds"
 dm:bK K a.Kind "title"
 dM:bK K a.Kind "ending"
 eQ:bK K a.Kind "turns"
 cN:mg "enumerate"=none
 oY:mg "abs"=none
 jc:mg "Draft"=some (.ref a.bZ)
 gB:mg "STEPS"=some (.ref a.lQ)
 gP:mg "TAKERS"=some (.ref a.mE)
 Bw:∃ t,mg "MOST_FIGURES"=some (.int 60 t)
 clD:Cls K a.bZ
 cG:bK K a.bZ "bound"
 eG:bK K a.bZ "rules"
 eZ:bK K a.bZ "melts"
 cy:bK K a.bZ "kinds"
 gu:bK K a.bZ "step"
def i4 (c:Nat):Bool:=decide (97<=c)&&decide (c<=122)
def j6 (x:Str):Bool:=x.cps.toList.all i4
def bD (x:Str):Bool:=decide (2<=x.length)&&decide (x.length<=10)&&j6 x
def Pure (v:V) (H:Hp) (Q:VK):Prop:=∀ H',ax H H'->Q v H'
section
variable {P:Program} {w:World} {K:PySem.W.Frag} {mg:Str->Option Value} {base:Heap} {a:Ad}
abbrev nB (K:PySem.W.Frag) (mg:Str->Option Value):=Df K mg "small_letters" "small_letters" (top 14) ["text","least","most"]
def ku (T:Addr):Sp:=λ vs H Q _=>∃ (x:Str) (i j:Int),vs=[.str x,.int i,.int j]/\x.length<=sizeLine/\H T=some (Tb T)/\Q (.bl (decide (i<=x.length)&&decide ((x.length:Int)<=j)&&j6 x)) H
theorem Ac:aS ["text","least","most"] ["text","least","most"] (aw (top 14)):=⟨rfl,rfl,rfl,by decide +kernel,rfl,by decide +kernel,by decide +kernel⟩
theorem le1 (c d:Nat):(!decide ([c]<[d]))=decide (d<=c):=by
 rw [<- decide_not]
 exact decide_eq_decide.mpr (by rw [List.cons_lt_cons_iff];simp)
theorem xj (D:nB K mg) {t:Addr} (cP:b5 K D.cdv t) (hB:iM base) (T:Txt K mg a):F0 P w base 2 D (ku t):=by
 refine Df.ok (k:=1) D.ex Ac (λ vs H Q E h=>?_) (λ A outer s H vs Q E hr h=>?_)
 ·obtain ⟨x,i,j,rfl,_⟩:=h;rfl
 ·obtain ⟨x,i,j,rfl,hx,ht,k⟩:=h
  refine ⟨_,(ae (a8 (pw_or (bu (bt (aB dP (by rfl) T.bo boot_isinstance (ai (pv 0) (ai (je (v:=.ty "str") (by rfl) T.jq (by rfl) rfl) aa))))) (pw_or1 (bu (jX o5 o5 (pv 1) (aB cq (by rfl) T.br boot_len (ai (pv 0) aa)) (pv 2))))).pt
 (ar (aO cb))
 aH)
 (ar (aO (i8 (N:=["letter"]) (fs:=[]) (⟨rfl,rfl,rfl,by rfl,by rfl,trivial⟩) hB cP (hr.mono (by decide):bX (0+1) _) (by rfl) T.gX (tS (pv 0)) (λ _ _ _ _ _ _ _=>(az (i:=0) (show List.Nodup (["letter"]:List Str) from by decide +kernel) rfl (Or.inl rfl))) (λ _ _ _ _ _ _ _ hr=>(qY ja ja aD (pv 0) aD)))))),?_⟩
  lia
  refine ⟨_,_,_,_,_,rfl,.v (.str x),rfl,T.A8,?_⟩
  lia
  refine ⟨_,rfl,hx,?_⟩
  lia
  refine w_ite (λ e1=>?_) (λ e1=>?_)
  ·lia
   rw [e1] at k
   refine w_ite (λ e2=>?_) (λ e2=>?_)
   ·rw [Bool.not_eq_true'] at e2
    rw [e2] at k
    lia
    exact k
   ·have e2:decide ((x.length:Int)<=j)=true:=by simpa using e2
    rw [e2] at k
    lia
    refine ⟨x,rfl,BK i4 ht rfl (λ c hc=>?_) k⟩
    lia
    refine ⟨_,_,rfl,rfl,?_⟩
    lia
    show if (!decide ([c]<[97]))=true then _ else _
    rw [le1]
    refine w_ite (λ e3=>?_) (λ e3=>?_)
    ·lia
     refine ⟨_,_,rfl,rfl,rfl,?_⟩
     show V.bl (!decide ([122]<[c]))=.bl (decide (97<=c)&&decide (c<=122))
     rw [le1,e3];rfl
    ·refine ⟨rfl,?_⟩
     show V.bl false=.bl (decide (97<=c)&&decide (c<=122))
     rw [e3];rfl
  ·lia
   rw [e1] at k
   exact k
abbrev o9 (K:PySem.W.Frag) (mg:Str->Option Value):=Df K mg "is_word" "is_word" (top 15) ["text"]
abbrev tD (K:PySem.W.Frag) (mg:Str->Option Value):=Df K mg "is_piece" "is_piece" (top 19) ["text"]
def kQ (t:Addr):Sp:=λ vs H Q _=>∃ (x:Str),vs=[.str x]/\x.length<=sizeLine/\H t=some (Tb t)/\Q (.bl (bD x)) H
theorem CH:aS ["text"] ["text"] (aw (top 15)):=⟨rfl,rfl,rfl,by decide +kernel,rfl,by decide +kernel,by decide +kernel⟩
theorem zU (D:o9 K mg) (aV:nB K mg) {t:Addr} (bN:F0 P w base 2 aV (ku t)):F0 P w base 3 D (kQ t):=by
 refine Df.ok (k:=2) D.ex CH (λ vs H Q E h=>?_) (λ A outer s H vs Q E hr h=>?_)
 ·obtain ⟨x,rfl,_⟩:=h;rfl
 ·obtain ⟨x,rfl,hx,ht,k⟩:=h
  refine ⟨_,(ar (aO (ay bN (hr.mono (by decide)) (by rfl) aV.mg aV.kp aV.bd .nil aW (ai (pv 0) (ai af (ai af aa)))))),?_⟩
  lia
  refine ⟨x,2,10,rfl,hx,ht,?_⟩
  have e:(decide ((2:Int)<=x.length)&&decide ((x.length:Int)<=10)&&j6 x)=bD x:=by
   unfold bD
   congr 1;congr 1
   ·exact decide_eq_decide.mpr (by omega)
   ·exact decide_eq_decide.mpr (by omega)
  rw [e]
  exact k
def sig:List Str:=["Q","N","W","U","R","K"]
def iB (x:Str):Bool:=decide (x="+")||inV (.str x) (sV sig)||bD x
def qC (t:Addr):Sp:=λ vs H Q _=>∃ (x:Str),vs=[.str x]/\x.length<=sizeLine/\H t=some (Tb t)/\Q (.bl (iB x)) H
theorem AK:aS ["text"] ["text"] (aw (top 19)):=⟨rfl,rfl,rfl,by decide +kernel,rfl,by decide +kernel,by decide +kernel⟩
theorem wJ (D:tD K mg) (bg:o9 K mg) {t:Addr} (dG:F0 P w base 3 bg (kQ t)) (T:Txt K mg a):F0 P w base 4 D (qC t):=by
 refine Df.ok (k:=3) D.ex AK (λ vs H Q E h=>?_) (λ A outer s H vs Q E hr h=>?_)
 ·obtain ⟨x,rfl,_⟩:=h;rfl
 ·obtain ⟨x,rfl,hx,ht,k⟩:=h
  obtain ⟨tt,hT⟩:=T.tw
  refine ⟨_,(ar (aO (xl (bI cj (pv 0) (bY (v:=.str "+") (by rfl) hT ⟨_,rfl⟩) (aC _)) (xl (bI kM (pv 0) (bY (v:=.ref a.vA) (by rfl) T.ig rfl) (by with_unfolding_all rfl)) (iO (ay dG (hr.mono (by decide)) (by rfl) bg.mg bg.kp bg.bd .nil aW (ai (pv 0) aa))))))),?_⟩
  lia
  unfold iB at k
  refine w_ite (λ e1=>?_) (λ e1=>?_)
  ·rw [e1] at k;exact k
  ·rw [e1,Bool.false_or] at k
   lia
   refine ⟨_,_,rfl,.inr (T.mv _),rfl,rfl,?_⟩
   lia
   refine w_ite (λ e2=>?_) (λ e2=>?_)
   ·have e2:inV (.str x) (sV sig)=true:=e2
    rw [e2] at k;exact k
   ·have e2:inV (.str x) (sV sig)=false:=e2
    rw [e2] at k
    lia
    exact ⟨x,rfl,hx,ht,k⟩
structure GY (fs:List (Str×V)) (l h b f e:Int):Prop where
 low:fs.lookup ("low":Str)=some (.int l)
 high:fs.lookup ("high":Str)=some (.int h)
 base:fs.lookup ("base":Str)=some (.int b)
 first:fs.lookup ("first":Str)=some (.int f)
 last:fs.lookup ("last":Str)=some (.int e)
structure eN (a:Ad) (H:Hp) (p:Addr) (l h b f e:Int) (ps:Addr):Prop where
 ob:∃ dx fs,H p=some (.ins a.dw dx fs)/\GY fs l h b f e/\fs.lookup ("pieces":Str)=some (.ref ps)
theorem eN.same {H H':Hp} {p ps:Addr} {l h b f e:Int} (R:eN a H p l h b f e ps) (s:ax H H'):eN a H' p l h b f e ps:=by
 obtain ⟨dx,fs,h1,h2⟩:=R.ob
 exact ⟨dx,fs,s _ _ h1,h2⟩
def sx (a:Ad) (H:Hp):Prop:=H a.tSL=some (Tb a.tSL)/\H a.tCP=some (Tb a.tCP)/\H a.tTF=some (Tb a.tTF)/\H a.tHA=some (Tb a.tHA)
theorem sx.same {H H':Hp} (t:sx a H) (s:ax H H'):sx a H':=⟨s _ _ t.1,s _ _ t.2.1,s _ _ t.2.2.1,s _ _ t.2.2.2⟩
def mQ (l h b f e:Int):Bool:=!decide (l<0)&&!decide (h<l)&&!decide (b<2)&&!decide (f<0)&&!decide (e<f)&&!decide (b<=e)
abbrev ym (K:PySem.W.Frag) (mg:Str->Option Value):=Df K mg "check_numbers" "check_numbers" (top 17) ["rule"]
def sZ (a:Ad):Sp:=λ vs H Q E=>∃ (p:Addr) (l h b f e:Int) (ps:Addr),vs=[.ref p]/\eN a H p l h b f e ps/\if mQ l h b f e=true then Q .non H else E (.ref a.jh) none H
theorem Di:aS ["rule"] ["rule"] (aw (top 17)):=⟨rfl,rfl,rfl,by decide +kernel,rfl,by decide +kernel,by decide +kernel⟩
theorem AE (D:ym K mg) (T:Txt K mg a):F1 P w base 1 D (sZ a):=by
 refine Df.okE (k:=0) D.ex Di (λ vs H Q E h=>?_) (λ A outer s H vs Q E hr h=>?_)
 ·obtain ⟨p,l,h,b,f,e,ps,rfl,_⟩:=h;rfl
 ·obtain ⟨p,l,h,b,f,e,ps,rfl,R,k⟩:=h
  obtain ⟨dx,fs,hp,N,_⟩:=R.ob
  have hh:A.handled=none:=hr.hd
  unfold mQ at k
  refine ⟨_,(ae (a8 (aL iU (aF (pv 0) (by rfl)) af (aC _))
 (ar (bO PySem.F.excBase_ValueError T.bq.ex T.bz hh (by rfl) (ai aD aa) (hl:=λ _ _ _ z=>⟨by decide,z⟩)))
 aH)
 (ae (a8 (aL iU (aF (pv 0) (by rfl)) (aF (pv 0) (by rfl)) (aC _))
 (ar (bO PySem.F.excBase_ValueError T.bq.ex T.bz hh (by rfl) (ai aD aa) (hl:=λ _ _ _ z=>⟨by decide,z⟩)))
 aH)
 (ae (a8 (aL iU (aF (pv 0) (by rfl)) af (aC _))
 (ar (bO PySem.F.excBase_ValueError T.bq.ex T.bz hh (by rfl) (ai aD aa) (hl:=λ _ _ _ z=>⟨by decide,z⟩)))
 aH)
 (ae (a8 (aL iU (aF (pv 0) (by rfl)) af (aC _))
 (ar (bO PySem.F.excBase_ValueError T.bq.ex T.bz hh (by rfl) (ai aD aa) (hl:=λ _ _ _ z=>⟨by decide,z⟩)))
 aH)
 (ae (a8 (aL iU (aF (pv 0) (by rfl)) (aF (pv 0) (by rfl)) (aC _))
 (ar (bO PySem.F.excBase_ValueError T.bq.ex T.bz hh (by rfl) (ai aD aa) (hl:=λ _ _ _ z=>⟨by decide,z⟩)))
 aH)
 (ar (a8 (aL xK (aF (pv 0) (by rfl)) (aF (pv 0) (by rfl)) (aC _))
 (ar (bO PySem.F.excBase_ValueError T.bq.ex T.bz hh (by rfl) (ai aD aa) (hl:=λ _ _ _ z=>⟨by decide,z⟩)))
 aH))))))),?_⟩
  lia
  refine ⟨p,_,dx,fs,_,rfl,hp,T.clR,T.fU,N.low,?_⟩
  lia
  refine w_ite (λ z=>?_) (λ z=>?_)
  ·lia
   simpa [z] using k
  simp only [z,Bool.not_false,Bool.true_and] at k
  lia
  refine ⟨p,_,dx,fs,_,rfl,hp,T.clR,T.fm,N.high,?_⟩
  lia
  refine ⟨p,_,dx,fs,_,rfl,hp,T.clR,T.fU,N.low,?_⟩
  lia
  refine w_ite (λ z=>?_) (λ z=>?_)
  ·lia
   simpa [z] using k
  simp only [z,Bool.not_false,Bool.true_and] at k
  lia
  refine ⟨p,_,dx,fs,_,rfl,hp,T.clR,T.du,N.base,?_⟩
  lia
  refine w_ite (λ z=>?_) (λ z=>?_)
  ·lia
   simpa [z] using k
  simp only [z,Bool.not_false,Bool.true_and] at k
  lia
  refine ⟨p,_,dx,fs,_,rfl,hp,T.clR,T.dh,N.first,?_⟩
  lia
  refine w_ite (λ z=>?_) (λ z=>?_)
  ·lia
   simpa [z] using k
  simp only [z,Bool.not_false,Bool.true_and] at k
  lia
  refine ⟨p,_,dx,fs,_,rfl,hp,T.clR,T.fV,N.last,?_⟩
  lia
  refine ⟨p,_,dx,fs,_,rfl,hp,T.clR,T.dh,N.first,?_⟩
  lia
  refine w_ite (λ z=>?_) (λ z=>?_)
  ·lia
   simpa [z] using k
  simp only [z,Bool.not_false,Bool.true_and] at k
  lia
  refine ⟨p,_,dx,fs,_,rfl,hp,T.clR,T.fV,N.last,?_⟩
  lia
  refine ⟨p,_,dx,fs,_,rfl,hp,T.clR,T.du,N.base,?_⟩
  lia
  refine w_ite (λ z=>?_) (λ z=>?_)
  ·lia
   simpa [z] using k
  ·lia
   simpa [z] using k
abbrev BZ (K:PySem.W.Frag) (mg:Str->Option Value):=Df K mg "has_any" "has_any" (top 22) ["rule","signs"]
def kX (sg ys:List Str):Bool:=sg.any λ x=>inV (.str x) (ys.map V.str)
theorem dE (ys:List Str):(ys.map V.str).all eC=true:=by
 rw [List.all_map]
 exact List.all_eq_true.mpr λ _ _=>rfl
def yE (K:PySem.W.Frag) (a:Ad):Sp:=λ vs H Q _=>∃ (p:Addr) (l h b f e:Int) (ps:Addr) (ys:List Str) (q:Addr) (sg:List Str),vs=[.ref p,.ref q]/\eN a H p l h b f e ps/\H ps=some (.lst (ys.map .str))/\(∀ H,SqT K H q (sV sg))/\H a.tHA=some (Tb a.tHA)/\Q (.bl (kX sg ys)) H
theorem Gw:aS ["rule","signs"] ["rule","signs"] (aw (top 22)):=⟨rfl,rfl,rfl,by decide +kernel,rfl,by decide +kernel,by decide +kernel⟩
theorem CS (D:BZ K mg) (cP:b5 K D.cdv a.tHA) (hB:iM base) (T:Txt K mg a):F0 P w base 2 D (yE K a):=by
 refine Df.ok (k:=1) D.ex Gw (λ vs H Q E h=>?_) (λ A outer s H vs Q E hr h=>?_)
 ·obtain ⟨p,l,h,b,f,e,ps,ys,q,sg,rfl,_⟩:=h;rfl
 ·obtain ⟨p,l,h,b,f,e,ps,ys,q,sg,rfl,R,hys,hq,ht,k⟩:=h
  obtain ⟨dx,fs,hp,N,hps⟩:=R.ob
  refine ⟨_,(ar (aO (j0 (N:=["sign","rule"]) (fs:=[(1,0)]) (⟨rfl,rfl,rfl,by rfl,by rfl,⟨⟨_,rfl,rfl,rfl,Or.inl rfl⟩,trivial⟩⟩) hB cP (hr.mono (by decide):bX (0+1) _) (by rfl) T.js (tU (pv 1)) (λ _ _ _ _ _ _ _=>(az (i:=0) (show List.Nodup (["sign","rule"]:List Str) from by decide +kernel) rfl (Or.inl rfl))) (λ _ _ _ _ _ _ _ hr=>(bI (uy K) (pv 0) (pU K (pv 1)) (by with_unfolding_all rfl)))))),?_⟩
  lia
  refine ⟨q,rfl,⟨_,hq _⟩,BU (λ v=>inV v (ys.map V.str)) (hq _) ht rfl (λ v hv=>?_) ?_⟩
  ·obtain ⟨x,_,rfl⟩:=List.mem_map.mp hv
   lia
   refine ⟨p,_,dx,fs,_,rfl,hp,T.clR,T.cz,hps,?_⟩
   lia
   exact ⟨_,_,rfl,.inl (SqL.of hys),rfl,dE _,rfl,rfl⟩
  ·have z:(sV sg).any (λ v=>inV v (ys.map V.str))=kX sg ys:=by
    unfold sV kX
    rw [List.any_map]
    rfl
   rw [z]
   exact k
def kH (l h b f e:Int) (ys:List Str):Bool:=!(!decide (f=e)&&!kX ["R","K"] ys)&&!(!decide (l / b=h / b)&&!kX ["Q","N","W","U"] ys)
abbrev yf (K:PySem.W.Frag) (mg:Str->Option Value):=Df K mg "check_telling" "check_telling" (top 21) ["rule"]
def uI (a:Ad):Sp:=λ vs H Q E=>∃ (p:Addr) (l h b f e:Int) (ps:Addr) (ys:List Str),vs=[.ref p]/\eN a H p l h b f e ps/\H ps=some (.lst (ys.map .str))/\H a.tHA=some (Tb a.tHA)/\0<b/\b.natAbs.log2<9000 /\
 if kH l h b f e ys=true then Q .non H else E (.ref a.jh) none H
theorem DT:aS ["rule"] ["rule"] (aw (top 21)):=⟨rfl,rfl,rfl,by decide +kernel,rfl,by decide +kernel,by decide +kernel⟩
theorem Aw (D:yf K mg) (eM:BZ K mg) (oK:F0 P w base 2 eM (yE K a)) (T:Txt K mg a):F1 P w base 3 D (uI a):=by
 refine Df.okE (k:=2) D.ex DT (λ vs H Q E h=>?_) (λ A outer s H vs Q E hr h=>?_)
 ·obtain ⟨p,l,h,b,f,e,ps,ys,rfl,_⟩:=h;rfl
 ·obtain ⟨p,l,h,b,f,e,ps,ys,rfl,R,hys,ht,hb,hl,k⟩:=h
  obtain ⟨dx,fs,hp,N,hps⟩:=id R.ob
  have hh:A.handled=none:=hr.hd
  unfold kH at k
  refine ⟨_,(ae (a8 (pw_and (aL dB (aF (pv 0) (by rfl)) (aF (pv 0) (by rfl)) (aC _)) (pw_and1 (bu (bt (ay oK (hr.mono (by decide)) (by rfl) eM.mg eM.kp eM.bd .nil aW (ai (pv 0) (ai (bY (v:=.ref a.jw) (by rfl) T.cY rfl) aa))))))).pt
 (ar (bO PySem.F.excBase_ValueError T.bq.ex T.bz hh (by rfl) (ai aD aa) (hl:=λ _ _ _ z=>⟨by decide,z⟩)))
 aH)
 (ar (a8 (pw_and (aL dB (au iY (aF (pv 0) (by rfl)) (aF (pv 0) (by rfl))) (au iY (aF (pv 0) (by rfl)) (aF (pv 0) (by rfl))) (aC _)) (pw_and1 (bu (bt (ay oK (hr.mono (by decide)) (by rfl) eM.mg eM.kp eM.bd .nil aW (ai (pv 0) (ai (bY (v:=.ref a.iS) (by rfl) T.cA rfl) aa))))))).pt
 (ar (bO PySem.F.excBase_ValueError T.bq.ex T.bz hh (by rfl) (ai aD aa) (hl:=λ _ _ _ z=>⟨by decide,z⟩)))
 aH))),?_⟩
  lia
  refine ⟨p,_,dx,fs,_,rfl,hp,T.clR,T.dh,N.first,?_⟩
  lia
  refine ⟨p,_,dx,fs,_,rfl,hp,T.clR,T.fV,N.last,?_⟩
  lia
  refine w_ite (λ z1=>?_) (λ z1=>?_)
  ·lia
   refine ⟨p,l,h,b,f,e,ps,ys,_,_,rfl,R,hys,T.yF,ht,?_⟩
   lia
   refine w_ite (λ z2=>?_) (λ z2=>?_)
   ·lia
    simpa [z1,z2] using k
   ·simp only [z1,z2,Bool.and_false,Bool.not_false,Bool.true_and] at k
    (lia
     refine ⟨p,_,dx,fs,_,rfl,hp,T.clR,T.fU,N.low,?_⟩
     lia
     refine ⟨p,_,dx,fs,_,rfl,hp,T.clR,T.du,N.base,?_⟩
     refine w_I ⟨hb,hl⟩ ?_
     lia
     refine ⟨p,_,dx,fs,_,rfl,hp,T.clR,T.fm,N.high,?_⟩
     lia
     refine ⟨p,_,dx,fs,_,rfl,hp,T.clR,T.du,N.base,?_⟩
     refine w_I ⟨hb,hl⟩ ?_
     lia
     refine w_ite (λ y1=>?_) (λ y1=>?_)
     ·lia
      refine ⟨p,l,h,b,f,e,ps,ys,_,_,rfl,R,hys,T.qF,ht,?_⟩
      lia
      refine w_ite (λ y2=>?_) (λ y2=>?_)
      ·lia
       simpa [y1,y2] using k
      ·lia
       simpa [y1,y2] using k
     ·lia
      simpa [y1] using k)
  ·simp only [z1,Bool.false_and,Bool.not_false,Bool.true_and] at k
   (lia
    refine ⟨p,_,dx,fs,_,rfl,hp,T.clR,T.fU,N.low,?_⟩
    lia
    refine ⟨p,_,dx,fs,_,rfl,hp,T.clR,T.du,N.base,?_⟩
    refine w_I ⟨hb,hl⟩ ?_
    lia
    refine ⟨p,_,dx,fs,_,rfl,hp,T.clR,T.fm,N.high,?_⟩
    lia
    refine ⟨p,_,dx,fs,_,rfl,hp,T.clR,T.du,N.base,?_⟩
    refine w_I ⟨hb,hl⟩ ?_
    lia
    refine w_ite (λ y1=>?_) (λ y1=>?_)
    ·lia
     refine ⟨p,l,h,b,f,e,ps,ys,_,_,rfl,R,hys,T.qF,ht,?_⟩
     lia
     refine w_ite (λ y2=>?_) (λ y2=>?_)
     ·lia
      simpa [y1,y2] using k
     ·lia
      simpa [y1,y2] using k
    ·lia
     simpa [y1] using k)
def gi (o:Option Str):Bool:=match o with | some x=>decide (x="+") | none=>false
def DK (ys:List Str):Bool:=(List.range (ys.length - 1)).any λ i=>gi ys[i]?&&gi ys[i+1]?
def ij (ys:List Str):Bool:=!(gi ys.head?||gi ys.getLast?)&&!DK ys
theorem Dq (xs:List V):f9 xs (some 1) none=xs.drop 1:=by
 unfold f9
 rw [HT.jY,show HT.sIx xs.length 0 (some 1)=min 1 xs.length from HT.jS _ _ 1]
 cases xs with
 | nil=>rfl
 | cons x r=>simp
abbrev xY (K:PySem.W.Frag) (mg:Str->Option Value):=Df K mg "ties_fit" "ties_fit" (top 20) ["pieces"]
def sI (a:Ad):Sp:=λ vs H Q _=>∃ (l:Addr) (ys:List Str),vs=[.ref l]/\H l=some (.lst (ys.map .str))/\ys≠[]/\H a.tTF=some (Tb a.tTF)/\Pure (.bl (ij ys)) H Q
theorem Cn:aS ["pieces"] ["pieces"] (aw (top 20)):=⟨rfl,rfl,rfl,by decide +kernel,rfl,by decide +kernel,by decide +kernel⟩
theorem pj {ys:List Str} (h:ys≠[]):atI (ys.map V.str) (-1)=some (.str (ys.getLast h)):=by
 have e:ys.map V.str=(ys.dropLast).map V.str++[.str (ys.getLast h)]:=by
  conv=>lhs;rw [<- List.dropLast_concat_getLast h]
  rw [List.map_append];rfl
 rw [e]
 exact yK _ _
theorem zy (D:xY K mg) (cP:b5 K D.cdv a.tTF) (hB:iM base) (T:Txt K mg a):F0 P w base 2 D (sI a):=by
 refine Df.ok (k:=1) D.ex Cn (λ vs H Q E h=>?_) (λ A outer s H vs Q E hr h=>?_)
 ·obtain ⟨l,ys,rfl,_⟩:=h;rfl
 ·obtain ⟨l,ys,rfl,hl,hne,ht,k⟩:=h
  obtain ⟨tt,hT⟩:=T.tw
  obtain ⟨y0,r,rfl⟩:∃ y0 r,ys=y0::r:=by
   cases ys with
   | nil=>exact absurd rfl hne
   | cons y r=>exact ⟨y,r,rfl⟩
  refine ⟨_,(ae (a8 (pw_or (aL cj (aY aQ (pv 0) af (λ _ _=>rfl)) (bY (v:=.str "+") (by rfl) hT ⟨_,rfl⟩) (aC _)) (pw_or1 (aL cj (aY aQ (pv 0) (vn qJ af) (λ _ _=>rfl)) (bY (v:=.str "+") (by rfl) hT ⟨_,rfl⟩) (aC _)))).pt
 (ar (aO cb))
 aH)
 (ar (aO (xx (j0 (N:=["ahead","behind"]) (fs:=[]) (⟨rfl,rfl,rfl,by rfl,by rfl,trivial⟩) hB cP (hr.mono (by decide):bX (0+1) _) (by rfl) T.js (Ct (by rfl) T.oO boot_zip (ai (pv 0) (ai (bU iq (pv 0) (b7 af) cX) aa))) (λ _ _ _ _ _ _ _=>(j3 K (n:=2) rfl (aM (az (i:=0) (show List.Nodup (["ahead","behind"]:List Str) from by decide +kernel) rfl (Or.inl rfl)) (aM (az (i:=1) (show List.Nodup (["ahead","behind"]:List Str) from by decide +kernel) rfl (Or.inl rfl)) cF)))) (λ _ _ _ _ _ _ _ hr=>(iF (bI cj (pv 0) (bY (v:=.str "+") (by rfl) hT ⟨_,rfl⟩) (aC _)) (iO (bI cj (pv 1) (bY (v:=.str "+") (by rfl) hT ⟨_,rfl⟩) (aC _)))))))))),?_⟩
  lia
  refine ⟨l,_,0,.str y0,rfl,rfl,SqL.of hl,aX (j:=0) rfl,?_⟩
  lia
  have kF:decide (y0="+")=true∨decide ((y0::r).getLast hne="+")=true->Q (.bl false) H:=λ z=>by
   have e:ij (y0::r)=false:=by
    unfold ij
    rw [List.getLast?_eq_some_getLast hne]
    rcases z with z | z
    ·simp [gi,z,of_decide_eq_true z]
    ·simp [gi,of_decide_eq_true z]
   have:=k H (ax.refl H)
   rw [e] at this
   exact this
  refine w_ite (λ z1=>?_) (λ z1=>?_)
  ·lia
   exact kF (.inl z1)
  lia
  refine ⟨l,_,-1,_,rfl,rfl,SqL.of hl,pj hne,?_⟩
  lia
  refine w_ite (λ z2=>?_) (λ z2=>?_)
  ·lia
   exact kF (.inr z2)
  lia
  refine ⟨l,_,rfl,SqL.of hl,λ p hp=>?_⟩
  lia
  have s1:ax H (upd H p (.lst (f9 ((y0::r).map V.str) (some 1) none))):=ax.upd hp
  refine ⟨l,p,rfl,⟨_,SqL.of (s1 _ _ hl)⟩,⟨_,SqL.of ag⟩,Fj (K:=K) (Q:=λ v H2=>∃ c,v=.bl c/\Q (.bl !c) H2) (n:=r.length) (λ i=>gi (y0::r)[i]?&&gi (y0::r)[i+1]?) (SqL.of (s1 _ _ hl)) (SqL.of ag) (by simp) (by rw [Dq];simp) (.inr (by rw [Dq];simp)) (s1 _ _ ht) (λ i x y H5 hi e1 e2 s5=>?_) (λ H2 s2=>?_)⟩
  ·rw [Dq,List.getElem?_drop,List.getElem?_map] at e2
   rw [List.getElem?_map] at e1
   obtain ⟨u,hu,rfl⟩:=Option.map_eq_some_iff.mp e1
   obtain ⟨v,hv,rfl⟩:=Option.map_eq_some_iff.mp e2
   have hv:(y0::r)[i+1]?=some v:=by rw [Nat.add_comm];exact hv
   show zq _ _ _ _ _
   rw [hu,hv]
   lia
   refine w_ite (λ z3=>?_) (λ z3=>?_)
   ·lia
    exact ⟨s5,by show V.bl _=V.bl (decide (u="+")&&decide (v="+"));rw [z3];rfl⟩
   ·exact ⟨s5,by show V.bl _=V.bl (decide (u="+")&&decide (v="+"));rw [z3];rfl⟩
  ·lia
   have e:ij (y0::r)=!oo r.length (λ i=>gi (y0::r)[i]?&&gi (y0::r)[i+1]?):=by
    have y1:gi (y0::r).head?=false:=z1
    have y2:gi (y0::r).getLast?=false:=by rw [List.getLast?_eq_some_getLast hne];exact z2
    unfold ij
    rw [y1,y2]
    rfl
   rw [<- e]
   exact k H2 (s1.trans s2)
def qP (v:V):Bool:=match v with | .str x=>iB x | _=>false
def qW (v:V):Bool:=match v with | .str x=>bD x | _=>false
def qT (ys:List Str) (v:V):Bool:=decide ((1:Int)<((ys.map V.str).countP λ z=>eqV z v:Nat))
def gW (ys:List Str):Bool:=decide (1<=ys.length)&&decide (ys.length<=8)&&ys.all iB&&ys.any bD&&!((sV sig).any (qT ys))&&ij ys
abbrev qG (K:PySem.W.Frag) (mg:Str->Option Value):=Df K mg "check_pieces" "check_pieces" (top 18) ["pieces"]
def mX (a:Ad):Sp:=λ vs H Q E=>∃ (l:Addr) (ys:List Str),vs=[.ref l]/\H l=some (.lst (ys.map .str))/\(∀ y∈ys,y.length<=sizeLine)/\sx a H /\
 ∀ H',ax H H'->if gW ys=true then Q .non H' else E (.ref a.jh) none H'
theorem ye:aS ["pieces"] ["pieces"] (aw (top 18)):=⟨rfl,rfl,rfl,by decide +kernel,rfl,by decide +kernel,by decide +kernel⟩
theorem wG (D:qG K mg) (cP:b5 K D.cdv a.tCP) (hB:iM base) (iz:tD K mg) (t9:F0 P w base 4 iz (qC a.tSL)) (bg:o9 K mg) (dG:F0 P w base 3 bg (kQ a.tSL))
  (iC:xY K mg) (sL:F0 P w base 2 iC (sI a)) (T:Txt K mg a):F1 P w base 7 D (mX a):=by
 refine Df.okE (k:=6) D.ex ye (λ vs H Q E h=>?_) (λ A outer s H vs Q E hr h=>?_)
 ·obtain ⟨l,ys,rfl,_⟩:=h;rfl
 ·obtain ⟨l,ys,rfl,hl,hz,ht,k0⟩:=h
  obtain ⟨tt,hM⟩:=T.uV
  have hh:A.handled=none:=hr.hd
  have k:=k0 H (ax.refl H)
  unfold gW at k k0
  refine ⟨_,(ae (a8 (bu (jX o5 o5 af (aB aA (by rfl) T.br boot_len (ai (pv 0) aa)) (bY (v:=.int 8) (by rfl) hM ⟨_,rfl⟩)))
 (ar (bO PySem.F.excBase_ValueError T.bq.ex T.bz hh (by rfl) (ai aD aa) (hl:=λ _ _ _ z=>⟨by decide,z⟩)))
 aH)
 (ae (a8 (bu (bt (i8 (N:=["piece"]) (fs:=[]) (⟨rfl,rfl,rfl,by rfl,by rfl,trivial⟩) hB cP (hr.mono (by decide):bX (5+1) _) (by rfl) T.gX (bF (pv 0)) (λ _ _ _ _ _ _ _=>(az (i:=0) (show List.Nodup (["piece"]:List Str) from by decide +kernel) rfl (Or.inl rfl))) (λ _ _ _ _ _ _ _ hr=>(ay t9 (hr.mono (by decide)) (by rfl) iz.mg iz.kp iz.bd .nil aW (ai (pv 0) aa))))))
 (ar (bO PySem.F.excBase_ValueError T.bq.ex T.bz hh (by rfl) (ai aD aa) (hl:=λ _ _ _ z=>⟨by decide,z⟩)))
 aH)
 (ae (a8 (bu (bt (j0 (N:=["piece"]) (fs:=[]) (⟨rfl,rfl,rfl,by rfl,by rfl,trivial⟩) hB cP (hr.mono (by decide):bX (5+1) _) (by rfl) T.js (bF (pv 0)) (λ _ _ _ _ _ _ _=>(az (i:=0) (show List.Nodup (["piece"]:List Str) from by decide +kernel) rfl (Or.inl rfl))) (λ _ _ _ _ _ _ _ hr=>(ay dG (hr.mono (by decide)) (by rfl) bg.mg bg.kp bg.bd .nil aW (ai (pv 0) aa))))))
 (ar (bO PySem.F.excBase_ValueError T.bq.ex T.bz hh (by rfl) (ai aD aa) (hl:=λ _ _ _ z=>⟨by decide,z⟩)))
 aH)
 (ae (a8 (bt (j0 (N:=["sign","pieces"]) (fs:=[(1,0)]) (⟨rfl,rfl,rfl,by rfl,by rfl,⟨⟨_,rfl,rfl,rfl,Or.inl rfl⟩,trivial⟩⟩) hB cP (hr.mono (by decide):bX (5+1) _) (by rfl) T.js (tU (bY (v:=.ref a.vA) (by rfl) T.ig rfl)) (λ _ _ _ _ _ _ _=>(az (i:=0) (show List.Nodup (["sign","pieces"]:List Str) from by decide +kernel) rfl (Or.inl rfl))) (λ _ _ _ _ _ _ _ hr=>(bI nX (Cp K PySem.F.plainAttrs_list PySem.F.slot_list_count PySem.F.type_list_count (wj K) (pv 1) (ai (pv 0) aa)) af (aC _)))))
 (ar (bO PySem.F.excBase_ValueError T.bq.ex T.bz hh (by rfl) (ai aD aa) (hl:=λ _ _ _ z=>⟨by decide,z⟩)))
 aH)
 (ar (a8 (bu (bt (ay sL (hr.mono (by decide)) (by rfl) iC.mg iC.kp iC.bd .nil aW (ai (pv 0) aa))))
 (ar (bO PySem.F.excBase_ValueError T.bq.ex T.bz hh (by rfl) (ai aD aa) (hl:=λ _ _ _ z=>⟨by decide,z⟩)))
 aH)))))),?_⟩
  lia
  refine ⟨l,_,rfl,.inl (SqL.of hl),?_⟩
  lia
  have e1:decide ((1:Int)<=((ys.map V.str).length:Nat))=decide (1<=ys.length):=decide_eq_decide.mpr (by rw [List.length_map];omega)
  have e2:decide (((ys.map V.str).length:Int)<=8)=decide (ys.length<=8):=decide_eq_decide.mpr (by rw [List.length_map];omega)
  rw [e1]
  refine w_ite (λ z1=>?_) (λ z1=>?_)
  case refine_2=>
   lia
   simpa [z1] using k
  lia
  rw [e2]
  refine w_ite (λ z2=>?_) (λ z2=>?_)
  ·lia
   rw [Bool.not_eq_true'] at z2
   simpa [z1,z2] using k
  have z2:decide (ys.length<=8)=true:=by simpa using z2
  simp only [z1,z2,Bool.true_and] at k k0
  lia
  refine ⟨l,rfl,⟨_,SqL.of hl⟩,qd (K:=K) qP (SqL.of hl) ht.2.1 rfl (λ v hv=>?_) ?_⟩
  ·obtain ⟨x,hx,rfl⟩:=List.mem_map.mp hv
   lia
   exact ⟨x,rfl,hz x hx,ht.1,rfl,rfl⟩
  rw [show (ys.map V.str).all qP=ys.all iB by rw [List.all_map];rfl]
  refine w_ite (λ z3=>?_) (λ z3=>?_)
  ·lia
   rw [Bool.not_eq_true'] at z3
   simpa [z3] using k
  have z3:ys.all iB=true:=by simpa using z3
  simp only [z3,Bool.true_and] at k k0
  lia
  refine ⟨l,rfl,⟨_,SqL.of hl⟩,ya (K:=K) qW (SqL.of hl) ht.2.1 rfl (λ v hv=>?_) ?_⟩
  ·obtain ⟨x,hx,rfl⟩:=List.mem_map.mp hv
   lia
   exact ⟨x,rfl,hz x hx,ht.1,rfl,rfl⟩
  rw [show (ys.map V.str).any qW=ys.any bD by rw [List.any_map];rfl]
  refine w_ite (λ z4=>?_) (λ z4=>?_)
  ·lia
   rw [Bool.not_eq_true'] at z4
   simpa [z4] using k
  have z4:ys.any bD=true:=by simpa using z4
  simp only [z4,Bool.true_and] at k k0
  lia
  refine ⟨_,rfl,⟨_,T.mv _⟩,BX (K:=K) (qT ys) (T.mv _) ht.2.1 rfl (λ v hv=>?_) ?_⟩
  ·obtain ⟨x,hx,rfl⟩:=List.mem_map.mp hv
   lia
   refine ⟨.inl ⟨rfl,_,SqL.of hl⟩,?_⟩
   lia
   refine ⟨l,_,_,rfl,rfl,hl,dE _,rfl,?_⟩
   lia
   exact ⟨rfl,rfl⟩
  refine w_ite (λ z5=>?_) (λ z5=>?_)
  ·lia
   have z5:(sV sig).any (qT ys)=true:=z5
   simpa [z5] using k
  have z5:(sV sig).any (qT ys)=false:=z5
  simp only [z5,Bool.not_false,Bool.true_and] at k k0
  lia
  refine ⟨l,ys,rfl,hl,(λ z=>by rw [z] at z1;exact absurd z1 (by decide)),ht.2.2.1,λ H' s'=>?_⟩
  lia
  have k:=k0 H' s'
  refine w_ite (λ z6=>?_) (λ z6=>?_)
  ·lia
   rw [Bool.not_eq_true'] at z6
   simpa [z6] using k
  ·lia
   have z6:ij ys=true:=by simpa using z6
   simpa [z6] using k
def ip (l h b f e:Int) (ys:List Str):Bool:=mQ l h b f e&&gW ys&&kH l h b f e ys
abbrev rH:Stmt:=inClass (top 16) 0
def ni (a:Ad):Sp:=λ vs H Q E=>∃ (p dx:Addr) (l h b f e:Int) (q:Addr) (ys:List Str),vs=[.ref p,.int l,.int h,.int b,.int f,.int e,.ref q]/\H p=some (.ins a.dw dx [])/\H q=some (.lst (ys.map .str))/\(∀ y∈ys,y.length<=sizeLine)/\b.natAbs.log2<9000/\sx a H /\
 ∀ H' n,H n=none->(∀ c o,H c=some o->c≠p->H' c=some o)->eN a H' p l h b f e n->H' n=some (.lst (ys.map .str))->if ip l h b f e ys=true then Q .non H' else E (.ref a.jh) none H'
theorem Cq:aS ["self","low","high","base","first","last","pieces"] ["self","low","high","base","first","last","pieces"] (aw rH):=⟨rfl,rfl,rfl,by decide +kernel,rfl,by decide +kernel,by decide +kernel⟩
abbrev sC (K:PySem.W.Frag):=DfM K "__init__" "Rule.__init__" rH ["self","low","high","base","first","last","pieces"]
theorem Aa (D:sC K) (dj:ym K mg) (me:F1 P w base 1 dj (sZ a)) (dY:qG K mg) (mH:F1 P w base 7 dY (mX a))
  (dk:yf K mg) (mj:F1 P w base 3 dk (uI a)) (T:Txt K mg a):cC P w K mg base (CXE P w) 8 D.f D.fd ["self","low","high","base","first","last","pieces"] (ni a):=by
 refine Df.okE (k:=7) D.ex Cq (λ vs H Q E h=>?_) (λ A outer s H vs Q E hr h=>?_)
 ·obtain ⟨p,dx,l,h,b,f,e,q,ys,rfl,_⟩:=h;rfl
 ·obtain ⟨p,dx,l,h,b,f,e,q,ys,rfl,hp,hq,hz,hb,ht,k⟩:=h
  have npq:q≠p:=dC hq hp (by intro z;cases z)
  refine ⟨_,(ae (cp (pv 0) (pv 1) (by rfl))
 (ae (cp (pv 0) (pv 2) (by rfl))
 (ae (cp (pv 0) (pv 3) (by rfl))
 (ae (cp (pv 0) (pv 4) (by rfl))
 (ae (cp (pv 0) (pv 5) (by rfl))
 (ae (cp (pv 0) (bf b8 (by rfl) T.cL boot_list (ai (pv 6) aa)) (by rfl))
 (ae (bx (ay me (hr.mono (by decide)) (by rfl) dj.mg dj.kp dj.bd .nil (yN λ _ _ _ z=>z) (ai (pv 0) aa)))
 (ae (bx (ay mH (hr.mono (by decide)) (by rfl) dY.mg dY.kp dY.bd .nil (yN λ _ _ _ z=>z) (ai (aF (pv 0) (by rfl)) aa)))
 (ar (bx (ay mj (hr.mono (by decide)) (by rfl) dk.mg dk.kp dk.bd .nil (yN λ _ _ _ z=>z) (ai (pv 0) aa)))))))))))),?_⟩
  lia
  refine ⟨p,a.dw,dx,_,rfl,hp,T.clR,T.fU,(by show 0<1000;decide),?_⟩
  lia
  refine ⟨p,a.dw,dx,_,rfl,ag,T.clR,T.fm,(by show 1<1000;decide),?_⟩
  lia
  refine ⟨p,a.dw,dx,_,rfl,ag,T.clR,T.du,(by show 2<1000;decide),?_⟩
  lia
  refine ⟨p,a.dw,dx,_,rfl,ag,T.clR,T.dh,(by show 3<1000;decide),?_⟩
  lia
  refine ⟨p,a.dw,dx,_,rfl,ag,T.clR,T.fV,(by show 4<1000;decide),?_⟩
  lia
  generalize hH5:upd (upd (upd (upd (upd H p _) p _) p _) p _) p _=H5
  have k5:∀ c,c≠p->H5 c=H c:=λ c hc=>by rw [<- hH5,aq hc,aq hc,aq hc,aq hc,aq hc]
  have p5:H5 p=some (.ins a.dw dx (cf "last" (.int e) (cf "first" (.int f) (cf "base" (.int b) (cf "high" (.int h) (cf "low" (.int l) [])))))):=by rw [<- hH5];exact ag
  refine ⟨q,_,rfl,.inl (SqL.of ((k5 q npq).trans hq)),λ n hn=>?_⟩
  have npn:n≠p:=λ z=>by rw [z,p5] at hn;cases hn
  have hn0:H n=none:=(k5 n npn).symm.trans hn
  lia
  refine ⟨p,a.dw,dx,_,rfl,(by rw [aq (Ne.symm npn)];exact p5),T.clR,T.cz,(by show 5<1000;decide),?_⟩
  lia
  generalize hH7:upd (upd H5 n _) p _=H7
  have k7:∀ c o,H c=some o->c≠p->H7 c=some o:=λ c o hc hcp=>by rw [<- hH7,aq hcp,aq (aj hc hn0),k5 c hcp];exact hc
  have R:eN a H7 p l h b f e n:=⟨dx,_,by rw [<- hH7];exact ag,⟨rfl,rfl,rfl,rfl,rfl⟩,rfl⟩
  have n7:H7 n=some (.lst (ys.map .str)):=by rw [<- hH7,aq npn];exact ag
  have nt:∀ t,H t=some (Tb t)->t≠p:=λ t e=>dC e hp (by intro z;cases z)
  have t7:sx a H7:=⟨k7 _ _ ht.1 (nt _ ht.1),k7 _ _ ht.2.1 (nt _ ht.2.1),k7 _ _ ht.2.2.1 (nt _ ht.2.2.1),k7 _ _ ht.2.2.2 (nt _ ht.2.2.2)⟩
  have kk:=k H7 n hn0 k7 R n7
  unfold ip at k kk
  refine ⟨p,l,h,b,f,e,n,rfl,R,w_ite (λ z1=>?_) (λ z1=>?_)⟩
  case refine_2=>simpa [z1] using kk
  lia
  obtain ⟨dx',fs,r1,r2,r3⟩:=id R.ob
  refine ⟨p,a.dw,dx',fs,_,rfl,r1,T.clR,T.cz,r3,?_⟩
  lia
  refine ⟨n,ys,rfl,n7,hz,t7,λ H8 s8=>w_ite (λ z2=>?_) (λ z2=>?_)⟩
  ·have z2':gW ys=true:=z2
   lia
   have hb2:0<b:=by
    unfold mQ at z1
    simp at z1
    omega
   have k8:=k H8 n hn0 (λ c o hc hcp=>s8 _ _ (k7 c o hc hcp)) (R.same s8) (s8 _ _ n7)
   rw [z1,z2',Bool.true_and,Bool.true_and] at k8
   exact ⟨p,l,h,b,f,e,n,ys,rfl,R.same s8,s8 _ _ n7,s8 _ _ t7.2.2.2,hb2,hb,k8⟩
  ·have k8:=k H8 n hn0 (λ c o hc hcp=>s8 _ _ (k7 c o hc hcp)) (R.same s8) (s8 _ _ n7)
   simpa [z2] using k8
abbrev DH (K:PySem.W.Frag) (mg:Str->Option Value):=Df K mg "own_list" "own_list" (top 28) ["given"]
def xA (K:PySem.W.Frag):Sp:=λ vs H Q _=>∃ (v:V) (xs:List V),vs=[v]/\((v=.non/\xs=[])∨∃ p,v=.ref p/\SqL K H p xs)/\∀ l,H l=none->Q (.ref l) (upd H l (.lst xs))
theorem EK:aS ["given"] ["given"] (aw (top 28)):=⟨rfl,rfl,rfl,by decide +kernel,rfl,by decide +kernel,by decide +kernel⟩
theorem CD (D:DH K mg) (T:Txt K mg a):F0 P w base 1 D (xA K):=by
 refine Df.ok (k:=0) D.ex EK (λ vs H Q E h=>?_) (λ A outer s H vs Q E hr h=>?_)
 ·obtain ⟨v,xs,rfl,_⟩:=h;rfl
 ·obtain ⟨v,xs,rfl,hv,k⟩:=h
  refine ⟨_,(ar (aO (xO (aL qy (pv 0) mJ (aC _)) (a5 aa) (bf b8 (by rfl) T.cL boot_list (ai (pv 0) aa))))),?_⟩
  lia
  refine ⟨rfl,?_⟩
  rcases hv with ⟨rfl,rfl⟩ | ⟨p,rfl,hp⟩
  ·rw [decide_eq_true rfl]
   lia
   exact ⟨by show 0<=sizeLine;decide,k⟩
  ·rw [decide_eq_false (by intro z;cases z)]
   lia
   exact ⟨p,xs,rfl,.inl hp,k⟩
def low (i j:Nat) (x:Str):Bool:=decide (i<=x.length)&&decide (x.length<=j)&&j6 x
def c8 (m:Str×Str×Str):Bool:=low 1 3 m.1&&low 1 3 m.2.1&&low 1 6 m.2.2&&decide (m.1.length+m.2.1.length<=m.2.2.length+1)
def jA (m:Str×Str×Str):HO:=.tup [.str m.1,.str m.2.1,.str m.2.2]
abbrev vq (K:PySem.W.Frag) (mg:Str->Option Value):=Df K mg "is_melt" "is_melt" (top 29) ["melt"]
def qB (a:Ad):Sp:=λ vs H Q _=>∃ (t:Addr) (m:Str×Str×Str),vs=[.ref t]/\H t=some (jA m)/\c8 m=true/\H a.tSL=some (Tb a.tSL)/\Q (.bl true) H
theorem B1:aS ["melt","ahead","behind","made"] ["melt"] (aw (top 29)):=⟨rfl,rfl,rfl,by decide +kernel,rfl,by decide +kernel,by decide +kernel⟩
theorem kZ {i j:Nat} {x:Str} (h:low i j x=true):(decide ((i:Int)<=x.length)&&decide ((x.length:Int)<=j)&&j6 x)=true:=by
 unfold low at h
 simp only [Bool.and_eq_true,decide_eq_true_eq] at h ⊢
 exact ⟨⟨by omega,by omega⟩,h.2⟩
theorem pX {i j:Nat} {x:Str} (h:low i j x=true):i<=x.length/\x.length<=j:=by
 unfold low at h
 simp only [Bool.and_eq_true,decide_eq_true_eq] at h
 exact h.1
theorem vU {m:Str×Str×Str} (h:c8 m=true):low 1 3 m.1=true/\low 1 3 m.2.1=true/\low 1 6 m.2.2=true/\m.1.length+m.2.1.length<=m.2.2.length+1:=by
 unfold c8 at h
 simp only [Bool.and_eq_true,decide_eq_true_eq] at h
 exact ⟨h.1.1.1,h.1.1.2,h.1.2,h.2⟩
theorem av {n:Nat} (h:n<=10000):n<=sizeLine:=Nat.le_trans h (by decide)
theorem z7 (D:vq K mg) (aV:nB K mg) (bN:F0 P w base 2 aV (ku a.tSL)) (T:Txt K mg a):F0 P w base 3 D (qB a):=by
 refine Df.ok (k:=2) D.ex B1 (λ vs H Q E h=>?_) (λ A outer s H vs Q E hr h=>?_)
 ·obtain ⟨t,m,rfl,_⟩:=h;rfl
 ·obtain ⟨t,⟨x,y,z⟩,rfl,ht,hm,tSL,k⟩:=h
  obtain ⟨m1,m2,m3,m4⟩:=vU hm
  dsimp only at m1 m2 m3 m4
  have l1:=pX m1
  have l2:=pX m2
  have l3:=pX m3
  have ht:H t=some (.tup [.str x,.str y,.str z]):=ht
  refine ⟨_,(ae (a8 (pw_or (bu (bt (aB dP (by rfl) T.bo boot_isinstance (ai (pv 0) (ai (je (v:=.ty "tuple") (by rfl) T.gn (by rfl) rfl) aa))))) (pw_or1 (aL dB (aB aA (by rfl) T.br boot_len (ai (pv 0) aa)) af (aC _)))).pt
 (ar (aO cb))
 aH)
 (ae (ir (pv 0) (iu (n:=3) rfl (aM (az (i:=1) (show List.Nodup (["melt","ahead","behind","made"]:List Str) from by decide +kernel) rfl (Or.inl rfl)) (aM (az (i:=2) (show List.Nodup (["melt","ahead","behind","made"]:List Str) from by decide +kernel) rfl (Or.inl rfl)) (aM (az (i:=3) (show List.Nodup (["melt","ahead","behind","made"]:List Str) from by decide +kernel) rfl (Or.inl rfl)) cF)))))
 (ae (a8 (bu (pw_and (bt (ay bN (hr.mono (by decide)) (by rfl) aV.mg aV.kp aV.bd .nil aW (ai (pv 1) (ai af (ai af aa))))) (pw_and (bt (ay bN (hr.mono (by decide)) (by rfl) aV.mg aV.kp aV.bd .nil aW (ai (pv 2) (ai af (ai af aa))))) (pw_and1 (bt (ay bN (hr.mono (by decide)) (by rfl) aV.mg aV.kp aV.bd .nil aW (ai (pv 3) (ai af (ai af aa)))))))).pt)
 (ar (aO cb))
 aH)
 (ar (aO (bI xK (aB cq (by rfl) T.br boot_len (ai (pv 3) aa)) (au k9 (au bT (aB cq (by rfl) T.br boot_len (ai (pv 1) aa)) (aB cq (by rfl) T.br boot_len (ai (pv 2) aa))) af) (aC _))))))),?_⟩
  lia
  refine ⟨_,_,_,_,_,rfl,.v (.tup ht),rfl,T.zb,?_⟩
  lia
  refine ⟨t,_,rfl,.inr (SqT.of ht),?_⟩
  lia
  refine w_ite (λ e=>absurd e (by simp)) (λ _=>?_)
  lia
  refine dg (SqT.of ht) rfl ?_
  refine ⟨_,_,rfl,_,_,rfl,_,_,rfl,rfl,?_⟩
  show sW _ _ _ [some (V.ref t),some (V.str x),some (V.str y),some (V.str z)] H
  lia
  refine ⟨x,1,3,rfl,av (by omega),tSL,?_⟩
  rw [show (decide ((1:Int)<=x.length)&&decide ((x.length:Int)<=3)&&j6 x)=true from kZ m1]
  lia
  refine ⟨y,1,3,rfl,av (by omega),tSL,?_⟩
  rw [show (decide ((1:Int)<=y.length)&&decide ((y.length:Int)<=3)&&j6 y)=true from kZ m2]
  lia
  refine ⟨z,1,6,rfl,av (by omega),tSL,?_⟩
  rw [show (decide ((1:Int)<=z.length)&&decide ((z.length:Int)<=6)&&j6 z)=true from kZ m3]
  lia
  refine ⟨z,rfl,av (by omega),?_⟩
  lia
  refine ⟨x,rfl,av (by omega),?_⟩
  lia
  refine ⟨y,rfl,av (by omega),?_⟩
  lia
  rw [decide_eq_true (show (x.length:Int)+y.length - 1<=z.length by omega)]
  exact k
end
theorem sy {xs:List V} (h:xs.all eC=true):eqL xs xs=true:=by
 unfold eqL
 rw [beq_self_eq_true,Bool.true_and,List.all_eq_true]
 intro p hp
 have e:p.1=p.2:=by
  induction xs with
  | nil=>cases hp
  | cons y r ih=>
   rw [List.zip_cons_cons] at hp
   rcases List.mem_cons.mp hp with e | hp
   ·rw [e]
   ·exact ih (by rw [List.all_cons,Bool.and_eq_true] at h;exact h.2) hp
 rw [<- e]
 exact wX (List.all_eq_true.mp h _ (List.of_mem_zip hp).1)
section
variable {P:Program} {w:World} {K:PySem.W.Frag} {mg:Str->Option Value} {base:Heap} {a:Ad}
def dA (m:Str×Str):HO:=.tup [.str m.1,.str m.2]
def dn (m:Str×Str):Bool:=bD m.1&&bD m.2
abbrev C4 (K:PySem.W.Frag) (mg:Str->Option Value):=Df K mg "is_word_pair" "is_word_pair" (top 25) ["pair"]
def y6 (a:Ad):Sp:=λ vs H Q _=>∃ (t:Addr) (m:Str×Str),vs=[.ref t]/\H t=some (dA m)/\m.1.length<=1000/\m.2.length<=1000/\H a.tSL=some (Tb a.tSL)/\Q (.bl (dn m)) H
theorem Br:aS ["pair"] ["pair"] (aw (top 25)):=⟨rfl,rfl,rfl,by decide +kernel,rfl,by decide +kernel,by decide +kernel⟩
theorem C5 (D:C4 K mg) (bg:o9 K mg) (dG:F0 P w base 3 bg (kQ a.tSL)) (T:Txt K mg a):F0 P w base 4 D (y6 a):=by
 refine Df.ok (k:=3) D.ex Br (λ vs H Q E h=>?_) (λ A outer s H vs Q E hr h=>?_)
 ·obtain ⟨t,m,rfl,_⟩:=h;rfl
 ·obtain ⟨t,m,rfl,ht,l1,l2,tSL,q⟩:=h
  have nd:=Br.nd
  obtain ⟨x,y⟩:=m
  have ht:H t=some (.tup [.str x,.str y]):=ht
  have l1:x.length<=1000:=l1
  have l2:y.length<=1000:=l2
  have line:1000<sizeLine:=by decide
  refine ⟨_,(ar (aO (iF (aB dP (by rfl) T.bo boot_isinstance (ai (pv 0) (ai (je (v:=.ty "tuple") (by rfl) T.gn (by rfl) rfl) aa))) (iF (bI cj (aB aA (by rfl) T.br boot_len (ai (pv 0) aa)) af (aC _)) (iF (ay dG (hr.mono (by decide)) (by rfl) bg.mg bg.kp bg.bd .nil aW (ai (aY mD (pv 0) af (λ _ _=>rfl)) aa)) (iO (ay dG (hr.mono (by decide)) (by rfl) bg.mg bg.kp bg.bd .nil aW (ai (aY mD (pv 0) af (λ _ _=>rfl)) aa)))))))),?_⟩
  lia
  refine ⟨_,_,_,_,_,rfl,.v (.tup ht),rfl,T.zb,?_⟩
  lia
  refine ⟨t,_,rfl,.inr (SqT.of ht),?_⟩
  lia
  refine w_ite (λ _=>?_) (λ z=>absurd z (by simp))
  lia
  refine ⟨t,_,0,_,rfl,rfl,SqT.of ht,aX (j:=0) rfl,?_⟩
  lia
  refine ⟨x,rfl,by omega,tSL,?_⟩
  lia
  have e:dn (x,y)=(bD x&&bD y):=rfl
  rw [e] at q
  refine w_ite (λ z=>?_) (λ z=>?_)
  ·lia
   refine ⟨t,_,1,_,rfl,rfl,SqT.of ht,aX (j:=1) rfl,?_⟩
   lia
   refine ⟨y,rfl,by omega,tSL,?_⟩
   lia
   rw [z,Bool.true_and] at q
   exact q
  ·skip
   rw [z,Bool.false_and] at q
   exact q
end
theorem lW {α:Type} [DecidableEq α]:∀ {l:List α},¬ l.Nodup->∃ l1 k l2,l=l1++k::l2/\k∈l2
 | [],h=>absurd List.nodup_nil h
 | y::r,h=>by
  by_cases hy:y∈r
  ·exact ⟨[],y,r,rfl,hy⟩
  ·have:¬ r.Nodup:=λ z=>h (List.nodup_cons.mpr ⟨hy,z⟩)
   obtain ⟨l1,k,l2,e,m⟩:=lW this
   exact ⟨y::l1,k,l2,by rw [e];rfl,m⟩
theorem zH {ks:List Key} (h:¬ ks.Nodup):(jz ks).length<ks.length:=by
 obtain ⟨l1,k,l2,e,m⟩:=lW h
 have:(jz ks).length<=(l1++l2).length:=gO (Aj ks) λ x hx=>by
  rw [rP,e,List.mem_append,List.mem_cons] at hx
  rw [List.mem_append]
  rcases hx with z | z | z
  ·exact .inl z
  ·rw [z];exact .inr m
  ·exact .inr z
 have e2:=congrArg List.length e
 simp only [List.length_append,List.length_cons] at this e2
 omega
theorem x8 (ks:List Key):decide (((jz ks).length:Int)=ks.length)=decide ks.Nodup:=by
 refine decide_eq_decide.mpr ⟨λ h=>?_,λ h=>by rw [zK h]⟩
 by_cases z:ks.Nodup
 ·exact z
 ·have:=zH z;omega
def vd (H:Hp) (l:Addr) (ms:List (Str×Str)):Prop:=∃ ts:List Addr,H l=some (.lst (ts.map .ref))/\ts.length=ms.length/\∀ (i:Nat) t m,ts[i]?=some t->ms[i]?=some m->H t=some (dA m)
def jZ (ms:List (Str×Str)):List Key:=ms.map λ m=>.inr m.1
def pairsOk (ms:List (Str×Str)):Bool:=ms.all dn&&decide (jZ ms).Nodup
def vB (H:Hp):V->Bool
 | .ref t=>match H t with
  | some (.tup [.str x,.str y])=>dn (x,y)
  | _=>false
 | _=>false
theorem mF {H:Hp} {t:Addr} {m:Str×Str} (h:H t=some (dA m)):vB H (.ref t)=dn m:=by
 unfold vB
 simp only [h,dA]
theorem wb {H:Hp} {ts:List Addr} {ms:List (Str×Str)} (hl:ts.length=ms.length) (h:∀ (i:Nat) t m,ts[i]?=some t->ms[i]?=some m->H t=some (dA m)):(ts.map V.ref).all (vB H)=ms.all dn:=by
 rw [Bool.eq_iff_iff,List.all_eq_true,List.all_eq_true]
 constructor
 ·intro z m hm
  obtain ⟨i,hi,e⟩:=List.mem_iff_getElem.mp hm
  have hi':i<ts.length:=by omega
  rw [<- mF (h i ts[i] m (List.getElem?_eq_getElem hi') (by rw [List.getElem?_eq_getElem hi,e]))]
  exact z _ (List.mem_map.mpr ⟨ts[i],List.getElem_mem hi',rfl⟩)
 ·intro z v hv
  obtain ⟨t,ht,rfl⟩:=List.mem_map.mp hv
  obtain ⟨i,hi,e⟩:=List.mem_iff_getElem.mp ht
  have hi':i<ms.length:=by omega
  rw [mF (h i t ms[i] (by rw [List.getElem?_eq_getElem hi,e]) (List.getElem?_eq_getElem hi'))]
  exact z _ (List.getElem_mem hi')
section
variable {P:Program} {w:World} {K:PySem.W.Frag} {mg:Str->Option Value} {base:Heap} {a:Ad}
abbrev DG (K:PySem.W.Frag) (mg:Str->Option Value):=Df K mg "are_word_pairs" "are_word_pairs" (top 24) ["pairs"]
def yY (a:Ad):Sp:=λ vs H Q _=>∃ (l:Addr) (ms:List (Str×Str)),vs=[.ref l]/\vd H l ms/\ms.length<=1000/\(∀ m∈ms,m.1.length<=1000/\m.2.length<=1000)/\H a.tSL=some (Tb a.tSL)/\H a.tWP=some (Tb a.tWP)/\Pure (.bl (pairsOk ms)) H Q
theorem A4:aS ["pairs"] ["pairs"] (aw (top 24)):=⟨rfl,rfl,rfl,by decide +kernel,rfl,by decide +kernel,by decide +kernel⟩
theorem CC (D:DG K mg) (cP:b5 K D.cdv a.tWP) (hB:iM base) (dW:C4 K mg) (n6:F0 P w base 4 dW (y6 a)) (T:Txt K mg a):F0 P w base 6 D (yY a):=by
 refine Df.ok (k:=5) D.ex A4 (λ vs H Q E h=>?_) (λ A outer s H vs Q E hr h=>?_)
 ·obtain ⟨l,ms,rfl,_⟩:=h;rfl
 ·obtain ⟨l,ms,rfl,hp,hn,hm,tSL,tWP,q⟩:=h
  have nd:=A4.nd
  obtain ⟨ts,h1,h2,h3⟩:=id hp
  have line:1000<sizeLine:=by decide
  refine ⟨_,(ae (a8 (bu (bt (i8 (N:=["pair"]) (fs:=[]) (⟨rfl,rfl,rfl,by rfl,by rfl,trivial⟩) hB cP (hr.mono (by decide):bX (4+1) _) (by rfl) T.gX (bF (pv 0)) (λ _ _ _ _ _ _ _=>by exact (az (i:=0) (show List.Nodup (["pair"]:List Str) from by decide +kernel) rfl (Or.inl rfl))) (λ _ _ _ _ _ _ _ hr=>by exact (ay n6 (hr.mono (by decide)) (by rfl) dW.mg dW.kp dW.bd .nil aW (ai (pv 0) aa))))))
 (ar (aO cb))
 aH)
 (ar (aO (bI cj (aB (oA P w) (by rfl) T.br boot_len (ai (F2 (N:=["pair"]) (fs:=[]) (⟨rfl,by rfl,by rfl,by rfl,trivial⟩) rfl (bF (pv 0)) (λ _ _ _ _ _=>(az (i:=0) (show List.Nodup (["pair"]:List Str) from by decide +kernel) rfl (Or.inl rfl))) (λ _ _ _ _ _=>by exact cg) (λ _ _ _ _ _=>by exact (aY (Az K) (pv 0) af (λ _ _=>rfl))) P w) aa)) (aB aA (by rfl) T.br boot_len (ai (pv 0) aa)) (aC _))))),?_⟩
  lia
  refine ⟨l,rfl,⟨_,SqL.of h1⟩,qd (vB H) (SqL.of h1) tWP rfl (λ v hv=>?_) ?_⟩
  ·obtain ⟨t,ht,rfl⟩:=List.mem_map.mp hv
   obtain ⟨i,hi,e⟩:=List.mem_iff_getElem.mp ht
   have hi':i<ms.length:=by omega
   have hp:=h3 i t ms[i] (by rw [List.getElem?_eq_getElem hi,e]) (List.getElem?_eq_getElem hi')
   have hl:=hm _ (List.getElem_mem hi')
   lia
   exact ⟨t,ms[i],rfl,hp,hl.1,hl.2,tSL,rfl,by rw [mF hp]⟩
  ·rw [wb h2 h3]
   lia
   refine w_ite (λ z=>?_) (λ z=>?_)
   ·rw [Bool.not_eq_true'] at z
    lia
    unfold pairsOk at q
    rw [z,Bool.false_and] at q
    exact q H (ax.refl _)
   ·have z:ms.all dn=true:=by simpa using z
    lia
    refine ⟨l,rfl,⟨_,SqL.of h1⟩,scL (λ i=>.inr (ms.getD i ("","")).1) (SqL.of h1) (by rw [List.length_map];show _<4096;omega) rfl (λ D' L i Qc hD hi hq=>?_) (λ D' hD=>?_)⟩
    ·rw [List.length_map] at hi
     have hi':i<ms.length:=by omega
     have e1:(ts.map V.ref).getD i .non=V.ref ts[i]:=by simp [List.getD_eq_getElem?_getD,hi]
     have e2:ms.getD i ("","")=ms[i]:=by simp [List.getD_eq_getElem?_getD,hi']
     have ht:=h3 i ts[i] ms[i] (List.getElem?_eq_getElem hi) (List.getElem?_eq_getElem hi')
     rw [e1]
     rw [e2] at hq
     lia
     refine ⟨ts[i],_,0,_,rfl,rfl,SqT.of (show upd H D' _ ts[i]=_ by rw [aq (aj ht hD)];exact ht),aX (j:=0) rfl,hq⟩
    ·have ek:(List.range (ts.map V.ref).length).map (λ i=>(Sum.inr (ms.getD i ("","")).1:Key))=jZ ms:=by
      rw [List.length_map,h2]
      refine List.ext_getElem (by simp [jZ]) λ i u1 u2=>?_
      have:i<ms.length:=by simpa using u1
      simp [jZ,List.getD_eq_getElem?_getD,this]
     rw [ek]
     have s1:ax H (upd H D' (eH P w D' (jz (jZ ms)))):=ax.upd hD
     lia
     refine ⟨D',_,rfl,ag,?_,?_⟩
     ·have:=rp (jZ ms);have:(jZ ms).length=ms.length:=by unfold jZ;rw [List.length_map]
      omega
     lia
     refine ⟨l,_,rfl,.inl (SqL.of (s1 _ _ h1)),?_⟩
     lia
     unfold pairsOk at q
     rw [z,Bool.true_and,<- x8] at q
     have e:((ts.map V.ref).length:Int)=(jZ ms).length:=by unfold jZ;rw [List.length_map,List.length_map,h2]
     rw [e]
     exact q _ s1
structure Hm (fs:List (Str×V)) (t e:Str) (n:Addr):Prop where
 title:fs.lookup ("title":Str)=some (.str t)
 tX:fs.lookup ("ending":Str)=some (.str e)
 turns:fs.lookup ("turns":Str)=some (.ref n)
structure ix (a:Ad) (H:Hp) (p:Addr) (t e:Str) (n:Addr):Prop where
 ob:∃ dx fs,H p=some (.ins a.Kind dx fs)/\Hm fs t e n
theorem ix.same {H H':Hp} {p:Addr} {t e:Str} {n:Addr} (R:ix a H p t e n) (s:ax H H'):ix a H' p t e n:=by
 obtain ⟨dx,fs,h1,h2⟩:=R.ob
 exact ⟨dx,fs,s _ _ h1,h2⟩
def gv (t:Str):Bool:=decide ((1:Int)<=t.length)&&decide ((t.length:Int)<=8)&&j6 t
def cn (t e:Str) (ms:List (Str×Str)):Bool:=gv t&&(bD e&&pairsOk ms)
abbrev sKI:Stmt:=inClass (top 32) 0
abbrev pKI:List Str:=["self","title","ending","turns"]
abbrev DKI (K:PySem.W.Frag):=DfM K "__init__" "Kind.__init__" sKI pKI
def oI (a:Ad) (H:Hp):Prop:=H a.tSL=some (Tb a.tSL)/\H a.tWP=some (Tb a.tWP)
theorem oI.same {H H':Hp} (t:oI a H) (s:ax H H'):oI a H':=⟨s _ _ t.1,s _ _ t.2⟩
def Short (ms:List (Str×Str)):Prop:=ms.length<=1000/\∀ m∈ms,m.1.length<=1000/\m.2.length<=1000
def zm (a:Ad):Sp:=λ vs H Q E=>∃ (p dx:Addr) (t e:Str) (q:Addr) (ts:List Addr) (ms:List (Str×Str)),vs=[.ref p,.str t,.str e,.ref q]/\H p=some (.ins a.Kind dx [])/\H q=some (.lst (ts.map .ref))/\ts.length=ms.length/\(∀ (i:Nat) u m,ts[i]?=some u->ms[i]?=some m->H u=some (dA m)) /\
 t.length<=1000/\e.length<=1000/\Short ms/\oI a H /\
 ∀ H' n,H n=none->(∀ c o,H c=some o->c≠p->H' c=some o)->ix a H' p t e n->H' n=some (.lst (ts.map .ref))->if cn t e ms=true then Q .non H' else E (.ref a.my) none H'
theorem Eu:aS pKI pKI (aw sKI):=⟨rfl,rfl,rfl,by decide +kernel,rfl,by decide +kernel,by decide +kernel⟩
theorem E9 (D:DKI K) (aV:nB K mg) (bN:F0 P w base 2 aV (ku a.tSL)) (bg:o9 K mg) (dG:F0 P w base 3 bg (kQ a.tSL))
  (cQ:DG K mg) (k6:F0 P w base 6 cQ (yY a)) (T:Txt K mg a):cC P w K mg base (CXE P w) 7 D.f D.fd pKI (zm a):=by
 refine Df.okE (k:=6) D.ex Eu (λ vs H Q E h=>?_) (λ A outer s H vs Q E hr h=>?_)
 ·obtain ⟨p,dx,t,e,q,ts,ms,rfl,_⟩:=h;rfl
 ·obtain ⟨p,dx,t,e,q,ts,ms,rfl,hp,hq,hl,hm,lt,le,sh,tb,k⟩:=h
  have nd:=Eu.nd
  have hh:A.handled=none:=hr.hd
  have line:1000<sizeLine:=by decide
  have npq:q≠p:=dC hq hp (by intro z;cases z)
  refine ⟨_,(ae (cp (pv 0) (pv 1) (by rfl))
 (ae (cp (pv 0) (pv 2) (by rfl))
 (ae (cp (pv 0) (bf b8 (by rfl) T.cL boot_list (ai (pv 3) aa)) (by rfl))
 (ae (a8 (bu (bt (ay bN (hr.mono (by decide)) (by rfl) aV.mg aV.kp aV.bd .nil aW (ai (pv 1) (ai af (ai af aa))))))
 (ar (bO PySem.F.excBase_ValueError T.jd.ex T.dJ hh (by rfl) (ai aD aa) (hl:=λ _ _ _ z=>⟨by decide,z⟩)))
 aH)
 (ae (a8 (bu (bt (ay dG (hr.mono (by decide)) (by rfl) bg.mg bg.kp bg.bd .nil aW (ai (pv 2) aa))))
 (ar (bO PySem.F.excBase_ValueError T.jd.ex T.dJ hh (by rfl) (ai aD aa) (hl:=λ _ _ _ z=>⟨by decide,z⟩)))
 aH)
 (ar (a8 (bu (bt (ay k6 (hr.mono (by decide)) (by rfl) cQ.mg cQ.kp cQ.bd .nil aW (ai (aF (pv 0) (by rfl)) aa))))
 (ar (bO PySem.F.excBase_ValueError T.jd.ex T.dJ hh (by rfl) (ai aD aa) (hl:=λ _ _ _ z=>⟨by decide,z⟩)))
 aH))))))),?_⟩
  lia
  refine ⟨p,a.Kind,dx,_,rfl,hp,T.clK,T.dm,(by show 0<1000;decide),?_⟩
  lia
  refine ⟨p,a.Kind,dx,_,rfl,ag,T.clK,T.dM,(by show 1<1000;decide),?_⟩
  lia
  generalize hH5:upd (upd H p _) p _=H5
  have k5:∀ c,c≠p->H5 c=H c:=λ c hc=>by rw [<- hH5,aq hc,aq hc]
  have p5:H5 p=some (.ins a.Kind dx (cf "ending" (.str e) (cf "title" (.str t) []))):=by rw [<- hH5];exact ag
  refine ⟨q,_,rfl,.inl (SqL.of ((k5 q npq).trans hq)),λ n hn=>?_⟩
  have npn:n≠p:=λ z=>by rw [z,p5] at hn;cases hn
  have hn0:H n=none:=(k5 n npn).symm.trans hn
  lia
  refine ⟨p,a.Kind,dx,_,rfl,(by rw [aq (Ne.symm npn)];exact p5),T.clK,T.eQ,(by show 2<1000;decide),?_⟩
  lia
  generalize hH7:upd (upd H5 n _) p _=H7
  have k7:∀ c o,H c=some o->c≠p->H7 c=some o:=λ c o hc hcp=>by rw [<- hH7,aq hcp,aq (aj hc hn0),k5 c hcp];exact hc
  have R:ix a H7 p t e n:=⟨dx,_,by rw [<- hH7];exact ag,⟨rfl,rfl,rfl⟩⟩
  have n7:H7 n=some (.lst (ts.map .ref)):=by rw [<- hH7,aq npn];exact ag
  have nt:∀ t,H t=some (Tb t)->t≠p:=λ t e=>dC e hp (by intro z;cases z)
  have t7:oI a H7:=⟨k7 _ _ tb.1 (nt _ tb.1),k7 _ _ tb.2 (nt _ tb.2)⟩
  have m7:vd H7 n ms:=⟨ts,n7,hl,λ i u m x y=>k7 _ _ (hm i u m x y) (dC (hm i u m x y) hp (by intro z;cases z))⟩
  have kk:∀ H8,ax H7 H8->if cn t e ms=true then Q .non H8 else E (.ref a.my) none H8:=λ H8 s8=>k H8 n hn0 (λ c o hc hcp=>s8 _ _ (k7 c o hc hcp)) (R.same s8) (s8 _ _ n7)
  clear hH7 hH5 k5 p5 hn
  unfold cn at kk
  refine ⟨t,1,8,rfl,by omega,t7.1,?_⟩
  show _
  rw [show (decide ((1:Int)<=t.length)&&decide ((t.length:Int)<=8)&&j6 t)=gv t from rfl]
  lia
  refine w_ite (λ z1=>?_) (λ z1=>?_)
  ·rw [Bool.not_eq_true'] at z1
   lia
   have k7:=kk H7 (ax.refl _)
   rw [z1,Bool.false_and,if_neg Bool.false_ne_true] at k7
   exact k7
  ·have z1:gv t=true:=by simpa using z1
   rw [z1,Bool.true_and] at kk
   lia
   refine ⟨e,rfl,by omega,t7.1,?_⟩
   lia
   refine w_ite (λ z2=>?_) (λ z2=>?_)
   ·rw [Bool.not_eq_true'] at z2
    lia
    have k7:=kk H7 (ax.refl _)
    rw [z2,Bool.false_and,if_neg Bool.false_ne_true] at k7
    exact k7
   ·have z2:bD e=true:=by simpa using z2
    rw [z2,Bool.true_and] at kk
    lia
    obtain ⟨dx',fs,r1,r2⟩:=id R.ob
    refine ⟨p,a.Kind,dx',fs,_,rfl,r1,T.clK,T.eQ,r2.turns,?_⟩
    lia
    refine ⟨n,ms,rfl,m7,sh.1,sh.2,t7.1,t7.2,λ H8 s8=>?_⟩
    have k8:=kk H8 s8
    lia
    refine w_ite (λ z3=>?_) (λ z3=>?_)
    ·rw [Bool.not_eq_true'] at z3
     lia
     rw [z3,if_neg Bool.false_ne_true] at k8
     exact k8
    ·have z3:pairsOk ms=true:=by simpa using z3
     rw [z3,if_pos rfl] at k8
     lia
     exact k8
end
theorem jO {x:Str} {l:List Str}:inV (.str x) (l.map V.str)=true↔x∈l:=by
 unfold inV
 rw [List.any_map,List.any_eq_true]
 constructor
 ·rintro ⟨y,hy,e⟩
  have e:(y==x)=true:=e
  rw [<- beq_iff_eq.mp e];exact hy
 ·intro h
  exact ⟨x,h,beq_self_eq_true x⟩
theorem xE (x:Str) (l:List Str):inV (.str x) (l.map V.str)=decide (x∈l):=by
 rw [Bool.eq_iff_iff,jO,decide_eq_true_eq]
section
variable {P:Program} {w:World} {K:PySem.W.Frag} {mg:Str->Option Value} {base:Heap} {a:Ad}
def oj (a:Ad) (H:Hp) (zs:List Addr) (tt:List Str):Prop:=zs.length=tt.length/\∀ (i:Nat) o t,zs[i]?=some o->tt[i]?=some t->∃ e n,ix a H o t e n
abbrev CI (K:PySem.W.Frag) (mg:Str->Option Value):=Df K mg "check_titles" "check_titles" (top 30) ["kinds"]
def xy (a:Ad):Sp:=λ vs H Q _=>∃ (l:Addr) (ts:List Addr) (ks:List Str),vs=[.ref l]/\H l=some (.lst (ts.map .ref))/\oj a H ts ks/\ks.Nodup/\ks.length<=1000/\Pure .non H Q
theorem BQ:aS ["kinds","titles","kind"] ["kinds"] (aw (top 30)):=⟨rfl,rfl,rfl,by decide +kernel,rfl,by decide +kernel,by decide +kernel⟩
theorem CP (D:CI K mg) (T:Txt K mg a):F0 P w base 1 D (xy a):=by
 refine Df.ok (k:=0) D.ex BQ (λ vs H Q E h=>?_) (λ A outer s H vs Q E hr h=>?_)
 ·obtain ⟨l,ts,ks,rfl,_⟩:=h;rfl
 ·obtain ⟨l,ts,ks,rfl,h1,⟨h2,h3⟩,hnd,hlen,k⟩:=h
  have nd:=BQ.nd
  have line:1000<sizeLine:=by decide
  refine ⟨_,(ae (aN (i:=1) nd rfl (Or.inl rfl) (a5 aa))
 (ar (fu PassesOwn.never rfl (bF (pv 0)) (az (i:=2) nd rfl (Or.inl rfl))
 (ae (a8 (aL kM (aF (pv 2) (by rfl)) (pv 1) (by with_unfolding_all rfl))
 (ar i3)
 aH)
 (ar (bx (b6 PySem.F.plainAttrs_list PySem.F.slot_list_append PySem.F.type_list_append bE (pv 1) (ai (aF (pv 2) (by rfl)) aa)))))))),?_⟩
  lia
  refine ⟨by show 0<=sizeLine;decide,λ t ht=>?_⟩
  lia
  have nlt:l≠t:=aj h1 ht
  refine ⟨l,rfl,⟨_,SqL.of (by rw [aq nlt];exact h1)⟩,forL (K:=K) (a:=l) (xs:=ts.map V.ref) (λ i σ H2=>∃ v2,σ=[some (V.ref l),some (V.ref t),v2]/\(∀ c o,H c=some o->H2 c=some o)/\H2 t=some (.lst ((ks.take i).map .str)))
   ⟨none,rfl,λ c o e=>by rw [aq (aj e ht)];exact e,ag⟩ (λ i σ H2 _ ⟨_,_,e,_⟩=>SqL.of (e _ _ h1)) ?_ ?_⟩
  ·rintro i v σ H2 hv ⟨v2,rfl,kp,g2⟩
   rw [List.getElem?_map] at hv
   obtain ⟨p,hp,rfl⟩:=Option.map_eq_some_iff.mp hv
   have hi:i<ts.length:=(List.getElem?_eq_some_iff.mp hp).1
   have hi':i<ks.length:=by omega
   have hki:ks[i]?=some ks[i]:=List.getElem?_eq_getElem hi'
   obtain ⟨_,n,kf⟩:=h3 i p ks[i] hp hki
   obtain ⟨dx,fs,r1,r2⟩:=(kf.same kp).ob
   lia
   refine ⟨p,a.Kind,dx,fs,_,rfl,r1,T.clK,T.dm,r2.title,?_⟩
   lia
   have nin:ks[i] ∉ ks.take i:=λ z=>by
    obtain ⟨j,hj,e2⟩:=List.mem_iff_getElem.mp z
    have hj1:j<i:=by rw [List.length_take] at hj;omega
    rw [List.getElem_take] at e2
    have:=(List.getElem_inj (i:=j) (j:=i) (h₀:=by omega) (h₁:=by omega) hnd).mp e2
    omega
   refine ⟨t,_,rfl,.inl (SqL.of g2),rfl,dE _,?_⟩
   rw [if_neg Bool.false_ne_true,xE,decide_eq_false nin]
   lia
   refine ⟨.inl ⟨rfl,_,SqL.of g2⟩,?_⟩
   lia
   refine ⟨p,a.Kind,dx,fs,_,rfl,r1,T.clK,T.dm,r2.title,?_⟩
   lia
   refine ⟨t,_,_,rfl,rfl,g2,by rw [List.length_map,List.length_take];omega,?_⟩
   refine ⟨_,rfl,λ c o e=>by rw [aq (aj e ht)];exact kp c o e,?_⟩
   rw [ag,List.take_succ,hki,List.map_append]
   rfl
  ·rintro σ H2 ⟨v2,rfl,kp,g2⟩
   exact k H2 kp
structure FY (fs:List (Str×V)) (b:Int) (r q k:Addr):Prop where
 bound:fs.lookup ("bound":Str)=some (.int b)
 rules:fs.lookup ("rules":Str)=some (.ref r)
 yx:fs.lookup ("melts":Str)=some (.ref q)
 kinds:fs.lookup ("kinds":Str)=some (.ref k)
structure lF (a:Ad) (H:Hp) (p:Addr) (b:Int) (rs ms ks:List Addr):Prop where
 ob:∃ dx fs r q k,H p=some (.ins a.bH dx fs)/\FY fs b r q k/\H r=some (.lst (rs.map .ref))/\H q=some (.lst (ms.map .ref))/\H k=some (.lst (ks.map .ref))
theorem lF.same {H H':Hp} {p:Addr} {b:Int} {rs ms ks:List Addr} (R:lF a H p b rs ms ks) (s:ax H H'):lF a H' p b rs ms ks:=by
 obtain ⟨dx,fs,r,q,k,h1,h2,h3,h4,h5⟩:=R.ob
 exact ⟨dx,fs,r,q,k,s _ _ h1,h2,s _ _ h3,s _ _ h4,s _ _ h5⟩
abbrev sTI:Stmt:=inClass (top 27) 0
abbrev pTI:List Str:=["self","bound","rules","melts","kinds"]
abbrev vz (K:PySem.W.Frag):=DfD K "__init__" "Tongue.__init__" sTI pTI
def qi (a:Ad):Sp:=λ vs H Q _=>∃ (p dx:Addr) (b:Int) (r q z:Addr) (rs ms ks:List Addr) (tt:List Str),vs=[.ref p,.int b,.ref r,.ref q,.ref z]/\H p=some (.ins a.bH dx [])/\0<=b/\H r=some (.lst (rs.map .ref))/\H q=some (.lst (ms.map .ref))/\(∀ t∈ms,∃ m,H t=some (jA m)/\c8 m=true)/\H z=some (.lst (ks.map .ref))/\oj a H ks tt/\tt.Nodup/\tt.length<=1000/\H a.tSL=some (Tb a.tSL)/\H a.tTI=some (Tb a.tTI) /\
 ∀ H',(∀ c o,H c=some o->c≠p->H' c=some o)->lF a H' p b rs ms ks->Q .non H'
theorem De:aS pTI pTI (aw sTI):=⟨rfl,rfl,rfl,by decide +kernel,rfl,by decide +kernel,by decide +kernel⟩
theorem AY (D:vz K) (cP:b5 K D.cdv a.tTI) (hB:iM base) (dr:DH K mg) (nE:F0 P w base 1 dr (xA K)) (cU:vq K mg) (lA:F0 P w base 3 cU (qB a))
  (dS:CI K mg) (nY:F0 P w base 1 dS (xy a)) (T:Txt K mg a):cC P w K mg base CX0 6 D.f D.fd pTI (qi a):=by
 refine DfD.ok (k:=5) D De (λ vs H Q E h=>?_) (λ A outer s H vs Q E hr h=>?_)
 ·obtain ⟨p,dx,b,r,q,z,rs,ms,ks,tt,rfl,_⟩:=h;rfl
 ·obtain ⟨p,dx,b,r,q,z,rs,ms,ks,tt,rfl,hp,b0,hr0,hq1,hq3,hz1,ht,hnd,hlen,tSL,tTI,k⟩:=h
  have no:∀ {c:Addr} {o:HO},H c=some o->(o≠.ins a.bH dx [])->c≠p:=λ e n=>dC e hp n
  refine ⟨_,(ae (cp (pv 0) (pv 1) (by rfl))
 (ae (cp (pv 0) (bf b8 (by rfl) T.cL boot_list (ai (pv 2) aa)) (by rfl))
 (ae (cp (pv 0) (ay nE (hr.mono (by decide)) (by rfl) dr.mg dr.kp dr.bd .nil aW (ai (pv 3) aa)) (by rfl))
 (ae (cp (pv 0) (ay nE (hr.mono (by decide)) (by rfl) dr.mg dr.kp dr.bd .nil aW (ai (pv 4) aa)) (by rfl))
 (ae (a8 (aL iU (pv 1) af (aC _))
 (ar i3)
 aH)
 (ae (a8 (bu (bt (i8 (N:=["melt"]) (fs:=[]) (⟨rfl,rfl,rfl,by rfl,by rfl,trivial⟩) hB cP (hr.mono (by decide):bX (4+1) _) (by rfl) T.gX (bF (aF (pv 0) (by rfl))) (λ _ _ _ _ _ _ _=>by exact (az (i:=0) (show List.Nodup (["melt"]:List Str) from by decide +kernel) rfl (Or.inl rfl))) (λ _ _ _ _ _ _ _ hr=>by exact (ay lA (hr.mono (by decide)) (by rfl) cU.mg cU.kp cU.bd .nil aW (ai (pv 0) aa))))))
 (ar i3)
 aH)
 (ar (bx (ay nY (hr.mono (by decide)) (by rfl) dS.mg dS.kp dS.bd .nil aW (ai (aF (pv 0) (by rfl)) aa)))))))))),?_⟩
  lia
  refine ⟨p,a.bH,dx,_,rfl,hp,T.cl,T.fN,(by show 0<1000;decide),?_⟩
  lia
  generalize hH1:upd H p _=H1
  have k1:∀ c,c≠p->H1 c=H c:=λ c hc=>by rw [<- hH1,aq hc]
  have p1:H1 p=some (.ins a.bH dx (cf "bound" (.int b) [])):=by rw [<- hH1];exact ag
  have r1:H1 r=some (.lst (rs.map .ref)):=(k1 r (no hr0 (by intro z;cases z))).trans hr0
  refine ⟨r,_,rfl,.inl (SqL.of r1),λ n2 h2=>?_⟩
  lia
  have np2:p≠n2:=aj p1 h2
  refine ⟨p,a.bH,dx,_,rfl,(by rw [aq np2];exact p1),T.cl,T.fD,(by show 1<1000;decide),?_⟩
  lia
  generalize hH2:upd (upd H1 n2 _) p _=H2
  have k2:∀ c o,H c=some o->c≠p->H2 c=some o:=λ c o hc n=>by
   have h1c:H1 c=some o:=(k1 c n).trans hc
   rw [<- hH2,aq n,aq (aj h1c h2)];exact h1c
  have p2:H2 p=some (.ins a.bH dx (cf "rules" (.ref n2) (cf "bound" (.int b) []))):=by rw [<- hH2];exact ag
  have g2:H2 n2=some (.lst (rs.map .ref)):=by rw [<- hH2,aq (Ne.symm np2)];exact ag
  clear hH2 hH1 h2
  refine ⟨.ref q,_,rfl,.inr ⟨q,rfl,SqL.of (k2 _ _ hq1 (no hq1 (by intro z;cases z)))⟩,λ n3 h3=>?_⟩
  lia
  have np3:p≠n3:=aj p2 h3
  refine ⟨p,a.bH,dx,_,rfl,(by rw [aq np3];exact p2),T.cl,T.fM,(by show 2<1000;decide),?_⟩
  lia
  generalize hH3:upd (upd H2 n3 _) p _=H3
  have k23:∀ c o,H2 c=some o->c≠p->H3 c=some o:=λ c o hc n=>by rw [<- hH3,aq n,aq (aj hc h3)];exact hc
  have p3:H3 p=some (.ins a.bH dx (cf "melts" (.ref n3) (cf "rules" (.ref n2) (cf "bound" (.int b) [])))):=by rw [<- hH3];exact ag
  have g3:H3 n3=some (.lst (ms.map .ref)):=by rw [<- hH3,aq (Ne.symm np3)];exact ag
  clear hH3 h3
  have nzp:z≠p:=no hz1 (by intro z;cases z)
  refine ⟨.ref z,_,rfl,.inr ⟨z,rfl,SqL.of (k23 _ _ (k2 _ _ hz1 nzp) nzp)⟩,λ n4 h4=>?_⟩
  lia
  have np4:p≠n4:=aj p3 h4
  refine ⟨p,a.bH,dx,_,rfl,(by rw [aq np4];exact p3),T.cl,T.eO,(by show 3<1000;decide),?_⟩
  generalize hH4:upd (upd H3 n4 _) p _=H4
  have k34:∀ c o,H3 c=some o->c≠p->H4 c=some o:=λ c o hc n=>by rw [<- hH4,aq n,aq (aj hc h4)];exact hc
  have p4:H4 p=some (.ins a.bH dx (cf "kinds" (.ref n4) (cf "melts" (.ref n3) (cf "rules" (.ref n2) (cf "bound" (.int b) []))))):=by rw [<- hH4];exact ag
  have g4:H4 n4=some (.lst (ks.map .ref)):=by rw [<- hH4,aq (Ne.symm np4)];exact ag
  clear hH4 h4
  have k04:∀ c o,H c=some o->c≠p->H4 c=some o:=λ c o hc n=>k34 _ _ (k23 _ _ (k2 _ _ hc n) n) n
  have g34:=k34 _ _ g3 (Ne.symm np3)
  have fl:FY (cf "kinds" (.ref n4) (cf "melts" (.ref n3) (cf "rules" (.ref n2) (cf "bound" (.int b) [])))) b n2 n3 n4:=⟨rfl,rfl,rfl,rfl⟩
  generalize cf "kinds" (.ref n4) (cf "melts" (.ref n3) (cf "rules" (.ref n2) (cf "bound" (.int b) [])))=fs at p4 fl
  have KA:oj a H4 ks tt:=⟨ht.1,λ i o t x y=>by
   obtain ⟨e,n,kx⟩:=ht.2 i o t x y
   obtain ⟨dx',fs',r1',r2'⟩:=kx.ob
   exact ⟨e,n,⟨dx',fs',k04 _ _ r1' (λ e=>by rw [e,hp] at r1';injection r1' with r1';injection r1' with _ _ r3;rw [<- r3] at r2';cases r2'.title),r2'⟩⟩⟩
  have TA:lF a H4 p b rs ms ks:=⟨dx,fs,n2,n3,n4,p4,fl,k34 _ _ (k23 _ _ g2 (Ne.symm np2)) (Ne.symm np2),g34,g4⟩
  have t4:H4 a.tTI=some (Tb a.tTI):=k04 _ _ tTI (no tTI (by intro z;cases z))
  have s4:H4 a.tSL=some (Tb a.tSL):=k04 _ _ tSL (no tSL (by intro z;cases z))
  lia
  rw [decide_eq_false (show ¬ b<0 by omega)]
  lia
  refine ⟨p,_,dx,fs,_,rfl,p4,T.cl,T.fM,fl.yx,?_⟩
  refine ⟨n3,rfl,⟨_,SqL.of g34⟩,qd (λ _=>true) (SqL.of g34) t4 rfl (λ v hv=>?_) ?_⟩
  ·obtain ⟨t,ht,rfl⟩:=List.mem_map.mp hv
   obtain ⟨m,hm1,hm2⟩:=hq3 t ht
   lia
   exact ⟨t,m,rfl,k04 _ _ hm1 (no hm1 (by intro z;cases z)),hm2,s4,rfl,rfl⟩
  rw [show ((ms.map V.ref).all λ _=>true)=true by simp]
  lia
  refine ⟨p,_,dx,fs,_,rfl,p4,T.cl,T.eO,fl.kinds,?_⟩
  lia
  exact ⟨n4,ks,tt,rfl,g4,KA,hnd,hlen,λ H5 s5=>k H5 (λ c o hc n=>s5 _ _ (k04 _ _ hc n)) (TA.same s5)⟩
end
structure bh (H:Hp) (at':Addr) (c:Nat):Prop where
 ob:∃ i n g:Int,H at'=some (.lst [.int i,.int n,.int g])/\0<=i/\i<=c/\0<=n/\n<2 ^ 31/\0<=g
theorem bh.same {H H':Hp} {at':Addr} {c:Nat} (h:bh H at' c) (s:ax H H'):bh H' at' c:=let ⟨i,n,g,a,b⟩:=h.ob;⟨i,n,g,s _ _ a,b⟩
theorem bh.mono {H:Hp} {at':Addr} {c d:Nat} (h:bh H at' c) (l:c<=d):bh H at' d:=let ⟨i,n,g,a,b,e,f⟩:=h.ob;⟨i,n,g,a,b,by omega,f⟩
section
variable {P:Program} {w:World} {K:PySem.W.Frag} {mg:Str->Option Value} {base:Heap} {a:Ad}
theorem bw (i:Int) {j:Int} (h:0<j):0<=i % j:=Int.emod_nonneg _ (by omega)
theorem mod_lt (i:Int) {j:Int} (h:0<j):i % j<j:=Int.emod_lt_of_pos _ h
abbrev uf (K:PySem.W.Frag) (mg:Str->Option Value):=Df K mg "_law_begin" "_law_begin" (top 53) ["_law_script"]
def qH (K:PySem.W.Frag):Sp:=λ vs H Q _=>∃ (p:Addr) (ns:List Int),vs=[.ref p]/\SqL K H p (ns.map .int)/\ns.length<=63/\∀ q,H q=none->∀ n g:Int,0<=n->n<2 ^ 31->0<=g->Q (.ref q) (upd H q (.lst [.int 0,.int n,.int g]))
theorem vI:aS ["_law_script","_law_number","_law_cell"] ["_law_script"] (aw (top 53)):=⟨rfl,rfl,rfl,by decide +kernel,rfl,by decide +kernel,by decide +kernel⟩
theorem xg (D:uf K mg) (bAbs:mg "abs"=none) (T:Txt K mg a):F0 P w base 1 D (qH K):=by
 refine Df.ok (k:=0) D.ex vI (λ vs H Q E h=>?_) (λ A outer s H vs Q E hr h=>?_)
 ·obtain ⟨p,ns,rfl,_⟩:=h;rfl
 ·obtain ⟨p,ns,rfl,hp,hlen,k⟩:=h
  have nd:=vI.nd
  refine ⟨_,(ae (aN (i:=1) nd rfl (Or.inl rfl) af)
 (ae (fu PassesOwn.never rfl (bF (pv 0)) (az (i:=2) nd rfl (Or.inl rfl))
 (ar (aN (i:=1) nd rfl (Or.inl rfl) (au aG (au bT (au bT (au eE (pv 1) af) (au aG (pv 2) af)) af) af))))
 (ae (a8 (pw_and (aL nX (aB aA (by rfl) T.br boot_len (ai (pv 0) aa)) af (aC _)) (pw_and1 (aL cj (au aG (pv 1) af) af (aC _)))).pt
 (ar (aO (a5 (ai af (ai (pv 1) (ai (aB wK (by rfl) bAbs boot_abs (ai (aY aQ (pv 0) af (λ _ _=>rfl)) aa)) aa))))))
 aH)
 (ar (aO (a5 (ai af (ai (pv 1) (ai af aa))))))))),?_⟩
  lia
  refine ⟨p,rfl,⟨_,hp⟩,forL (K:=K) (a:=p) (xs:=ns.map V.int) (λ i σ H2=>∃ (n:Int) (v2:Option V),σ=[some (V.ref p),some (V.int n),v2]/\H=H2/\0<=n/\n<2 ^ 31) ⟨7,none,rfl,rfl,by decide,by decide⟩ (λ i σ H2 _ ⟨_,_,_,e,_⟩=>by rw [<- e];exact hp) ?_ ?_⟩
  ·rintro i v σ _ hv ⟨n,v2,rfl,rfl,n0,n1⟩
   rw [List.getElem?_map] at hv
   obtain ⟨c,_,rfl⟩:=Option.map_eq_some_iff.mp hv
   lia
   refine w_I (.inr ⟨by decide,by decide⟩) ?_
   lia
   have m0:=bw (n * 69621+c % 2147483647+11) (show (0:Int)<2147483647 by decide)
   have m1:=mod_lt (n * 69621+c % 2147483647+11) (show (0:Int)<2147483647 by decide)
   exact ⟨_,_,rfl,rfl,m0,by omega⟩
  ·rintro σ _ ⟨n,v2,rfl,rfl,n0,n1⟩
   lia
   refine ⟨p,_,rfl,.inl hp,?_⟩
   lia
   refine w_ite (λ z=>?_) (λ z=>?_)
   ·have z:(0:Int)<((ns.map V.int).length:Nat):=of_decide_eq_true z
    lia
    refine w_ite (λ z2=>?_) (λ z2=>?_)
    ·lia
     obtain ⟨v,hv,ev⟩:=fX (xs:=ns.map V.int) (i:=0) (by decide) z
     obtain ⟨ce,_,rfl⟩:=List.mem_map.mp hv
     refine ⟨p,_,_,_,rfl,rfl,hp,ev,?_⟩
     lia
     refine ⟨ce,rfl,?_⟩
     lia
     exact ⟨by show 3<=sizeLine;decide,λ q hq=>k q hq n _ n0 n1 (by split <;> omega)⟩
    ·lia
     exact ⟨by show 3<=sizeLine;decide,λ q hq=>k q hq n 0 n0 n1 (by decide)⟩
   ·lia
    exact ⟨by show 3<=sizeLine;decide,λ q hq=>k q hq n 0 n0 n1 (by decide)⟩
abbrev iK (K:PySem.W.Frag) (mg:Str->Option Value):=Df K mg "_law_next" "_law_next" (top 54) ["_law_script","_law_at"]
def fz (K:PySem.W.Frag):Sp:=λ vs H Q _=>∃ (p q:Addr) (ns:List Int) (c:Nat),vs=[.ref p,.ref q]/\Scr K q H p ns/\ns.length<=63/\bh H q c/\c<=1000000/\∀ H' (r:Int),0<=r->r<2 ^ 34->KB q H H'->bh H' q (c+1)->Q (.int r) H'
theorem yn:aS ["_law_script","_law_at","_law_number","_law_cell"] ["_law_script","_law_at"] (aw (top 54)):=⟨rfl,rfl,rfl,by decide +kernel,rfl,by decide +kernel,by decide +kernel⟩
theorem AJ (D:iK K mg) (T:Txt K mg a):F0 P w base 1 D (fz K):=by
 refine Df.ok (k:=0) D.ex yn (λ vs H Q E h=>?_) (λ A outer s H vs Q E hr h=>?_)
 ·obtain ⟨p,q,ns,c,rfl,_⟩:=h;rfl
 ·obtain ⟨p,q,ns,c,rfl,sc,hlen,ao,hc,k⟩:=h
  obtain ⟨i,n,g,hq,i0,i1,n0,n1,g0⟩:=ao.ob
  have nd:=yn.nd
  refine ⟨_,(ae (ir (au bT (aY aQ (pv 1) af (λ _ _=>rfl)) af) (tW (pv 1) af set_list))
 (ae (a8 (pw_and (aL nX (aY aQ (pv 1) af (λ _ _=>rfl)) af (aC _)) (pw_and1 (aL iU (aY aQ (pv 1) af (λ _ _=>rfl)) af (aC _)))).pt
 (ae (aN (i:=2) nd rfl (Or.inl rfl) (au aG (aY aQ (pv 1) af (λ _ _=>rfl)) (au nP af af)))
 (ae (ir (au iY (aY aQ (pv 1) af (λ _ _=>rfl)) (au nP af af)) (tW (pv 1) af set_list))
 (ar (aO (pv 2)))))
 aH)
 (ae (aN (i:=3) nd rfl (Or.inl rfl) af)
 (ae (a8 (aL nX (aB aA (by rfl) T.br boot_len (ai (pv 0) aa)) af (aC _))
 (ar (aN (i:=3) nd rfl (Or.inl rfl) (aY aQ (pv 0) (au aG (aY aQ (pv 1) af (λ _ _=>rfl)) (aB aA (by rfl) T.br boot_len (ai (pv 0) aa))) (λ _ _=>rfl))))
 aH)
 (ae (ir (au aG (au eE (au bT (au bT (aY aQ (pv 1) af (λ _ _=>rfl)) (au aG (pv 3) af)) (au eE (aY aQ (pv 1) af (λ _ _=>rfl)) (aY aQ (pv 1) af (λ _ _=>rfl)))) af) af) (tW (pv 1) af set_list))
 (ar (aO (au bc (aY aQ (pv 1) af (λ _ _=>rfl)) af)))))))),?_⟩
  lia
  refine ⟨q,_,0,_,rfl,rfl,SqL.of hq,aX (j:=0) rfl,?_⟩
  lia
  refine ⟨q,_,0,0,rfl,rfl,hq,rfl,?_⟩
  have sc1:=sc.kb (KB.at (o:=.lst [.int (i+1),.int n,.int g]))
  have hq1:(upd H q (.lst [.int (i+1),.int n,.int g])) q=some (.lst [.int (i+1),.int n,.int g]):=ag
  have kb1:KB q H (upd H q (.lst [.int (i+1),.int n,.int g])):=KB.at
  show sW _ _ _ _ (upd H q (.lst [.int (i+1),.int n,.int g]))
  generalize upd H q (.lst [.int (i+1),.int n,.int g])=H1 at sc1 hq1 kb1 ⊢
  (repeat array_mem_dec)
  refine iX (λ σ2 H2=>σ2=[some (V.ref p),some (V.ref q),none,none]/\H1=H2) (λ nx' hj=>?_) ?_
  ·have no:=hj _ _ ⟨rfl,rfl⟩
   lia
   refine ⟨q,_,2,_,rfl,rfl,SqL.of hq1,aX (j:=2) rfl,?_⟩
   lia
   refine w_ite (λ z1=>?_) (λ z1=>no)
   lia
   refine ⟨q,_,0,_,rfl,rfl,SqL.of hq1,aX (j:=0) rfl,?_⟩
   lia
   refine w_ite (λ z2=>?_) (λ z2=>no)
   lia
   refine ⟨q,_,2,_,rfl,rfl,SqL.of hq1,aX (j:=2) rfl,?_⟩
   lia
   refine w_I (by unfold B7;decide) ?_
   have t0:0<(10:Int) ^ (10:Int).toNat/\(10:Int) ^ (10:Int).toNat<2 ^ 34/\((10:Int) ^ (10:Int).toNat).natAbs.log2<9000:=by decide +kernel
   refine w_mod t0.1 ?_
   lia
   refine ⟨q,_,2,_,rfl,rfl,SqL.of hq1,aX (j:=2) rfl,?_⟩
   lia
   refine w_I (by unfold B7;decide) ?_
   refine w_I (C:=u6) ⟨t0.1,t0.2.2⟩ ?_
   have m0:=bw g t0.1
   have m1:=mod_lt g t0.1
   have d0:0<=g / (10:Int) ^ (10:Int).toNat:=Int.ediv_nonneg g0 (Int.le_of_lt t0.1)
   generalize (10:Int) ^ (10:Int).toNat=t10 at t0 m0 m1 d0 ⊢
   lia
   refine ⟨q,_,2,2,rfl,rfl,hq1,rfl,?_⟩
   show Cj _ _ _ (upd H1 q (.lst [.int (i+1),.int n,.int (g / t10)]))
   lia
   exact k _ _ m0 (by omega) (kb1.trans KB.at) ⟨i+1,n,g / t10,ag,by omega,by omega,n0,n1,d0⟩
  rintro σ2 _ ⟨rfl,rfl⟩
  (repeat array_mem_dec)
  refine iX (λ σ2 H2=>∃ ce:Int,σ2=[some (V.ref p),some (V.ref q),none,some (V.int ce)]/\H1=H2) (λ nx' hj=>?_) ?_
  ·lia
   refine ⟨p,_,rfl,.inl sc1.1,?_⟩
   lia
   refine w_ite (λ z=>?_) (λ z=>?_)
   ·have z:(0:Int)<((ns.map V.int).length:Nat):=of_decide_eq_true z
    lia
    refine ⟨q,_,0,_,rfl,rfl,SqL.of hq1,aX (j:=0) rfl,?_⟩
    lia
    refine ⟨p,_,rfl,.inl sc1.1,?_⟩
    refine w_mod z ?_
    obtain ⟨v,hv,ev⟩:=fX (xs:=ns.map V.int) (bw (i+1) z) (mod_lt (i+1) z)
    obtain ⟨ce,_,rfl⟩:=List.mem_map.mp hv
    refine ⟨p,_,_,_,rfl,rfl,sc1.1,ev,?_⟩
    lia
    exact hj _ _ ⟨ce,rfl,rfl⟩
   ·lia
    exact hj _ _ ⟨0,rfl,rfl⟩
  ·rintro σ2 _ ⟨ce,rfl,rfl⟩
   lia
   refine ⟨q,_,1,_,rfl,rfl,SqL.of hq1,aX (j:=1) rfl,?_⟩
   lia
   refine ⟨q,_,0,_,rfl,rfl,SqL.of hq1,aX (j:=0) rfl,?_⟩
   lia
   refine ⟨q,_,0,_,rfl,rfl,SqL.of hq1,aX (j:=0) rfl,?_⟩
   refine w_I (.inl ⟨by omega,by omega⟩) ?_
   lia
   refine w_I (.inr ⟨by decide,by decide⟩) ?_
   lia
   have m0:=bw ((n+ce % 2147483647+(i+1) * (i+1)) * 48271) (show (0:Int)<2147483629 by decide)
   have m1:=mod_lt ((n+ce % 2147483647+(i+1) * (i+1)) * 48271) (show (0:Int)<2147483629 by decide)
   generalize (n+ce % 2147483647+(i+1) * (i+1)) * 48271 % 2147483629=m at m0 m1 ⊢
   refine ⟨q,_,1,1,rfl,rfl,hq1,rfl,?_⟩
   have e2:[V.int (i+1),V.int n,V.int g].set 1 (V.int m)=[V.int (i+1),V.int m,V.int g]:=rfl
   rw [e2]
   lia
   refine ⟨q,_,1,_,rfl,rfl,SqL.of ag,aX (j:=1) rfl,?_⟩
   lia
   have d0:0<=m / 3:=Int.ediv_nonneg m0 (by decide)
   have d1:m / 3<2 ^ 34:=by omega
   exact k _ _ d0 d1 (kb1.trans KB.at) ⟨i+1,m,g,ag,by omega,by omega,m0,by omega,g0⟩
end
end K33
namespace L2
open PySem PySem.Spec PyProof.Rows
theorem Cs (x:Str) {a b:Nat} (hab:a<=b) (hb:b<=x.length):(Txt.slice x (some (a:Int)) (some (b:Int))).cps.toList=(x.cps.toList.drop a).take (b - a):=by
 unfold Txt.slice
 have e:=StrLaws.sliced_plain x hab hb
 have el:(Builtin.Str.strSliceIndices (some (a:Int)) (some (b:Int)) 1 x.length).length=b - a:=by
  rw [StrLaws.strSliceIndices_plain hab hb];simp
 split
 ·rename_i z
  rw [el] at z
  have z:b - a=x.length:=by simpa using z
  rcases Nat.eq_zero_or_pos a with h | h
  ·subst h
   rw [List.drop_zero,z,List.take_of_length_le (by rw [<- cH];exact Nat.le_refl _)]
  ·have hz:x.length=0:=by omega
   have:x.cps.toList=[]:=List.length_eq_zero_iff.mp (by rw [<- cH];exact hz)
   rw [this];simp
 ·rw [e]
theorem lcR {nN:Nat} {fs:List (Nat×Nat)} {te:TE} {σ:St} {H:Hp} {QD:Addr->Hp->Prop} {lo:Int} {n:Nat} (W:Addr->Nat->List V->Hp->Prop) (hn:n<=sizeLine) (h1:(tau nN fs σ)[0]?=some none) (h0:∀ D,H D=none->W D 0 [] (upd H D (.lst [])))
  (ht:∀ D (i:Nat) ys H2,i<n->H D=none->W D i ys H2->H2 D=some (.lst ys)->te ((tau nN fs σ).set 0 (some (.int (lo+i)))) H2 λ v H6=>H6 D=some (.lst ys)/\W D (i+1) (ys++[v]) (upd H6 D (.lst (ys++[v]))))
  (hQ:∀ D H2 ys,H D=none->W D n ys H2->H2 D=some (.lst ys)->QD D H2):
  ∀ D,H D=none->∃ (n':Nat) (W:Nat->List V->Hp->Prop),n'<=sizeLine/\W 0 [] (upd H D (.lst [])) /\
   ∀ i ys H2,i<=n'->W i ys H2->H2 D=some (.lst ys)->((Itr lo n).stop i H2/\QD D H2)∨(i<n'/\(Itr lo n).go i H2/\∀ x H3,(Itr lo n).yld i H2 x H3->dF 0 x (tau nN fs σ) H3 λ τ4 H4=>
    (∀ (j:Nat) v,(tau nN fs σ)[j]?=some (some v)->τ4[j]?=some (some v))/\Ab τ4 H4 λ b H5=>
     if b=true then te τ4 H5 λ v H6=>H6 D=some (.lst ys)/\W (i+1) (ys++[v]) (upd H6 D (.lst (ys++[v]))) else H5 D=some (.lst ys)/\W (i+1) ys H5):=by
 intro D hD
 refine ⟨n,W D,hn,h0 D hD,λ i ys H2 hi w2 e2=>?_⟩
 rcases Nat.lt_or_ge i n with hlt | hge
 ·refine .inr ⟨hlt,hlt,λ x H3 y=>?_⟩
  obtain ⟨e,y⟩:=y
  subst e y
  refine jf ⟨gY h1,?_⟩
  refine uY ?_
  refine tV ?_
  exact ht D i ys _ hlt hD w2 e2
 ·have:i=n:=by omega
  subst this
  exact .inl ⟨Nat.le_refl _,hQ D H2 ys hD w2 e2⟩
end L2
namespace K33
open PySem PySem.Spec PyProof.Rows L2
section
variable {P:Program} {w:World} {K:PySem.W.Frag} {mg:Str->Option Value} {base:Heap} {a:Ad}
theorem Dp (x:Str) (i:Int):(Txt.slice x none (some i)).length<=x.length:=by rw [cH,vc,List.length_take,<- cH];omega
theorem zg (x:Str) (i:Int):(Txt.slice x (some i) none).length<=x.length:=by rw [cH,pN,List.length_drop,<- cH];omega
theorem rM:(("abcdefghijklmnopqrstuvwxyz":Str).cps.toList.all i4)=true:=by decide +kernel
theorem zD {x:Str} (h2:2<=x.cps.toList.length) (h10:x.cps.toList.length<=10) (hl:∀ c∈x.cps.toList,i4 c=true):bD x=true:=by
 rw [<- cH] at h2 h10
 unfold bD j6
 rw [decide_eq_true h2,decide_eq_true h10,List.all_eq_true.mpr hl];rfl
theorem xS (i:Int):∃ c,i4 c=true/\L2.atI ("abcdefghijklmnopqrstuvwxyz":Str).cps.toList (i % 26)=some c:=by
 obtain ⟨c,hc,e⟩:=fX (xs:=("abcdefghijklmnopqrstuvwxyz":Str).cps.toList) (bw i (show (0:Int)<26 by decide)) (mod_lt i (show (0:Int)<26 by decide))
 exact ⟨c,List.all_eq_true.mp rM c hc,e⟩
theorem cx {x:Str} (h:bD x=true):2<=x.length/\x.length<=10:=by
 unfold bD at h
 simp only [Bool.and_eq_true,decide_eq_true_eq] at h
 exact h.1
theorem mT {x:Str} (h:bD x=true):∀ c∈x.cps.toList,i4 c=true:=by
 unfold bD j6 at h
 simp only [Bool.and_eq_true] at h
 exact List.all_eq_true.mp h.2
def Few (y:Str):Prop:=∃ c1 c2 c3:Nat,∀ c∈y.cps.toList,c=c1∨c=c2∨c=c3
theorem wm:∀ j:Fin 26,("abcdefghijklmnopqrstuvwxyz":Str).cps.toList[j.val]?=some (97+j.val):=by decide +kernel
theorem Ae (i:Int):∃ c,c=97+(i % 26).toNat/\i4 c=true/\L2.atI ("abcdefghijklmnopqrstuvwxyz":Str).cps.toList (i % 26)=some c:=by
 have h0:=bw i (show (0:Int)<26 by decide)
 have h1:=mod_lt i (show (0:Int)<26 by decide)
 have e:=wm ⟨(i % 26).toNat,by omega⟩
 have e2:L2.atI ("abcdefghijklmnopqrstuvwxyz":Str).cps.toList (((i % 26).toNat:Nat):Int)=some (97+(i % 26).toNat):=aX (j:=(i % 26).toNat) e
 rw [show (((i % 26).toNat:Nat):Int)=i % 26 by omega] at e2
 refine ⟨_,rfl,?_,e2⟩
 unfold i4
 rw [decide_eq_true (by omega),decide_eq_true (by omega)];rfl
theorem unlike {ys:List Str} {sp:Nat} {sh:Int} (h20:ys.length<=20) (h:∀ (j:Nat) y,ys[j]?=some y->y.cps.toList[sp]?=some (97+((sh+j) % 26).toNat)):ys.Nodup:=by
 refine List.pairwise_iff_getElem.mpr λ i j hi hj hij e=>?_
 have h1:=h i ys[i] (List.getElem?_eq_getElem hi)
 have h2:=h j ys[j] (List.getElem?_eq_getElem hj)
 rw [<- e,h1] at h2
 injection h2 with h2
 omega
def Words (H:Hp) (q:Addr) (ys:List Str):Prop:=H q=some (.lst (ys.map .str))/\0<ys.length/\ys.length<=20/\∀ y∈ys,bD y=true
abbrev sG (K:PySem.W.Frag) (mg:Str->Option Value):=Df K mg "_law_words" "_law_words" (top 55) ["_law_script","_law_at","_law_many"]
def pZ (K:PySem.W.Frag):Sp:=λ vs H Q _=>∃ (p q:Addr) (ns:List Int) (c:Nat) (m:Nat),vs=[.ref p,.ref q,.int m]/\Scr K q H p ns/\ns.length<=63/\bh H q c/\c<=1000000/\0<m/\m<=20/\∀ H' l ys,H l=none->KB q H H'->bh H' q (c+1)->Words H' l ys->ys.length=m->ys.Nodup->(∀ y∈ys,Few y)->Q (.ref l) H'
abbrev B2:List Str:=["_law_script","_law_at","_law_many","_law_letters","_law_n","_law_size","_law_spot","_law_stem","_law_shift"]
theorem va:aS B2 ["_law_script","_law_at","_law_many"] (aw (top 55)):=⟨rfl,rfl,rfl,by decide +kernel,rfl,by decide +kernel,by decide +kernel⟩
theorem KB.free {q l:Addr} {H H':Hp} {c:Nat} (k:KB q H H') (ao:bh H' q c) (h:H' l=none):H l=none:=by
 cases e:H l with
 | none=>rfl
 | some o=>
  obtain ⟨i,n,_,a1,_⟩:=ao.ob
  have:=k l o (aj a1 h).symm e
  rw [h] at this;cases this
theorem w6 (D:sG K mg) (ak:iK K mg) (aP:F0 P w base 1 ak (fz K)) (T:Txt K mg a):F0 P w base 2 D (pZ K):=by
 refine Df.ok (k:=1) D.ex va (λ vs H Q E h=>?_) (λ A outer s H vs Q E hr h=>?_)
 ·obtain ⟨p,q,ns,c,m,rfl,_⟩:=h;rfl
 ·obtain ⟨p,q,ns,c,m,rfl,sc,hlen,ao,hc,m0,m1,k⟩:=h
  have nd:=va.nd
  refine ⟨_,(ae (aN (i:=3) nd rfl (Or.inr rfl) aD)
 (ae (aN (i:=4) nd rfl (Or.inl rfl) (ay aP (hr.mono (by decide)) (by rfl) ak.mg ak.kp ak.bd .nil aW (ai (pv 0) (ai (pv 1) aa))))
 (ae (aN (i:=5) nd rfl (Or.inl rfl) (au bT af (au aG (pv 4) af)))
 (ae (aN (i:=6) nd rfl (Or.inr rfl) (au aG (au bc (pv 4) af) (pv 5)))
 (ae (aN (i:=7) nd rfl (Or.inr rfl) (bU kP (au dD (au bM (aY iW (pv 3) (au aG (au bc (pv 4) af) af) (λ _ _=>rfl)) (aY iW (pv 3) (au aG (au bc (pv 4) af) af) (λ _ _=>rfl))) af) cX (b7 (pv 5))))
 (ae (aN (i:=8) nd rfl (Or.inr rfl) (au aG (au bc (pv 4) af) af))
 (ar (aO (hZ (N:=["_law_k","_law_stem","_law_letters","_law_spot","_law_shift"]) (fs:=[(1,7),(2,3),(3,6),(4,8)]) (⟨rfl,by rfl,by rfl,by rfl,⟨⟨_,rfl,rfl,rfl,Or.inl rfl⟩,⟨⟨_,rfl,rfl,rfl,Or.inl rfl⟩,⟨⟨_,rfl,rfl,rfl,Or.inl rfl⟩,⟨⟨_,rfl,rfl,rfl,Or.inl rfl⟩,trivial⟩⟩⟩⟩⟩) rfl (dH (by rfl) T.cO (ai (pv 2) aa)) (λ _ _ _ _ _=>(az (i:=0) (show List.Nodup (["_law_k","_law_stem","_law_letters","_law_spot","_law_shift"]:List Str) from by decide +kernel) rfl (Or.inl rfl))) (λ _ _ _ _ _=>by exact cg) (λ _ _ _ _ _=>by exact (au bM (au bM (bU kP (pv 1) cX (b7 (pv 3))) (aY iW (pv 2) (au aG (au bT (pv 4) (pv 0)) af) (λ _ _=>rfl))) (bU kP (pv 1) (b7 (au bT (pv 3) af)) cX)))))))))))),?_⟩
  lia
  refine ⟨p,q,ns,c,rfl,sc,hlen,ao,hc,λ H1 n n0 n1 kb1 ao1=>?_⟩
  lia
  have s0:=bw n (show (0:Int)<9 by decide)
  have s1:=mod_lt n (show (0:Int)<9 by decide)
  generalize hsz:2+n % 9=sz
  have hs2:2<=sz:=by omega
  have hs10:sz<=10:=by omega
  refine w_mod (by omega) ?_
  lia
  have p0:=bw (n / 9) (show (0:Int)<sz by omega)
  have p1:=mod_lt (n / 9) (show (0:Int)<sz by omega)
  generalize n / 9 % sz=sp at p0 p1 ⊢
  obtain ⟨c1,lc1,e1⟩:=xS (n / 81)
  obtain ⟨c2,lc2,e2⟩:=xS (n / 2106)
  refine ⟨_,_,c1,rfl,rfl,by decide,e1,?_⟩
  lia
  refine ⟨_,_,c2,rfl,rfl,by decide,e2,?_⟩
  refine ⟨_,_,rfl,rfl,by show 1+1<=sizeLine;decide,?_⟩
  lia
  refine ⟨_,5,rfl,rfl,by decide,by decide,by rw [aT];show 1+1<=256;decide,λ r hr1 hr2=>?_⟩
  rw [aT] at hr1
  have hr1:(r.length:Int)=(1+1:Nat) * 5:=hr1
  have rl:r.length=10:=by omega
  have rlow:∀ c∈r.cps.toList,i4 c=true:=λ c hc=>by
   have:=hr2 c hc
   rw [aU] at this
   rcases List.mem_append.mp this with h | h
   ·have:c=c1:=by simpa using h
    rw [this];exact lc1
   ·have:c=c2:=by simpa using h
    rw [this];exact lc2
  have rtwo:∀ c∈r.cps.toList,c=c1∨c=c2:=λ c hc=>by
   have:=hr2 c hc
   rw [aU] at this
   rcases List.mem_append.mp this with h | h
   ·exact .inl (by simpa using h)
   ·exact .inr (by simpa using h)
  clear hr1 hr2
  lia
  refine ⟨r,rfl,av (by omega),?_⟩
  generalize hst:Txt.slice r none (some sz)=st
  have stc:st.cps.toList=r.cps.toList.take sz.toNat:=by
   rw [<- hst,vc]
   unfold cl
   rw [if_neg (by omega),rl,Nat.min_eq_left (by omega)]
  have stl:st.cps.toList.length=sz.toNat:=by rw [stc,List.length_take,<- cH,rl];omega
  have stw:∀ c∈st.cps.toList,i4 c=true:=λ c hc=>by rw [stc] at hc;exact rlow c (List.mem_of_mem_take hc)
  have sttwo:∀ c∈st.cps.toList,c=c1∨c=c2:=λ c hc=>by rw [stc] at hc;exact rtwo c (List.mem_of_mem_take hc)
  clear hst stc rlow rl rtwo
  lia
  generalize n / 54756 % 26=sh
  refine ⟨_,rfl,by omega,by omega,lcG (λ i zs=>∃ ys:List Str,zs=ys.map V.str/\ys.length=i/\(∀ y∈ys,bD y=true/\Few y)/\∀ (j:Nat) y,ys[j]?=some y->y.cps.toList[sp.toNat]?=some (97+((sh+j) % 26).toNat)) (vJ (lo:=0) (n:=((m:Nat):Int).toNat)) (by rw [Int.toNat_natCast];exact av (by omega)) ⟨[],rfl,rfl,λ _ h=>(nomatch h),λ _ _ h=>(nomatch h)⟩ (λ D i zs H2 hi hD s2 e2 r2=>?_) (λ D H2 zs hD s2 e2 r2=>?_)⟩
  ·obtain ⟨ys,rfl,hl,hw,hpl⟩:=r2
   lia
   refine ⟨gY rfl,?_⟩
   lia
   refine ⟨st,rfl,av (by rw [cH,stl];omega),?_⟩
   obtain ⟨c3,ec3,lc3,e3⟩:=Ae (sh+(0+i))
   lia
   refine ⟨_,_,c3,rfl,rfl,by decide,e3,?_⟩
   have k1:=Dp st sp
   have k2:=zg st (sp+1)
   have stl':st.length=sz.toNat:=by rw [cH];exact stl
   refine ⟨_,_,rfl,rfl,by show _+1<=_;exact av (by omega),?_⟩
   lia
   refine ⟨st,rfl,av (by omega),?_⟩
   refine ⟨_,_,rfl,rfl,by rw [aT];show _+1+_<=_;exact av (by omega),?_⟩
   refine jJ hD s2 e2 (ax.refl _) ?_
   generalize hy:Txt.slice st none (some sp)++_++_=y
   have ec:y.cps.toList=st.cps.toList.take sp.toNat++[c3]++st.cps.toList.drop (sp.toNat+1):=by
    rw [<- hy,aU,aU,vc,pN]
    have c1:cl st.length sp=sp.toNat:=by unfold cl;rw [if_neg (by omega),Nat.min_eq_left (by omega)]
    have c2:cl st.length (sp+1)=sp.toNat+1:=by unfold cl;rw [if_neg (by omega),Nat.min_eq_left (by omega)];omega
    rw [c1,c2]
   refine ⟨ys++[y],by rw [List.map_append];rfl,by rw [List.length_append,hl];rfl,λ y' hy'=>?_,λ j y' hy'=>?_⟩
   rotate_left
   ·rcases Nat.lt_or_ge j ys.length with hj | hj
    ·rw [List.getElem?_append_left hj] at hy'
     exact hpl j y' hy'
    ·rw [List.getElem?_append_right hj] at hy'
     have hj0:j=ys.length:=by
      have:=(List.getElem?_eq_some_iff.mp hy').1
      simp at this;omega
     subst hj0
     have:y'=y:=by simpa using hy'.symm
     rw [this,ec,List.append_assoc,List.getElem?_append_right (by rw [List.length_take];omega),List.length_take,stl,Nat.min_eq_left (by omega),Nat.sub_self]
     show some c3=_
     rw [ec3,hl,Int.zero_add]
   rcases List.mem_append.mp hy' with hy' | hy'
   ·exact hw y' hy'
   ·rw [List.mem_singleton] at hy'
    subst hy'
    refine ⟨?_,c1,c2,c3,λ c hc=>?_⟩
    rotate_left
    ·rw [ec] at hc
     rcases List.mem_append.mp hc with hc | hc
     ·rcases List.mem_append.mp hc with hc | hc
      ·exact (sttwo c (List.mem_of_mem_take hc)).elim .inl λ h=>.inr (.inl h)
      ·rw [List.mem_singleton] at hc;exact .inr (.inr hc)
     ·exact (sttwo c (List.mem_of_mem_drop hc)).elim .inl λ h=>.inr (.inl h)
    refine zD ?_ ?_ λ c hc=>?_
    ·rw [ec];simp only [List.length_append,List.length_take,List.length_drop,List.length_singleton,stl];omega
    ·rw [ec];simp only [List.length_append,List.length_take,List.length_drop,List.length_singleton,stl];omega
    ·rw [ec] at hc
     rcases List.mem_append.mp hc with hc | hc
     ·rcases List.mem_append.mp hc with hc | hc
      ·exact stw c (List.mem_of_mem_take hc)
      ·rw [List.mem_singleton] at hc;rw [hc];exact lc3
     ·exact stw c (List.mem_of_mem_drop hc)
  ·obtain ⟨ys,rfl,hl,hw,hpl⟩:=r2
   rw [Int.toNat_natCast] at hl
   exact k H2 D ys (KB.free kb1 ao1 hD) (kb1.trans (.of s2)) (ao1.same s2) ⟨e2,by omega,by omega,λ y hy=>(hw y hy).1⟩ hl (unlike (by omega) hpl) λ y hy=>(hw y hy).2
theorem Words.ne {H:Hp} {l q:Addr} {ys:List Str} {c:Nat} (h:Words H l ys) (ao:bh H q c):l≠q:=λ e=>by
 obtain ⟨i,n,_,hq,_⟩:=ao.ob
 obtain ⟨h1,h2,_⟩:=h
 rw [e,hq] at h1
 cases ys with
 | nil=>exact absurd h2 (by decide)
 | cons y r=>injection h1 with h1;injection h1 with h1;injection h1 with h1 _;cases h1
theorem Words.kb {H H':Hp} {l q:Addr} {ys:List Str} {c:Nat} (h:Words H l ys) (ao:bh H q c) (k:KB q H H'):Words H' l ys:=⟨k _ _ (h.ne ao) h.1,h.2⟩
theorem Words.pick {H:Hp} {l:Addr} {ys:List Str} (h:Words H l ys) (i:Int):∃ y∈ys,atI (ys.map V.str) (i % ((ys.map V.str).length:Nat))=some (.str y):=by
 have hp:(0:Int)<((ys.map V.str).length:Nat):=by rw [List.length_map];have:=h.2.1;omega
 obtain ⟨v,hv,e⟩:=fX (xs:=ys.map V.str) (bw i hp) (mod_lt i hp)
 obtain ⟨y,hy,rfl⟩:=List.mem_map.mp hv
 exact ⟨y,hy,e⟩
theorem Words.pos {H:Hp} {l:Addr} {ys:List Str} (h:Words H l ys):(0:Int)<((ys.map V.str).length:Nat):=by rw [List.length_map];have:=h.2.1;omega
end
def vk (H:Hp) (p:Addr) (ms:List (Str×Str×Str)):Prop:=∃ ts:List Addr,H p=some (.lst (ts.map .ref))/\ts.length=ms.length/\∀ (i:Nat) t m,ts[i]?=some t->ms[i]?=some m->H t=some (jA m)
def Fz (ms:List (Str×Str×Str)):Prop:=∀ m∈ms,c8 m=true
section
variable {P:Program} {w:World} {K:PySem.W.Frag} {mg:Str->Option Value} {base:Heap} {a:Ad}
abbrev DLM (K:PySem.W.Frag) (mg:Str->Option Value):=Df K mg "_law_melt" "_law_melt" (top 56) ["_law_script","_law_at","_law_words_here"]
def DM (K:PySem.W.Frag):Sp:=λ vs H Q _=>∃ (p q l:Addr) (ns:List Int) (c:Nat) (ys:List Str),vs=[.ref p,.ref q,.ref l]/\Scr K q H p ns/\ns.length<=63/\bh H q c/\c<=900000/\Words H l ys/\∀ H' t m,H t=none->KB q H H'->bh H' q (c+3)->H' t=some (jA m)->c8 m=true->Q (.ref t) H'
abbrev nLM:List Str:=["_law_script","_law_at","_law_words_here","_law_n","_law_one","_law_other","_law_ahead","_law_behind","_law_size"]
theorem EW:aS nLM ["_law_script","_law_at","_law_words_here"] (aw (top 56)):=⟨rfl,rfl,rfl,by decide +kernel,rfl,by decide +kernel,by decide +kernel⟩
theorem tL {i j:Nat} {x:Str} (h1:i<=x.cps.toList.length) (h2:x.cps.toList.length<=j) (hl:∀ c∈x.cps.toList,i4 c=true):low i j x=true:=by
 rw [<- cH] at h1 h2
 unfold low j6
 rw [decide_eq_true h1,decide_eq_true h2,List.all_eq_true.mpr hl];rfl
theorem pz {y:Str} (h:bD y=true):∃ c,i4 c=true/\L2.atI y.cps.toList 0=some c:=by
 have hl:=(cx h).1
 rw [cH] at hl
 obtain ⟨c,hc,e⟩:=fX (xs:=y.cps.toList) (i:=0) (by decide) (by omega)
 exact ⟨c,mT h c hc,e⟩
theorem El (D:DLM K mg) (ak:iK K mg) (aP:F0 P w base 1 ak (fz K)) (T:Txt K mg a):F0 P w base 2 D (DM K):=by
 refine Df.ok (k:=1) D.ex EW (λ vs H Q E h=>?_) (λ A outer s H vs Q E hr h=>?_)
 ·obtain ⟨p,q,l,ns,c,ys,rfl,_⟩:=h;rfl
 ·obtain ⟨p,q,l,ns,c,ys,rfl,sc,hlen,ao,hc,wd,k⟩:=h
  have nd:=EW.nd
  refine ⟨_,(ae (aN (i:=3) nd rfl (Or.inl rfl) (ay aP (hr.mono (by decide)) (by rfl) ak.mg ak.kp ak.bd .nil aW (ai (pv 0) (ai (pv 1) aa))))
 (ae (aN (i:=4) nd rfl (Or.inl rfl) (aY aQ (pv 2) (au aG (au bc (pv 3) af) (aB aA (by rfl) T.br boot_len (ai (pv 2) aa))) (λ _ _=>rfl)))
 (ae (aN (i:=5) nd rfl (Or.inl rfl) (aY aQ (pv 2) (au aG (ay aP (hr.mono (by decide)) (by rfl) ak.mg ak.kp ak.bd .nil aW (ai (pv 0) (ai (pv 1) aa))) (aB aA (by rfl) T.br boot_len (ai (pv 2) aa))) (λ _ _=>rfl)))
 (ae (aN (i:=6) nd rfl (Or.inl rfl) (bU kP (pv 4) (b7 (vn qJ (au bT af (au aG (pv 3) af)))) cX))
 (ae (aN (i:=7) nd rfl (Or.inl rfl) (bU kP (pv 5) cX (b7 (au bT af (au aG (au bc (pv 3) af) af)))))
 (ae (aN (i:=8) nd rfl (Or.inl rfl) (aB (o3 rfl) (by rfl) T.mL boot_min (ai af (ai (au bT (aB (wg rfl) (by rfl) T.pw boot_max (ai af (ai (au k9 (au bT (aB cq (by rfl) T.br boot_len (ai (pv 6) aa)) (aB cq (by rfl) T.br boot_len (ai (pv 7) aa))) af) aa))) (au aG (ay aP (hr.mono (by decide)) (by rfl) ak.mg ak.kp ak.bd .nil aW (ai (pv 0) (ai (pv 1) aa))) af)) aa))))
 (ar (aO (fT (ai (pv 6) (ai (pv 7) (ai (bU kP (au dD (au bM (au bM (au bM (aY iW (pv 5) af (λ _ _=>rfl)) aD) (aY iW (pv 4) af (λ _ _=>rfl))) aD) af) (b7 (au aG (pv 3) af)) (b7 (au bT (au aG (pv 3) af) (pv 8)))) aa)))))))))))),?_⟩
  lia
  refine ⟨p,q,ns,c,rfl,sc,hlen,ao,by omega,λ H1 n n0 n1 kb1 ao1=>?_⟩
  have wd1:=wd.kb ao kb1
  have sc1:=sc.kb kb1
  lia
  refine ⟨l,_,rfl,.inl (SqL.of wd1.1),?_⟩
  refine w_mod wd1.pos ?_
  obtain ⟨y1,hy1,e1⟩:=wd1.pick (n / 9)
  refine ⟨l,_,_,_,rfl,rfl,SqL.of wd1.1,e1,?_⟩
  lia
  refine ⟨p,q,ns,c+1,rfl,sc1,hlen,ao1,by omega,λ H2 n2 n20 n21 kb2 ao2=>?_⟩
  have wd2:=wd1.kb ao1 kb2
  have sc2:=sc1.kb kb2
  lia
  refine ⟨l,_,rfl,.inl (SqL.of wd2.1),?_⟩
  refine w_mod wd2.pos ?_
  obtain ⟨y2,hy2,e2⟩:=wd2.pick n2
  refine ⟨l,_,_,_,rfl,rfl,SqL.of wd2.1,e2,?_⟩
  have array_get_dec:=wd.2.2.2 y1 hy1
  have w2:=wd.2.2.2 y2 hy2
  have l1:=cx array_get_dec
  have l2:=cx w2
  lia
  refine ⟨y1,rfl,av (by omega),?_⟩
  have a0:=bw n (show (0:Int)<3 by decide)
  have a1:=mod_lt n (show (0:Int)<3 by decide)
  have b0:=bw (n / 3) (show (0:Int)<3 by decide)
  have b1:=mod_lt (n / 3) (show (0:Int)<3 by decide)
  generalize hA:Txt.slice y1 (some (-(1+n % 3))) none=ah
  have ahc:ah.cps.toList=y1.cps.toList.drop (cl y1.length (-(1+n % 3))):=by rw [<- hA,pN]
  have ahl:1<=ah.cps.toList.length/\ah.cps.toList.length<=3:=by
   rw [ahc,List.length_drop,<- cH]
   unfold cl
   rw [if_pos (by omega)]
   omega
  have ahw:∀ c∈ah.cps.toList,i4 c=true:=λ c hc=>by rw [ahc] at hc;exact mT array_get_dec c (List.mem_of_mem_drop hc)
  clear hA ahc
  lia
  refine ⟨y2,rfl,av (by omega),?_⟩
  generalize hB:Txt.slice y2 none (some (1+n / 3 % 3))=be
  have bec:be.cps.toList=y2.cps.toList.take (cl y2.length (1+n / 3 % 3)):=by rw [<- hB,vc]
  have bel:1<=be.cps.toList.length/\be.cps.toList.length<=3:=by
   rw [bec,List.length_take,<- cH]
   unfold cl
   rw [if_neg (by omega)]
   omega
  have bew:∀ c∈be.cps.toList,i4 c=true:=λ c hc=>by rw [bec] at hc;exact mT w2 c (List.mem_of_mem_take hc)
  clear hB bec
  have ahl':=ahl
  have bel':=bel
  rw [<- cH] at ahl' bel'
  lia
  refine ⟨ah,rfl,av (by omega),?_⟩
  lia
  refine ⟨be,rfl,av (by omega),?_⟩
  lia
  refine ⟨_,_,rfl,?_⟩
  lia
  refine ⟨p,q,ns,c+1+1,rfl,sc2,hlen,ao2,by omega,λ H3 n3 n30 n31 kb3 ao3=>?_⟩
  lia
  refine ⟨_,_,rfl,?_⟩
  have d0:=bw n3 (show (0:Int)<3 by decide)
  have d1:=mod_lt n3 (show (0:Int)<3 by decide)
  generalize hsz:(if (if (ah.length:Int)+be.length - 1 > 1 then (ah.length:Int)+be.length - 1 else 1)+n3 % 3<6 then (if (ah.length:Int)+be.length - 1 > 1 then (ah.length:Int)+be.length - 1 else 1)+n3 % 3 else 6)=sz
  have sz0:1<=sz/\sz<=6/\(ah.length:Int)+be.length - 1<=sz:=by
   rw [<- hsz]
   split <;> split <;> omega
  obtain ⟨c2,lc2,f2⟩:=pz w2
  obtain ⟨c1,lc1,f1⟩:=pz array_get_dec
  lia
  refine ⟨y2,0,c2,rfl,rfl,av (by omega),f2,?_⟩
  lia
  refine ⟨_,_,rfl,rfl,by show 1+1<=sizeLine;decide,?_⟩
  lia
  refine ⟨y1,0,c1,rfl,rfl,av (by omega),f1,?_⟩
  refine ⟨_,_,rfl,rfl,by rw [aT];show 1+1+1<=sizeLine;decide,?_⟩
  lia
  refine ⟨_,_,rfl,rfl,by rw [aT,aT];show 1+1+1+1<=sizeLine;decide,?_⟩
  lia
  refine ⟨_,2,rfl,rfl,by decide,by decide,by rw [aT,aT,aT];show 1+1+1+1<=256;decide,λ r hr1 hr2=>?_⟩
  have rl:r.length=8:=by
   rw [aT,aT,aT] at hr1
   have hr1:(r.length:Int)=(1+1+1+1:Nat) * 2:=hr1
   omega
  have rlow:∀ c∈r.cps.toList,i4 c=true:=λ c hc=>by
   have:=hr2 c hc
   rw [aU,aU,aU] at this
   have e117:(("u":Str)).cps.toList=[117]:=by decide +kernel
   have e101:(("e":Str)).cps.toList=[101]:=by decide +kernel
   rw [e117,e101] at this
   simp only [List.mem_append,List.mem_singleton] at this
   rcases this with ((h | h) | h) | h
   ·have:c=c2:=by simpa using h
    rw [this];exact lc2
   ·rw [h];decide
   ·have:c=c1:=by simpa using h
    rw [this];exact lc1
   ·rw [h];decide
  clear hr1 hr2
  lia
  refine ⟨r,rfl,av (by omega),?_⟩
  generalize hM:Txt.slice r (some (n % 3)) (some (n % 3+sz))=md
  have mdc:md.cps.toList=(r.cps.toList.drop (n % 3).toNat).take ((n % 3+sz).toNat - (n % 3).toNat):=by
   rw [<- hM]
   have e1:(n % 3)=(((n % 3).toNat:Nat):Int):=by omega
   have e2:(n % 3+sz)=(((n % 3+sz).toNat:Nat):Int):=by omega
   rw [e2,show (some (n % 3):Option Int)=some (((n % 3).toNat:Nat):Int) by rw [<- e1],Cs r (by omega) (by omega)]
   simp only [Int.toNat_natCast]
  have mdl:md.cps.toList.length=sz.toNat:=by rw [mdc,List.length_take,List.length_drop,<- cH,rl];omega
  have mdw:∀ c∈md.cps.toList,i4 c=true:=λ c hc=>by rw [mdc] at hc;exact rlow c (List.mem_of_mem_drop (List.mem_of_mem_take hc))
  clear hM mdc
  lia
  refine ⟨by show 3<=sizeLine;decide,λ t ht=>?_⟩
  have kb03:=kb1.trans (kb2.trans kb3)
  refine k _ t (ah,be,md) (KB.free kb03 ao3 ht) (kb03.trans (.put ht)) (ao3.same (ax.upd ht)) ag ?_
  unfold c8
  rw [tL (i:=1) (j:=3) ahl.1 ahl.2 ahw,tL (i:=1) (j:=3) bel.1 bel.2 bew,tL (i:=1) (j:=6) (by rw [mdl];omega) (by rw [mdl];omega) mdw]
  have ml:md.length=sz.toNat:=by rw [cH];exact mdl
  rw [decide_eq_true (show ah.length+be.length<=md.length+1 by omega)]
  rfl
abbrev CT (K:PySem.W.Frag) (mg:Str->Option Value):=Df K mg "_law_melts" "_law_melts" (top 57) ["_law_script","_law_at","_law_words_here","_law_most"]
def yv (K:PySem.W.Frag):Sp:=λ vs H Q _=>∃ (p q l:Addr) (ns:List Int) (c:Nat) (ys:List Str),vs=[.ref p,.ref q,.ref l,.int 12]/\Scr K q H p ns/\ns.length<=63/\bh H q c/\c<=800000/\Words H l ys/\∀ H' t ms,H t=none->KB q H H'->bh H' q (c+40)->vk H' t ms->Fz ms->ms.length<=12->Q (.ref t) H'
abbrev Hv:List Str:=["_law_script","_law_at","_law_words_here","_law_most","_law_many"]
theorem BJ:aS Hv ["_law_script","_law_at","_law_words_here","_law_most"] (aw (top 57)):=⟨rfl,rfl,rfl,by decide +kernel,rfl,by decide +kernel,by decide +kernel⟩
theorem Ea (D:CT K mg) (ak:iK K mg) (aP:F0 P w base 1 ak (fz K)) (gz:DLM K mg) (sr:F0 P w base 2 gz (DM K)) (T:Txt K mg a):
  F0 P w base 3 D (yv K):=by
 refine Df.ok (k:=2) D.ex BJ (λ vs H Q E h=>?_) (λ A outer s H vs Q E hr h=>?_)
 ·obtain ⟨p,q,l,ns,c,ys,rfl,_⟩:=h;rfl
 ·obtain ⟨p,q,l,ns,c,ys,rfl,sc,hlen,ao,hc,wd,k⟩:=h
  have nd:=BJ.nd
  refine ⟨_,(ae (aN (i:=4) nd rfl (Or.inl rfl) (aY aQ (a5 (ai af (ai af (ai af (ai af (ai (pv 3) aa)))))) (au aG (ay aP (hr.mono (by decide)) (by rfl) ak.mg ak.kp ak.bd .nil aW (ai (pv 0) (ai (pv 1) aa))) af) (λ _ _=>rfl)))
 (ar (aO (hZ (N:=["_law_k","_law_script","_law_at","_law_words_here"]) (fs:=[(1,0),(2,1),(3,2)]) (⟨rfl,by rfl,by rfl,by rfl,⟨⟨_,rfl,rfl,rfl,Or.inl rfl⟩,⟨⟨_,rfl,rfl,rfl,Or.inl rfl⟩,⟨⟨_,rfl,rfl,rfl,Or.inl rfl⟩,trivial⟩⟩⟩⟩) rfl (dH (by rfl) T.cO (ai (aB (o3 rfl) (by rfl) T.mL boot_min (ai (pv 4) (ai (pv 3) aa))) aa)) (λ _ _ _ _ _=>(az (i:=0) (show List.Nodup (["_law_k","_law_script","_law_at","_law_words_here"]:List Str) from by decide +kernel) rfl (Or.inl rfl))) (λ _ _ _ _ _=>by exact cg) (λ _ _ _ _ _=>by exact (ay sr (hr.mono (by decide)) (by rfl) gz.mg gz.kp gz.bd .nil aW (ai (pv 1) (ai (pv 2) (ai (pv 3) aa))))))))),?_⟩
  lia
  refine ⟨by show 5<=sizeLine;decide,λ l1 h1=>?_⟩
  have s1:ax H _:=ax.upd (o:=.lst [.int 0,.int 1,.int 2,.int 4,.int 12]) h1
  have g1:(upd H l1 (.lst [.int 0,.int 1,.int 2,.int 4,.int 12])) l1=some (.lst [.int 0,.int 1,.int 2,.int 4,.int 12]):=ag
  generalize upd H l1 _=H1 at s1 g1 ⊢
  have kb01:KB q H H1:=.of s1
  have ao1:=ao.same s1
  lia
  refine ⟨p,q,ns,c,rfl,sc.kb kb01,hlen,ao1,by omega,λ H2 n n0 n1 kb2 ao2=>?_⟩
  have n1q:l1≠q:=by
   obtain ⟨i,m,_,hq,_⟩:=ao1.ob
   exact dC g1 hq (by intro z;injection z with z;injection z with _ z;injection z with _ z;cases z)
  have g2:=kb2 _ _ n1q g1
  lia
  obtain ⟨v,hv,ev⟩:=fX (xs:=[V.int 0,.int 1,.int 2,.int 4,.int 12]) (bw n (show (0:Int)<5 by decide)) (by exact mod_lt n (show (0:Int)<5 by decide))
  refine ⟨l1,_,_,_,rfl,rfl,SqL.of g2,ev,?_⟩
  obtain ⟨m,rfl,m0,m12⟩:∃ m:Int,v=.int m/\0<=m/\m<=12:=by
   simp only [List.mem_cons,List.not_mem_nil,or_false] at hv
   rcases hv with rfl | rfl | rfl | rfl | rfl
   all_goals exact ⟨_,rfl,by decide,by decide⟩
  have kb:=kb01.trans kb2
  have wd2:=wd.kb ao kb
  have sc2:=sc.kb kb
  lia
  refine ⟨_,_,rfl,?_⟩
  generalize hm:(if (12:Int)<m then (12:Int) else m)=mm
  have mm0:0<=mm/\mm<=12:=by rw [<- hm];split <;> omega
  refine ⟨mm,rfl,by omega,by omega,lcR (λ D i zs H3=>KB q H2 H3/\bh H3 q (c+1+3 * i)/\∃ (ts:List Addr) (ms:List (Str×Str×Str)),zs=ts.map V.ref/\ts.length=i/\ms.length=i/\Fz ms/\∀ (j:Nat) t m,ts[j]?=some t->ms[j]?=some m->H3 t=some (jA m)) (av (by omega)) rfl
   (λ D hD=>⟨.put hD,ao2.same (ax.upd hD),[],[],rfl,rfl,rfl,λ _ h=>(nomatch h),λ j t m h=>by cases h⟩) (λ D i zs H3 hi hD w3 e3=>?_) (λ D H3 zs hD w3 e3=>?_)⟩
  ·obtain ⟨kb3,ao3,ts,ms,rfl,lt,lm,am,at3⟩:=w3
   lia
   refine ⟨p,q,l,ns,_,ys,rfl,sc2.kb kb3,hlen,ao3,by omega,wd2.kb ao2 kb3,λ H4 t mt ht kb4 ao4 gt mo=>?_⟩
   have nDq:D≠q:=λ e=>by
    obtain ⟨i',n',_,hq,_⟩:=ao2.ob
    rw [e,hq] at hD;cases hD
   have e4:=kb4 _ _ nDq e3
   refine ⟨e4,λ c' o n' hc'=>?_,?_,ts++[t],ms++[mt],by simp,by simp [lt],by simp [lm],λ x hx=>?_,λ j t' m' h1 h2=>?_⟩
   ·rw [aq (aj hc' hD)]
    exact kb4 _ _ n' (kb3 _ _ n' hc')
   ·obtain ⟨i',n',g',hq,r⟩:=ao4.ob
    exact ⟨i',n',g',by rw [aq (Ne.symm nDq)];exact hq,by omega⟩
   ·rcases List.mem_append.mp hx with y | y
    ·exact am x y
    ·rw [List.mem_singleton] at y;rw [y];exact mo
   ·have hit:H4 t'=some (jA m'):=by
     rcases Nat.lt_trichotomy j i with h | h | h
     ·rw [List.getElem?_append_left (by omega)] at h1 h2
      have a3:=at3 j t' m' h1 h2
      exact kb4 _ _ (λ e=>by obtain ⟨i',n',_,hq,_⟩:=ao3.ob;rw [e,hq] at a3;cases a3) a3
     ·subst h
      rw [List.getElem?_append_right (by omega),lt,Nat.sub_self] at h1
      rw [List.getElem?_append_right (by omega),lm,Nat.sub_self] at h2
      cases h1;cases h2;exact gt
     ·rw [List.getElem?_eq_none (by simp [lt];omega)] at h1;cases h1
    rw [aq (dC hit e4 (by intro z;cases z))]
    exact hit
  ·obtain ⟨kb3,ao3,ts,ms,rfl,lt,lm,am,at3⟩:=w3
   have kk:=kb.trans kb3
   exact k H3 D ms (KB.free kb ao2 hD) kk (ao3.mono (by omega)) ⟨ts,e3,by omega,at3⟩ am (by omega)
abbrev DGr (K:PySem.W.Frag) (mg:Str->Option Value):=Df K mg "_law_great" "_law_great" (top 58) ["_law_script","_law_at"]
def AI (K:PySem.W.Frag):Sp:=λ vs H Q _=>∃ (p q:Addr) (ns:List Int) (c:Nat),vs=[.ref p,.ref q]/\Scr K q H p ns/\ns.length<=63/\bh H q c/\c<=900000/\∀ H' (r:Int),0<=r->r<10 ^ 60->KB q H H'->bh H' q (c+1)->Q (.int r) H'
abbrev nGr:List Str:=["_law_script","_law_at","_law_n"]
theorem GB:aS nGr ["_law_script","_law_at"] (aw (top 58)):=⟨rfl,rfl,rfl,by decide +kernel,rfl,by decide +kernel,by decide +kernel⟩
theorem E3 (D:DGr K mg) (ak:iK K mg) (aP:F0 P w base 1 ak (fz K)) (T:Txt K mg a):F0 P w base 2 D (AI K):=by
 refine Df.ok (k:=1) D.ex GB (λ vs H Q E h=>?_) (λ A outer s H vs Q E hr h=>?_)
 ·obtain ⟨p,q,ns,c,rfl,_⟩:=h;rfl
 ·obtain ⟨p,q,ns,c,rfl,sc,hlen,ao,hc,k⟩:=h
  have nd:=GB.nd
  refine ⟨_,(ae (aN (i:=2) nd rfl (Or.inl rfl) (ay aP (hr.mono (by decide)) (by rfl) ak.mg ak.kp ak.bd .nil aW (ai (pv 0) (ai (pv 1) aa))))
 (ae (a8 (aL cj (au aG (pv 2) af) af (aC _))
 (ar (aO (au k9 (au k9 (au nP af af) af) (au aG (au bc (pv 2) af) af))))
 aH)
 (ar (aO (au aG (au eE (au eE (au eE (au eE (au eE (au eE (au eE (pv 2) (pv 2)) (pv 2)) (pv 2)) (pv 2)) (pv 2)) (pv 2)) (pv 2)) (aY aQ (a5 (ai af (ai (au nP af af) (ai (au nP af af) aa)))) (au aG (pv 2) af) (λ _ _=>rfl))))))),?_⟩
  lia
  refine ⟨p,q,ns,c,rfl,sc,hlen,ao,by omega,λ H1 n n0 n1 kb1 ao1=>?_⟩
  have nb:-(2 ^ 64)<n/\n<2 ^ 64:=by omega
  lia
  refine w_ite (λ _=>?_) (λ _=>?_)
  ·lia
   refine w_I (⟨by decide,by decide,by decide⟩) ?_
   lia
   have m0:=bw (n / 7) (show (0:Int)<3 by decide)
   have m1:=mod_lt (n / 7) (show (0:Int)<3 by decide)
   have e:(10:Int) ^ (60:Int).toNat=10 ^ 60:=rfl
   rw [e]
   exact k H1 _ (by omega) (by omega) kb1 ao1
  ·lia
   iterate 7 (refine w_I (.inr nb) ?_;lia)
   refine w_I (⟨by decide,by decide,by decide⟩) ?_
   lia
   refine w_I (⟨by decide,by decide,by decide⟩) ?_
   lia
   refine ⟨by show 3<=sizeLine;decide,λ l hl=>?_⟩
   lia
   obtain ⟨v,hv,ev⟩:=fX (xs:=[V.int 10,.int ((10:Int) ^ (20:Int).toNat),.int ((10:Int) ^ (59:Int).toNat)]) (bw n (show (0:Int)<3 by decide)) (by exact mod_lt n (show (0:Int)<3 by decide))
   refine ⟨l,_,_,_,rfl,rfl,SqL.of ag,ev,?_⟩
   obtain ⟨m,rfl,m0,m1⟩:∃ m:Int,v=.int m/\0<m/\m<=10 ^ 59:=by
    simp only [List.mem_cons,List.not_mem_nil,or_false] at hv
    rcases hv with rfl | rfl | rfl
    all_goals exact ⟨_,rfl,by decide,by decide⟩
   refine w_mod m0 ?_
   have s1:=ax.upd (o:=.lst [V.int 10,.int ((10:Int) ^ (20:Int).toNat),.int ((10:Int) ^ (59:Int).toNat)]) hl
   have r0:=bw (n * n * n * n * n * n * n * n) m0
   have r1:=mod_lt (n * n * n * n * n * n * n * n) m0
   exact k _ _ r0 (by omega) (kb1.trans (.of s1)) (ao1.same s1)
end
theorem uR {x:Str} (h:x∈sig):x.length=1:=by
 unfold sig at h
 simp only [List.mem_cons,List.not_mem_nil,or_false] at h
 rcases h with rfl | rfl | rfl | rfl | rfl | rfl <;> decide +kernel
theorem vG:(("+":Str)).length=1:=by decide +kernel
theorem qt:¬ (("+":Str))∈sig:=by unfold sig;decide +kernel
theorem mI {x:Str} (h:bD x=true):x≠"+":=λ e=>by
 have:=(cx h).1
 rw [e,vG] at this
 omega
theorem nL {x:Str} (h:bD x=true):¬ x∈sig:=λ e=>by
 have:=(cx h).1
 rw [uR e] at this
 omega
def Pc (x:Str):Prop:=bD x=true∨x∈sig∨x="+"
theorem Pc.EM {x:Str} (h:Pc x):iB x=true:=by
 unfold iB
 rcases h with h | h | h
 ·rw [h];simp
 ·rw [show inV (.str x) (sV sig)=true from jO.mpr h];simp
 ·rw [h];simp
theorem Pc.len {x:Str} (h:Pc x):x.length<=10:=by
 rcases h with h | h | h
 ·exact (cx h).2
 ·rw [uR h];decide
 ·rw [h,vG];decide
structure Ok (ys:List Str):Prop where
 pc:∀ y∈ys,Pc y
 ct:∀ s∈sig,ys.count s<=1
 na:∀ i:Nat,ys[i]?=some ("+":Str)->ys[i+1]?≠some ("+":Str)
 hd:ys.head?≠some ("+":Str)
theorem Ok.nil:Ok []:=⟨λ _ h=>(nomatch h),λ _ _=>by simp,λ _ h=>by simp at h,by simp⟩
theorem Ok.snoc {ys:List Str} {x:Str} (h:Ok ys) (px:Pc x) (c:x∈sig->¬ x∈ys) (t:x="+"->ys≠[]/\ys.getLast?≠some ("+":Str)):Ok (ys++[x]):=by
 refine ⟨λ y hy=>?_,λ s hs=>?_,λ i hi=>?_,?_⟩
 ·rcases List.mem_append.mp hy with hy | hy
  ·exact h.pc y hy
  ·rw [List.mem_singleton.mp hy];exact px
 ·rw [List.count_append]
  by_cases e:x=s
  ·subst e
   rw [List.count_eq_zero.mpr (c hs),List.count_singleton_self]
   decide
  ·have:[x].count s=0:=List.count_eq_zero.mpr λ m=>e (List.mem_singleton.mp m).symm
   rw [this];exact h.ct s hs
 ·intro hi2
  rcases Nat.lt_trichotomy (i+1) ys.length with z | z | z
  ·rw [List.getElem?_append_left (by omega)] at hi
   rw [List.getElem?_append_left z] at hi2
   exact h.na i hi hi2
  ·rw [List.getElem?_append_left (by omega)] at hi
   rw [z,List.getElem?_concat_length] at hi2
   have:=(t (Option.some.inj hi2)).2
   rw [List.getLast?_eq_getElem?,show ys.length - 1=i by omega] at this
   exact this hi
  ·rw [List.getElem?_eq_none (by rw [List.length_append,List.length_singleton];omega)] at hi2
   cases hi2
 ·intro e
  cases ys with
  | nil=>
   have:x="+":=Option.some.inj e
   exact (t this).1 rfl
  | cons y r=>exact h.hd e
structure Its (ys:List Str) (n:Nat):Prop where
 ok:Ok ys
 ne:ys≠[]
 lt:ys.getLast?≠some ("+":Str)
 wd:∃ y∈ys,bD y=true
 le:ys.length<=n
theorem zd (s:Str):∀ ys:List Str,((ys.map V.str).countP λ z=>eqV z (.str s))=ys.count s
 | []=>rfl
 | y::r=>by
  rw [List.map_cons,List.countP_cons,List.count_cons,zd s r]
  rfl
theorem Its.pieces {ys:List Str} (h:Its ys 8):gW ys=true:=by
 unfold gW
 have h1:decide (1<=ys.length)=true:=decide_eq_true (List.length_pos_iff.mpr h.ne)
 have h2:decide (ys.length<=8)=true:=decide_eq_true h.le
 have h3:ys.all iB=true:=List.all_eq_true.mpr λ y hy=>(h.ok.pc y hy).EM
 have h4:ys.any bD=true:=List.any_eq_true.mpr (let ⟨y,a,b⟩:=h.wd;⟨y,a,b⟩)
 have h5:(sV sig).any (qT ys)=false:=by
  rw [Bool.eq_false_iff]
  intro z
  obtain ⟨v,hv,e⟩:=List.any_eq_true.mp z
  obtain ⟨s,hs,rfl⟩:=List.mem_map.mp hv
  unfold qT at e
  rw [zd] at e
  have:=h.ok.ct s hs
  have e:=of_decide_eq_true e
  omega
 have h6:ij ys=true:=by
  unfold ij
  have g1:gi ys.head?=false:=by
   have:=h.ok.hd
   cases e:ys.head? with
   | none=>rfl
   | some x=>
    rw [e] at this
    exact decide_eq_false λ z=>this (by rw [z])
  have g2:gi ys.getLast?=false:=by
   have:=h.lt
   cases e:ys.getLast? with
   | none=>rfl
   | some x=>
    rw [e] at this
    exact decide_eq_false λ z=>this (by rw [z])
  have g3:DK ys=false:=by
   unfold DK
   rw [Bool.eq_false_iff]
   intro z
   obtain ⟨i,_,e⟩:=List.any_eq_true.mp z
   rw [Bool.and_eq_true] at e
   have tie:∀ o:Option Str,gi o=true->o=some ("+":Str):=λ o ho=>by
    cases o with
    | none=>cases ho
    | some x=>exact congrArg some (of_decide_eq_true ho)
   exact h.ok.na i (tie _ e.1) (tie _ e.2)
  rw [g1,g2,g3];rfl
 rw [h1,h2,h3,h4,h5,h6];rfl
end K33
namespace L2
open PySem PySem.Spec PyProof.Rows
theorem zR {c:TT} {tb:TS} {nx bk ct:St->Hp->Prop} {rt:VK} {σ:St} {H:Hp} (q:∃ W:Nat->St->Hp->Prop,(∃ m,W m σ H)/\∀ m σ H,W m σ H ->
 c σ H λ b H1=>if b=true then ∃ N:St->Hp->Prop,(∀ σ' H',N σ' H'->∃ m',m'<m/\W m' σ' H')/\tb ⟨N,rt,nx,N⟩ σ H1 else nx σ H1):yz c tb ⟨nx,rt,bk,ct⟩ σ H:=q
end L2
local macro_rules | `(tactic| array_get_dec) => `(tactic| with_reducible refine L2.zR ?_)
namespace L2
open PySem PySem.Spec PyProof.Rows
theorem oi {α:Type}:∀ {l:List α} {k:Nat} {x:α},l[k]?=some x->(x::l.eraseIdx k).Perm l
 | [],k,x,h=>by simp at h
 | y::r,0,x,h=>by
  have:y=x:=by simpa using h
  rw [this];exact .refl _
 | y::r,k+1,x,h=>by
  have h:r[k]?=some x:=by simpa using h
  exact (List.Perm.swap y x _).trans ((oi h).cons y)
theorem o4 {α β:Type} (f:α->β):∀ (l:List α) (k:Nat),(l.map f).eraseIdx k=(l.eraseIdx k).map f
 | [],k=>by simp
 | y::r,0=>by simp
 | y::r,k+1=>by
  show f y::(r.map f).eraseIdx k=f y::(r.eraseIdx k).map f
  rw [o4 f r k]
end L2
namespace K33
open PySem PySem.Spec PyProof.Rows L2
section
variable {P:Program} {w:World} {K:PySem.W.Frag} {mg:Str->Option Value} {base:Heap} {a:Ad}
theorem mx {H:Hp} {q l:Addr} {c:Nat} {zs:List Str} (ao:bh H q c) (h:H l=some (.lst (zs.map .str))):l≠q:=λ e=>by
 obtain ⟨i,n,_,hq,_⟩:=ao.ob
 rw [e,hq] at h
 cases zs with
 | nil=>injection h with h;injection h with h;cases h
 | cons y r=>injection h with h;injection h with h;injection h with h _;cases h
theorem _root_.L2.KB.cB {H H':Hp} {q l:Addr} {o:HO} (k:KB q H H') (hl:H l=none):KB q H (upd H' l o):=λ c u n e=>by rw [aq (aj e hl)];exact k c u n e
theorem fY {H:Hp} {q l:Addr} {c:Nat} {o:HO} (ao:bh H q c) (n:l≠q):bh (upd H l o) q c:=by
 obtain ⟨i,n',g',hq,h⟩:=ao.ob
 exact ⟨i,n',g',by rw [aq (Ne.symm n)];exact hq,h⟩
structure Th (ss ts zs:List Str):Prop where
 ok:Ok zs
 lt:zs.getLast?≠some ("+":Str)
 le:ts.length+zs.length<=8
 wd:∃ y,(y∈zs∨y∈ts)/\bD y=true
 hs:∀ s∈ss,s∈zs∨s∈ts
 ct:∀ s∈sig,(zs++ts).count s<=1
 th:∀ t∈ts,bD t=true∨t∈sig
theorem Th.tie {ss ts zs:List Str} (h:Th ss ts zs) (h0:zs≠[]):Ok (zs++[("+":Str)]):=h.ok.snoc (.inr (.inr rfl)) (λ z=>absurd z qt) λ _=>⟨h0,h.lt⟩
theorem Th.go {ss ts zs zs':List Str} {k:Nat} {x:Str} (h:Th ss ts zs) (hx:ts[k]?=some x) (hz:zs'=zs∨(zs'=zs++[("+":Str)]/\zs≠[]/\ts.length+zs.length<8)):Th ss (ts.eraseIdx k) (zs'++[x]):=by
 obtain ⟨hk,ex⟩:=List.getElem?_eq_some_iff.mp hx
 have hp:(x::ts.eraseIdx k).Perm ts:=oi hx
 have hm:x∈ts:=by rw [<- ex];exact List.getElem_mem hk
 have hl:(ts.eraseIdx k).length+1=ts.length:=hp.length_eq
 have xt:x≠"+":=(h.th x hm).elim mI λ z e=>qt (e ▸ z)
 have px:Pc x:=(h.th x hm).elim .inl λ z=>.inr (.inl z)
 have xc:x∈sig->¬ x∈zs:=λ z1 z2=>by
  have h1:=h.ct x z1
  rw [List.count_append] at h1
  have h2:=List.count_pos_iff.mpr z2
  have h3:=List.count_pos_iff.mpr hm
  omega
 have ok':Ok zs'/\zs'.length+ts.length<=8/\(∀ y,y∈zs->y∈zs')/\∀ y,y∈zs'->y≠"+"->y∈zs:=by
  rcases hz with rfl | ⟨rfl,h0,h8⟩
  ·exact ⟨h.ok,by have:=h.le;omega,λ _ z=>z,λ _ z _=>z⟩
  ·refine ⟨h.tie h0,by rw [List.length_append,List.length_singleton];omega,λ y z=>List.mem_append_left _ z,λ y z n=>?_⟩
   rcases List.mem_append.mp z with z | z
   ·exact z
   ·exact absurd (List.mem_singleton.mp z) n
 refine ⟨ok'.1.snoc px (λ z1 z2=>xc z1 (ok'.2.2.2 x z2 xt)) λ z=>absurd z xt,?_,?_,?_,λ s hs=>?_,λ s hs=>?_,λ t ht=>h.th t (hp.subset (List.mem_cons_of_mem _ ht))⟩
 ·rw [List.getLast?_append,List.getLast?_singleton]
  exact λ e=>xt (Option.some.inj e)
 ·rw [List.length_append,List.length_singleton]
  omega
 ·obtain ⟨y,hy,wy⟩:=h.wd
  refine ⟨y,?_,wy⟩
  rcases hy with hy | hy
  ·exact .inl (List.mem_append_left _ (ok'.2.2.1 y hy))
  ·rcases List.mem_cons.mp (hp.symm.subset hy) with e | hy
   ·exact .inl (by rw [e];exact List.mem_append_right _ (List.mem_singleton.mpr rfl))
   ·exact .inr hy
 ·rcases h.hs s hs with hy | hy
  ·exact .inl (List.mem_append_left _ (ok'.2.2.1 s hy))
  ·rcases List.mem_cons.mp (hp.symm.subset hy) with e | hy
   ·exact .inl (by rw [e];exact List.mem_append_right _ (List.mem_singleton.mpr rfl))
   ·exact .inr hy
 ·have h1:=h.ct s hs
  rw [List.count_append] at h1
  have h2:=hp.count_eq s
  have h3:zs'.count s=zs.count s:=by
   rcases hz with rfl | ⟨rfl,_⟩
   ·rfl
   ·rw [List.count_append,show (["+"]:List Str).count s=0 from List.count_eq_zero.mpr λ z=>qt (by rw [<- List.mem_singleton.mp z];exact hs)];rfl
  rw [List.append_assoc,List.count_append,List.singleton_append,h2,h3]
  exact h1
theorem Th.its {ss zs:List Str} (h:Th ss [] zs):Its zs 8/\(∀ s∈ss,s∈zs):=by
 obtain ⟨y,hy,wy⟩:=h.wd
 have hy:y∈zs:=hy.elim id λ z=>(nomatch z)
 exact ⟨⟨h.ok,λ e=>(by rw [e] at hy;cases hy),h.lt,⟨y,hy,wy⟩,by have:=h.le;simpa using this⟩,λ s hs=>(h.hs s hs).elim id λ z=>(nomatch z)⟩
abbrev DIt (K:PySem.W.Frag) (mg:Str->Option Value):=Df K mg "_law_items" "_law_items" (top 59) ["_law_script","_law_at","_law_words_here","_law_signs"]
def Cr (K:PySem.W.Frag):Sp:=λ vs H Q _=>∃ (p q l sg:Addr) (ns:List Int) (c:Nat) (ys ss:List Str),vs=[.ref p,.ref q,.ref l,.ref sg]/\Scr K q H p ns/\ns.length<=63/\bh H q c/\c<=900000/\Words H l ys/\H sg=some (.lst (ss.map .str))/\ss.Nodup/\(∀ s∈ss,s∈sig)/\ss.length<=6 /\
 ∀ H' it zs,H it=none->KB q H H'->bh H' q (c+40)->H' it=some (.lst (zs.map .str))->Its zs 8->(∀ s∈ss,s∈zs)->Q (.ref it) H'
abbrev nIt:List Str:=["_law_script","_law_at","_law_words_here","_law_signs","_law_things","_law_k","_law_items_here"]
theorem FR:aS nIt ["_law_script","_law_at","_law_words_here","_law_signs"] (aw (top 59)):=⟨rfl,rfl,rfl,by decide +kernel,rfl,by decide +kernel,by decide +kernel⟩
theorem Fy (D:DIt K mg) (ak:iK K mg) (aP:F0 P w base 1 ak (fz K)) (T:Txt K mg a):F0 P w base 2 D (Cr K):=by
 refine Df.ok (k:=1) D.ex FR (λ vs H Q E h=>?_) (λ A outer s H vs Q E hr h=>?_)
 ·obtain ⟨p,q,l,sg,ns,c,ys,ss,rfl,_⟩:=h;rfl
 ·obtain ⟨p,q,l,sg,ns,c,ys,ss,rfl,sc,hlen,ao,hc,wd,hsg,snd,ssg,s6,k⟩:=h
  have nd:=FR.nd
  refine ⟨_,(ae (aN (i:=4) nd rfl (Or.inl rfl) (bf b8 (by rfl) T.cL boot_list (ai (pv 3) aa)))
 (ae (fu PassesOwn.never rfl (dH (by rfl) T.cO (ai (au bT af (au eE (au bc (au aG (ay aP (hr.mono (by decide)) (by rfl) ak.mg ak.kp ak.bd .nil aW (ai (pv 0) (ai (pv 1) aa))) af) af) (au aG (ay aP (hr.mono (by decide)) (by rfl) ak.mg ak.kp ak.bd .nil aW (ai (pv 0) (ai (pv 1) aa))) af))) aa)) (az (i:=5) nd rfl (Or.inl rfl))
 (ar (a8 (aL iU (aB aA (by rfl) T.br boot_len (ai (pv 4) aa)) af (aC _))
 (ar (bx (b6 PySem.F.plainAttrs_list PySem.F.slot_list_append PySem.F.type_list_append bE (pv 4) (ai (aY aQ (pv 2) (au aG (ay aP (hr.mono (by decide)) (by rfl) ak.mg ak.kp ak.bd .nil aW (ai (pv 0) (ai (pv 1) aa))) (aB aA (by rfl) T.br boot_len (ai (pv 2) aa))) (λ _ _=>rfl)) aa))))
 aH)))
 (ae (aN (i:=6) nd rfl (Or.inl rfl) (a5 aa))
 (ae (yi PassesOwn.never (aL nX (aB aA (by rfl) T.br boot_len (ai (pv 4) aa)) af (aC _))
 (ae (a8 (pw_and (jX iU iU af (aB aA (by rfl) T.br boot_len (ai (pv 6) aa)) (au k9 af (aB aA (by rfl) T.br boot_len (ai (pv 4) aa)))) (pw_and1 (aL cj (au aG (ay aP (hr.mono (by decide)) (by rfl) ak.mg ak.kp ak.bd .nil aW (ai (pv 0) (ai (pv 1) aa))) af) af (aC _)))).pt
 (ar (bx (b6 PySem.F.plainAttrs_list PySem.F.slot_list_append PySem.F.type_list_append bE (pv 6) (ai aD aa))))
 aH)
 (ar (bx (b6 PySem.F.plainAttrs_list PySem.F.slot_list_append PySem.F.type_list_append bE (pv 6) (ai (b6 PySem.F.plainAttrs_list PySem.F.slot_list_pop PySem.F.type_list_pop xR (pv 4) (ai (au aG (ay aP (hr.mono (by decide)) (by rfl) ak.mg ak.kp ak.bd .nil aW (ai (pv 0) (ai (pv 1) aa))) (aB aA (by rfl) T.br boot_len (ai (pv 4) aa))) aa)) aa))))))
 (ar (aO (pv 6))))))),?_⟩
  lia
  refine ⟨sg,_,rfl,.inl (SqL.of hsg),λ th hth=>?_⟩
  lia
  have sT:=ax.upd (o:=.lst (ss.map V.str)) hth
  have gT:(upd H th (.lst (ss.map V.str))) th=some (.lst (ss.map V.str)):=ag
  generalize upd H th _=H1 at sT gT ⊢
  refine ⟨p,q,ns,c,rfl,sc.kb (.of sT),hlen,ao.same sT,by omega,λ H2 n n0 n1 kb2 ao2=>?_⟩
  lia
  refine ⟨p,q,ns,c+1,rfl,(sc.kb (.of sT)).kb kb2,hlen,ao2,by omega,λ H3 m m0 m1 kb3 ao3=>?_⟩
  lia
  refine w_I (.inr ⟨by omega,by omega⟩) ?_
  lia
  have nm:0<=n % 3 / 2/\n % 3 / 2<=1:=by omega
  have mm:0<=m % 3/\m % 3<=2:=by omega
  have jm:1<=1+n % 3 / 2 * (m % 3)/\1+n % 3 / 2 * (m % 3)<=3:=by
   generalize n % 3 / 2=u at nm ⊢
   rcases (show u=0∨u=1 by omega) with rfl | rfl <;> omega
  generalize 1+n % 3 / 2 * (m % 3)=j at jm ⊢
  have kb:KB q H H3:=(KB.of sT).trans (kb2.trans kb3)
  have tq:th≠q:=mx (ao.same sT) gT
  have g3:H3 th=some (.lst (ss.map V.str)):=kb3 _ _ tq (kb2 _ _ tq gT)
  clear nm mm kb3 kb2 ao2 sT gT
  refine ⟨j,rfl,by omega,by omega,?_⟩
  refine forR (λ i σ H4=>∃ v5 ws,σ=[some (V.ref p),some (V.ref q),some (V.ref l),some (V.ref sg),some (V.ref th),v5,none]/\KB q H H4/\bh H4 q (c+2+i)/\H4 th=some (.lst ((ss++ws).map V.str))/\(∀ y∈ws,bD y=true)/\ws.length<=i/\ss.length+ws.length<=8/\(0<i->ws≠[])) ⟨none,[],rfl,kb,ao3,by rw [List.append_nil];exact g3,λ _ h=>(nomatch h),Nat.le_refl _,by simp;omega,λ h=>(absurd h (by decide))⟩ ?_ ?_
  ·rintro i σ H4 hi ⟨v5,ws,rfl,kb4,ao4,g4,w4,l4,l8,n4⟩
   lia
   refine ⟨th,_,rfl,.inl (SqL.of g4),?_⟩
   lia
   refine w_ite (λ z=>?_) (λ z=>?_)
   ·have z:=of_decide_eq_true z
    rw [List.length_map,List.length_append] at z
    lia
    have wd4:=wd.kb ao kb4
    refine ⟨.inl ⟨rfl,_,SqL.of g4⟩,?_⟩
    lia
    refine ⟨p,q,ns,c+2+i,rfl,sc.kb kb4,hlen,ao4,by omega,λ H5 r r0 r1 kb5 ao5=>?_⟩
    have wd5:=wd4.kb ao4 kb5
    have g5:=kb5 _ _ tq g4
    lia
    refine ⟨l,_,rfl,.inl (SqL.of wd5.1),?_⟩
    refine w_mod wd5.pos ?_
    obtain ⟨y,hy,ey⟩:=wd5.pick r
    refine ⟨l,_,_,_,rfl,rfl,SqL.of wd5.1,ey,?_⟩
    lia
    refine ⟨th,_,_,rfl,rfl,g5,by rw [List.length_map,List.length_append];exact av (by omega),?_⟩
    refine ⟨_,ws++[y],rfl,?_,?_,?_,?_,?_,?_,?_⟩
    ·exact (kb4.trans kb5).cB hth
    ·exact fY ao5 tq
    ·rw [ag,<- List.append_assoc,List.map_append (l₁:=ss++ws)];rfl
    ·intro y' h
     rcases List.mem_append.mp h with h | h
     ·exact w4 y' h
     ·rw [List.mem_singleton.mp h];exact wd5.2.2.2 y hy
    ·rw [List.length_append,List.length_singleton];omega
    ·rw [List.length_append,List.length_singleton];omega
    ·intro _ e
     have:=congrArg List.length e
     simp at this
   ·have z:=of_decide_eq_false z
    rw [List.length_map,List.length_append] at z
    lia
    exact ⟨_,ws,rfl,kb4,ao4.mono (by omega),g4,w4,by omega,l8,λ _ e=>by rw [e] at z;simp at z;omega⟩
  ·rintro σ H4 ⟨v5,ws,rfl,kb4,ao4,g4,w4,l4,l8,n4⟩
   lia
   refine ⟨by show 0<=sizeLine;decide,λ it hit=>?_⟩
   lia
   have ht0:H it=none:=KB.free kb4 ao4 hit
   have itq:it≠q:=λ e=>by
    obtain ⟨_,_,_,hq,_⟩:=ao4.ob
    rw [e,hq] at hit;cases hit
   have ith:th≠it:=aj g4 hit
   have n4:=n4 (by omega)
   have ws3:ws.length<=3:=by omega
   refine ⟨λ m σ H5=>∃ ts zs,m=ts.length/\σ=[some (V.ref p),some (V.ref q),some (V.ref l),some (V.ref sg),some (V.ref th),v5,some (V.ref it)]/\KB q H H5/\bh H5 q (c+5+2 * (9 - ts.length))/\H5 th=some (.lst (ts.map V.str))/\H5 it=some (.lst (zs.map V.str))/\Th ss ts zs,⟨_,ss++ws,[],rfl,rfl,?_,?_,?_,ag,?_⟩,?_⟩
   ·exact kb4.cB ht0
   ·refine fY (ao4.mono ?_) itq
    rw [List.length_append];omega
   ·rw [aq ith];exact g4
   ·refine ⟨.nil,by simp,by rw [List.length_append];simp;omega,?_,λ s hs=>.inr (List.mem_append_left _ hs),λ s hs=>?_,λ t ht=>?_⟩
    ·obtain ⟨y,hy⟩:=List.exists_mem_of_ne_nil _ n4
     exact ⟨y,.inr (List.mem_append_right _ hy),w4 y hy⟩
    ·rw [List.nil_append,List.count_append,show ws.count s=0 from List.count_eq_zero.mpr λ z=>nL (w4 s z) hs]
     exact List.nodup_iff_count.mp snd s
    ·rcases List.mem_append.mp ht with ht | ht
     ·exact .inr (ssg t ht)
     ·exact .inl (w4 t ht)
   rintro m _ H5 ⟨ts,zs,rfl,rfl,kb5,ao5,g5,i5,th5⟩
   lia
   refine ⟨th,_,rfl,.inl (SqL.of g5),?_⟩
   lia
   refine w_ite (λ z=>?_) (λ z=>?_)
   ·have z:=of_decide_eq_true z
    rw [List.length_map] at z
    refine ⟨λ σ' H'=>∃ m',m'<ts.length/\∃ ts' zs,m'=ts'.length/\σ'=[some (V.ref p),some (V.ref q),some (V.ref l),some (V.ref sg),some (V.ref th),v5,some (V.ref it)]/\KB q H H'/\bh H' q (c+5+2 * (9 - ts'.length))/\H' th=some (.lst (ts'.map V.str))/\H' it=some (.lst (zs.map V.str))/\Th ss ts' zs,λ σ' H' h=>h,?_⟩
    have h8:=th5.le
    array_get_dec
    refine iX (λ σ2 H6=>∃ zs',σ2=[some (V.ref p),some (V.ref q),some (V.ref l),some (V.ref sg),some (V.ref th),v5,some (V.ref it)]/\KB q H H6/\bh H6 q (c+5+2 * (9 - ts.length)+1)/\H6 th=some (.lst (ts.map V.str))/\H6 it=some (.lst (zs'.map V.str))/\(zs'=zs∨(zs'=zs++[("+":Str)]/\zs≠[]/\ts.length+zs.length<8))) (λ nx' hj=>?_) ?_
    ·lia
     refine ⟨it,_,rfl,.inl (SqL.of i5),?_⟩
     lia
     refine w_ite (λ z1=>?_) (λ z1=>?_)
     ·have z1:=of_decide_eq_true z1
      rw [List.length_map] at z1
      lia
      refine ⟨th,_,rfl,.inl (SqL.of g5),?_⟩
      lia
      refine w_ite (λ z2=>?_) (λ z2=>?_)
      ·have z2:=of_decide_eq_true z2
       rw [List.length_map,List.length_map] at z2
       lia
       refine ⟨p,q,ns,_,rfl,sc.kb kb5,hlen,ao5,by omega,λ H6 r r0 r1 kb6 ao6=>?_⟩
       have g6:=kb6 _ _ tq g5
       have i6:=kb6 _ _ itq i5
       lia
       refine w_ite (λ z3=>?_) (λ z3=>?_)
       ·lia
        refine ⟨.inl ⟨rfl,_,SqL.of i6⟩,?_⟩
        lia
        refine ⟨it,_,_,rfl,rfl,i6,by rw [List.length_map];exact av (by omega),?_⟩
        refine hj _ _ ⟨zs++[("+":Str)],rfl,(kb5.trans kb6).cB ht0,fY ao6 itq,by rw [aq ith];exact g6,by rw [ag,List.map_append];rfl,.inr ⟨rfl,λ e=>by rw [e] at z1;simp at z1,by omega⟩⟩
       ·lia
        exact hj _ _ ⟨zs,rfl,kb5.trans kb6,ao6,g6,i6,.inl rfl⟩
      ·lia
       exact hj _ _ ⟨zs,rfl,kb5,ao5.mono (by omega),g5,i5,.inl rfl⟩
     ·lia
      exact hj _ _ ⟨zs,rfl,kb5,ao5.mono (by omega),g5,i5,.inl rfl⟩
    ·rintro _ H6 ⟨zs',rfl,kb6,ao6,g6,i6,hz⟩
     lia
     refine ⟨.inl ⟨rfl,_,SqL.of i6⟩,?_⟩
     lia
     refine ⟨.inl ⟨rfl,_,SqL.of g6⟩,?_⟩
     lia
     refine ⟨p,q,ns,_,rfl,sc.kb kb6,hlen,ao6,by omega,λ H7 r r0 r1 kb7 ao7=>?_⟩
     have g7:=kb7 _ _ tq g6
     have i7:=kb7 _ _ itq i6
     lia
     refine ⟨th,_,rfl,.inl (SqL.of g7),?_⟩
     have tp:(0:Int)<((ts.map V.str).length:Nat):=by rw [List.length_map];exact z
     refine w_mod tp ?_
     lia
     have r2:=bw r tp
     have r3:=mod_lt r tp
     rw [List.length_map] at r2 r3 ⊢
     generalize r % (ts.length:Int)=u at r2 r3 ⊢
     have hk:u.toNat<ts.length:=by omega
     have hx:ts[u.toNat]?=some ts[u.toNat]:=List.getElem?_eq_getElem hk
     refine ⟨th,_,u,u.toNat,.str ts[u.toNat],rfl,rfl,g7,by omega,by omega,?_,by rw [List.getElem?_map,hx];rfl,?_⟩
     ·have e:(if u<0 then u+((ts.map V.str).length:Nat) else u)=u:=if_neg (by omega)
      show (if (decide (0<=(if u<0 then u+((ts.map V.str).length:Nat) else u))&&decide ((if u<0 then u+((ts.map V.str).length:Nat) else u)<((ts.map V.str).length:Nat)))=true then some (if u<0 then u+((ts.map V.str).length:Nat) else u).toNat else none)=some u.toNat
      rw [e,decide_eq_true r2,decide_eq_true (by rw [List.length_map];exact r3)];rfl
     lia
     refine ⟨it,_,_,rfl,rfl,by rw [aq (Ne.symm ith)];exact i7,?_,?_⟩
     ·rw [List.length_map]
      rcases hz with rfl | ⟨rfl,_,h⟩
      ·exact av (by omega)
      ·rw [List.length_append,List.length_singleton];exact av (by omega)
     have el:(ts.eraseIdx u.toNat).length+1=ts.length:=(oi hx).length_eq
     refine ⟨_,?_,ts.eraseIdx u.toNat,zs'++[ts[u.toNat]],rfl,rfl,?_,?_,?_,?_,th5.go hx hz⟩
     ·omega
     ·exact KB.cB (KB.cB (kb6.trans kb7) hth) ht0
     ·refine fY (fY (ao7.mono ?_) tq) itq
      omega
     ·rw [aq ith,ag,o4]
     ·rw [ag,List.map_append];rfl
   ·have z:=of_decide_eq_false z
    rw [List.length_map] at z
    obtain rfl:ts=[]:=List.length_eq_zero_iff.mp (by omega)
    lia
    obtain ⟨h1,h2⟩:=th5.its
    exact k H5 it zs ht0 kb5 (ao5.mono (by show c+5+2 * (9 - 0)<=c+40;omega)) i5 h1 h2
end
end K33
namespace L2
open PySem PySem.Spec PyProof.Rows
theorem lcS {nN:Nat} {fs:List (Nat×Nat)} {tc:TT} {te:TE} {σ:St} {H:Hp} {QD:Addr->Hp->Prop} {z:Str} (W:Addr->Nat->List V->Hp->Prop) (hn:z.cps.size<=sizeLine) (h1:(tau nN fs σ)[0]?=some none) (h0:∀ D,H D=none->W D 0 [] (upd H D (.lst [])))
  (ht:∀ D (i:Nat) c ys H2,z.cps[i]?=some c->H D=none->W D i ys H2->H2 D=some (.lst ys)->tc ((tau nN fs σ).set 0 (some (.str ⟨#[c]⟩))) H2 λ b H5=>if b=true then te ((tau nN fs σ).set 0 (some (.str ⟨#[c]⟩))) H5 λ v H6=>H6 D=some (.lst ys)/\W D (i+1) (ys++[v]) (upd H6 D (.lst (ys++[v]))) else H5 D=some (.lst ys)/\W D (i+1) ys H5)
  (hQ:∀ D H2 ys,H D=none->W D z.cps.size ys H2->H2 D=some (.lst ys)->QD D H2):
  ∀ D,H D=none->∃ (n':Nat) (W:Nat->List V->Hp->Prop),n'<=sizeLine/\W 0 [] (upd H D (.lst [])) /\
   ∀ i ys H2,i<=n'->W i ys H2->H2 D=some (.lst ys)->((Its z).stop i H2/\QD D H2)∨(i<n'/\(Its z).go i H2/\∀ x H3,(Its z).yld i H2 x H3->dF 0 x (tau nN fs σ) H3 λ τ4 H4=>
    (∀ (j:Nat) v,(tau nN fs σ)[j]?=some (some v)->τ4[j]?=some (some v))/\tc τ4 H4 λ b H5=>
     if b=true then te τ4 H5 λ v H6=>H6 D=some (.lst ys)/\W (i+1) (ys++[v]) (upd H6 D (.lst (ys++[v]))) else H5 D=some (.lst ys)/\W (i+1) ys H5):=by
 intro D hD
 refine ⟨z.cps.size,W D,hn,h0 D hD,λ i ys H2 hi w2 e2=>?_⟩
 rcases Nat.lt_or_ge i z.cps.size with hlt | hge
 ·refine .inr ⟨hlt,hlt,λ x H3 y=>?_⟩
  obtain ⟨e,c,hc,ex⟩:=y
  subst e ex
  refine jf ⟨gY h1,?_⟩
  exact ht D i c ys _ hc hD w2 e2
 ·have:i=z.cps.size:=by omega
  subst this
  exact .inl ⟨Nat.le_refl _,hQ D H2 ys hD w2 e2⟩
end L2
namespace K33
open PySem PySem.Spec PyProof.Rows L2
structure RD where
 l:Int
 h:Int
 b:Int
 f:Int
 e:Int
 ys:List Str
 t:Addr
 it:Addr
def RD.at (r:RD) (H:Hp):Prop:=H r.t=some (.tup [.int r.l,.int r.h,.int r.b,.int r.f,.int r.e,.ref r.it])/\H r.it=some (.lst (r.ys.map .str))
structure RD.ok (r:RD):Prop where
 ro:ip r.l r.h r.b r.f r.e r.ys=true
 it:Its r.ys 8
 l:0<=r.l/\r.l<10 ^ 60
 h:0<=r.h/\r.h<10 ^ 60
 b:2<=r.b/\r.b<10 ^ 60
 f:0<=r.f/\r.f<10 ^ 60
 e:0<=r.e/\r.e<10 ^ 60
theorem RD.at.same {r:RD} {H H':Hp} (h:r.at H) (s:ax H H'):r.at H':=⟨s _ _ h.1,s _ _ h.2⟩
theorem bR {H:Hp} {q c:Addr} {n:Nat} {o:HO} (ao:bh H q n) (h:H c=some o) (ho:∀ i j g:Int,o≠.lst [.int i,.int j,.int g]):c≠q:=λ e=>by
 obtain ⟨i,j,g,hq,_⟩:=ao.ob
 rw [e,hq] at h
 exact ho i j g (Option.some.inj h).symm
theorem cW {ts:List Addr} (i j g:Int):HO.lst (ts.map .ref)≠.lst [.int i,.int j,.int g]:=λ e=>by
 cases ts with
 | nil=>injection e with e;cases e
 | cons t r=>injection e with e;injection e with e _;cases e
theorem RD.at.kb {r:RD} {H H':Hp} {q:Addr} {c:Nat} (h:r.at H) (ao:bh H q c) (k:KB q H H'):r.at H':=⟨k _ _ (bR ao h.1 λ _ _ _ z=>by cases z) h.1,k _ _ (mx ao h.2) h.2⟩
theorem yo {sg ys:List Str} {s:Str} (h1:s∈sg) (h2:s∈ys):kX sg ys=true:=List.any_eq_true.mpr ⟨s,h1,jO.mpr h2⟩
theorem Av {l h b f e:Int} {ys:List Str} (i:Its ys 8) (h1:0<=l) (h2:l<=h) (h3:2<=b) (h4:0<=f) (h5:f<=e) (h6:e<b) (t1:f≠e->kX ["R","K"] ys=true) (t2:l / b≠h / b->kX ["Q","N","W","U"] ys=true):ip l h b f e ys=true:=by
 unfold ip mQ kH
 rw [i.pieces,decide_eq_false (show ¬ l<0 by omega),decide_eq_false (show ¬ h<l by omega),decide_eq_false (show ¬ b<2 by omega),decide_eq_false (show ¬ f<0 by omega),decide_eq_false (show ¬ e<f by omega),decide_eq_false (show ¬ b<=e by omega)]
 by_cases z1:f=e
 ·rw [decide_eq_true z1]
  by_cases z2:l / b=h / b
  ·rw [decide_eq_true z2];rfl
  ·rw [decide_eq_false z2,t2 z2];rfl
 ·rw [decide_eq_false z1,t1 z1]
  by_cases z2:l / b=h / b
  ·rw [decide_eq_true z2];rfl
  ·rw [decide_eq_false z2,t2 z2];rfl
theorem Bl {l h b f e:Int} {ys:List Str} {t it:Addr} (i:Its ys 8) (h1:0<=l) (h2:l<=h) (h3:2<=b) (h4:0<=f) (h5:f<=e) (h6:e<b) (h7:h<10 ^ 60) (h8:b<10 ^ 60) (t1:f≠e->kX ["R","K"] ys=true) (t2:l / b≠h / b->kX ["Q","N","W","U"] ys=true):RD.ok ⟨l,h,b,f,e,ys,t,it⟩:=
 ⟨Av i h1 h2 h3 h4 h5 h6 t1 t2,i,⟨h1,Int.lt_of_le_of_lt h2 h7⟩,⟨Int.le_trans h1 h2,h7⟩,⟨h3,h8⟩,⟨h4,Int.lt_of_le_of_lt h5 (Int.lt_trans h6 h8)⟩,⟨Int.le_trans h4 h5,Int.lt_trans h6 h8⟩⟩
def four:List Str:=["Q","N","W","U"]
theorem AQ:∀ (i c:Nat),("QNWU":Str).cps[i]?=some c->four[i]?=some ⟨#[c]⟩
 | 0,c,h=>by have:(81:Nat)=c:=Option.some.inj ((show ("QNWU":Str).cps[0]?=some 81 by decide +kernel).symm.trans h);subst this;rfl
 | 1,c,h=>by have:(78:Nat)=c:=Option.some.inj ((show ("QNWU":Str).cps[1]?=some 78 by decide +kernel).symm.trans h);subst this;rfl
 | 2,c,h=>by have:(87:Nat)=c:=Option.some.inj ((show ("QNWU":Str).cps[2]?=some 87 by decide +kernel).symm.trans h);subst this;rfl
 | 3,c,h=>by have:(85:Nat)=c:=Option.some.inj ((show ("QNWU":Str).cps[3]?=some 85 by decide +kernel).symm.trans h);subst this;rfl
 | i+4,c,h=>by
  have e4:("QNWU":Str).cps.size=4:=by decide +kernel
  have e:("QNWU":Str).cps[i+4]?=none:=Array.getElem?_eq_none (by omega)
  rw [e] at h;cases h
theorem Ce {k:Int} (h0:0<=k) (h3:k<3):∃ ss:List Str,f9 [V.str "R",.str "K"] none (some k)=ss.map V.str/\ss.Nodup/\∀ s∈ss,s∈(["R","K"]:List Str):=by
 rcases (show k=0∨k=1∨k=2 by omega) with rfl | rfl | rfl
 ·exact ⟨[],rfl,by simp,λ _ h=>(nomatch h)⟩
 ·exact ⟨["R"],rfl,by simp,λ s h=>by rw [List.mem_singleton.mp h];simp⟩
 ·exact ⟨["R","K"],rfl,by decide +kernel,λ s h=>h⟩
theorem zF (i:Int):∃ c,atI ("RK":Str).cps.toList (i % 2)=some c/\(⟨#[c]⟩:Str)∈(["R","K"]:List Str):=by
 rcases (show i % 2=0∨i % 2=1 by omega) with h | h <;> rw [h]
 ·exact ⟨82,by decide +kernel,by decide +kernel⟩
 ·exact ⟨75,by decide +kernel,by decide +kernel⟩
theorem wo (i:Int):∃ c,atI ("QNWU":Str).cps.toList (i % 4)=some c/\(⟨#[c]⟩:Str)∈four:=by
 rcases (show i % 4=0∨i % 4=1∨i % 4=2∨i % 4=3 by omega) with h | h | h | h <;> rw [h]
 ·exact ⟨81,by decide +kernel,by decide +kernel⟩
 ·exact ⟨78,by decide +kernel,by decide +kernel⟩
 ·exact ⟨87,by decide +kernel,by decide +kernel⟩
 ·exact ⟨85,by decide +kernel,by decide +kernel⟩
theorem c6 {x:Int} (h0:0<=x) (h:x<10 ^ 62):x.natAbs.log2<250:=by
 rcases Nat.eq_zero_or_pos x.natAbs with z | z
 ·rw [z];decide
 ·refine (Nat.log2_lt (by omega)).mpr ?_
  have:(10:Nat) ^ 62<2 ^ 250:=by decide
  omega
theorem Au {s:Str} (h1:s∈(["R","K"]:List Str)) (h2:s∈four):False:=by
 unfold four at h2
 simp only [List.mem_cons,List.not_mem_nil,or_false] at h1
 rcases h1 with rfl | rfl
 ·exact absurd h2 (by decide +kernel)
 ·exact absurd h2 (by decide +kernel)
theorem x9 {s:Str} (h:s∈(["R","K"]:List Str)):s∈sig:=by
 simp only [List.mem_cons,List.not_mem_nil,or_false] at h
 rcases h with rfl | rfl <;> decide +kernel
theorem yq {s:Str} (h:s∈four):s∈sig:=by
 unfold four at h
 simp only [List.mem_cons,List.not_mem_nil,or_false] at h
 rcases h with rfl | rfl | rfl | rfl <;> decide +kernel
theorem AV {y:Str} (h:bD y=true):Its [y] 8:=⟨by have:=Ok.nil.snoc (x:=y) (.inl h) (λ z=>absurd z (nL h)) (λ z=>absurd z (mI h));exact this,by simp,λ e=>mI h (Option.some.inj e),⟨y,List.mem_singleton.mpr rfl,h⟩,by simp⟩
section
variable {P:Program} {w:World} {K:PySem.W.Frag} {mg:Str->Option Value} {base:Heap} {a:Ad}
abbrev DRu (K:PySem.W.Frag) (mg:Str->Option Value):=Df K mg "_law_rule" "_law_rule" (top 60) ["_law_script","_law_at","_law_words_here","_law_small"]
def C2 (K:PySem.W.Frag):Sp:=λ vs H Q _=>∃ (p q l:Addr) (b:Bool) (ns:List Int) (c:Nat) (ys:List Str),vs=[.ref p,.ref q,.ref l,.bl b]/\Scr K q H p ns/\ns.length<=63/\bh H q c/\c<=800000/\Words H l ys /\
 ∀ H' r,H r.t=none->KB q H H'->bh H' q (c+60)->RD.at r H'->RD.ok r->Q (.ref r.t) H'
abbrev nRu:List Str:=["_law_script","_law_at","_law_words_here","_law_small","_law_n","_law_low","_law_base","_law_high","_law_first","_law_last","_law_signs","_law_more"]
theorem GK:aS nRu ["_law_script","_law_at","_law_words_here","_law_small"] (aw (top 60)):=⟨rfl,rfl,rfl,by decide +kernel,rfl,by decide +kernel,by decide +kernel⟩
theorem GH (D:DRu K mg) (ak:iK K mg) (aP:F0 P w base 1 ak (fz K)) (bC:DGr K mg) (fL:F0 P w base 2 bC (AI K))
  (fG:DIt K mg) (pQ:F0 P w base 2 fG (Cr K)) (T:Txt K mg a):F0 P w base 3 D (C2 K):=by
 refine Df.ok (k:=2) D.ex GK (λ vs H Q E h=>?_) (λ A outer s H vs Q E hr h=>?_)
 ·obtain ⟨p,q,l,b,ns,c,ys,rfl,_⟩:=h;rfl
 ·obtain ⟨p,q,l,b,ns,c,ys,rfl,sc,hlen,ao,hc,wd,k⟩:=h
  have nd:=GK.nd
  have hu:=Nat.lt_of_succ_lt (vK hr)
  refine ⟨_,(ae (aN (i:=4) nd rfl (Or.inl rfl) (ay aP (hr.mono (by decide)) (by rfl) ak.mg ak.kp ak.bd .nil aW (ai (pv 0) (ai (pv 1) aa))))
 (ae (aN (i:=5) nd rfl (Or.inl rfl) (au aG (au bc (pv 4) af) af))
 (ae (aN (i:=6) nd rfl (Or.inl rfl) (au bT af (au aG (au bc (pv 4) af) af)))
 (ae (a8 (pw_and (bu (bt (pv 3))) (pw_and1 (aL nX (au aG (pv 4) af) af (aC _)))).pt
 (ae (aN (i:=5) nd rfl (Or.inl rfl) (au bc (au eE (ay fL (hr.mono (by decide)) (by rfl) bC.mg bC.kp bC.bd .nil aW (ai (pv 0) (ai (pv 1) aa))) af) af))
 (ar (aN (i:=6) nd rfl (Or.inl rfl) (au bT af (au bc (au eE (ay fL (hr.mono (by decide)) (by rfl) bC.mg bC.kp bC.bd .nil aW (ai (pv 0) (ai (pv 1) aa))) af) af)))))
 aH)
 (ae (a8 (aL cj (au aG (pv 4) af) af (aC _))
 (ar (aO (fT (ai (pv 5) (ai (pv 5) (ai af (ai (au aG (pv 5) af) (ai (au aG (pv 5) af) (ai (a5 (ai (aY aQ (pv 2) (au aG (au bc (pv 4) af) (aB aA (by rfl) T.br boot_len (ai (pv 2) aa))) (λ _ _=>rfl)) aa)) aa)))))))))
 aH)
 (ae (aN (i:=7) nd rfl (Or.inl rfl) (au bT (pv 5) (aY aQ (a5 (ai af (ai af (ai (au aG (pv 4) af) aa)))) (au aG (au bc (pv 4) af) af) (λ _ _=>rfl))))
 (ae (aN (i:=8) nd rfl (Or.inl rfl) (au aG (pv 5) (pv 6)))
 (ae (aN (i:=9) nd rfl (Or.inl rfl) (pv 8))
 (ae (a8 (aL nX (au aG (au bc (pv 4) af) af) af (aC _))
 (ae (aN (i:=8) nd rfl (Or.inl rfl) (au aG (ay aP (hr.mono (by decide)) (by rfl) ak.mg ak.kp ak.bd .nil aW (ai (pv 0) (ai (pv 1) aa))) (pv 6)))
 (ar (aN (i:=9) nd rfl (Or.inl rfl) (au bT (pv 8) (au aG (aY aQ (a5 (ai af (ai (au aG (pv 4) af) aa))) (au aG (au bc (pv 4) af) af) (λ _ _=>rfl)) (au k9 (pv 6) (pv 8)))))))
 aH)
 (ae (aN (i:=10) nd rfl (Or.inl rfl) (bU iq (a5 (ai aD (ai aD aa))) cX (b7 (au aG (au bc (pv 4) af) af))))
 (ae (a8 (pw_and (aL dB (pv 8) (pv 9) (aC _)) (pw_and1 (aL (nj hu) (pv 10) (a5 aa) (aC _)))).pt
 (ar (aN (i:=10) nd rfl (Or.inl rfl) (a5 (ai (aY iW aD (au aG (au bc (pv 4) af) af) (λ _ _=>rfl)) aa))))
 aH)
 (ae (j8 (i:=11) nd rfl (Or.inl rfl) (N:=["_law_sign","_law_script","_law_at"]) (fs:=[(1,0),(2,1)]) (⟨rfl,by rfl,by rfl,by rfl,⟨⟨_,rfl,rfl,rfl,Or.inl rfl⟩,⟨⟨_,rfl,rfl,rfl,Or.inl rfl⟩,trivial⟩⟩⟩) rfl (tS aD) (λ _ _ _ _ _=>(az (i:=0) (show List.Nodup (["_law_sign","_law_script","_law_at"]:List Str) from by decide +kernel) rfl (Or.inl rfl))) (λ _ _ _ _ _=>by exact (vE (aL cj (au aG (ay aP (hr.mono (by decide)) (by rfl) ak.mg ak.kp ak.bd .nil aW (ai (pv 1) (ai (pv 2) aa))) af) af (aC _)))) (λ _ _ _ _ _=>by exact (pv 0)))
 (ae (a8 (pw_and (aL dB (au iY (pv 5) (pv 6)) (au iY (pv 7) (pv 6)) (aC _)) (pw_and1 (aL (nj hu) (pv 11) (a5 aa) (aC _)))).pt
 (ar (aN (i:=11) nd rfl (Or.inl rfl) (a5 (ai (aY iW aD (au aG (au bc (pv 4) af) af) (λ _ _=>rfl)) aa))))
 aH)
 (ar (aO (fT (ai (pv 5) (ai (pv 7) (ai (pv 6) (ai (pv 8) (ai (pv 9) (ai (ay pQ (hr.mono (by decide)) (by rfl) fG.mg fG.kp fG.bd .nil aW (ai (pv 0) (ai (pv 1) (ai (pv 2) (ai (au gM (pv 10) (pv 11)) aa))))) aa)))))))))))))))))))))),?_⟩
  lia
  refine ⟨p,q,ns,c,rfl,sc,hlen,ao,by omega,λ H1 n n0 n1 kb1 ao1=>?_⟩
  (repeat array_mem_dec)
  have hA:0<=n / 9 % 100/\n / 9 % 100<10 ^ 60 - 60:=by omega
  have hB:2<=2+n / 900 % 30/\2+n / 900 % 30<10 ^ 60 - 60:=by omega
  generalize n / 9 % 100=low0 at hA ⊢
  generalize 2+n / 900 % 30=base0 at hB ⊢
  show qZ _ _ _ _ [some (V.ref p),some (V.ref q),some (V.ref l),some (V.bl b),some (V.int n),some (V.int low0),some (V.int base0),none,none,none,none,none] H1
  refine iX (λ σ2 H2=>∃ low bs:Int,σ2=[some (V.ref p),some (V.ref q),some (V.ref l),some (V.bl b),some (V.int n),some (V.int low),some (V.int bs),none,none,none,none,none]/\KB q H H2/\bh H2 q (c+3)/\0<=low/\low<10 ^ 60 - 60/\2<=bs/\bs<10 ^ 60 - 60) (λ nx' hj=>?_) ?_
  ·lia
   refine w_ite (λ _=>?_) (λ _=>?_)
   ·lia
    refine w_ite (λ _=>?_) (λ _=>?_)
    ·lia
     refine ⟨p,q,ns,_,rfl,sc.kb kb1,hlen,ao1,by omega,λ H2 r r0 r1 kb2 ao2=>?_⟩
     lia
     refine w_I (.inr ⟨by omega,by omega⟩) ?_
     lia
     refine ⟨p,q,ns,_,rfl,(sc.kb kb1).kb kb2,hlen,ao2,by omega,λ H3 r' r0' r1' kb3 ao3=>?_⟩
     lia
     refine w_I (.inr ⟨by omega,by omega⟩) ?_
     lia
     exact hj _ _ ⟨_,_,rfl,kb1.trans (kb2.trans kb3),ao3,by omega,by omega,by omega,by omega⟩
    ·lia
     exact hj _ _ ⟨_,_,rfl,kb1,ao1.mono (by omega),hA.1,hA.2,hB.1,hB.2⟩
   ·lia
    exact hj _ _ ⟨_,_,rfl,kb1,ao1.mono (by omega),hA.1,hA.2,hB.1,hB.2⟩
  rintro _ H2 ⟨low,bs,rfl,kb2,ao2,la,lb,ba,bb⟩
  clear kb1 ao1 hA hB
  have wd2:=wd.kb ao kb2
  have sc2:=sc.kb kb2
  (repeat array_mem_dec)
  lia
  refine w_ite (λ _=>?_) (λ _=>?_)
  ·lia
   refine ⟨l,_,rfl,.inl (SqL.of wd2.1),?_⟩
   refine w_mod wd2.pos ?_
   obtain ⟨y,hy,ey⟩:=wd2.pick (n / 36)
   refine ⟨l,_,_,_,rfl,rfl,SqL.of wd2.1,ey,?_⟩
   lia
   refine ⟨by show 1<=sizeLine;decide,λ it hit=>?_⟩
   lia
   refine ⟨by show 6<=sizeLine;decide,λ t ht=>?_⟩
   have s1:=ax.upd (o:=.lst [V.str y]) hit
   have s2:=ax.upd (o:=.tup [.int low,.int low,.int 2,.int (low % 2),.int (low % 2),.ref it]) ht
   have wy:=wd2.2.2.2 y hy
   have it0:Its [y] 8:=AV wy
   exact k _ ⟨low,low,2,low % 2,low % 2,[y],t,it⟩ (KB.free (kb2.trans (.of s1)) (ao2.same s1) ht) (kb2.trans (.of (s1.trans s2))) ((ao2.same (s1.trans s2)).mono (by omega)) ⟨ag,s2 _ _ ag⟩
    (Bl it0 la (by omega) (by omega) (by omega) (by omega) (by omega) (by omega) (by omega) (λ z=>absurd rfl z) λ z=>absurd rfl z)
  lia
  refine ⟨by show 3<=sizeLine;decide,λ l3 h3=>?_⟩
  lia
  obtain ⟨v,hv,ev⟩:=fX (xs:=[V.int 0,.int 1,.int (n % 50)]) (bw (n / 4) (show (0:Int)<3 by decide)) (by exact mod_lt (n / 4) (show (0:Int)<3 by decide))
  refine ⟨l3,_,_,_,rfl,rfl,SqL.of ag,ev,?_⟩
  obtain ⟨m,rfl,m0,m1⟩:∃ m:Int,v=.int m/\0<=m/\m<50:=by
   simp only [List.mem_cons,List.not_mem_nil,or_false] at hv
   rcases hv with rfl | rfl | rfl
   ·exact ⟨0,rfl,by decide,by decide⟩
   ·exact ⟨1,rfl,by decide,by decide⟩
   ·exact ⟨_,rfl,by omega,by omega⟩
  have s3:=ax.upd (o:=.lst [V.int 0,.int 1,.int (n % 50)]) h3
  generalize upd H2 l3 _=H3 at s3 ⊢
  have kb3:KB q H H3:=kb2.trans (.of s3)
  have ao3:=ao2.same s3
  lia
  refine w_mod (by omega) ?_
  (repeat array_mem_dec)
  have f0:=bw low (show (0:Int)<bs by omega)
  have f1:=mod_lt low (show (0:Int)<bs by omega)
  generalize low % bs=fi at f0 f1 ⊢
  show qZ _ _ _ _ [some (V.ref p),some (V.ref q),some (V.ref l),some (V.bl b),some (V.int n),some (V.int low),some (V.int bs),some (V.int (low+m)),some (V.int fi),some (V.int fi),none,none] H3
  refine iX (λ σ2 H4=>∃ fi la:Int,σ2=[some (V.ref p),some (V.ref q),some (V.ref l),some (V.bl b),some (V.int n),some (V.int low),some (V.int bs),some (V.int (low+m)),some (V.int fi),some (V.int la),none,none]/\KB q H H4/\bh H4 q (c+4)/\0<=fi/\fi<=la/\la<bs) (λ nx' hj=>?_) ?_
  ·lia
   refine w_ite (λ _=>?_) (λ _=>?_)
   ·lia
    refine ⟨p,q,ns,_,rfl,sc.kb kb3,hlen,ao3,by omega,λ H4 r r0 r1 kb4 ao4=>?_⟩
    lia
    refine w_mod (by omega) ?_
    lia
    have g0:=bw r (show (0:Int)<bs by omega)
    have g1:=mod_lt r (show (0:Int)<bs by omega)
    generalize r % bs=fj at g0 g1 ⊢
    refine ⟨by show 2<=sizeLine;decide,λ l4 h4=>?_⟩
    lia
    obtain ⟨v,hv,ev⟩:=fX (xs:=[V.int 0,.int (n % 40)]) (bw (n / 36) (show (0:Int)<2 by decide)) (by exact mod_lt (n / 36) (show (0:Int)<2 by decide))
    refine ⟨l4,_,_,_,rfl,rfl,SqL.of ag,ev,?_⟩
    obtain ⟨u,rfl⟩:∃ u:Int,v=.int u:=by
     simp only [List.mem_cons,List.not_mem_nil,or_false] at hv
     rcases hv with rfl | rfl
     all_goals exact ⟨_,rfl⟩
    lia
    refine w_mod (by omega) ?_
    lia
    have s4:=ax.upd (o:=.lst [V.int 0,.int (n % 40)]) h4
    have e0:=bw u (show (0:Int)<bs - fj by omega)
    have e1:=mod_lt u (show (0:Int)<bs - fj by omega)
    exact hj _ _ ⟨_,_,rfl,kb3.trans (kb4.trans (.of s4)),ao4.same s4,g0,by omega,by omega⟩
   ·lia
    exact hj _ _ ⟨_,_,rfl,kb3,ao3.mono (by omega),f0,by omega,f1⟩
  clear f0 f1 fi kb3 ao3 s3 H3 ev
  rintro _ H3 ⟨fi,la',rfl,kb3,ao3,f0,f1,f2⟩
  (repeat array_mem_dec)
  refine ⟨by show 2<=sizeLine;decide,λ l4 h4=>?_⟩
  (repeat array_mem_dec)
  obtain ⟨ss0,es0,nd0,sb0⟩:=Ce (bw (n / 72) (show (0:Int)<3 by decide)) (mod_lt (n / 72) (show (0:Int)<3 by decide))
  refine ⟨l4,_,rfl,SqL.of ag,λ l5 h5=>?_⟩
  have s4:=ax.upd (o:=.lst [V.str "R",.str "K"]) h4
  generalize upd H3 l4 _=H4 at s4 h5 ⊢
  have g5:(upd H4 l5 (.lst (f9 [V.str "R",.str "K"] none (some (n / 72 % 3))))) l5=some (.lst (f9 [V.str "R",.str "K"] none (some (n / 72 % 3)))):=ag
  have s5:=ax.upd (o:=.lst (f9 [V.str "R",.str "K"] none (some (n / 72 % 3)))) h5
  generalize upd H4 l5 _=H5 at s5 g5 ⊢
  rw [es0] at g5
  have kb5:KB q H H5:=kb3.trans (.of (s4.trans s5))
  have ao5:=ao3.same (s4.trans s5)
  have hl5:H l5=none:=KB.free (kb3.trans (.of s4)) (ao3.same s4) h5
  clear s4 s5 es0 kb3 ao3 h4 h5
  (repeat array_mem_dec)
  show qZ _ _ _ _ [some (V.ref p),some (V.ref q),some (V.ref l),some (V.bl b),some (V.int n),some (V.int low),some (V.int bs),some (V.int (low+m)),some (V.int fi),some (V.int la'),some (V.ref l5),none] H5
  refine iX (λ σ2 H6=>∃ (sg:Addr) (ss:List Str),σ2=[some (V.ref p),some (V.ref q),some (V.ref l),some (V.bl b),some (V.int n),some (V.int low),some (V.int bs),some (V.int (low+m)),some (V.int fi),some (V.int la'),some (V.ref sg),none]/\KB q H H6/\bh H6 q (c+4)/\H6 sg=some (.lst (ss.map V.str))/\ss.Nodup/\(∀ s∈ss,s∈(["R","K"]:List Str))/\(fi≠la'->ss≠[])) (λ nx' hj=>?_) ?_
  ·lia
   refine w_ite (λ z1=>?_) (λ z1=>?_)
   ·lia
    refine ⟨by show 0<=sizeLine;decide,λ l6 h6=>?_⟩
    have s6:=ax.upd (o:=.lst []) h6
    have g6:(upd H5 l6 (.lst [])) l6=some (.lst []):=ag
    generalize upd H5 l6 _=H6 at s6 g6 ⊢
    refine ⟨l5,l6,_,_,rfl,rfl,.inl ⟨SqL.of (s6 _ _ g5),SqL.of g6⟩,dE _,rfl,?_⟩
    lia
    refine w_ite (λ z2=>?_) (λ z2=>?_)
    ·lia
     obtain ⟨ch,ech,mch⟩:=zF (n / 216)
     refine ⟨_,_,ch,rfl,rfl,by decide,ech,?_⟩
     lia
     refine ⟨by show 1<=sizeLine;decide,λ l7 h7=>?_⟩
     lia
     have s7:=ax.upd (o:=.lst [V.str ⟨#[ch]⟩]) h7
     exact hj _ _ ⟨l7,[⟨#[ch]⟩],rfl,kb5.trans (.of (s6.trans s7)),ao5.same (s6.trans s7),ag,by simp,λ s h=>by rw [List.mem_singleton.mp h];exact mch,λ _=>by simp⟩
    ·lia
     refine hj _ _ ⟨l5,ss0,rfl,kb5.trans (.of s6),ao5.same s6,s6 _ _ g5,nd0,sb0,λ _ e=>?_⟩
     rw [e] at z2
     exact absurd z2 (by decide)
   ·lia
    have z1:fi=la':=by simpa using z1
    exact hj _ _ ⟨l5,ss0,rfl,kb5,ao5,g5,nd0,sb0,λ h=>absurd z1 h⟩
  clear g5 hl5 kb5 ao5 nd0 sb0 ss0
  rintro _ H4 ⟨sg,ss,rfl,kb4,ao4,g4,nds,sbs,nes⟩
  have sgq:sg≠q:=mx ao4 g4
  (repeat array_mem_dec)
  refine ⟨_,rfl,?_⟩
  refine lcS (λ D i zs H5=>∃ s2:List Str,zs=s2.map V.str/\KB q H4 H5/\bh H5 q (c+4+i)/\s2.Sublist (four.take i)) (by decide +kernel) rfl (λ D hD=>⟨[],rfl,.put hD,fY ao4 (λ e=>by obtain ⟨_,_,_,hq,_⟩:=ao4.ob;rw [e,hq] at hD;cases hD),List.Sublist.refl _⟩) (λ D i ch zs H5 hi hD w5 e5=>?_) (λ D H5 zs hD w5 e5=>?_)
  ·obtain ⟨s2,rfl,kb5,ao5,sb5⟩:=w5
   have dq:D≠q:=mx ao5 e5
   have hf:=AQ i ch hi
   have hi4:i<4:=(List.getElem?_eq_some_iff.mp hf).1
   lia
   refine ⟨p,q,ns,_,rfl,(sc.kb kb4).kb kb5,hlen,ao5,by omega,λ H6 r r0 r1 kb6 ao6=>?_⟩
   have e6:=kb6 _ _ dq e5
   lia
   have tk:four.take (i+1)=four.take i++[⟨#[ch]⟩]:=by rw [List.take_succ,hf];rfl
   refine w_ite (λ _=>?_) (λ _=>?_)
   ·lia
    exact ⟨e6,s2++[⟨#[ch]⟩],by rw [List.map_append];rfl,(kb5.trans kb6).cB hD,fY ao6 dq,by rw [tk];exact sb5.append (List.Sublist.refl _)⟩
   ·exact ⟨e6,s2,rfl,kb5.trans kb6,ao6,by rw [tk];exact sb5.trans (List.sublist_append_left _ _)⟩
  obtain ⟨s2,rfl,kb5,ao5,sb5⟩:=w5
  have sb5:s2.Sublist four:=by rw [show four.take ("QNWU":Str).cps.size=four from by decide +kernel] at sb5;exact sb5
  have ao5:bh H5 q (c+8):=ao5.mono (by rw[show ("QNWU":Str).cps.size=4 from by decide +kernel];omega)
  have g5:=kb5 _ _ sgq g4
  have nd5:s2.Nodup:=sb5.nodup (by decide +kernel)
  have kbA:=kb4.trans kb5
  (repeat array_mem_dec)
  show qZ _ _ _ _ [some (V.ref p),some (V.ref q),some (V.ref l),some (V.bl b),some (V.int n),some (V.int low),some (V.int bs),some (V.int (low+m)),some (V.int fi),some (V.int la'),some (V.ref sg),some (V.ref D)] H5
  refine iX (λ σ2 H6=>∃ (mo:Addr) (s3:List Str),σ2=[some (V.ref p),some (V.ref q),some (V.ref l),some (V.bl b),some (V.int n),some (V.int low),some (V.int bs),some (V.int (low+m)),some (V.int fi),some (V.int la'),some (V.ref sg),some (V.ref mo)]/\KB q H H6/\bh H6 q (c+8)/\H6 sg=some (.lst (ss.map V.str))/\H6 mo=some (.lst (s3.map V.str))/\s3.Nodup/\(∀ s∈s3,s∈four)/\(low / bs≠(low+m) / bs->s3≠[])) (λ nx' hj=>?_) ?_
  ·have dv:u6 low bs:=⟨by omega,Nat.lt_trans (c6 (by omega) (by omega)) (by decide)⟩
   have dv2:u6 (low+m) bs:=dv
   lia
   refine w_I dv ?_
   lia
   refine w_I dv2 ?_
   lia
   refine w_ite (λ z1=>?_) (λ z1=>?_)
   ·lia
    refine ⟨by show 0<=sizeLine;decide,λ l6 h6=>?_⟩
    have s6:=ax.upd (o:=.lst []) h6
    have g6:(upd H5 l6 (.lst [])) l6=some (.lst []):=ag
    generalize upd H5 l6 _=H6 at s6 g6 ⊢
    refine ⟨D,l6,_,_,rfl,rfl,.inl ⟨SqL.of (s6 _ _ e5),SqL.of g6⟩,dE _,rfl,?_⟩
    lia
    refine w_ite (λ z2=>?_) (λ z2=>?_)
    ·lia
     obtain ⟨ch,ech,mch⟩:=wo (n / 432)
     refine ⟨_,_,ch,rfl,rfl,by decide,ech,?_⟩
     lia
     refine ⟨by show 1<=sizeLine;decide,λ l7 h7=>?_⟩
     lia
     have s7:=ax.upd (o:=.lst [V.str ⟨#[ch]⟩]) h7
     exact hj _ _ ⟨l7,[⟨#[ch]⟩],rfl,kbA.trans (.of (s6.trans s7)),ao5.same (s6.trans s7),s7 _ _ (s6 _ _ g5),ag,by simp,λ s h=>by rw [List.mem_singleton.mp h];exact mch,λ _=>by simp⟩
    ·lia
     refine hj _ _ ⟨D,s2,rfl,kbA.trans (.of s6),ao5.same s6,s6 _ _ g5,s6 _ _ e5,nd5,λ s h=>sb5.subset h,λ _ e=>?_⟩
     rw [e] at z2
     exact absurd z2 (by decide)
   ·lia
    have z1:low / bs=(low+m) / bs:=by simpa using z1
    exact hj _ _ ⟨D,s2,rfl,kbA,ao5,g5,e5,nd5,λ s h=>sb5.subset h,λ h=>absurd z1 h⟩
  rintro _ H6 ⟨mo,s3,rfl,kb6,ao6,g6,m6,nd3,sb3,ne3⟩
  lia
  have l2:ss.length<=2:=gO nds sbs
  have l4':s3.length<=4:=gO nd3 sb3
  refine ⟨sg,mo,_,_,rfl,rfl,g6,m6,by rw [List.length_map,List.length_map];exact av (by omega),λ l7 h7=>?_⟩
  rw [<- List.map_append]
  have s7:=ax.upd (o:=.lst ((ss++s3).map V.str)) h7
  have g7:(upd H6 l7 (.lst ((ss++s3).map V.str))) l7=some (.lst ((ss++s3).map V.str)):=ag
  generalize upd H6 l7 _=H7 at s7 g7 ⊢
  have kb7:=kb6.trans (.of s7)
  have ao7:=ao6.same s7
  lia
  refine ⟨p,q,l,l7,ns,c+8,ys,ss++s3,rfl,sc.kb kb7,hlen,ao7,by omega,wd.kb ao kb7,g7,?_,?_,?_,λ H8 it zs hit kb8 ao8 g8 it8 in8=>?_⟩
  ·exact List.nodup_append.mpr ⟨nds,nd3,λ x hx y hy e=>Au (sbs x hx) (e ▸ sb3 y hy)⟩
  ·intro s hs
   rcases List.mem_append.mp hs with hs | hs
   ·exact x9 (sbs s hs)
   ·exact yq (sb3 s hs)
  ·rw [List.length_append];omega
  ·lia
   refine ⟨by show 6<=sizeLine;decide,λ t ht=>?_⟩
   have s9:=ax.upd (o:=.tup [.int low,.int (low+m),.int bs,.int fi,.int la',.ref it]) ht
   refine k _ ⟨low,low+m,bs,fi,la',zs,t,it⟩ (KB.free (kb7.trans kb8) ao8 ht) (kb7.trans (kb8.trans (.of s9))) ((ao8.same s9).mono (by omega)) ⟨ag,s9 _ _ g8⟩ ?_
   refine Bl it8 la (by omega) ba f0 f1 f2 (by omega) (by omega) (λ z=>?_) λ z=>?_
   ·obtain ⟨s,hs⟩:=List.exists_mem_of_ne_nil _ (nes z)
    exact yo (sbs s hs) (in8 s (List.mem_append_left _ hs))
   ·obtain ⟨s,hs⟩:=List.exists_mem_of_ne_nil _ (ne3 z)
    exact yo (sb3 s hs) (in8 s (List.mem_append_right _ hs))
end
structure PD where
 m:Str×Str
 t:Addr
structure KDD where
 ti:Str
 en:Str
 ps:List PD
 t:Addr
 n:Addr
def gA (ps:List PD):List V:=(ps.map (·.t)).map .ref
def KDD.at (k:KDD) (H:Hp):Prop:=H k.t=some (.tup [.str k.ti,.str k.en,.ref k.n])/\H k.n=some (.lst (gA k.ps))/\∀ p∈k.ps,H p.t=some (dA p.m)
structure KDD.ok (k:KDD):Prop where
 ko:cn k.ti k.en (k.ps.map (·.m))=true
 le:k.ps.length<=12
theorem KDD.at.same {k:KDD} {H H':Hp} (h:k.at H) (s:ax H H'):k.at H':=⟨s _ _ h.1,s _ _ h.2.1,λ p hp=>s _ _ (h.2.2 p hp)⟩
theorem KDD.at.kb {k:KDD} {H H':Hp} {q:Addr} {c:Nat} (h:k.at H) (ao:bh H q c) (kb:KB q H H'):k.at H':=
 ⟨kb _ _ (bR ao h.1 λ _ _ _ z=>by cases z) h.1,kb _ _ (bR ao h.2.1 cW) h.2.1,λ p hp=>kb _ _ (bR ao (h.2.2 p hp) λ _ _ _ z=>by cases z) (h.2.2 p hp)⟩
def jQ:List Str:=["a","which","partsofa","share"]
def km:List Str:=["kind","turn","rule","bound"]
def titleOf (ys:List Str) (k:Nat):Str:=(if ys.head?=some "rule" then km else jQ).getD k ""
theorem yd (ys:List Str) {k:Nat} (h:k<4):gv (titleOf ys k)=true:=by
 unfold titleOf
 rcases (show k=0∨k=1∨k=2∨k=3 by omega) with rfl | rfl | rfl | rfl <;> split <;> decide +kernel
theorem wc (ys:List Str) {m:Nat} (h:m<=4):((List.range m).map (titleOf ys)).Nodup:=by
 have e:((List.range 4).map (titleOf ys)).Nodup:=by
  have:(List.range 4).map (titleOf ys)=if ys.head?=some "rule" then km else jQ:=by
   unfold titleOf
   split <;> rfl
  rw [this]
  split <;> decide +kernel
 have:((List.range m).map (titleOf ys)).Sublist ((List.range 4).map (titleOf ys)):=List.Sublist.map _ (by
  rcases (show m=0∨m=1∨m=2∨m=3∨m=4 by omega) with rfl | rfl | rfl | rfl | rfl <;> decide)
 exact this.nodup e
def ring (ys:List Str) (a:Int) (i:Nat):List Str:=(List.range i).map λ (j:Nat)=>ys.getD ((a+j) % (ys.length:Int)).toNat ""
theorem zS {ys:List Str} (nd:ys.Nodup) (a:Int) {i:Nat} (h:i<=ys.length):(ring ys a i).Nodup:=by
 refine List.pairwise_iff_getElem.mpr λ x y hx hy hxy e=>?_
 have lx:x<i:=by simpa [ring] using hx
 have ly:y<i:=by simpa [ring] using hy
 have hp:(0:Int)<(ys.length:Int):=by omega
 have e:ys.getD ((a+x) % (ys.length:Int)).toNat ""=ys.getD ((a+y) % (ys.length:Int)).toNat "":=by simpa [ring] using e
 have x0:=bw (a+x) hp
 have x1:=mod_lt (a+x) hp
 have y0:=bw (a+y) hp
 have y1:=mod_lt (a+y) hp
 have k1:((a+x) % (ys.length:Int)).toNat<ys.length:=by omega
 have k2:((a+y) % (ys.length:Int)).toNat<ys.length:=by omega
 rw [List.getD_eq_getElem?_getD,List.getD_eq_getElem?_getD,List.getElem?_eq_getElem k1,List.getElem?_eq_getElem k2] at e
 have e:ys[((a+x) % (ys.length:Int)).toNat]=ys[((a+y) % (ys.length:Int)).toNat]:=e
 have:=(List.getElem_inj nd).mp e
 have e3:(a+x) % (ys.length:Int)=(a+y) % (ys.length:Int):=by omega
 have d:((a+y) - (a+x)) % (ys.length:Int)=0:=Int.emod_eq_emod_iff_emod_sub_eq_zero.mp e3.symm
 rw [show (a+(y:Int)) - (a+x)=(y:Int) - x by omega,Int.emod_eq_of_lt (by omega) (by omega)] at d
 omega
theorem A9 {ys:List Str} (h:0<ys.length) (x:Int):atI (ys.map V.str) (x % ((ys.map V.str).length:Nat))=some (.str (ys.getD (x % (ys.length:Int)).toNat ""))/\ys.getD (x % (ys.length:Int)).toNat ""∈ys:=by
 have hp:(0:Int)<(ys.length:Int):=by omega
 have x0:=bw x hp
 have x1:=mod_lt x hp
 have k1:(x % (ys.length:Int)).toNat<ys.length:=by omega
 have e:ys.getD (x % (ys.length:Int)).toNat ""=ys[(x % (ys.length:Int)).toNat]:=by rw [List.getD_eq_getElem?_getD,List.getElem?_eq_getElem k1];rfl
 rw [e]
 refine ⟨?_,List.getElem_mem k1⟩
 rw [List.length_map]
 have:=aX (xs:=ys.map V.str) (j:=(x % (ys.length:Int)).toNat) (v:=V.str ys[(x % (ys.length:Int)).toNat]) (by rw [List.getElem?_map,List.getElem?_eq_getElem k1];rfl)
 rw [show (((x % (ys.length:Int)).toNat:Nat):Int)=x % (ys.length:Int) by omega] at this
 exact this
section
variable {P:Program} {w:World} {K:PySem.W.Frag} {mg:Str->Option Value} {base:Heap} {a:Ad}
abbrev DKd (K:PySem.W.Frag) (mg:Str->Option Value):=Df K mg "_law_kind" "_law_kind" (top 61) ["_law_script","_law_at","_law_words_here","_law_k"]
def Cz (K:PySem.W.Frag):Sp:=λ vs H Q _=>∃ (p q l:Addr) (k:Nat) (ns:List Int) (c:Nat) (ys:List Str),vs=[.ref p,.ref q,.ref l,.int k]/\k<4/\Scr K q H p ns/\ns.length<=63/\bh H q c/\c<=800000/\Words H l ys/\ys.length=16/\ys.Nodup /\
 ∀ H' d,H d.t=none->H d.n=none->KB q H H'->bh H' q (c+13)->KDD.at d H'->KDD.ok d->d.ti=titleOf ys k->Q (.ref d.t) H'
abbrev nKd:List Str:=["_law_script","_law_at","_law_words_here","_law_k","_law_n","_law_title","_law_turns","_law_j"]
theorem Fd:aS nKd ["_law_script","_law_at","_law_words_here","_law_k"] (aw (top 61)):=⟨rfl,rfl,rfl,by decide +kernel,rfl,by decide +kernel,by decide +kernel⟩
theorem Ge (D:DKd K mg) (ak:iK K mg) (aP:F0 P w base 1 ak (fz K)) (T:Txt K mg a):F0 P w base 2 D (Cz K):=by
 refine Df.ok (k:=1) D.ex Fd (λ vs H Q E h=>?_) (λ A outer s H vs Q E hr h=>?_)
 ·obtain ⟨p,q,l,k,ns,c,ys,rfl,_⟩:=h;rfl
 ·obtain ⟨p,q,l,kk,ns,c,ys,rfl,hk,sc,hlen,ao,hc,wd,y16,ynd,k⟩:=h
  have nd:=Fd.nd
  refine ⟨_,(ae (aN (i:=4) nd rfl (Or.inl rfl) (ay aP (hr.mono (by decide)) (by rfl) ak.mg ak.kp ak.bd .nil aW (ai (pv 0) (ai (pv 1) aa))))
 (ae (aN (i:=5) nd rfl (Or.inl rfl) (aY aQ (aY aQ (a5 (ai (mz [.str "a",.str "which",.str "partsofa",.str "share"]) (ai (mz [.str "kind",.str "turn",.str "rule",.str "bound"]) aa))) (bf oZ (by rfl) T.iG (by decide +kernel) (ai (bI cj (aY aQ (pv 2) af (λ _ _=>rfl)) aD (aC _)) aa)) (λ _ _=>rfl)) (pv 3) (λ _ _=>rfl)))
 (ae (aN (i:=6) nd rfl (Or.inl rfl) (a5 aa))
 (ae (fu PassesOwn.never rfl (dH (by rfl) T.cO (ai (aY aQ (mz [.int 0,.int 1,.int 2,.int 12]) (au aG (pv 4) af) (λ _ _=>rfl)) aa)) (az (i:=7) nd rfl (Or.inl rfl))
 (ar (bx (b6 PySem.F.plainAttrs_list PySem.F.slot_list_append PySem.F.type_list_append bE (pv 6) (ai (fT (ai (aY aQ (pv 2) (au aG (au bT (au bc (pv 4) af) (pv 7)) (aB aA (by rfl) T.br boot_len (ai (pv 2) aa))) (λ _ _=>rfl)) (ai (aY aQ (pv 2) (au aG (ay aP (hr.mono (by decide)) (by rfl) ak.mg ak.kp ak.bd .nil aW (ai (pv 0) (ai (pv 1) aa))) (aB aA (by rfl) T.br boot_len (ai (pv 2) aa))) (λ _ _=>rfl)) aa))) aa)))))
 (ar (aO (fT (ai (pv 5) (ai (aY aQ (pv 2) (au aG (au bc (pv 4) af) (aB aA (by rfl) T.br boot_len (ai (pv 2) aa))) (λ _ _=>rfl)) (ai (pv 6) aa)))))))))),?_⟩
  lia
  refine ⟨p,q,ns,c,rfl,sc,hlen,ao,by omega,λ H1 n n0 n1 kb1 ao1=>?_⟩
  have wd1:=wd.kb ao kb1
  have sc1:=sc.kb kb1
  lia
  refine ⟨by show 4<=sizeLine;decide,λ la hla=>?_⟩
  lia
  refine ⟨by show 4<=sizeLine;decide,λ lb hlb=>?_⟩
  lia
  refine ⟨by show 2<=sizeLine;decide,λ lc hlc=>?_⟩
  have s1:=ax.upd (o:=.lst [V.str "a",.str "which",.str "partsofa",.str "share"]) hla
  have ga:(upd H1 la (.lst [V.str "a",.str "which",.str "partsofa",.str "share"])) la=some (.lst (jQ.map V.str)):=ag
  generalize upd H1 la _=H2 at s1 ga hlb hlc ⊢
  have s2:=ax.upd (o:=.lst [V.str "kind",.str "turn",.str "rule",.str "bound"]) hlb
  have gb:(upd H2 lb (.lst [V.str "kind",.str "turn",.str "rule",.str "bound"])) lb=some (.lst (km.map V.str)):=ag
  generalize upd H2 lb _=H3 at s2 gb hlc ⊢
  have s3:=ax.upd (o:=.lst [V.ref la,.ref lb]) hlc
  have gc:(upd H3 lc (.lst [V.ref la,.ref lb])) lc=some (.lst [V.ref la,.ref lb]):=ag
  generalize upd H3 lc _=H4 at s3 gc ⊢
  have sA:=s1.trans (s2.trans s3)
  have wd4:=wd1.kb ao1 (.of sA)
  obtain ⟨y0,yr,ey⟩:∃ y0 yr,ys=y0::yr:=by
   cases ys with
   | nil=>simp at y16
   | cons y r=>exact ⟨y,r,rfl⟩
  lia
  refine ⟨l,_,0,_,rfl,rfl,SqL.of wd4.1,aX (j:=0) (by rw [ey];rfl),?_⟩
  lia
  refine ⟨_,rfl,?_⟩
  obtain ⟨lt,tt,glt,ett,pick⟩:∃ (lt:Addr) (tt:List Str),H4 lt=some (.lst (tt.map V.str))/\tt=(if ys.head?=some "rule" then km else jQ)/\atI [V.ref la,.ref lb] (if decide (y0="rule")=true then 1 else 0)=some (.ref lt):=by
   by_cases z:y0="rule"
   ·exact ⟨lb,km,s3 _ _ gb,by rw [ey,if_pos (by rw [z];rfl)],by rw [decide_eq_true z];rfl⟩
   ·exact ⟨la,jQ,s3 _ _ (s2 _ _ ga),by rw [ey,if_neg (by intro e;exact z (Option.some.inj e))],by rw [decide_eq_false z];rfl⟩
  refine ⟨lc,_,_,_,rfl,rfl,SqL.of gc,pick,?_⟩
  lia
  have t4:tt.length=4:=by rw [ett];split <;> rfl
  have ht:tt[kk]?=some (titleOf ys kk):=by
   unfold titleOf
   rw [<- ett,List.getD_eq_getElem?_getD,List.getElem?_eq_getElem (by omega)];rfl
  refine ⟨lt,_,kk,_,rfl,rfl,SqL.of glt,aX (j:=kk) (by rw [List.getElem?_map,ht];rfl),?_⟩
  have kb4:KB q H H4:=kb1.trans (.of sA)
  have ao4:=ao1.same sA
  have tok:=yd ys hk
  generalize titleOf ys kk=ti at tok k ⊢
  clear sA s1 s2 s3 ga gb gc pick glt ett t4 ht hla hlb hlc wd1 sc1 kb1 ao1 wd4
  lia
  refine ⟨by show 0<=sizeLine;decide,λ tl htl=>?_⟩
  have s5:=ax.upd (o:=.lst []) htl
  have g5:(upd H4 tl (.lst [])) tl=some (.lst []):=ag
  have htl0:H tl=none:=KB.free kb4 ao4 htl
  generalize upd H4 tl _=H5 at s5 g5 ⊢
  have kb5:KB q H H5:=kb4.trans (.of s5)
  have ao5:=ao4.same s5
  clear s5 htl kb4 ao4
  lia
  refine ⟨by show 4<=sizeLine;decide,λ l6 h6=>?_⟩
  lia
  obtain ⟨v,hv,ev⟩:=fX (xs:=[V.int 0,.int 1,.int 2,.int 12]) (bw n (show (0:Int)<4 by decide)) (by exact mod_lt n (show (0:Int)<4 by decide))
  refine ⟨l6,_,_,_,rfl,rfl,SqL.of ag,ev,?_⟩
  obtain ⟨m,rfl,m0,m1⟩:∃ m:Int,v=.int m/\0<=m/\m<=12:=by
   simp only [List.mem_cons,List.not_mem_nil,or_false] at hv
   rcases hv with rfl | rfl | rfl | rfl
   all_goals exact ⟨_,rfl,by decide,by decide⟩
  have s6:=ax.upd (o:=.lst [V.int 0,.int 1,.int 2,.int 12]) h6
  generalize upd H5 l6 _=H6 at s6 ⊢
  have kb6:KB q H H6:=kb5.trans (.of s6)
  have ao6:=ao5.same s6
  have g6:=s6 _ _ g5
  clear s6 kb5 ao5 g5 ev hv h6
  lia
  refine ⟨m,rfl,by omega,by omega,?_⟩
  have tlq:tl≠q:=bR ao6 g6 (cW (ts:=[]))
  refine forR (λ i σ H7=>∃ v7 ps,σ=[some (V.ref p),some (V.ref q),some (V.ref l),some (V.int kk),some (V.int n),some (V.str ti),some (V.ref tl),v7]/\KB q H H7/\bh H7 q (c+1+i)/\H7 tl=some (.lst (gA ps))/\(∀ x∈ps,H7 x.t=some (dA x.m)/\bD x.m.1=true/\bD x.m.2=true)/\ps.length=i/\ps.map (·.m.1)=ring ys (n / 4) i) ⟨none,[],rfl,kb6,ao6,g6,λ _ h=>(nomatch h),rfl,rfl⟩ ?_ ?_
  ·rintro i σ H7 hi ⟨v7,ps,rfl,kb7,ao7,g7,p7,l7,r7⟩
   have wd7:=wd.kb ao kb7
   lia
   refine ⟨.inl ⟨rfl,_,SqL.of g7⟩,?_⟩
   lia
   refine ⟨l,_,rfl,.inl (SqL.of wd7.1),?_⟩
   refine w_mod wd7.pos ?_
   obtain ⟨ea,ma⟩:=A9 (ys:=ys) (by omega) (n / 4+(0+i))
   refine ⟨l,_,_,_,rfl,rfl,SqL.of wd7.1,ea,?_⟩
   lia
   refine ⟨p,q,ns,_,rfl,sc.kb kb7,hlen,ao7,by omega,λ H8 r r0 r1 kb8 ao8=>?_⟩
   have wd8:=wd7.kb ao7 kb8
   have g8:=kb8 _ _ tlq g7
   have p8:∀ x∈ps,H8 x.t=some (dA x.m):=λ x hx=>kb8 _ _ (bR ao7 (p7 x hx).1 λ _ _ _ z=>by cases z) (p7 x hx).1
   lia
   refine ⟨l,_,rfl,.inl (SqL.of wd8.1),?_⟩
   refine w_mod wd8.pos ?_
   obtain ⟨eb,mb⟩:=A9 (ys:=ys) (by omega) r
   refine ⟨l,_,_,_,rfl,rfl,SqL.of wd8.1,eb,?_⟩
   lia
   refine ⟨by show 2<=sizeLine;decide,λ t ht=>?_⟩
   rw [show n / 4+(0+(i:Int))=n / 4+i by omega] at ma ⊢
   generalize hfa:ys.getD ((n / 4+i) % (ys.length:Int)).toNat ""=fa at ma ⊢
   generalize ys.getD (r % (ys.length:Int)).toNat ""=fb at mb ⊢
   have s9:=ax.upd (o:=.tup [V.str fa,.str fb]) ht
   have g9:(upd H8 t (.tup [V.str fa,.str fb])) t=some (dA (fa,fb)):=ag
   generalize upd H8 t _=H9 at s9 g9 ⊢
   lia
   have ntl:∀ {c:Addr} {m:Str×Str},H9 c=some (dA m)->tl≠c:=λ h e=>by rw [<- e,s9 _ _ g8] at h;cases h
   refine ⟨tl,_,_,rfl,rfl,s9 _ _ g8,by unfold gA;rw [List.length_map,List.length_map];exact av (by omega),?_⟩
   refine ⟨_,ps++[⟨(fa,fb),t⟩],rfl,((kb7.trans kb8).trans (.of s9)).cB htl0,fY (ao8.same s9) tlq,?_,?_,?_,?_⟩
   ·rw [ag];unfold gA;rw [List.map_append,List.map_append];rfl
   ·intro x hx
    rcases List.mem_append.mp hx with hx | hx
    ·have h9:=s9 _ _ (p8 x hx)
     exact ⟨by rw [aq (Ne.symm (ntl h9))];exact h9,(p7 x hx).2⟩
    ·rw [List.mem_singleton.mp hx]
     exact ⟨by rw [aq (Ne.symm (ntl g9))];exact g9,wd.2.2.2 _ ma,wd.2.2.2 _ mb⟩
   ·rw [List.length_append,l7];rfl
   ·rw [List.map_append,r7]
    unfold ring
    rw [List.range_succ,List.map_append,<- hfa];rfl
  ·rintro σ H7 ⟨v7,ps,rfl,kb7,ao7,g7,p7,l7,r7⟩
   have wd7:=wd.kb ao kb7
   lia
   refine ⟨l,_,rfl,.inl (SqL.of wd7.1),?_⟩
   refine w_mod wd7.pos ?_
   obtain ⟨y,hy,ey⟩:=wd7.pick (n / 100)
   refine ⟨l,_,_,_,rfl,rfl,SqL.of wd7.1,ey,?_⟩
   lia
   refine ⟨by show 3<=sizeLine;decide,λ t ht=>?_⟩
   have s8:=ax.upd (o:=.tup [V.str ti,.str y,.ref tl]) ht
   refine k _ ⟨ti,y,ps,t,tl⟩ (KB.free kb7 ao7 ht) htl0 (kb7.trans (.of s8)) ((ao7.same s8).mono (by omega)) ⟨ag,s8 _ _ g7,λ x hx=>s8 _ _ (p7 x hx).1⟩ ⟨?_,by show ps.length<=12;omega⟩ rfl
   show (gv ti&&(bD y&&pairsOk (ps.map (·.m))))=true
   rw [tok,wd.2.2.2 y hy]
   unfold pairsOk
   have e1:(ps.map (·.m)).all dn=true:=by
    refine List.all_eq_true.mpr λ z hz=>?_
    obtain ⟨x,hx,rfl⟩:=List.mem_map.mp hz
    unfold dn
    rw [(p7 x hx).2.1,(p7 x hx).2.2];rfl
   have e2:(jZ (ps.map (·.m))).Nodup:=by
    have e3:jZ (ps.map (·.m))=(ring ys (n / 4) m.toNat).map Sum.inr:=by
     unfold jZ
     rw [<- r7,List.map_map,List.map_map];rfl
    rw [e3]
    exact List.Pairwise.map _ (λ a b h e=>h (Sum.inr.inj e)) (zS ynd _ (by omega))
   rw [e1,decide_eq_true e2];rfl
end
structure MD where
 m:Str×Str×Str
 t:Addr
structure DD where
 b:Int
 rs:List RD
 ms:List MD
 ks:List KDD
 t:Addr
 rl:Addr
 ml:Addr
 kl:Addr
def vj (rs:List RD):List V:=(rs.map (·.t)).map .ref
def wU (ms:List MD):List V:=(ms.map (·.t)).map .ref
def yP (ks:List KDD):List V:=(ks.map (·.t)).map .ref
structure DD.at (d:DD) (H:Hp):Prop where
 t:H d.t=some (.tup [.int d.b,.ref d.rl,.ref d.ml,.ref d.kl])
 rl:H d.rl=some (.lst (vj d.rs))
 ml:H d.ml=some (.lst (wU d.ms))
 kl:H d.kl=some (.lst (yP d.ks))
 rs:∀ r∈d.rs,r.at H
 ms:∀ m∈d.ms,H m.t=some (jA m.m)
 ks:∀ k∈d.ks,k.at H
theorem DD.at.same {d:DD} {H H':Hp} (h:d.at H) (s:ax H H'):d.at H':=⟨s _ _ h.t,s _ _ h.rl,s _ _ h.ml,s _ _ h.kl,λ r x=>(h.rs r x).same s,λ m x=>s _ _ (h.ms m x),λ k x=>(h.ks k x).same s⟩
structure DD.ok (d:DD):Prop where
 b:0<=d.b/\d.b<10 ^ 60
 rs:∀ r∈d.rs,r.ok
 rn:d.rs.length<=40
 ms:∀ m∈d.ms,c8 m.m=true
 mn:d.ms.length<=12
 ks:∀ k∈d.ks,k.ok
 kn:d.ks.length<=4
 nd:(d.ks.map (·.ti)).Nodup
theorem fP {H:Hp} {a b:Addr} {ys:List Str} {ts:List Addr} (h:H a=some (.lst (ys.map .str))) (h0:ys≠[]) (g:H b=some (.lst (ts.map .ref))):a≠b:=λ e=>by
 rw [e,g] at h
 cases ys with
 | nil=>exact h0 rfl
 | cons y r=>
  cases ts with
  | nil=>injection h with h;injection h with h;cases h
  | cons t r=>injection h with h;injection h with h;injection h with h _;cases h
theorem RD.at.put {r:RD} {H:Hp} {l:Addr} {ts:List Addr} {o:HO} (h:r.at H) (k:r.ok) (g:H l=some (.lst (ts.map .ref))):r.at (upd H l o):=by
 refine ⟨?_,?_⟩
 ·rw [aq (dC h.1 g (by intro z;cases z))];exact h.1
 ·rw [aq (fP h.2 k.it.ne g)];exact h.2
theorem KDD.at.put {k:KDD} {H:Hp} {l:Addr} {ts:List Addr} {o:HO} (h:k.at H) (g:H l=some (.lst (ts.map .ref))) (n:k.n≠l):k.at (upd H l o):=by
 refine ⟨?_,by rw [aq n];exact h.2.1,λ p hp=>?_⟩
 ·rw [aq (dC h.1 g (by intro z;cases z))];exact h.1
 ·rw [aq (dC (h.2.2 p hp) g (by intro z;cases z))];exact h.2.2 p hp
theorem wO {H:Hp} {p:Addr} {ms:List (Str×Str×Str)} (h:vk H p ms):∃ ds:List MD,H p=some (.lst (wU ds))/\ds.map (·.m)=ms/\∀ d∈ds,H d.t=some (jA d.m):=by
 obtain ⟨ts,h1,h2,h3⟩:=h
 refine ⟨List.zipWith MD.mk ms ts,?_,?_,λ d hd=>?_⟩
 ·have:(List.zipWith MD.mk ms ts).map (·.t)=ts:=by
   rw [List.map_zipWith]
   exact List.ext_getElem (by simp;omega) λ i h4 h5=>by simp
  unfold wU
  rw [this];exact h1
 ·rw [List.map_zipWith]
  exact List.ext_getElem (by simp;omega) λ i h4 h5=>by simp
 ·obtain ⟨i,hi,e⟩:=List.mem_iff_getElem.mp hd
  rw [List.length_zipWith] at hi
  rw [List.getElem_zipWith] at e
  subst e
  exact h3 i _ _ (List.getElem?_eq_getElem (by omega)) (List.getElem?_eq_getElem (by omega))
theorem vM (xs:List V) (h:6<=xs.length):f9 xs (some 6) none=xs.drop 6:=by
 unfold f9
 rw [HT.jY,show HT.sIx xs.length 0 (some 6)=min 6 xs.length from HT.jS _ _ 6,Nat.min_eq_left h]
 exact List.take_of_length_le (by rw [List.length_drop];exact Nat.le_refl _)
def six:List Str:=["rule","word","melt","kind","turn","bound"]
theorem zL {y:Str} (h:Few y):¬ y∈six:=λ hy=>by
 obtain ⟨c1,c2,c3,h⟩:=h
 unfold six at hy
 simp only [List.mem_cons,List.not_mem_nil,or_false] at hy
 rcases hy with rfl | rfl | rfl | rfl | rfl | rfl
 ·have h1:=h 114 (by decide +kernel)
  have h2:=h 117 (by decide +kernel)
  have h3:=h 108 (by decide +kernel)
  have h4:=h 101 (by decide +kernel)
  omega
 ·have h1:=h 119 (by decide +kernel)
  have h2:=h 111 (by decide +kernel)
  have h3:=h 114 (by decide +kernel)
  have h4:=h 100 (by decide +kernel)
  omega
 ·have h1:=h 109 (by decide +kernel)
  have h2:=h 101 (by decide +kernel)
  have h3:=h 108 (by decide +kernel)
  have h4:=h 116 (by decide +kernel)
  omega
 ·have h1:=h 107 (by decide +kernel)
  have h2:=h 105 (by decide +kernel)
  have h3:=h 110 (by decide +kernel)
  have h4:=h 100 (by decide +kernel)
  omega
 ·have h1:=h 116 (by decide +kernel)
  have h2:=h 117 (by decide +kernel)
  have h3:=h 114 (by decide +kernel)
  have h4:=h 110 (by decide +kernel)
  omega
 ·have h1:=h 98 (by decide +kernel)
  have h2:=h 111 (by decide +kernel)
  have h3:=h 117 (by decide +kernel)
  have h4:=h 110 (by decide +kernel)
  omega
theorem vR {ys:List Str} (h16:ys.length=16) (nd:ys.Nodup) (wd:∀ y∈ys,bD y=true) (fw:∀ y∈ys,Few y):(six++ys.drop 6).length=16/\(six++ys.drop 6).Nodup/\∀ y∈six++ys.drop 6,bD y=true:=by
 refine ⟨by rw [List.length_append,List.length_drop,h16];rfl,List.nodup_append.mpr ⟨by decide +kernel,nd.sublist (List.drop_sublist 6 ys),λ x hx y hy e=>zL (fw y (List.mem_of_mem_drop hy)) (e ▸ hx)⟩,λ y hy=>?_⟩
 rcases List.mem_append.mp hy with hy | hy
 ·exact List.all_eq_true.mp (show six.all bD=true by decide +kernel) y hy
 ·exact wd y (List.mem_of_mem_drop hy)
section
variable {P:Program} {w:World} {K:PySem.W.Frag} {mg:Str->Option Value} {base:Heap} {a:Ad}
abbrev DDa (K:PySem.W.Frag) (mg:Str->Option Value):=Df K mg "_law_data" "_law_data" (top 62) ["_law_script","_law_at"]
def CZ (K:PySem.W.Frag):Sp:=λ vs H Q _=>∃ (p q:Addr) (ns:List Int) (c:Nat),vs=[.ref p,.ref q]/\Scr K q H p ns/\ns.length<=63/\bh H q c/\c<=700000 /\
 ∀ H' d,KB q H H'->bh H' q (c+3000)->DD.at d H'->DD.ok d->Q (.ref d.t) H'
abbrev nDa:List Str:=["_law_script","_law_at","_law_words_here","_law_n","_law_rules","_law_k","_law_melts_here","_law_kinds"]
theorem Gb:aS nDa ["_law_script","_law_at"] (aw (top 62)):=⟨rfl,rfl,rfl,by decide +kernel,rfl,by decide +kernel,by decide +kernel⟩
theorem Ew (D:DDa K mg) (ak:iK K mg) (aP:F0 P w base 1 ak (fz K)) (fH:sG K mg) (qv:F0 P w base 2 fH (pZ K))
  (bC:DGr K mg) (fL:F0 P w base 2 bC (AI K)) (gH:DRu K mg) (rE:F0 P w base 3 gH (C2 K))
  (fC:CT K mg) (pR:F0 P w base 3 fC (yv K)) (gx:DKd K mg) (se:F0 P w base 2 gx (Cz K)) (T:Txt K mg a):F0 P w base 4 D (CZ K):=by
 refine Df.ok (k:=3) D.ex Gb (λ vs H Q E h=>?_) (λ A outer s H vs Q E hr h=>?_)
 ·obtain ⟨p,q,ns,c,rfl,_⟩:=h;rfl
 ·obtain ⟨p,q,ns,c,rfl,sc,hlen,ao,hc,k⟩:=h
  have nd:=Gb.nd
  refine ⟨_,(ae (aN (i:=2) nd rfl (Or.inr rfl) (ay qv (hr.mono (by decide)) (by rfl) fH.mg fH.kp fH.bd .nil aW (ai (pv 0) (ai (pv 1) (ai af aa)))))
 (ae (a8 (aL cj (au aG (ay aP (hr.mono (by decide)) (by rfl) ak.mg ak.kp ak.bd .nil aW (ai (pv 0) (ai (pv 1) aa))) af) af (aC _))
 (ar (aN (i:=2) nd rfl (Or.inr rfl) (au gM (mz [.str "rule",.str "word",.str "melt",.str "kind",.str "turn",.str "bound"]) (bU iq (pv 2) (b7 af) cX))))
 aH)
 (ae (aN (i:=3) nd rfl (Or.inl rfl) (ay aP (hr.mono (by decide)) (by rfl) ak.mg ak.kp ak.bd .nil aW (ai (pv 0) (ai (pv 1) aa))))
 (ae (aN (i:=4) nd rfl (Or.inl rfl) (a5 aa))
 (ae (fu PassesOwn.never rfl (dH (by rfl) T.cO (ai (aY aQ (a5 (ai (au aG (au bc (pv 3) af) af) (ai (au aG (au bc (pv 3) af) af) (ai (au bT af (au aG (au bc (pv 3) af) af)) (ai af aa))))) (au aG (pv 3) af) (λ _ _=>rfl)) aa)) (az (i:=5) nd rfl (Or.inl rfl))
 (ar (bx (b6 PySem.F.plainAttrs_list PySem.F.slot_list_append PySem.F.type_list_append bE (pv 4) (ai (ay rE (hr.mono (by decide)) (by rfl) gH.mg gH.kp gH.bd .nil aW (ai (pv 0) (ai (pv 1) (ai (pv 2) (ai (bI cj (au aG (pv 3) af) af (aC _)) aa))))) aa)))))
 (ae (aN (i:=6) nd rfl (Or.inl rfl) (ay pR (hr.mono (by decide)) (by rfl) fC.mg fC.kp fC.bd .nil aW (ai (pv 0) (ai (pv 1) (ai (pv 2) (ai af aa))))))
 (ae (j8 (i:=7) nd rfl (Or.inl rfl) (N:=["_law_k","_law_script","_law_at","_law_words_here"]) (fs:=[(1,0),(2,1),(3,2)]) (⟨rfl,by rfl,by rfl,by rfl,⟨⟨_,rfl,rfl,rfl,Or.inl rfl⟩,⟨⟨_,rfl,rfl,rfl,Or.inl rfl⟩,⟨⟨_,rfl,rfl,rfl,Or.inl rfl⟩,trivial⟩⟩⟩⟩) rfl (dH (by rfl) T.cO (ai (au aG (au bc (pv 3) af) af) aa)) (λ _ _ _ _ _=>(az (i:=0) (show List.Nodup (["_law_k","_law_script","_law_at","_law_words_here"]:List Str) from by decide +kernel) rfl (Or.inl rfl))) (λ _ _ _ _ _=>by exact cg) (λ _ _ _ _ _=>by exact (ay se (hr.mono (by decide)) (by rfl) gx.mg gx.kp gx.bd .nil aW (ai (pv 1) (ai (pv 2) (ai (pv 3) (ai (pv 0) aa)))))))
 (ar (aO (fT (ai (ay fL (hr.mono (by decide)) (by rfl) bC.mg bC.kp bC.bd .nil aW (ai (pv 0) (ai (pv 1) aa))) (ai (pv 4) (ai (pv 6) (ai (pv 7) aa)))))))))))))),?_⟩
  lia
  refine ⟨p,q,ns,c,16,rfl,sc,hlen,ao,by omega,by decide,by decide,λ H1 l ys hl kb1 ao1 wd1 y16 ynd yfew=>?_⟩
  (repeat array_mem_dec)
  show qZ _ _ _ _ [some (V.ref p),some (V.ref q),some (V.ref l),none,none,none,none,none] H1
  refine iX (λ σ2 H2=>∃ l ys,σ2=[some (V.ref p),some (V.ref q),some (V.ref l),none,none,none,none,none]/\KB q H H2/\bh H2 q (c+2)/\Words H2 l ys/\ys.length=16/\ys.Nodup) (λ nx' hj=>?_) ?_
  ·lia
   refine ⟨p,q,ns,_,rfl,sc.kb kb1,hlen,ao1,by omega,λ H2 r r0 r1 kb2 ao2=>?_⟩
   have wd2:=wd1.kb ao1 kb2
   lia
   refine w_ite (λ _=>?_) (λ _=>?_)
   ·lia
    refine ⟨by show 6<=sizeLine;decide,λ l3 h3=>?_⟩
    have s3:=ax.upd (o:=.lst (six.map V.str)) h3
    have g3:(upd H2 l3 (.lst (six.map V.str))) l3=some (.lst (six.map V.str)):=ag
    show tSl _ _ _ _ _ (upd H2 l3 (.lst (six.map V.str))) _
    generalize upd H2 l3 _=H3 at s3 g3 ⊢
    have wd3:=wd2.kb ao2 (.of s3)
    lia
    refine ⟨l,_,rfl,SqL.of wd3.1,λ l4 h4=>?_⟩
    rw [vM _ (by rw [List.length_map,y16];decide),<- List.map_drop]
    have s4:=ax.upd (o:=.lst ((ys.drop 6).map V.str)) h4
    have g4:(upd H3 l4 (.lst ((ys.drop 6).map V.str))) l4=some (.lst ((ys.drop 6).map V.str)):=ag
    generalize upd H3 l4 _=H4 at s4 g4 ⊢
    refine ⟨l3,l4,_,_,rfl,rfl,s4 _ _ g3,g4,by rw [List.length_map,List.length_map,List.length_drop,y16];decide,λ l5 h5=>?_⟩
    rw [<- List.map_append]
    have s5:=ax.upd (o:=.lst ((six++ys.drop 6).map V.str)) h5
    obtain ⟨a1,a2,a3⟩:=vR y16 ynd wd1.2.2.2 yfew
    have sA:=s3.trans (s4.trans s5)
    exact hj _ _ ⟨l5,six++ys.drop 6,rfl,kb1.trans (kb2.trans (.of sA)),ao2.same sA,⟨ag,by omega,by omega,a3⟩,a1,a2⟩
   ·lia
    exact hj _ _ ⟨l,ys,rfl,kb1.trans kb2,ao2,wd2,y16,ynd⟩
  clear kb1 ao1 wd1 y16 ynd yfew hl
  rintro _ H2 ⟨l,ys,rfl,kb2,ao2,wd2,y16,ynd⟩
  lia
  refine ⟨p,q,ns,_,rfl,sc.kb kb2,hlen,ao2,by omega,λ H3 n n0 n1 kb3 ao3=>?_⟩
  have wd3:=wd2.kb ao2 kb3
  have kbA:=kb2.trans kb3
  clear kb2 ao2 wd2 kb3
  lia
  refine ⟨by show 0<=sizeLine;decide,λ rl hrl=>?_⟩
  have s4:=ax.upd (o:=.lst []) hrl
  have g4:(upd H3 rl (.lst [])) rl=some (.lst []):=ag
  have hrl0:H rl=none:=KB.free kbA ao3 hrl
  generalize upd H3 rl _=H4 at s4 g4 ⊢
  lia
  refine ⟨by show 4<=sizeLine;decide,λ l5 h5=>?_⟩
  lia
  obtain ⟨v,hv,ev⟩:=fX (xs:=[V.int (n / 9 % 10),.int (n / 9 % 4),.int (1+n / 9 % 9),.int 40]) (bw n (show (0:Int)<4 by decide)) (by exact mod_lt n (show (0:Int)<4 by decide))
  refine ⟨l5,_,_,_,rfl,rfl,SqL.of ag,ev,?_⟩
  obtain ⟨m,rfl,m0,m1⟩:∃ m:Int,v=.int m/\0<=m/\m<=40:=by
   simp only [List.mem_cons,List.not_mem_nil,or_false] at hv
   rcases hv with rfl | rfl | rfl | rfl
   all_goals exact ⟨_,rfl,by omega,by omega⟩
  have s5:=ax.upd (o:=.lst [V.int (n / 9 % 10),.int (n / 9 % 4),.int (1+n / 9 % 9),.int 40]) h5
  generalize upd H4 l5 _=H5 at s5 ⊢
  have sA:=s4.trans s5
  have kb5:KB q H H5:=kbA.trans (.of sA)
  have ao5:=ao3.same sA
  have g5:=s5 _ _ g4
  have wd5:=wd3.kb ao3 (.of sA)
  have kb35:KB q H3 H5:=.of sA
  clear s4 s5 sA g4 h5 ev hv
  lia
  refine ⟨m,rfl,by omega,by omega,?_⟩
  have rlq:rl≠q:=bR ao5 g5 (cW (ts:=[]))
  refine forR (λ i σ H6=>∃ v5 rs,σ=[some (V.ref p),some (V.ref q),some (V.ref l),some (V.int n),some (V.ref rl),v5,none,none]/\KB q H H6/\KB q H3 H6/\bh H6 q (c+3+60 * i)/\H6 rl=some (.lst (vj rs))/\(∀ x∈rs,x.at H6/\x.ok)/\rs.length=i) ⟨none,[],rfl,kb5,kb35,ao5,g5,λ _ h=>(nomatch h),rfl⟩ ?_ ?_
  ·rintro i σ H6 hi ⟨v5,rs,rfl,kb6,kb36,ao6,g6,r6,l6⟩
   have wd6:=wd3.kb ao3 kb36
   lia
   refine ⟨.inl ⟨rfl,_,SqL.of g6⟩,?_⟩
   lia
   refine ⟨p,q,l,_,ns,_,ys,rfl,sc.kb kb6,hlen,ao6,by omega,wd6,λ H7 r hr0 kb7 ao7 ra ro=>?_⟩
   have g7:=kb7 _ _ rlq g6
   lia
   refine ⟨rl,_,_,rfl,rfl,g7,by unfold vj;rw [List.length_map,List.length_map];exact av (by omega),?_⟩
   refine ⟨_,rs++[r],rfl,(kb6.trans kb7).cB hrl0,(kb36.trans kb7).cB hrl,fY (ao7.mono (by omega)) rlq,?_,?_,?_⟩
   ·rw [ag];unfold vj;rw [List.map_append,List.map_append];rfl
   ·intro x hx
    rcases List.mem_append.mp hx with hx | hx
    ·exact ⟨((r6 x hx).1.kb ao6 kb7).put (r6 x hx).2 g7,(r6 x hx).2⟩
    ·rw [List.mem_singleton.mp hx]
     exact ⟨ra.put ro g7,ro⟩
   ·rw [List.length_append,l6];rfl
  ·rintro σ H6 ⟨v5,rs,rfl,kb6,kb36,ao6,g6,r6,l6⟩
   have wd6:=wd3.kb ao3 kb36
   have ao6:bh H6 q (c+2403):=ao6.mono (by omega)
   clear kb5 kb35 ao5 g5 wd5 kb36
   lia
   refine ⟨p,q,l,ns,_,ys,rfl,sc.kb kb6,hlen,ao6,by omega,wd6,λ H7 ml ms hml kb7 ao7 ma am ml12=>?_⟩
   obtain ⟨ds,gm,edm,gd⟩:=wO ma
   have g7:=kb7 _ _ rlq g6
   have r7:∀ x∈rs,x.at H7:=λ x hx=>(r6 x hx).1.kb ao6 kb7
   have wd7:=wd6.kb ao6 kb7
   have kbB:=kb6.trans kb7
   lia
   refine ⟨_,rfl,by omega,by omega,?_⟩
   have mm:0<=n / 90 % 5/\n / 90 % 5<=4:=by omega
   generalize n / 90 % 5=mk at mm ⊢
   have nq:∀ {D:Addr},H7 D=none->D≠q:=λ h e=>by
    obtain ⟨_,_,_,hq,_⟩:=ao7.ob
    rw [e,hq] at h;cases h
   refine lcR (λ D i zs H8=>∃ ks:List KDD,zs=yP ks/\KB q H7 H8/\bh H8 q (c+2443+13 * i)/\(∀ x∈ks,x.at H8/\x.ok/\x.n≠D)/\ks.map (·.ti)=(List.range i).map (titleOf ys)) (av (by omega)) rfl (λ D hD=>⟨[],rfl,.put hD,fY ao7 (nq hD),λ _ h=>(nomatch h),rfl⟩) (λ D i zs H8 hi hD w8 e8=>?_) (λ D H8 zs hD w8 e8=>?_)
   ·obtain ⟨ks,rfl,kb8,ao8,k8,t8⟩:=w8
    have dq:=nq hD
    lia
    refine ⟨p,q,l,i,ns,_,ys,by rw [Int.zero_add];rfl,by omega,(sc.kb kbB).kb kb8,hlen,ao8,by omega,wd7.kb ao7 kb8,y16,ynd,λ H9 d hd hn kb9 ao9 da do_ dt=>?_⟩
    have e9:=kb9 _ _ dq e8
    have ndn:d.n≠D:=λ e=>by rw [e,e8] at hn;cases hn
    refine ⟨e9,ks++[d],by unfold yP;rw [List.map_append,List.map_append];rfl,(kb8.trans kb9).cB hD,fY (ao9.mono (by omega)) dq,λ x hx=>?_,?_⟩
    ·rcases List.mem_append.mp hx with hx | hx
     ·obtain ⟨x1,x2,x3⟩:=k8 x hx
      exact ⟨(x1.kb ao8 kb9).put e9 x3,x2,x3⟩
     ·rw [List.mem_singleton.mp hx]
      exact ⟨da.put e9 ndn,do_,ndn⟩
    ·rw [List.map_append,t8,List.range_succ,List.map_append]
     show _++[d.ti]=_++[titleOf ys i]
     rw [dt]
   ·obtain ⟨ks,rfl,kb8,ao8,k8,t8⟩:=w8
    have dq:=nq hD
    lia
    refine ⟨p,q,ns,_,rfl,(sc.kb kbB).kb kb8,hlen,ao8,by omega,λ H9 b b0 b1 kb9 ao9=>?_⟩
    lia
    refine ⟨by show 4<=sizeLine;decide,λ t ht=>?_⟩
    have s9:=ax.upd (o:=.tup [.int b,.ref rl,.ref ml,.ref D]) ht
    have kb79:=kb8.trans kb9
    have mq:ml≠q:=bR ao7 gm cW
    refine k _ ⟨b,rs,ds,ks,t,rl,ml,D⟩ (kbB.trans (kb79.trans (.of s9))) ((ao9.same s9).mono (by omega)) ⟨ag,s9 _ _ (kb79 _ _ rlq g7),s9 _ _ (kb79 _ _ mq gm),s9 _ _ (kb9 _ _ dq e8),λ r x=>((r7 r x).kb ao7 kb79).same s9,λ m x=>s9 _ _ (kb79 _ _ (bR ao7 (gd m x) λ _ _ _ z=>by cases z) (gd m x)),λ d x=>((k8 d x).1.kb ao8 kb9).same s9⟩ ⟨⟨b0,b1⟩,λ r x=>(r6 r x).2,by show rs.length<=40;omega,λ m x=>?_,?_,λ d x=>(k8 d x).2.1,?_,?_⟩
    ·exact am _ (by rw [<- edm];exact List.mem_map.mpr ⟨m,x,rfl⟩)
    ·show ds.length<=12
     have:=congrArg List.length edm
     rw [List.length_map] at this;omega
    ·show ks.length<=4
     have:=congrArg List.length t8
     rw [List.length_map,List.length_map,List.length_range] at this;omega
    ·show (ks.map (·.ti)).Nodup
     rw [t8];exact wc ys (by omega)
end
end K33
namespace L2
open PySem PySem.Spec PyProof.Rows
theorem eW {X:Cx} (K:PySem.W.Frag) (hK:X.K=K:=by rfl):fA X (.type "list") (λ xs H Q=>∃ p ys,xs=[.ref p]/\(SqL K H p ys∨SqT K H p ys)/\∀ l,H l=none->Q (.ref l) (upd H l (.lst ys))):=by subst hK;exact b8
end L2
namespace K33
open PySem PySem.Spec PyProof.Rows L2
theorem oX {X:Cx} {P:Program} {w:World}:Passes (CXE P w) X E0:=λ _ _ _ _ _ _ _ h=>by
 obtain ⟨_,_,_,_,_,_,_,_,_,_,_,_,_,_,q⟩:=h
 exact q.elim
theorem A3 {σ:L2.St} {x y z:Option V}:∀ (j:Nat) v,(tau 3 [] σ)[j]?=some (some v)->([x,y,z]:L2.St)[j]?=some (some v):=λ j v h=>by
 match j,h with
 | 0,h=>cases h
 | 1,h=>cases h
 | 2,h=>cases h
 | j+3,h=>cases h
theorem EU {σ:L2.St} {x1 x2 x3 x4 x5 x6:Option V}:∀ (j:Nat) v,(tau 6 [] σ)[j]?=some (some v)->([x1,x2,x3,x4,x5,x6]:L2.St)[j]?=some (some v):=λ j v h=>by
 match j,h with
 | 0,h=>cases h
 | 1,h=>cases h
 | 2,h=>cases h
 | 3,h=>cases h
 | 4,h=>cases h
 | 5,h=>cases h
 | j+6,h=>cases h
def gC (a:Ad) (D:Addr) (H:Hp) (o:Addr) (r:RD):Prop:=∃ n,n≠D/\eN a H o r.l r.h r.b r.f r.e n/\H n=some (.lst (r.ys.map .str))
theorem gC.same {a:Ad} {D o:Addr} {H H':Hp} {r:RD} (h:gC a D H o r) (s:ax H H'):gC a D H' o r:=by
 obtain ⟨n,h1,h2,h3⟩:=h
 exact ⟨n,h1,h2.same s,s _ _ h3⟩
theorem gC.put {a:Ad} {D u:Addr} {H:Hp} {r:RD} {xs:List V} {o:HO} (h:gC a D H u r) (hD:H D=some (.lst xs)):gC a D (upd H D o) u r:=by
 obtain ⟨n,h1,h2,h3⟩:=h
 obtain ⟨dx,fs,r1,r2⟩:=h2.ob
 exact ⟨n,h1,⟨dx,fs,by rw [aq (dC r1 hD (by intro z;cases z))];exact r1,r2⟩,by rw [aq h1];exact h3⟩
def gD (a:Ad) (D:Addr) (H:Hp) (o:Addr) (k:KDD):Prop:=∃ n,n≠D/\ix a H o k.ti k.en n/\H n=some (.lst (gA k.ps))
theorem gD.same {a:Ad} {D o:Addr} {H H':Hp} {k:KDD} (h:gD a D H o k) (s:ax H H'):gD a D H' o k:=by
 obtain ⟨n,h1,h2,h3⟩:=h
 exact ⟨n,h1,h2.same s,s _ _ h3⟩
theorem gD.put {a:Ad} {D u:Addr} {H:Hp} {k:KDD} {xs:List V} {o:HO} (h:gD a D H u k) (hD:H D=some (.lst xs)):gD a D (upd H D o) u k:=by
 obtain ⟨n,h1,h2,h3⟩:=h
 obtain ⟨dx,fs,r1,r2⟩:=h2.ob
 exact ⟨n,h1,⟨dx,fs,by rw [aq (dC r1 hD (by intro z;cases z))];exact r1,r2⟩,by rw [aq h1];exact h3⟩
structure TD (a:Ad) (H:Hp) (x:Addr) (d:DD) (os zs:List Addr):Prop where
 tg:lF a H x d.b os (d.ms.map (·.t)) zs
 rn:os.length=d.rs.length
 rs:∀ (i:Nat) o r,os[i]?=some o->d.rs[i]?=some r->∃ n,eN a H o r.l r.h r.b r.f r.e n/\H n=some (.lst (r.ys.map .str))
 kn:zs.length=d.ks.length
 ks:∀ (i:Nat) o k,zs[i]?=some o->d.ks[i]?=some k->∃ n,ix a H o k.ti k.en n/\H n=some (.lst (gA k.ps))
theorem TD.same {a:Ad} {H H':Hp} {x:Addr} {d:DD} {os zs:List Addr} (h:TD a H x d os zs) (s:ax H H'):TD a H' x d os zs:=
 ⟨h.tg.same s,h.rn,λ i o r x y=>let ⟨n,a,b⟩:=h.rs i o r x y;⟨n,a.same s,s _ _ b⟩,h.kn,λ i o k x y=>let ⟨n,a,b⟩:=h.ks i o k x y;⟨n,a.same s,s _ _ b⟩⟩
def rB (a:Ad) (H:Hp):Prop:=sx a H/\oI a H/\H a.tTI=some (Tb a.tTI)
theorem rB.same {a:Ad} {H H':Hp} (t:rB a H) (s:ax H H'):rB a H':=⟨t.1.same s,t.2.1.same s,s _ _ t.2.2⟩
theorem sf {ys:List Str} (h:Its ys 8):∀ y∈ys,y.length<=sizeLine:=λ y hy=>av (by have:=(h.ok.pc y hy).len;omega)
theorem mS {k:KDD} (h:k.ok):k.ti.length<=8/\k.en.length<=10/\(∀ p∈k.ps,p.m.1.length<=10/\p.m.2.length<=10):=by
 have h0:=h.ko
 unfold cn pairsOk gv at h0
 simp only [Bool.and_eq_true,decide_eq_true_eq] at h0
 refine ⟨by have:=h0.1.1.2;omega,(cx h0.2.1).2,λ p hp=>?_⟩
 have:=List.all_eq_true.mp h0.2.2.1 p.m (List.mem_map.mpr ⟨p,hp,rfl⟩)
 unfold dn at this
 rw [Bool.and_eq_true] at this
 exact ⟨(cx this.1).2,(cx this.2).2⟩
section
variable {P:Program} {w:World} {K:PySem.W.Frag} {mg:Str->Option Value} {base:Heap} {a:Ad}
abbrev DTg (K:PySem.W.Frag) (mg:Str->Option Value):=Df K mg "_law_tongue" "_law_tongue" (top 63) ["_law_data_here"]
def Ef (a:Ad):Sp:=λ vs H Q _=>∃ (d:DD),vs=[.ref d.t]/\d.at H/\d.ok/\rB a H/\∀ H' x os zs,ax H H'->TD a H' x d os zs->Q (.ref x) H'
abbrev nTg:List Str:=["_law_data_here","_law_bound","_law_rules","_law_melts_here","_law_kinds","_law_made"]
theorem E2:aS nTg ["_law_data_here"] (aw (top 63)):=⟨rfl,rfl,rfl,by decide +kernel,rfl,by decide +kernel,by decide +kernel⟩
theorem Em (D:DTg K mg) (eB:sC K) (M_Rule:Mk K a.dw eB.f) (nr:cC P w K mg base (CXE P w) 8 eB.f eB.fd ["self","low","high","base","first","last","pieces"] (ni a)) (ef:DKI K) (M_Kind:Mk K a.Kind ef.f) (mW:cC P w K mg base (CXE P w) 7 ef.f ef.fd pKI (zm a))
  (dU:vz K) (M_Tongue:Mk K a.bH dU.f) (bdT:Binds K dU.fd pTI []) (m5:cC P w K mg base CX0 6 dU.f dU.fd pTI (qi a)) (T:Txt K mg a):F0 P w base 10 D (Ef a):=by
 refine Df.ok (k:=9) D.ex E2 (λ vs H Q E h=>?_) (λ A outer s H vs Q E hr h=>?_)
 ·obtain ⟨d,rfl,_⟩:=h;rfl
 ·obtain ⟨d,rfl,da,do_,tb,k⟩:=h
  have nd:=E2.nd
  refine ⟨_,(ae (ir (pv 0) (iu (n:=4) rfl (aM (az (i:=1) nd rfl (Or.inl rfl)) (aM (az (i:=2) nd rfl (Or.inl rfl)) (aM (az (i:=3) nd rfl (Or.inl rfl)) (aM (az (i:=4) nd rfl (Or.inl rfl)) cF))))))
 (ae (j8 (i:=5) nd rfl (Or.inl rfl) (N:=["_law_low","_law_high","_law_base","_law_first","_law_last","_law_items_here"]) (fs:=[]) (⟨rfl,by rfl,by rfl,by rfl,trivial⟩) rfl (bF (pv 2)) (λ _ _ _ _ _=>(j3 K (n:=6) rfl (aM (az (i:=0) (show List.Nodup (["_law_low","_law_high","_law_base","_law_first","_law_last","_law_items_here"]:List Str) from by decide +kernel) rfl (Or.inl rfl)) (aM (az (i:=1) (show List.Nodup (["_law_low","_law_high","_law_base","_law_first","_law_last","_law_items_here"]:List Str) from by decide +kernel) rfl (Or.inl rfl)) (aM (az (i:=2) (show List.Nodup (["_law_low","_law_high","_law_base","_law_first","_law_last","_law_items_here"]:List Str) from by decide +kernel) rfl (Or.inl rfl)) (aM (az (i:=3) (show List.Nodup (["_law_low","_law_high","_law_base","_law_first","_law_last","_law_items_here"]:List Str) from by decide +kernel) rfl (Or.inl rfl)) (aM (az (i:=4) (show List.Nodup (["_law_low","_law_high","_law_base","_law_first","_law_last","_law_items_here"]:List Str) from by decide +kernel) rfl (Or.inl rfl)) (aM (az (i:=5) (show List.Nodup (["_law_low","_law_high","_law_base","_law_first","_law_last","_law_items_here"]:List Str) from by decide +kernel) rfl (Or.inl rfl)) cF)))))))) (λ _ _ _ _ _=>by exact cg) (λ _ _ _ _ _=>by exact (gy M_Rule nr (hr.mono (by decide)) (by rfl) T.iy eB.bd .nil oX (ai (pv 0) (ai (pv 1) (ai (pv 2) (ai (pv 3) (ai (pv 4) (ai (bf (eW K) (by rfl) T.cL boot_list (ai (pv 5) aa)) aa)))))))))
 (ar (aO (gy M_Tongue m5 (hr.mono (by decide)) (by rfl) T.eX bdT .nil aW (ai (pv 1) (ai (pv 5) (ai (bf b8 (by rfl) T.cL boot_list (ai (pv 3) aa)) (ai (hZ (N:=["_law_title","_law_ending","_law_turns"]) (fs:=[]) (⟨rfl,by rfl,by rfl,by rfl,trivial⟩) rfl (bF (pv 4)) (λ _ _ _ _ _=>(j3 K (n:=3) rfl (aM (az (i:=0) (show List.Nodup (["_law_title","_law_ending","_law_turns"]:List Str) from by decide +kernel) rfl (Or.inl rfl)) (aM (az (i:=1) (show List.Nodup (["_law_title","_law_ending","_law_turns"]:List Str) from by decide +kernel) rfl (Or.inl rfl)) (aM (az (i:=2) (show List.Nodup (["_law_title","_law_ending","_law_turns"]:List Str) from by decide +kernel) rfl (Or.inl rfl)) cF))))) (λ _ _ _ _ _=>by exact cg) (λ _ _ _ _ _=>by exact (gy M_Kind mW (hr.mono (by decide)) (by rfl) T.iA ef.bd .nil oX (ai (pv 0) (ai (pv 1) (ai (bf (eW K) (by rfl) T.cL boot_list (ai (pv 2) aa)) aa)))))) aa))))))))),?_⟩
  lia
  refine dg (SqT.of da.t) rfl ?_
  refine ⟨_,_,rfl,_,_,rfl,_,_,rfl,_,_,rfl,rfl,?_⟩
  lia
  have r40:=do_.rn
  have rlr:H d.rl=some (.lst ((d.rs.map (·.t)).map .ref)):=da.rl
  refine ⟨d.rl,rfl,⟨_,SqL.of rlr⟩,lcH (λ D7 n zs H7=>∃ ts:List Addr,zs=ts.map V.ref/\ts.length=n/\∀ (i:Nat) u r,ts[i]?=some u->d.rs[i]?=some r->gC a D7 H7 u r) (dN (SqL.of rlr)) (by rw [List.length_map,List.length_map];exact av (by omega)) (λ D7 hD7=>⟨[],rfl,rfl,λ i u k x=>by cases x⟩) (λ D7 j zs H7 hj hD7 s7 e7 r7=>?_) (λ D7 H7 zs hD7 s7 e7 r7=>?_)⟩
  ·obtain ⟨ts,rfl,tl7,tk⟩:=r7
   rw [List.length_map,List.length_map] at hj
   have ej:((d.rs.map (·.t)).map V.ref).getD j .non=V.ref d.rs[j].t:=by simp [List.getD_eq_getElem?_getD,hj]
   have ra:=(da.rs d.rs[j] (List.getElem_mem hj)).same s7
   have ro:=do_.rs d.rs[j] (List.getElem_mem hj)
   rw [ej]
   generalize hrj:d.rs[j]=r at ra ro ⊢
   have hr?:d.rs[j]?=some r:=by rw [List.getElem?_eq_getElem hj,hrj]
   refine dg (SqT.of ra.1) rfl ?_
   refine ⟨_,_,rfl,_,_,rfl,_,_,rfl,_,_,rfl,_,_,rfl,_,_,rfl,rfl,?_⟩
   refine ⟨EU,?_⟩
   lia
   refine il ?_
   lia
   refine ⟨r.it,_,rfl,.inl (SqL.of ra.2),λ l8 h8=>?_⟩
   have s8:ax H7 _:=ax.upd (o:=.lst (r.ys.map .str)) h8
   have g8:(upd H7 l8 (.lst (r.ys.map .str))) l8=some (.lst (r.ys.map .str)):=ag
   generalize upd H7 l8 _=H8 at s8 g8 ⊢
   lia
   intro x dx nx ndx nex
   have s0:ax H8 (upd (upd H8 dx (.own x)) x (.ins a.dw dx [])):=λ c' o hc'=>by rw [aq (aj hc' nx),aq (aj hc' ndx)];exact hc'
   refine ⟨x,dx,r.l,r.h,r.b,r.f,r.e,l8,r.ys,rfl,ag,s0 _ _ g8,sf ro.it,Nat.lt_trans (c6 (by have:=ro.b.1;omega) (by have:=ro.b.2;omega)) (by decide),(((tb.1.same s7).same s8).same s0),λ H9 n hn kp9 R hn9=>?_⟩
   rw [if_pos ro.ro]
   have s79:ax H7 H9:=λ c' o h=>kp9 c' o (s0 _ _ (s8 _ _ h)) (aj (s8 _ _ h) nx)
   have e9:=s79 _ _ e7
   have nn:n≠D7:=λ e=>by rw [e,s0 _ _ (s8 _ _ e7)] at hn;cases hn
   have kx:gC a D7 H9 x r:=⟨n,nn,R,hn9⟩
   refine ⟨rfl,e9,λ c' o h=>by rw [aq (aj h hD7)];exact s79 _ _ (s7 _ _ h),ts++[x],by simp,by simp [tl7],λ i u k x' y'=>?_⟩
   rcases Nat.lt_trichotomy i ts.length with z | z | z
   ·rw [List.getElem?_append_left z] at x'
    exact ((tk i u k x' y').same s79).put e9
   ·subst z
    rw [List.getElem?_append_right (Nat.le_refl _),Nat.sub_self] at x'
    cases x'
    rw [tl7,hr?] at y'
    cases y'
    exact kx.put e9
   ·rw [List.getElem?_eq_none (by simp;omega)] at x';cases x'
  obtain ⟨os,rfl,ol,ok⟩:=r7
  rw [List.length_map,List.length_map] at ol
  have da7:=da.same s7
  have tb7:=tb.same s7
  lia
  refine il ?_
  lia
  have mlr:H7 d.ml=some (.lst ((d.ms.map (·.t)).map .ref)):=da7.ml
  refine ⟨d.ml,_,rfl,.inl (SqL.of mlr),λ l8 h8=>?_⟩
  have s8:=ax.upd (o:=.lst ((d.ms.map (·.t)).map .ref)) h8
  have g8:(upd H7 l8 (.lst ((d.ms.map (·.t)).map .ref))) l8=some (.lst ((d.ms.map (·.t)).map .ref)):=ag
  generalize upd H7 l8 _=H8 at s8 g8 ⊢
  have k4:=do_.kn
  have klr:H8 d.kl=some (.lst ((d.ks.map (·.t)).map .ref)):=s8 _ _ da7.kl
  lia
  refine ⟨d.kl,rfl,⟨_,SqL.of klr⟩,lcH (λ D9 n zs H9=>∃ ts:List Addr,zs=ts.map V.ref/\ts.length=n/\∀ (i:Nat) u r,ts[i]?=some u->d.ks[i]?=some r->gD a D9 H9 u r) (dN (SqL.of klr)) (by rw [List.length_map,List.length_map];exact av (by omega)) (λ D7 hD7=>⟨[],rfl,rfl,λ i u k x=>by cases x⟩) (λ D9 j zs H9 hj hD9 s9 e9 r9=>?_) (λ D9 H9 zs hD9 s9 e9 r9=>?_)⟩
  ·obtain ⟨ts,rfl,tl7,tk⟩:=r9
   rw [List.length_map,List.length_map] at hj
   have ej:((d.ks.map (·.t)).map V.ref).getD j .non=V.ref d.ks[j].t:=by simp [List.getD_eq_getElem?_getD,hj]
   have ka:=((da7.ks d.ks[j] (List.getElem_mem hj)).same s8).same s9
   have ko:=do_.ks d.ks[j] (List.getElem_mem hj)
   rw [ej]
   generalize hkj:d.ks[j]=kd at ka ko ⊢
   have hk?:d.ks[j]?=some kd:=by rw [List.getElem?_eq_getElem hj,hkj]
   refine dg (SqT.of ka.1) rfl ?_
   refine ⟨_,_,rfl,_,_,rfl,_,_,rfl,rfl,?_⟩
   refine ⟨A3,?_⟩
   lia
   refine il ?_
   lia
   refine ⟨kd.n,_,rfl,.inl (SqL.of ka.2.1),λ l10 h10=>?_⟩
   have s10:ax H9 _:=ax.upd (o:=.lst (gA kd.ps)) h10
   have g10:(upd H9 l10 (.lst (gA kd.ps))) l10=some (.lst ((kd.ps.map (·.t)).map .ref)):=ag
   generalize upd H9 l10 _=H10 at s10 g10 ⊢
   lia
   intro x dx nx ndx nex
   have s0:ax H10 (upd (upd H10 dx (.own x)) x (.ins a.Kind dx [])):=λ c' o hc'=>by rw [aq (aj hc' nx),aq (aj hc' ndx)];exact hc'
   obtain ⟨k1,k2,k3⟩:=mS ko
   have k12:=ko.le
   refine ⟨x,dx,kd.ti,kd.en,l10,kd.ps.map (·.t),kd.ps.map (·.m),rfl,ag,s0 _ _ g10,by rw [List.length_map,List.length_map],?_,by omega,by omega,⟨by rw [List.length_map];omega,?_⟩,((((tb7.2.1.same s8).same s9).same s10).same s0),λ H11 n hn kp9 R hn9=>?_⟩
   ·intro i u m hu hm
    rw [List.getElem?_map] at hu hm
    obtain ⟨pd,hpd,rfl⟩:=Option.map_eq_some_iff.mp hu
    rw [hpd] at hm
    cases hm
    exact s0 _ _ (s10 _ _ (ka.2.2 pd (List.mem_of_getElem? hpd)))
   ·intro m hm
    obtain ⟨pd,hpd,rfl⟩:=List.mem_map.mp hm
    have:=k3 pd hpd
    omega
   rw [if_pos ko.ko]
   have s79:ax H9 H11:=λ c' o h=>kp9 c' o (s0 _ _ (s10 _ _ h)) (aj (s10 _ _ h) nx)
   have e11:=s79 _ _ e9
   have nn:n≠D9:=λ e=>by rw [e,s0 _ _ (s10 _ _ e9)] at hn;cases hn
   have kx:gD a D9 H11 x kd:=⟨n,nn,R,hn9⟩
   refine ⟨rfl,e11,λ c' o h=>by rw [aq (aj h hD9)];exact s79 _ _ (s9 _ _ h),ts++[x],by simp,by simp [tl7],λ i u k x' y'=>?_⟩
   rcases Nat.lt_trichotomy i ts.length with z | z | z
   ·rw [List.getElem?_append_left z] at x'
    exact ((tk i u k x' y').same s79).put e11
   ·subst z
    rw [List.getElem?_append_right (Nat.le_refl _),Nat.sub_self] at x'
    cases x'
    rw [tl7,hk?] at y'
    cases y'
    exact kx.put e11
   ·rw [List.getElem?_eq_none (by simp;omega)] at x';cases x'
  obtain ⟨zs',rfl,zl,zk⟩:=r9
  rw [List.length_map,List.length_map] at zl
  lia
  intro x dx nx ndx nex
  have s0:ax H9 (upd (upd H9 dx (.own x)) x (.ins a.bH dx [])):=λ c' o hc'=>by rw [aq (aj hc' nx),aq (aj hc' ndx)];exact hc'
  have s70:=s8.trans (s9.trans s0)
  refine ⟨x,dx,d.b,D7,l8,D9,os,d.ms.map (·.t),zs',d.ks.map (·.ti),rfl,ag,do_.b.1,s70 _ _ e7,s0 _ _ (s9 _ _ g8),?_,s0 _ _ e9,?_,do_.nd,by rw [List.length_map];omega,s70 _ _ tb7.1.1,s70 _ _ tb7.2.2,λ H11 kp9 R9=>⟨rfl,?_⟩⟩
  ·intro t ht
   obtain ⟨m,hm,rfl⟩:=List.mem_map.mp ht
   exact ⟨m.m,s70 _ _ (da7.ms m hm),do_.ms m hm⟩
  ·refine ⟨by rw [zl,List.length_map],λ i o t ho ht=>?_⟩
   rw [List.getElem?_map] at ht
   obtain ⟨kd,hkd,rfl⟩:=Option.map_eq_some_iff.mp ht
   obtain ⟨n,_,R,_⟩:=zk i o kd ho hkd
   exact ⟨_,n,R.same s0⟩
  ·have s911:ax H9 H11:=λ c' o h=>kp9 c' o (s0 _ _ h) (aj h nx)
   have s711:=s8.trans (s9.trans s911)
   exact k H11 x os zs' (s7.trans s711) ⟨R9,ol,λ i o r x y=>let ⟨n,_,b,c⟩:=ok i o r x y;⟨n,b.same s711,s711 _ _ c⟩,zl,λ i o r x y=>let ⟨n,_,b,c⟩:=zk i o r x y;⟨n,b.same s911,s911 _ _ c⟩⟩
end
def sp:Str:=" "
def lf:Str:="\n"
def aK (i:Int):Str:=Str.ofString (toString i)
theorem cw {i:Int} (h0:0<=i) (h:i<10 ^ 62):(aK i).length<=63:=by
 have e:=PySem.int_text_length_le10 (a:=i) (k:=62) (by decide) (by omega)
 unfold aK
 rw [PySem.ofString_length]
 omega
def J (row:List Str):Str:=Txt.join sp row
theorem rG (z x y:Str) (r:List Str):Txt.join z (x::y::r)=x++z++Txt.join z (y::r):=by
 show Builtin.Str.glued z (x::y::r)=x++z++Builtin.Str.glued z (y::r)
 rw [StrLaws.glued_eq_join,StrLaws.glued_eq_join];rfl
theorem join_one (z x:Str):Txt.join z [x]=x:=by
 show Builtin.Str.glued z [x]=x
 rw [StrLaws.glued_eq_join];rfl
theorem join_nil (z:Str):Txt.join z []="":=by
 show Builtin.Str.glued z []=""
 rw [StrLaws.glued_eq_join];rfl
theorem cM {x:Str} {r:List Str} (h:r≠[]):J (x::r)=x++sp++J r:=by
 cases r with
 | nil=>exact absurd rfl h
 | cons y r=>exact rG sp x y r
theorem hI (x y z:Str):x++y++z=x++(y++z):=cD (by rw [aU,aU,aU,aU,List.append_assoc])
theorem empty_app (x:Str):Str.empty++x=x:=cD (by rw [aU];rfl)
theorem iP (z:Str):∀ r:List Str,(Txt.join z r).length<=(r.map (·.length)).sum+r.length * z.length
 | []=>by rw [join_nil];simp;decide
 | [x]=>by rw [join_one];simp
 | x::y::r=>by
  have:=iP z (y::r)
  rw [rG,aT,aT]
  simp only [List.map_cons,List.sum_cons,List.length_cons,Nat.succ_mul] at this ⊢
  omega
theorem qM {l:List Str} {b:Nat} (h:∀ t∈l,t.length<=b):(l.map (·.length)).sum<=l.length * b:=by
 induction l with
 | nil=>simp
 | cons x r ih=>
  have h1:=h x (.head _)
  have h2:=ih λ t ht=>h t (.tail _ ht)
  rw [List.map_cons,List.sum_cons,List.length_cons,Nat.succ_mul]
  omega
theorem xw {r:List Str} {n b:Nat} (hn:r.length<=n) (hb:∀ t∈r,t.length<=b):(r.map (·.length)).sum+r.length * sp.length<=n * b+n:=by
 have h1:=qM hb
 have h2:sp.length=1:=by decide
 have h3:r.length * b<=n * b:=Nat.mul_le_mul_right b hn
 rw [h2];omega
theorem BF {r:List Str} {n b:Nat} (hn:r.length<=n) (hb:∀ t∈r,t.length<=b):(J r).length<=n * b+n:=Nat.le_trans (iP sp r) (xw hn hb)
def wr (r:RD):Bool:=decide (r.ys.length=1)&&decide (r.l=r.h)&&decide (r.b=2)&&decide (r.f=r.l % 2)
def fS (r:RD):List Str:=if wr r=true then "word"::aK r.l::r.ys else "rule"::aK r.l::aK r.h::aK r.b::aK r.f::aK r.e::":"::r.ys
theorem zQ {r:RD} (h:r.ok) (h1:r.ys.length=1):r.f=r.e:=by
 obtain ⟨y,hy,wy⟩:=h.it.wd
 obtain ⟨z,ez⟩:=List.length_eq_one_iff.mp h1
 have hz:y=z:=by rw [ez] at hy;exact List.mem_singleton.mp hy
 have ro:=h.ro
 unfold ip kH at ro
 simp only [Bool.and_eq_true] at ro
 by_cases z1:r.f=r.e
 ·exact z1
 ·have hs:kX ["R","K"] r.ys=false:=by
   rw [Bool.eq_false_iff]
   intro z2
   obtain ⟨s,hs,e⟩:=List.any_eq_true.mp z2
   rw [jO,ez,List.mem_singleton,<- hz] at e
   subst e
   exact nL wy (x9 hs)
  have:=ro.2.1
  rw [decide_eq_false z1,hs] at this
  cases this
section
variable {P:Program} {w:World} {K:PySem.W.Frag} {mg:Str->Option Value} {base:Heap} {a:Ad}
def sM (a:Ad) (H:Hp) (o:Addr) (r:RD):Prop:=∃ n,eN a H o r.l r.h r.b r.f r.e n/\H n=some (.lst (r.ys.map .str))
abbrev DWR (K:PySem.W.Frag) (mg:Str->Option Value):=Df K mg "is_word_rule" "is_word_rule" (top 38) ["rule"]
def CQ (a:Ad):Sp:=λ vs H Q _=>∃ (o:Addr) (r:RD),vs=[.ref o]/\sM a H o r/\Q (.bl (wr r)) H
theorem En:aS ["rule"] ["rule"] (aw (top 38)):=⟨rfl,rfl,rfl,by decide +kernel,rfl,by decide +kernel,by decide +kernel⟩
theorem Fu (D:DWR K mg) (T:Txt K mg a):F0 P w base 1 D (CQ a):=by
 refine Df.ok (k:=0) D.ex En (λ vs H Q E h=>?_) (λ A outer s H vs Q E hr h=>?_)
 ·obtain ⟨o,r,rfl,_⟩:=h;rfl
 ·obtain ⟨o,r,rfl,⟨n,R,hn⟩,k⟩:=h
  obtain ⟨dx,fs,ho,N,hps⟩:=id R.ob
  have nd:=En.nd
  refine ⟨_,(ae (a8 (pw_or (aL dB (aB aA (by rfl) T.br boot_len (ai (aF (pv 0) (by rfl)) aa)) af (aC _)) (pw_or (aL dB (aF (pv 0) (by rfl)) (aF (pv 0) (by rfl)) (aC _)) (pw_or1 (aL dB (aF (pv 0) (by rfl)) af (aC _))))).pt
 (ar (aO cb))
 aH)
 (ar (aO (bI cj (aF (pv 0) (by rfl)) (au aG (aF (pv 0) (by rfl)) af) (aC _))))),?_⟩
  unfold wr at k
  lia
  refine ⟨o,_,dx,fs,_,rfl,ho,T.clR,T.cz,hps,?_⟩
  lia
  refine ⟨n,_,rfl,.inl (SqL.of hn),?_⟩
  lia
  rw [List.length_map]
  refine w_ite (λ z=>?_) (λ z=>?_)
  ·have z:¬ r.ys.length=1:=by
    intro e;rw [e] at z;exact absurd z (by decide)
   lia
   rw [decide_eq_false z] at k
   exact k
  have z:r.ys.length=1:=by
   by_cases e:r.ys.length=1
   ·exact e
   ·have:¬ ((r.ys.length:Nat):Int)=1:=by omega
    rw [decide_eq_false this] at z;cases z
  rw [decide_eq_true z,Bool.true_and] at k
  lia
  refine ⟨o,_,dx,fs,_,rfl,ho,T.clR,T.fU,N.low,?_⟩
  lia
  refine ⟨o,_,dx,fs,_,rfl,ho,T.clR,T.fm,N.high,?_⟩
  lia
  refine w_ite (λ z1=>?_) (λ z1=>?_)
  ·have z1:decide (r.l=r.h)=false:=by simpa using z1
   lia
   rw [z1] at k
   exact k
  have z1:decide (r.l=r.h)=true:=by simpa using z1
  rw [z1,Bool.true_and] at k
  lia
  refine ⟨o,_,dx,fs,_,rfl,ho,T.clR,T.du,N.base,?_⟩
  lia
  refine w_ite (λ z2=>?_) (λ z2=>?_)
  ·have z2:decide (r.b=2)=false:=by simpa using z2
   lia
   rw [z2] at k
   exact k
  have z2:decide (r.b=2)=true:=by simpa using z2
  rw [z2,Bool.true_and] at k
  lia
  refine ⟨o,_,dx,fs,_,rfl,ho,T.clR,T.dh,N.first,?_⟩
  lia
  refine ⟨o,_,dx,fs,_,rfl,ho,T.clR,T.fU,N.low,?_⟩
  lia
  exact k
abbrev Ck (K:PySem.W.Frag) (mg:Str->Option Value):=Df K mg "rule_text" "rule_text" (top 37) ["rule"]
def xC (a:Ad):Sp:=λ vs H Q _=>∃ (o:Addr) (r:RD),vs=[.ref o]/\sM a H o r/\r.ok/\Q (.str (J (fS r))) H
theorem Bd:aS ["rule","pieces"] ["rule"] (aw (top 37)):=⟨rfl,rfl,rfl,by decide +kernel,rfl,by decide +kernel,by decide +kernel⟩
theorem Cb (D:Ck K mg) (dQ:DWR K mg) (mV:F0 P w base 1 dQ (CQ a)) (T:Txt K mg a):F0 P w base 2 D (xC a):=by
 refine Df.ok (k:=1) D.ex Bd (λ vs H Q E h=>?_) (λ A outer s H vs Q E hr h=>?_)
 ·obtain ⟨o,r,rfl,_⟩:=h;rfl
 ·obtain ⟨o,r,rfl,⟨n,R,hn⟩,ro,k⟩:=h
  obtain ⟨dx,fs,ho,N,hps⟩:=id R.ob
  have nd:=Bd.nd
  refine ⟨_,(ae (aN (i:=1) nd rfl (Or.inl rfl) (b6 PySem.F.plainAttrs_str PySem.F.slot_str_join PySem.F.type_str_join qb aD (ai (aF (pv 0) (by rfl)) aa)))
 (ae (a8 (bt (ay mV (hr.mono (by decide)) (by rfl) dQ.mg dQ.kp dQ.bd .nil aW (ai (pv 0) aa)))
 (ar (aO (pf (c9 aD (c9 (jx (aF (pv 0) (by rfl))) (c9 aD (c9 (ia (pv 1)) lC)))))))
 aH)
 (ar (aO (pf (c9 aD (c9 (jx (aF (pv 0) (by rfl))) (c9 aD (c9 (jx (aF (pv 0) (by rfl))) (c9 aD (c9 (jx (aF (pv 0) (by rfl))) (c9 aD (c9 (jx (aF (pv 0) (by rfl))) (c9 aD (c9 (jx (aF (pv 0) (by rfl))) (c9 aD (c9 (ia (pv 1)) lC))))))))))))))))),?_⟩
  have le8:=ro.it.le
  have len10:∀ y∈r.ys,y.length<=10:=λ y hy=>(ro.it.ok.pc y hy).len
  have jr:=xw le8 len10
  have jl:=BF le8 len10
  lia
  refine ⟨rfl,?_⟩
  lia
  refine ⟨o,_,dx,fs,_,rfl,ho,T.clR,T.cz,hps,?_⟩
  lia
  refine ⟨sp,n,r.ys,rfl,rfl,SqL.of hn,by omega,?_⟩
  lia
  refine ⟨o,r,rfl,⟨n,R,hn⟩,?_⟩
  lia
  unfold fS at k
  have e0:Str.empty.length=0:=rfl
  have e1:(" ":Str).length=1:=by decide
  have e5:("word ":Str).length=5:=by decide
  have e6:("rule ":Str).length=5:=by decide
  have e3:(" : ":Str).length=3:=by decide
  have fl:(Str.ofString (toString r.l)).length<=63:=cw ro.l.1 (by have:=ro.l.2;omega)
  have fh:(Str.ofString (toString r.h)).length<=63:=cw ro.h.1 (by have:=ro.h.2;omega)
  have fb:(Str.ofString (toString r.b)).length<=63:=cw (by have:=ro.b.1;omega) (by have:=ro.b.2;omega)
  have ff:(Str.ofString (toString r.f)).length<=63:=cw ro.f.1 (by have:=ro.f.2;omega)
  have fe:(Str.ofString (toString r.e)).length<=63:=cw ro.e.1 (by have:=ro.e.2;omega)
  have gl:r.l.natAbs.log2<1920:=Nat.lt_trans (c6 ro.l.1 (by have:=ro.l.2;omega)) (by decide)
  have gh:r.h.natAbs.log2<1920:=Nat.lt_trans (c6 ro.h.1 (by have:=ro.h.2;omega)) (by decide)
  have gb:r.b.natAbs.log2<1920:=Nat.lt_trans (c6 (by have:=ro.b.1;omega) (by have:=ro.b.2;omega)) (by decide)
  have gf:r.f.natAbs.log2<1920:=Nat.lt_trans (c6 ro.f.1 (by have:=ro.f.2;omega)) (by decide)
  have ge:r.e.natAbs.log2<1920:=Nat.lt_trans (c6 ro.e.1 (by have:=ro.e.2;omega)) (by decide)
  have ne:=ro.it.ne
  change (Txt.join sp r.ys).length<=_ at jl
  refine w_ite (λ z=>?_) (λ z=>?_)
  ·rw [if_pos z] at k
   lia
   refine ⟨_,rfl,by (refine av ?_;(try simp only [aT]);omega),?_⟩
   lia
   refine ⟨o,_,dx,fs,_,rfl,ho,T.clR,T.fU,N.low,?_⟩
   refine ⟨_,rfl,gl,?_⟩
   refine ⟨_,rfl,by (refine av ?_;(try simp only [aT]);omega),?_⟩
   lia
   refine ⟨_,rfl,by (refine av ?_;(try simp only [aT]);omega),?_⟩
   lia
   refine ⟨_,rfl,by (refine av ?_;(try simp only [aT]);omega),?_⟩
   refine ⟨_,rfl,by (refine av ?_;(try simp only [aT]);omega),?_⟩
   refine ⟨by (refine av ?_;(try simp only [aT]);omega),?_⟩
   refine Eq.mpr (congrArg (λ x=>Q (V.str x) H) ?_) k
   rw [cM (by simp),cM ne,empty_app,show ("word ":Str)="word"++sp from by decide +kernel]
   simp only [hI];rfl
  ·rw [if_neg (by rw [z];exact Bool.false_ne_true)] at k
   lia
   refine ⟨_,rfl,by (refine av ?_;(try simp only [aT]);omega),?_⟩
   lia
   refine ⟨o,_,dx,fs,_,rfl,ho,T.clR,T.fU,N.low,?_⟩
   refine ⟨_,rfl,gl,?_⟩
   refine ⟨_,rfl,by (refine av ?_;(try simp only [aT]);omega),?_⟩
   lia
   refine ⟨_,rfl,by (refine av ?_;(try simp only [aT]);omega),?_⟩
   lia
   refine ⟨o,_,dx,fs,_,rfl,ho,T.clR,T.fm,N.high,?_⟩
   refine ⟨_,rfl,gh,?_⟩
   refine ⟨_,rfl,by (refine av ?_;(try simp only [aT]);omega),?_⟩
   lia
   refine ⟨_,rfl,by (refine av ?_;(try simp only [aT]);omega),?_⟩
   lia
   refine ⟨o,_,dx,fs,_,rfl,ho,T.clR,T.du,N.base,?_⟩
   refine ⟨_,rfl,gb,?_⟩
   refine ⟨_,rfl,by (refine av ?_;(try simp only [aT]);omega),?_⟩
   lia
   refine ⟨_,rfl,by (refine av ?_;(try simp only [aT]);omega),?_⟩
   lia
   refine ⟨o,_,dx,fs,_,rfl,ho,T.clR,T.dh,N.first,?_⟩
   refine ⟨_,rfl,gf,?_⟩
   refine ⟨_,rfl,by (refine av ?_;(try simp only [aT]);omega),?_⟩
   lia
   refine ⟨_,rfl,by (refine av ?_;(try simp only [aT]);omega),?_⟩
   lia
   refine ⟨o,_,dx,fs,_,rfl,ho,T.clR,T.fV,N.last,?_⟩
   refine ⟨_,rfl,ge,?_⟩
   refine ⟨_,rfl,by (refine av ?_;(try simp only [aT]);omega),?_⟩
   lia
   refine ⟨_,rfl,by (refine av ?_;(try simp only [aT]);omega),?_⟩
   lia
   refine ⟨_,rfl,by (refine av ?_;(try simp only [aT]);omega),?_⟩
   refine ⟨_,rfl,by (refine av ?_;(try simp only [aT]);omega),?_⟩
   refine ⟨by (refine av ?_;(try simp only [aT]);omega),?_⟩
   refine Eq.mpr (congrArg (λ x=>Q (V.str x) H) ?_) k
   rw [cM (by simp),cM (by simp),cM (by simp),cM (by simp),cM (by simp),cM (by simp),cM ne,empty_app,show ("rule ":Str)="rule"++sp from by decide +kernel,show (" : ":Str)=sp++(":"++sp) from by decide +kernel]
   simp only [hI];rfl
end
theorem GU {σ:L2.St} {x y:Option V}:∀ (j:Nat) v,(tau 2 [] σ)[j]?=some (some v)->([x,y]:L2.St)[j]?=some (some v):=λ j v h=>by
 match j,h with
 | 0,h=>cases h
 | 1,h=>cases h
 | j+2,h=>cases h
def gj (m:MD):List Str:=["melt",m.m.1,m.m.2.1,m.m.2.2]
def kj (p:PD):List Str:=["turn",p.m.1,p.m.2]
def eJ (k:KDD):List (List Str):=["kind",k.ti,k.en]::k.ps.map kj
def rowsOf (d:DD):List (List Str):=["bound",aK d.b]::(d.rs.map fS++d.ms.map gj++d.ks.flatMap eJ)
def textOf (d:DD):Str:=Txt.join lf ((rowsOf d).map J)++lf
theorem uk {i j:Nat} {x:Str} (h:low i j x=true):x.length<=j:=by
 unfold low at h
 simp only [Bool.and_eq_true,decide_eq_true_eq] at h
 exact h.1.2
theorem rA {m:Str×Str×Str} (h:c8 m=true):m.1.length<=6/\m.2.1.length<=6/\m.2.2.length<=6:=by
 unfold c8 at h
 simp only [Bool.and_eq_true] at h
 exact ⟨by have:=uk h.1.1.1;omega,by have:=uk h.1.1.2;omega,uk h.1.2⟩
def Sh (r:List Str):Prop:=r.length<=15/\∀ t∈r,t.length<=63
theorem Sh.len {r:List Str} (h:Sh r):(J r).length<=1000:=Nat.le_trans (BF h.1 h.2) (by decide)
theorem zv {r:RD} (h:r.ok):Sh (fS r):=by
 have le8:=h.it.le
 have yl:∀ y∈r.ys,y.length<=63:=λ y hy=>by have:=(h.it.ok.pc y hy).len;omega
 have fl:(aK r.l).length<=63:=cw h.l.1 (by have:=h.l.2;omega)
 have fh:(aK r.h).length<=63:=cw h.h.1 (by have:=h.h.2;omega)
 have fb:(aK r.b).length<=63:=cw (by have:=h.b.1;omega) (by have:=h.b.2;omega)
 have ff:(aK r.f).length<=63:=cw h.f.1 (by have:=h.f.2;omega)
 have fe:(aK r.e).length<=63:=cw h.e.1 (by have:=h.e.2;omega)
 unfold fS
 split
 ·refine ⟨by simp only [List.length_cons];omega,λ t ht=>?_⟩
  simp only [List.mem_cons] at ht
  rcases ht with rfl | rfl | ht
  ·decide
  ·exact fl
  ·exact yl t ht
 ·refine ⟨by simp only [List.length_cons];omega,λ t ht=>?_⟩
  simp only [List.mem_cons] at ht
  rcases ht with rfl | rfl | rfl | rfl | rfl | rfl | rfl | ht
  ·decide
  ·exact fl
  ·exact fh
  ·exact fb
  ·exact ff
  ·exact fe
  ·decide
  ·exact yl t ht
theorem Ar {m:MD} (h:c8 m.m=true):Sh (gj m):=by
 obtain ⟨h1,h2,h3⟩:=rA h
 refine ⟨by unfold gj;simp,λ t ht=>?_⟩
 unfold gj at ht
 simp only [List.mem_cons,List.not_mem_nil,or_false] at ht
 rcases ht with rfl | rfl | rfl | rfl
 ·decide
 all_goals omega
theorem zN {k:KDD} (h:k.ok):∀ r∈eJ k,Sh r:=λ r hr=>by
 obtain ⟨h1,h2,h3⟩:=mS h
 unfold eJ at hr
 rcases List.mem_cons.mp hr with rfl | hr
 ·refine ⟨by simp,λ t ht=>?_⟩
  simp only [List.mem_cons,List.not_mem_nil,or_false] at ht
  rcases ht with rfl | rfl | rfl
  ·decide
  all_goals omega
 ·obtain ⟨p,hp,rfl⟩:=List.mem_map.mp hr
  obtain ⟨g1,g2⟩:=h3 p hp
  refine ⟨by unfold kj;simp,λ t ht=>?_⟩
  unfold kj at ht
  simp only [List.mem_cons,List.not_mem_nil,or_false] at ht
  rcases ht with rfl | rfl | rfl
  ·decide
  all_goals omega
theorem ve {d:DD} (h:d.ok):∀ r∈rowsOf d,Sh r:=λ r hr=>by
 unfold rowsOf at hr
 rcases List.mem_cons.mp hr with rfl | hr
 ·have fb:(aK d.b).length<=63:=cw h.b.1 (by have:=h.b.2;omega)
  refine ⟨by simp,λ t ht=>?_⟩
  simp only [List.mem_cons,List.not_mem_nil,or_false] at ht
  rcases ht with rfl | rfl
  ·decide
  ·exact fb
 rcases List.mem_append.mp hr with hr | hr
 ·rcases List.mem_append.mp hr with hr | hr
  ·obtain ⟨x,hx,rfl⟩:=List.mem_map.mp hr
   exact zv (h.rs x hx)
  ·obtain ⟨x,hx,rfl⟩:=List.mem_map.mp hr
   exact Ar (h.ms x hx)
 ·obtain ⟨x,hx,hr⟩:=List.mem_flatMap.mp hr
  exact zN (h.ks x hx) r hr
theorem jg:∀ {ks:List KDD},(∀ k∈ks,k.ok)->(ks.flatMap eJ).length<=13 * ks.length
 | [],_=>by simp
 | k::r,h=>by
  have h1:=jg (ks:=r) λ x hx=>h x (.tail _ hx)
  have h2:=(h k (.head _)).le
  rw [List.flatMap_cons,List.length_append,List.length_cons]
  have h3:(eJ k).length=k.ps.length+1:=by unfold eJ;simp
  omega
theorem sD {d:DD} (h:d.ok):(rowsOf d).length<=105:=by
 have h1:=jg h.ks
 have h2:=h.rn
 have h3:=h.mn
 have h4:=h.kn
 unfold rowsOf
 simp only [List.length_cons,List.length_append,List.length_map]
 omega
def DD.mt (d:DD) (H:Hp):Prop:=(∀ m∈d.ms,H m.t=some (jA m.m))/\∀ k∈d.ks,∀ p∈k.ps,H p.t=some (dA p.m)
theorem DD.mt.same {d:DD} {H H':Hp} (h:d.mt H) (s:ax H H'):d.mt H':=⟨λ m hm=>s _ _ (h.1 m hm),λ k hk p hp=>s _ _ (h.2 k hk p hp)⟩
section
variable {P:Program} {w:World} {K:PySem.W.Frag} {mg:Str->Option Value} {base:Heap} {a:Ad}
abbrev DTT (K:PySem.W.Frag) (mg:Str->Option Value):=Df K mg "tongue_text" "tongue_text" (top 36) ["tongue"]
def DZ (a:Ad):Sp:=λ vs H Q _=>∃ (x:Addr) (d:DD) (os zs:List Addr),vs=[.ref x]/\TD a H x d os zs/\d.mt H/\d.ok/\∀ H',ax H H'->Q (.str (textOf d)) H'
abbrev nTT:List Str:=["tongue","rows","kind"]
theorem Gp:aS nTT ["tongue"] (aw (top 36)):=⟨rfl,rfl,rfl,by decide +kernel,rfl,by decide +kernel,by decide +kernel⟩
theorem Gz (D:DTT K mg) (gr:Ck K mg) (qO:F0 P w base 2 gr (xC a)) (T:Txt K mg a):F0 P w base 3 D (DZ a):=by
 refine Df.ok (k:=2) D.ex Gp (λ vs H Q E h=>?_) (λ A outer s H vs Q E hr h=>?_)
 ·obtain ⟨x,d,os,zs,rfl,_⟩:=h;rfl
 ·obtain ⟨x,d,os,zs,rfl,td,da,do_,k⟩:=h
  obtain ⟨dx,fs,ra,qa,ka,hx,fl,hra,hqa,hka⟩:=id td.tg.ob
  have nd:=Gp.nd
  have gb:d.b.natAbs.log2<1920:=Nat.lt_trans (c6 do_.b.1 (by have:=do_.b.2;omega)) (by decide)
  have fb:(Str.ofString (toString d.b)).length<=63:=cw do_.b.1 (by have:=do_.b.2;omega)
  have e0:Str.empty.length=0:=rfl
  have e1:(" ":Str).length=1:=by decide
  have e6:("bound ":Str).length=6:=by decide
  have e5:("melt ":Str).length=5:=by decide
  have e5':("kind ":Str).length=5:=by decide
  have e5'':("turn ":Str).length=5:=by decide
  refine ⟨_,(ae (aN (i:=1) nd rfl (Or.inl rfl) (a5 (ai (pf (c9 aD (c9 (jx (aF (pv 0) (by rfl))) lC))) aa)))
 (ae (bx (b6 PySem.F.plainAttrs_list PySem.F.slot_list_extend PySem.F.type_list_extend fO (pv 1) (ai (hZ (N:=["rule"]) (fs:=[]) (⟨rfl,by rfl,by rfl,by rfl,trivial⟩) rfl (bF (aF (pv 0) (by rfl))) (λ _ _ _ _ _=>(az (i:=0) (show List.Nodup (["rule"]:List Str) from by decide +kernel) rfl (Or.inl rfl))) (λ _ _ _ _ _=>by exact cg) (λ _ _ _ _ _=>by exact (ay qO (hr.mono (by decide)) (by rfl) gr.mg gr.kp gr.bd .nil aW (ai (pv 0) aa)))) aa)))
 (ae (bx (b6 PySem.F.plainAttrs_list PySem.F.slot_list_extend PySem.F.type_list_extend fO (pv 1) (ai (hZ (N:=["ahead","behind","made"]) (fs:=[]) (⟨rfl,by rfl,by rfl,by rfl,trivial⟩) rfl (bF (aF (pv 0) (by rfl))) (λ _ _ _ _ _=>(j3 K (n:=3) rfl (aM (az (i:=0) (show List.Nodup (["ahead","behind","made"]:List Str) from by decide +kernel) rfl (Or.inl rfl)) (aM (az (i:=1) (show List.Nodup (["ahead","behind","made"]:List Str) from by decide +kernel) rfl (Or.inl rfl)) (aM (az (i:=2) (show List.Nodup (["ahead","behind","made"]:List Str) from by decide +kernel) rfl (Or.inl rfl)) cF))))) (λ _ _ _ _ _=>by exact cg) (λ _ _ _ _ _=>by exact (pf (c9 aD (c9 (ia (pv 0)) (c9 aD (c9 (ia (pv 1)) (c9 aD (c9 (ia (pv 2)) lC))))))))) aa)))
 (ae (fu PassesOwn.never rfl (bF (aF (pv 0) (by rfl))) (az (i:=2) nd rfl (Or.inl rfl))
 (ae (bx (b6 PySem.F.plainAttrs_list PySem.F.slot_list_append PySem.F.type_list_append bE (pv 1) (ai (pf (c9 aD (c9 (ia (aF (pv 2) (by rfl))) (c9 aD (c9 (ia (aF (pv 2) (by rfl))) lC))))) aa)))
 (ar (bx (b6 PySem.F.plainAttrs_list PySem.F.slot_list_extend PySem.F.type_list_extend fO (pv 1) (ai (hZ (N:=["first","second"]) (fs:=[]) (⟨rfl,by rfl,by rfl,by rfl,trivial⟩) rfl (bF (aF (pv 2) (by rfl))) (λ _ _ _ _ _=>(j3 K (n:=2) rfl (aM (az (i:=0) (show List.Nodup (["first","second"]:List Str) from by decide +kernel) rfl (Or.inl rfl)) (aM (az (i:=1) (show List.Nodup (["first","second"]:List Str) from by decide +kernel) rfl (Or.inl rfl)) cF)))) (λ _ _ _ _ _=>by exact cg) (λ _ _ _ _ _=>by exact (pf (c9 aD (c9 (ia (pv 0)) (c9 aD (c9 (ia (pv 1)) lC))))))) aa))))))
 (ar (aO (au bM (b6 PySem.F.plainAttrs_str PySem.F.slot_str_join PySem.F.type_str_join qb aD (ai (pv 1) aa)) aD))))))),?_⟩
  lia
  refine ⟨_,rfl,by (refine av ?_;(try simp only [aT]);omega),?_⟩
  lia
  refine ⟨x,_,dx,fs,_,rfl,hx,T.cl,T.fN,fl.bound,?_⟩
  refine ⟨_,rfl,gb,?_⟩
  refine ⟨_,rfl,by (refine av ?_;(try simp only [aT]);omega),?_⟩
  refine ⟨by (refine av ?_;(try simp only [aT]);omega),?_⟩
  lia
  refine ⟨by show 1<=sizeLine;decide,λ rw' hrw=>?_⟩
  have eb:Str.empty++("bound ":Str)++Str.ofString (toString d.b)=J ["bound",aK d.b]:=by
   rw [cM (by simp),empty_app,show ("bound ":Str)="bound"++sp from by decide +kernel]
   show _="bound"++sp++Txt.join sp [aK d.b]
   rw [join_one];rfl
  rw [eb]
  have s1:=ax.upd (o:=.lst [V.str (J ["bound",aK d.b])]) hrw
  have g1:(upd H rw' (.lst [V.str (J ["bound",aK d.b])])) rw'=some (.lst (([J ["bound",aK d.b]]).map V.str)):=ag
  generalize upd H rw' _=H1 at s1 g1 ⊢
  lia
  refine ⟨.inl ⟨rfl,_,SqL.of g1⟩,?_⟩
  lia
  refine ⟨x,_,dx,fs,_,rfl,s1 _ _ hx,T.cl,T.fD,fl.rules,?_⟩
  have r40:=do_.rn
  have rn:=td.rn
  have hra1:=s1 _ _ hra
  refine ⟨ra,rfl,⟨_,SqL.of hra1⟩,lcG (λ n ws=>ws=((d.rs.take n).map λ r=>J (fS r)).map V.str) (dN (SqL.of hra1)) (by rw [List.length_map];exact av (by omega)) rfl (λ D2 j ws H2 hj hD2 s2 e2 r2=>?_) (λ D2 H2 ws hD2 s2 e2 r2=>?_)⟩
  ·rw [List.length_map] at hj
   have hj':j<d.rs.length:=by omega
   have ej:(os.map V.ref).getD j .non=V.ref os[j]:=by simp [List.getD_eq_getElem?_getD,hj]
   rw [ej]
   lia
   refine ⟨gY rfl,?_⟩
   lia
   obtain ⟨n,R,hn⟩:=td.rs j os[j] d.rs[j] (List.getElem?_eq_getElem hj) (List.getElem?_eq_getElem hj')
   have s12:=s1.trans s2
   refine ⟨os[j],d.rs[j],rfl,⟨n,R.same s12,s12 _ _ hn⟩,do_.rs _ (List.getElem_mem hj'),?_⟩
   exact jJ hD2 s2 e2 (ax.refl _) (by rw [r2,List.take_succ,List.getElem?_eq_getElem hj',List.map_append,List.map_append];rfl)
  have r2:ws=(d.rs.map λ r=>J (fS r)).map V.str:=by rw [r2,List.length_map,rn,List.take_of_length_le (Nat.le_refl _)]
  subst r2
  have g2:=s2 _ _ g1
  lia
  refine ⟨rw',D2,_,_,rfl,rfl,g2,e2,by simp only [List.length_map,List.length_cons,List.length_nil];exact av (by omega),?_⟩
  rw [<- List.map_append]
  have s3:ax H (upd H2 rw' (.lst ((([J ["bound",aK d.b]])++d.rs.map λ r=>J (fS r)).map V.str))):=λ c o h=>by rw [aq (aj h hrw)];exact s2 _ _ (s1 _ _ h)
  have g3:(upd H2 rw' (.lst ((([J ["bound",aK d.b]])++d.rs.map λ r=>J (fS r)).map V.str))) rw'=some (.lst ((([J ["bound",aK d.b]])++d.rs.map λ r=>J (fS r)).map V.str)):=ag
  show sW _ _ _ _ (upd H2 rw' (.lst ((([J ["bound",aK d.b]])++d.rs.map λ r=>J (fS r)).map V.str)))
  generalize upd H2 rw' _=H3 at s3 g3 ⊢
  clear e2 hD2 g2 g1 s1 s2 hra1
  generalize hL3:([J ["bound",aK d.b]])++d.rs.map (λ r=>J (fS r))=L3 at g3
  have l3:L3.length<=41:=by rw [<- hL3];simp only [List.length_append,List.length_cons,List.length_nil,List.length_map];omega
  lia
  refine ⟨.inl ⟨rfl,_,SqL.of g3⟩,?_⟩
  lia
  refine ⟨x,_,dx,fs,_,rfl,s3 _ _ hx,T.cl,T.fM,fl.yx,?_⟩
  have m12:=do_.mn
  have hqa3:=s3 _ _ hqa
  refine ⟨qa,rfl,⟨_,SqL.of hqa3⟩,lcG (λ n ws=>ws=((d.ms.take n).map λ r=>J (gj r)).map V.str) (dN (SqL.of hqa3)) (by rw [List.length_map,List.length_map];exact av (by omega)) rfl (λ D4 j ws H4 hj hD4 s4 e4 r4=>?_) (λ D4 H4 ws hD4 s4 e4 r4=>?_)⟩
  ·rw [List.length_map,List.length_map] at hj
   have ej:((d.ms.map (·.t)).map V.ref).getD j .non=V.ref d.ms[j].t:=by simp [List.getD_eq_getElem?_getD,hj]
   have hm:=s4 _ _ (s3 _ _ (da.1 d.ms[j] (List.getElem_mem hj)))
   obtain ⟨ml1,ml2,ml3⟩:=rA (do_.ms d.ms[j] (List.getElem_mem hj))
   rw [ej]
   refine dg (SqT.of hm) rfl ?_
   refine ⟨_,_,rfl,_,_,rfl,_,_,rfl,rfl,?_⟩
   refine ⟨A3,?_⟩
   lia
   refine ⟨_,rfl,by (refine av ?_;(try simp only [aT]);omega),?_⟩
   lia
   refine ⟨_,rfl,by (refine av ?_;(try simp only [aT]);omega),?_⟩
   refine ⟨_,rfl,by (refine av ?_;(try simp only [aT]);omega),?_⟩
   lia
   refine ⟨_,rfl,by (refine av ?_;(try simp only [aT]);omega),?_⟩
   lia
   refine ⟨_,rfl,by (refine av ?_;(try simp only [aT]);omega),?_⟩
   refine ⟨_,rfl,by (refine av ?_;(try simp only [aT]);omega),?_⟩
   lia
   refine ⟨_,rfl,by (refine av ?_;(try simp only [aT]);omega),?_⟩
   lia
   refine ⟨_,rfl,by (refine av ?_;(try simp only [aT]);omega),?_⟩
   refine ⟨_,rfl,by (refine av ?_;(try simp only [aT]);omega),?_⟩
   refine ⟨by (refine av ?_;(try simp only [aT]);omega),?_⟩
   refine jJ hD4 s4 e4 (ax.refl _) ?_
   rw [r4,List.take_succ,List.getElem?_eq_getElem hj,List.map_append,List.map_append]
   refine congrArg (_++·) ?_
   show [V.str _]=[V.str (J (gj d.ms[j]))]
   refine congrArg (λ z=>[V.str z]) ?_
   unfold gj
   rw [cM (by simp),cM (by simp),cM (by simp),empty_app,show ("melt ":Str)="melt"++sp from by decide +kernel,show J [d.ms[j].m.2.2]=d.ms[j].m.2.2 from join_one _ _]
   simp only [hI];rfl
  have r4:ws=(d.ms.map λ r=>J (gj r)).map V.str:=by rw [r4,List.length_map,List.length_map,List.take_of_length_le (Nat.le_refl _)]
  subst r4
  have g4:=s4 _ _ g3
  lia
  refine ⟨rw',D4,_,_,rfl,rfl,g4,e4,by simp only [List.length_map];exact av (by omega),?_⟩
  rw [<- List.map_append]
  have s5:ax H (upd H4 rw' (.lst ((L3++d.ms.map λ r=>J (gj r)).map V.str))):=λ c o h=>by rw [aq (aj h hrw)];exact s4 _ _ (s3 _ _ h)
  have g5:(upd H4 rw' (.lst ((L3++d.ms.map λ r=>J (gj r)).map V.str))) rw'=some (.lst ((L3++d.ms.map λ r=>J (gj r)).map V.str)):=ag
  show sW _ _ _ _ (upd H4 rw' (.lst ((L3++d.ms.map λ r=>J (gj r)).map V.str)))
  generalize upd H4 rw' _=H5 at s5 g5 ⊢
  clear e4 hD4 g4 g3 s3 s4 hqa3
  generalize hL5:L3++d.ms.map (λ r=>J (gj r))=L5 at g5
  have l5:L5.length<=53:=by rw [<- hL5];simp only [List.length_append,List.length_map];omega
  lia
  refine ⟨x,_,dx,fs,_,rfl,s5 _ _ hx,T.cl,T.eO,fl.kinds,?_⟩
  have k4:=do_.kn
  have zn:=td.kn
  have hka5:=s5 _ _ hka
  refine ⟨ka,rfl,⟨_,SqL.of hka5⟩,forL (K:=K) (a:=ka) (xs:=zs.map V.ref) (λ i σ H6=>∃ v2,σ=[some (V.ref x),some (V.ref rw'),v2]/\ax H H6/\H6 rw'=some (.lst ((L5++((d.ks.take i).flatMap eJ).map J).map V.str))) ⟨none,rfl,s5,by rw [List.take_zero,List.flatMap_nil,List.map_nil,List.append_nil];exact g5⟩ (λ i σ H6 _ ⟨_,_,s6,_⟩=>SqL.of (s6 _ _ hka)) ?_ ?_⟩
  ·rintro i v σ H6 hv ⟨v2,rfl,s6,g6⟩
   rw [List.getElem?_map] at hv
   obtain ⟨o,ho,rfl⟩:=Option.map_eq_some_iff.mp hv
   have hi:i<zs.length:=(List.getElem?_eq_some_iff.mp ho).1
   have hi':i<d.ks.length:=by omega
   have hki:d.ks[i]?=some d.ks[i]:=List.getElem?_eq_getElem hi'
   obtain ⟨n,R,hn⟩:=td.ks i o d.ks[i] ho hki
   have ko:=do_.ks d.ks[i] (List.getElem_mem hi')
   have kat:=da.2 d.ks[i] (List.getElem_mem hi')
   generalize d.ks[i]=kd at hki R hn ko kat
   obtain ⟨k1,k2,k3⟩:=mS ko
   have k12:=ko.le
   have kl:=jg (ks:=d.ks.take i) λ y hy=>do_.ks y (List.mem_of_mem_take hy)
   rw [List.length_take] at kl
   obtain ⟨kx,kf,r1,r2⟩:=(R.same s6).ob
   lia
   refine ⟨.inl ⟨rfl,_,SqL.of g6⟩,?_⟩
   lia
   refine ⟨_,rfl,by (refine av ?_;(try simp only [aT]);omega),?_⟩
   lia
   refine ⟨o,_,kx,kf,_,rfl,r1,T.clK,T.dm,r2.title,?_⟩
   refine ⟨_,rfl,by (refine av ?_;(try simp only [aT]);omega),?_⟩
   refine ⟨_,rfl,by (refine av ?_;(try simp only [aT]);omega),?_⟩
   lia
   refine ⟨_,rfl,by (refine av ?_;(try simp only [aT]);omega),?_⟩
   lia
   refine ⟨o,_,kx,kf,_,rfl,r1,T.clK,T.dM,r2.tX,?_⟩
   refine ⟨_,rfl,by (refine av ?_;(try simp only [aT]);omega),?_⟩
   refine ⟨_,rfl,by (refine av ?_;(try simp only [aT]);omega),?_⟩
   refine ⟨by (refine av ?_;(try simp only [aT]);omega),?_⟩
   lia
   have ek:Str.empty++("kind ":Str)++kd.ti++(" ":Str)++kd.en=J ["kind",kd.ti,kd.en]:=by
    rw [cM (by simp),cM (by simp),empty_app,show ("kind ":Str)="kind"++sp from by decide +kernel,show J [kd.en]=kd.en from join_one _ _]
    simp only [hI];rfl
   rw [ek]
   refine ⟨rw',_,_,rfl,rfl,g6,by simp only [List.length_map,List.length_append];exact av (by omega),?_⟩
   generalize hL6:L5++((d.ks.take i).flatMap eJ).map J=L6 at g6 ⊢
   have l6:L6.length<=53+13 * 4:=by rw [<- hL6];simp only [List.length_append,List.length_map];omega
   have es:L6.map V.str++[V.str (J ["kind",kd.ti,kd.en])]=(L6++[J ["kind",kd.ti,kd.en]]).map V.str:=by rw [List.map_append];rfl
   rw [es]
   have s7:ax H (upd H6 rw' (.lst ((L6++[J ["kind",kd.ti,kd.en]]).map V.str))):=λ c o h=>by rw [aq (aj h hrw)];exact s6 _ _ h
   have g7:(upd H6 rw' (.lst ((L6++[J ["kind",kd.ti,kd.en]]).map V.str))) rw'=some (.lst ((L6++[J ["kind",kd.ti,kd.en]]).map V.str)):=ag
   show vC _ _ _ (upd H6 rw' (.lst ((L6++[J ["kind",kd.ti,kd.en]]).map V.str)))
   generalize upd H6 rw' _=H7 at s7 g7 ⊢
   obtain ⟨kx,kf,r1,r2⟩:=(R.same s7).ob
   have hn7:H7 n=some (.lst ((kd.ps.map (·.t)).map .ref)):=s7 _ _ hn
   lia
   refine ⟨.inl ⟨rfl,_,SqL.of g7⟩,?_⟩
   lia
   refine ⟨o,_,kx,kf,_,rfl,r1,T.clK,T.eQ,r2.turns,?_⟩
   refine ⟨n,rfl,⟨_,SqL.of hn7⟩,lcG (λ m ws=>ws=((kd.ps.take m).map λ r=>J (kj r)).map V.str) (dN (SqL.of hn7)) (by rw [List.length_map,List.length_map];exact av (by omega)) rfl (λ D8 j ws H8 hj hD8 s8 e8 r8=>?_) (λ D8 H8 ws hD8 s8 e8 r8=>?_)⟩
   ·rw [List.length_map,List.length_map] at hj
    have ej:((kd.ps.map (·.t)).map V.ref).getD j .non=V.ref kd.ps[j].t:=by simp [List.getD_eq_getElem?_getD,hj]
    have hm:=s8 _ _ (s7 _ _ (kat kd.ps[j] (List.getElem_mem hj)))
    obtain ⟨ml1,ml2⟩:=k3 kd.ps[j] (List.getElem_mem hj)
    rw [ej]
    refine dg (SqT.of hm) rfl ?_
    refine ⟨_,_,rfl,_,_,rfl,rfl,?_⟩
    refine ⟨GU,?_⟩
    lia
    refine ⟨_,rfl,by (refine av ?_;(try simp only [aT]);omega),?_⟩
    lia
    refine ⟨_,rfl,by (refine av ?_;(try simp only [aT]);omega),?_⟩
    refine ⟨_,rfl,by (refine av ?_;(try simp only [aT]);omega),?_⟩
    lia
    refine ⟨_,rfl,by (refine av ?_;(try simp only [aT]);omega),?_⟩
    lia
    refine ⟨_,rfl,by (refine av ?_;(try simp only [aT]);omega),?_⟩
    refine ⟨_,rfl,by (refine av ?_;(try simp only [aT]);omega),?_⟩
    refine ⟨by (refine av ?_;(try simp only [aT]);omega),?_⟩
    refine jJ hD8 s8 e8 (ax.refl _) ?_
    rw [r8,List.take_succ,List.getElem?_eq_getElem hj,List.map_append,List.map_append]
    refine congrArg (_++·) ?_
    show [V.str _]=[V.str (J (kj kd.ps[j]))]
    refine congrArg (λ z=>[V.str z]) ?_
    unfold kj
    rw [cM (by simp),cM (by simp),empty_app,show ("turn ":Str)="turn"++sp from by decide +kernel,show J [kd.ps[j].m.2]=kd.ps[j].m.2 from join_one _ _]
    simp only [hI];rfl
   have r8:ws=(kd.ps.map λ r=>J (kj r)).map V.str:=by rw [r8,List.length_map,List.length_map,List.take_of_length_le (Nat.le_refl _)]
   subst r8
   have g8:=s8 _ _ g7
   lia
   refine ⟨rw',D8,_,_,rfl,rfl,g8,e8,by simp only [List.length_map,List.length_append,List.length_cons,List.length_nil];exact av (by omega),?_⟩
   refine ⟨_,rfl,λ c o h=>by rw [aq (aj h hrw)];exact s8 _ _ (s7 _ _ h),?_⟩
   rw [ag,<- List.map_append,<- hL6,List.take_succ,hki,List.flatMap_append,List.map_append (f:=J)]
   show _=some (HO.lst (List.map V.str (_++(_++List.map J (List.flatMap eJ [kd])))))
   rw [List.flatMap_singleton]
   unfold eJ
   rw [List.map_cons (f:=J),List.map_map]
   simp only [List.append_assoc];rfl
  ·rintro σ H6 ⟨v2,rfl,s6,g6⟩
   have eL:L5++((d.ks.take (zs.map V.ref).length).flatMap eJ).map J=(rowsOf d).map J:=by
    rw [List.length_map,zn,List.take_of_length_le (Nat.le_refl _),<- hL5,<- hL3]
    unfold rowsOf
    simp only [List.map_cons,List.map_append,List.map_map,List.append_assoc];rfl
   rw [eL] at g6
   have sh:=ve do_
   have n105:=sD do_
   have hb:∀ t∈(rowsOf d).map J,t.length<=1000:=λ t ht=>by
    obtain ⟨r,hr,rfl⟩:=List.mem_map.mp ht
    exact (sh r hr).len
   have hs:=qM hb
   rw [List.length_map] at hs
   have e9:lf.length=1:=by decide
   have room:(((rowsOf d).map J).map (·.length)).sum+((rowsOf d).map J).length * lf.length<=16777216:=by
    rw [List.length_map,e9]
    have:(rowsOf d).length * 1000<=105 * 1000:=Nat.mul_le_mul_right _ n105
    omega
   have jlen:=iP lf ((rowsOf d).map J)
   lia
   refine ⟨rfl,?_⟩
   lia
   refine ⟨lf,rw',(rowsOf d).map J,rfl,rfl,SqL.of g6,room,?_⟩
   lia
   refine ⟨_,_,rfl,rfl,?_,?_⟩
   ·rw [List.length_map,e9] at jlen
    have:(rowsOf d).length * 1000<=105 * 1000:=Nat.mul_le_mul_right _ n105
    have e10:("\n":Str).length=1:=by decide
    rw [e10]
    have:sizeLine=2 ^ 24:=rfl
    omega
   ·exact k H6 s6
end
theorem yQ (a b c d e f g h:Int):eqL [V.int a,.int b,.int c,.int d] [V.int e,.int f,.int g,.int h]=(decide (a=e)&&decide (b=f)&&decide (c=g)&&decide (d=h)):=by
 unfold eqL
 simp only [List.length_cons,List.length_nil,List.zip_cons_cons,List.zip_nil_left,List.all_cons,List.all_nil,eqV,Bool.and_true]
 simp only [Bool.and_assoc,beq_self_eq_true,Bool.true_and]
 rfl
theorem C6 {r:RD} (h:r.ok):(decide (r.ys.length=1)&&eqL [V.int r.h,.int r.b,.int r.f,.int r.e] [V.int r.l,.int 2,.int (r.l % 2),.int (r.l % 2)])=wr r:=by
 rw [yQ]
 unfold wr
 by_cases z:r.ys.length=1
 ·have:=zQ h z
  rw [<- this,decide_eq_true z]
  simp only [Bool.true_and]
  rw [show decide (r.h=r.l)=decide (r.l=r.h) from decide_eq_decide.mpr ⟨λ e=>e.symm,λ e=>e.symm⟩]
  cases decide (r.l=r.h) <;> cases decide (r.b=2) <;> cases decide (r.f=r.l % 2) <;> rfl
 ·rw [decide_eq_false z];rfl
section
variable {P:Program} {w:World} {K:PySem.W.Frag} {mg:Str->Option Value} {base:Heap} {a:Ad}
abbrev DRR (K:PySem.W.Frag) (mg:Str->Option Value):=Df K mg "_law_rule_row" "_law_rule_row" (top 64) ["_law_rule_here"]
def Ds:Sp:=λ vs H Q _=>∃ (r:RD),vs=[.ref r.t]/\r.at H/\r.ok/\∀ H' l,ax H H'->H' l=some (.lst ((fS r).map .str))->Q (.ref l) H'
abbrev nRR:List Str:=["_law_rule_here","_law_low","_law_high","_law_base","_law_first","_law_last","_law_items_here"]
theorem FC:aS nRR ["_law_rule_here"] (aw (top 64)):=⟨rfl,rfl,rfl,by decide +kernel,rfl,by decide +kernel,by decide +kernel⟩
theorem Et (D:DRR K mg) (T:Txt K mg a):F0 P w base 1 D Ds:=by
 refine Df.ok (k:=0) D.ex FC (λ vs H Q E h=>?_) (λ A outer s H vs Q E hr h=>?_)
 ·obtain ⟨r,rfl,_⟩:=h;rfl
 ·obtain ⟨r,rfl,ra,ro,k⟩:=h
  have nd:=FC.nd
  have hu:=Nat.lt_of_succ_lt (vK hr)
  refine ⟨_,(ae (ir (pv 0) (iu (n:=6) rfl (aM (az (i:=1) nd rfl (Or.inl rfl)) (aM (az (i:=2) nd rfl (Or.inl rfl)) (aM (az (i:=3) nd rfl (Or.inl rfl)) (aM (az (i:=4) nd rfl (Or.inl rfl)) (aM (az (i:=5) nd rfl (Or.inl rfl)) (aM (az (i:=6) nd rfl (Or.inl rfl)) cF))))))))
 (ae (a8 (pw_and (aL cj (aB aA (by rfl) T.br boot_len (ai (pv 6) aa)) af (aC _)) (pw_and1 (aL (nj hu) (fT (ai (pv 2) (ai (pv 3) (ai (pv 4) (ai (pv 5) aa))))) (fT (ai (pv 1) (ai af (ai (au aG (pv 1) af) (ai (au aG (pv 1) af) aa))))) (aC _)))).pt
 (ar (aO (au gM (a5 (ai aD (ai (bf ji (by rfl) T.jq (by decide +kernel) (ai (pv 1) aa)) aa))) (pv 6))))
 aH)
 (ar (aO (au gM (au gM (au gM (a5 (ai aD aa)) (hZ (N:=["_law_number"]) (fs:=[]) (⟨rfl,by rfl,by rfl,by rfl,trivial⟩) rfl (tU (bU yI (pv 0) cX (b7 af))) (λ _ _ _ _ _=>(az (i:=0) (show List.Nodup (["_law_number"]:List Str) from by decide +kernel) rfl (Or.inl rfl))) (λ _ _ _ _ _=>by exact cg) (λ _ _ _ _ _=>by exact (bf ji (by rfl) T.jq (by decide +kernel) (ai (pv 0) aa))))) (a5 (ai aD aa))) (pv 6)))))),?_⟩
  have le8:=ro.it.le
  have gl:r.l.natAbs.log2<1920:=Nat.lt_trans (c6 ro.l.1 (by have:=ro.l.2;omega)) (by decide)
  lia
  refine dg (SqT.of ra.1) rfl ?_
  refine ⟨_,_,rfl,_,_,rfl,_,_,rfl,_,_,rfl,_,_,rfl,_,_,rfl,rfl,?_⟩
  have wl:=C6 ro
  unfold fS at k
  (repeat array_mem_dec)
  show qZ _ _ _ _ [some (V.ref r.t),some (V.int r.l),some (V.int r.h),some (V.int r.b),some (V.int r.f),some (V.int r.e),some (V.ref r.it)] H
  have len1:decide (((r.ys.map V.str).length:Int)=1)=decide (r.ys.length=1):=by rw [List.length_map];exact decide_eq_decide.mpr ⟨λ h=>by omega,λ h=>by omega⟩
  refine iX (λ σ2 H2=>σ2=[some (V.ref r.t),some (V.int r.l),some (V.int r.h),some (V.int r.b),some (V.int r.f),some (V.int r.e),some (V.ref r.it)]/\ax H H2/\wr r=false) (λ nx' hj=>?_) ?_
  ·lia
   refine ⟨r.it,_,rfl,.inl (SqL.of ra.2),?_⟩
   lia
   rw [len1]
   refine w_ite (λ z=>?_) (λ z=>?_)
   ·rw [z,Bool.true_and] at wl
    lia
    refine ⟨by show 4<=sizeLine;decide,λ t1 h1=>?_⟩
    have s1:=ax.upd (o:=.tup [V.int r.h,.int r.b,.int r.f,.int r.e]) h1
    have g1:(upd H t1 (.tup [V.int r.h,.int r.b,.int r.f,.int r.e])) t1=some (.tup [V.int r.h,.int r.b,.int r.f,.int r.e]):=ag
    generalize upd H t1 _=H1 at s1 g1 ⊢
    lia
    refine ⟨by show 4<=sizeLine;decide,λ t2 h2=>?_⟩
    have s2:=ax.upd (o:=.tup [V.int r.l,.int 2,.int (r.l % 2),.int (r.l % 2)]) h2
    have g2:(upd H1 t2 (.tup [V.int r.l,.int 2,.int (r.l % 2),.int (r.l % 2)])) t2=some (.tup [V.int r.l,.int 2,.int (r.l % 2),.int (r.l % 2)]):=ag
    generalize upd H1 t2 _=H2 at s2 g2 ⊢
    have s12:=s1.trans s2
    refine ⟨t1,t2,_,_,rfl,rfl,.inr ⟨SqT.of (s2 _ _ g1),SqT.of g2⟩,rfl,rfl,?_⟩
    rw [if_neg Bool.false_ne_true,wl]
    lia
    refine w_ite (λ z1=>?_) (λ z1=>?_)
    ·rw [if_pos z1] at k
     lia
     refine ⟨_,rfl,gl,?_⟩
     lia
     refine ⟨by show 2<=sizeLine;decide,λ l3 h3=>?_⟩
     have s3:=ax.upd (o:=.lst [V.str "word",.str (aK r.l)]) h3
     have g3:(upd H2 l3 (.lst [V.str "word",.str (aK r.l)])) l3=some (.lst [V.str "word",.str (aK r.l)]):=ag
     show zC _ _ (upd H2 l3 (.lst [V.str "word",.str (aK r.l)])) _
     generalize upd H2 l3 _=H3 at s3 g3 ⊢
     lia
     refine ⟨l3,r.it,_,_,rfl,rfl,g3,s3 _ _ (s12 _ _ ra.2),by rw [List.length_map];exact av (by show 2+_<=_;omega),λ l4 h4=>?_⟩
     exact k _ l4 (s12.trans (s3.trans (ax.upd h4))) ag
    ·lia
     exact hj _ _ ⟨rfl,s12,z1⟩
   ·rw [z,Bool.false_and] at wl
    lia
    exact hj _ _ ⟨rfl,ax.refl _,wl.symm⟩
  rintro _ H2 ⟨rfl,s2,z2⟩
  rw [if_neg (by rw [z2];exact Bool.false_ne_true)] at k
  have ra2:=ra.same s2
  lia
  refine ⟨by show 1<=sizeLine;decide,λ l3 h3=>?_⟩
  have s3:=ax.upd (o:=.lst [V.str "rule"]) h3
  have g3:(upd H2 l3 (.lst [V.str "rule"])) l3=some (.lst [V.str "rule"]):=ag
  generalize upd H2 l3 _=H3 at s3 g3 ⊢
  have ra3:=ra2.same s3
  lia
  refine ⟨r.t,_,rfl,SqT.of ra3.1,(λ h=>absurd h.2 (by show ¬ HT.sIx 6 6 (some 5)=6;decide +kernel)),λ t4 h4=>?_⟩
  have c5:f9 [V.int r.l,.int r.h,.int r.b,.int r.f,.int r.e,.ref r.it] none (some 5)=[V.int r.l,.int r.h,.int r.b,.int r.f,.int r.e]:=rfl
  rw [c5]
  have s4:=ax.upd (o:=.tup [V.int r.l,.int r.h,.int r.b,.int r.f,.int r.e]) h4
  have g4:(upd H3 t4 (.tup [V.int r.l,.int r.h,.int r.b,.int r.f,.int r.e])) t4=some (.tup [V.int r.l,.int r.h,.int r.b,.int r.f,.int r.e]):=ag
  generalize upd H3 t4 _=H4 at s4 g4 ⊢
  have lg:∀ x∈[r.l,r.h,r.b,r.f,r.e],x.natAbs.log2<1920:=λ x hx=>by
   simp only [List.mem_cons,List.not_mem_nil,or_false] at hx
   rcases hx with rfl | rfl | rfl | rfl | rfl
   ·exact gl
   ·exact Nat.lt_trans (c6 ro.h.1 (by have:=ro.h.2;omega)) (by decide)
   ·exact Nat.lt_trans (c6 (by have:=ro.b.1;omega) (by have:=ro.b.2;omega)) (by decide)
   ·exact Nat.lt_trans (c6 ro.f.1 (by have:=ro.f.2;omega)) (by decide)
   ·exact Nat.lt_trans (c6 ro.e.1 (by have:=ro.e.2;omega)) (by decide)
  have g4:H4 t4=some (.tup ([r.l,r.h,r.b,r.f,r.e].map V.int)):=g4
  refine ⟨t4,rfl,⟨_,SqT.of g4⟩,lcG (λ n ws=>ws=(([r.l,r.h,r.b,r.f,r.e].take n).map aK).map V.str) (Ak (SqT.of g4)) (by rw [List.length_map];show 5<=sizeLine;decide) rfl (λ D5 j ws H5 hj hD5 s5 e5 r5=>?_) (λ D5 H5 ws hD5 s5 e5 r5=>?_)⟩
  ·rw [List.length_map] at hj
   have ej:(([r.l,r.h,r.b,r.f,r.e]).map V.int).getD j .non=V.int ([r.l,r.h,r.b,r.f,r.e])[j]:=by rw [List.getD_eq_getElem?_getD,List.getElem?_map,List.getElem?_eq_getElem hj];rfl
   rw [ej]
   lia
   refine ⟨gY rfl,?_⟩
   lia
   refine ⟨_,rfl,lg _ (List.getElem_mem hj),?_⟩
   exact jJ hD5 s5 e5 (ax.refl _) (by rw [r5,List.take_succ,List.getElem?_eq_getElem hj,List.map_append,List.map_append];rfl)
  have r5:ws=[V.str (aK r.l),.str (aK r.h),.str (aK r.b),.str (aK r.f),.str (aK r.e)]:=r5
  subst r5
  refine ⟨l3,D5,_,_,rfl,rfl,s5 _ _ (s4 _ _ g3),e5,by show 1+5<=sizeLine;decide,λ l6 h6=>?_⟩
  have s6:=ax.upd (o:=.lst ([V.str "rule"]++[V.str (aK r.l),.str (aK r.h),.str (aK r.b),.str (aK r.f),.str (aK r.e)])) h6
  have g6:(upd H5 l6 (.lst ([V.str "rule"]++[V.str (aK r.l),.str (aK r.h),.str (aK r.b),.str (aK r.f),.str (aK r.e)]))) l6=some (.lst ([V.str "rule"]++[V.str (aK r.l),.str (aK r.h),.str (aK r.b),.str (aK r.f),.str (aK r.e)])):=ag
  generalize upd H5 l6 _=H6 at s6 g6 ⊢
  lia
  refine ⟨by show 1<=sizeLine;decide,λ l7 h7=>?_⟩
  have s7:=ax.upd (o:=.lst [V.str ":"]) h7
  have g7:(upd H6 l7 (.lst [V.str ":"])) l7=some (.lst [V.str ":"]):=ag
  generalize upd H6 l7 _=H7 at s7 g7 ⊢
  refine ⟨l6,l7,_,_,rfl,rfl,s7 _ _ g6,g7,by show 6+1<=sizeLine;decide,λ l8 h8=>?_⟩
  have s8:=ax.upd (o:=.lst ([V.str "rule"]++[V.str (aK r.l),.str (aK r.h),.str (aK r.b),.str (aK r.f),.str (aK r.e)]++[V.str ":"])) h8
  have g8:(upd H7 l8 (.lst ([V.str "rule"]++[V.str (aK r.l),.str (aK r.h),.str (aK r.b),.str (aK r.f),.str (aK r.e)]++[V.str ":"]))) l8=some (.lst ([V.str "rule"]++[V.str (aK r.l),.str (aK r.h),.str (aK r.b),.str (aK r.f),.str (aK r.e)]++[V.str ":"])):=ag
  generalize upd H7 l8 _=H8 at s8 g8 ⊢
  lia
  have sA:=s3.trans (s4.trans (s5.trans (s6.trans (s7.trans s8))))
  refine ⟨l8,r.it,_,_,rfl,rfl,g8,sA _ _ ra2.2,by rw [List.length_map];exact av (by show 7+_<=_;omega),λ l9 h9=>?_⟩
  exact k _ l9 (s2.trans (sA.trans (ax.upd h9))) ag
end
structure LR where
 row:List Str
 t:Addr
def bL (ls:List LR):List V:=(ls.map (·.t)).map .ref
def LAt (H:Hp) (ls:List LR):Prop:=∀ x∈ls,H x.t=some (.lst (x.row.map .str))/\x.row≠[]
theorem LAt.same {H H':Hp} {ls:List LR} (h:LAt H ls) (s:ax H H'):LAt H' ls:=λ x hx=>⟨s _ _ (h x hx).1,(h x hx).2⟩
theorem LAt.put {H:Hp} {ls:List LR} {l:Addr} {ts:List Addr} {o:HO} (h:LAt H ls) (g:H l=some (.lst (ts.map .ref))):LAt (upd H l o) ls:=λ x hx=>⟨by rw [aq (fP (h x hx).1 (h x hx).2 g)];exact (h x hx).1,(h x hx).2⟩
theorem LAt.app {H:Hp} {ls ms:List LR} (h:LAt H ls) (g:LAt H ms):LAt H (ls++ms):=λ x hx=>(List.mem_append.mp hx).elim (h x) (g x)
theorem LAt.one {H:Hp} {row:List Str} {t:Addr} (h:H t=some (.lst (row.map .str))) (n:row≠[]):LAt H [⟨row,t⟩]:=λ x hx=>by rw [List.mem_singleton.mp hx];exact ⟨h,n⟩
theorem dz (ls ms:List LR):bL (ls++ms)=bL ls++bL ms:=by unfold bL;rw [List.map_append,List.map_append]
theorem z8 (r:RD):fS r≠[]:=by unfold fS;split <;> simp
section
variable {P:Program} {w:World} {K:PySem.W.Frag} {mg:Str->Option Value} {base:Heap} {a:Ad}
abbrev DRs (K:PySem.W.Frag) (mg:Str->Option Value):=Df K mg "_law_rows" "_law_rows" (top 65) ["_law_data_here"]
def DX:Sp:=λ vs H Q _=>∃ (d:DD),vs=[.ref d.t]/\d.at H/\d.ok/\∀ H' l ls,ax H H'->H' l=some (.lst (bL ls))->LAt H' ls->ls.map (·.row)=rowsOf d->Q (.ref l) H'
abbrev nRs:List Str:=["_law_data_here","_law_bound","_law_rules","_law_melts_here","_law_kinds","_law_rows_here","_law_title","_law_ending","_law_turns"]
theorem Gx:aS nRs ["_law_data_here"] (aw (top 65)):=⟨rfl,rfl,rfl,by decide +kernel,rfl,by decide +kernel,by decide +kernel⟩
theorem Gj (D:DRs K mg) (di:DRR K mg) (mf:F0 P w base 1 di Ds) (T:Txt K mg a):F0 P w base 2 D DX:=by
 refine Df.ok (k:=1) D.ex Gx (λ vs H Q E h=>?_) (λ A outer s H vs Q E hr h=>?_)
 ·obtain ⟨d,rfl,_⟩:=h;rfl
 ·obtain ⟨d,rfl,da,do_,k⟩:=h
  have nd:=Gx.nd
  have gb:d.b.natAbs.log2<1920:=Nat.lt_trans (c6 do_.b.1 (by have:=do_.b.2;omega)) (by decide)
  have r40:=do_.rn
  have m12:=do_.mn
  have k4:=do_.kn
  refine ⟨_,(ae (ir (pv 0) (iu (n:=4) rfl (aM (az (i:=1) nd rfl (Or.inl rfl)) (aM (az (i:=2) nd rfl (Or.inl rfl)) (aM (az (i:=3) nd rfl (Or.inl rfl)) (aM (az (i:=4) nd rfl (Or.inl rfl)) cF))))))
 (ae (aN (i:=5) nd rfl (Or.inl rfl) (au gM (a5 (ai (a5 (ai aD (ai (bf ji (by rfl) T.jq (by decide +kernel) (ai (pv 1) aa)) aa))) aa)) (hZ (N:=["_law_rule_here"]) (fs:=[]) (⟨rfl,by rfl,by rfl,by rfl,trivial⟩) rfl (bF (pv 2)) (λ _ _ _ _ _=>(az (i:=0) (show List.Nodup (["_law_rule_here"]:List Str) from by decide +kernel) rfl (Or.inl rfl))) (λ _ _ _ _ _=>by exact cg) (λ _ _ _ _ _=>by exact (ay mf (hr.mono (by decide)) (by rfl) di.mg di.kp di.bd .nil aW (ai (pv 0) aa))))))
 (ae (bx (b6 PySem.F.plainAttrs_list PySem.F.slot_list_extend PySem.F.type_list_extend fO (pv 5) (ai (hZ (N:=["_law_melt_here"]) (fs:=[]) (⟨rfl,by rfl,by rfl,by rfl,trivial⟩) rfl (bF (pv 3)) (λ _ _ _ _ _=>(az (i:=0) (show List.Nodup (["_law_melt_here"]:List Str) from by decide +kernel) rfl (Or.inl rfl))) (λ _ _ _ _ _=>by exact cg) (λ _ _ _ _ _=>by exact (au gM (a5 (ai aD aa)) (bf (eW K) (by rfl) T.cL boot_list (ai (pv 0) aa))))) aa)))
 (ae (fu PassesOwn.never rfl (bF (pv 4)) (iu (n:=3) rfl (aM (az (i:=6) nd rfl (Or.inl rfl)) (aM (az (i:=7) nd rfl (Or.inl rfl)) (aM (az (i:=8) nd rfl (Or.inl rfl)) cF))))
 (ae (bx (b6 PySem.F.plainAttrs_list PySem.F.slot_list_append PySem.F.type_list_append bE (pv 5) (ai (a5 (ai aD (ai (pv 6) (ai (pv 7) aa)))) aa)))
 (ar (bx (b6 PySem.F.plainAttrs_list PySem.F.slot_list_extend PySem.F.type_list_extend fO (pv 5) (ai (hZ (N:=["_law_pair"]) (fs:=[]) (⟨rfl,by rfl,by rfl,by rfl,trivial⟩) rfl (bF (pv 8)) (λ _ _ _ _ _=>(az (i:=0) (show List.Nodup (["_law_pair"]:List Str) from by decide +kernel) rfl (Or.inl rfl))) (λ _ _ _ _ _=>by exact cg) (λ _ _ _ _ _=>by exact (au gM (a5 (ai aD aa)) (bf (eW K) (by rfl) T.cL boot_list (ai (pv 0) aa))))) aa))))))
 (ar (aO (pv 5))))))),?_⟩
  lia
  refine dg (SqT.of da.t) rfl ?_
  refine ⟨_,_,rfl,_,_,rfl,_,_,rfl,_,_,rfl,rfl,?_⟩
  lia
  refine ⟨_,rfl,gb,?_⟩
  lia
  refine ⟨by show 2<=sizeLine;decide,λ l1 h1=>?_⟩
  have s1:=ax.upd (o:=.lst ((["bound",aK d.b]:List Str).map V.str)) h1
  have g1:(upd H l1 (.lst ((["bound",aK d.b]:List Str).map V.str))) l1=some (.lst ((["bound",aK d.b]:List Str).map V.str)):=ag
  show wW _ (upd H l1 (.lst ((["bound",aK d.b]:List Str).map V.str))) _
  generalize upd H l1 _=H1 at s1 g1 ⊢
  lia
  refine ⟨by show 1<=sizeLine;decide,λ l2 h2=>?_⟩
  have s2:=ax.upd (o:=.lst [V.ref l1]) h2
  have g2:(upd H1 l2 (.lst [V.ref l1])) l2=some (.lst (bL [⟨["bound",aK d.b],l1⟩])):=ag
  generalize upd H1 l2 _=H2 at s2 g2 ⊢
  have s12:=s1.trans s2
  have a2:LAt H2 [⟨["bound",aK d.b],l1⟩]:=.one (s2 _ _ g1) (by simp)
  have da2:=da.same s12
  lia
  have rlr:H2 d.rl=some (.lst ((d.rs.map (·.t)).map .ref)):=da2.rl
  refine ⟨d.rl,rfl,⟨_,SqL.of rlr⟩,lcH (λ D3 n zs H3=>∃ ls:List LR,zs=bL ls/\ls.map (·.row)=(d.rs.take n).map fS/\LAt H3 ls) (dN (SqL.of rlr)) (by rw [List.length_map,List.length_map];exact av (by omega)) (λ D7 hD7=>⟨[],rfl,rfl,λ _ h=>(nomatch h)⟩) (λ D3 j zs H3 hj hD3 s3 e3 r3=>?_) (λ D3 H3 zs hD3 s3 e3 r3=>?_)⟩
  ·obtain ⟨ls,rfl,lr,la⟩:=r3
   rw [List.length_map,List.length_map] at hj
   have ej:((d.rs.map (·.t)).map V.ref).getD j .non=V.ref d.rs[j].t:=by simp [List.getD_eq_getElem?_getD,hj]
   rw [ej]
   lia
   refine ⟨gY rfl,?_⟩
   lia
   refine ⟨d.rs[j],rfl,(da2.rs _ (List.getElem_mem hj)).same s3,do_.rs _ (List.getElem_mem hj),λ H4 l4 s4 g4=>?_⟩
   have e4:=s4 _ _ e3
   refine ⟨e4,λ c o h=>by rw [aq (aj h hD3)];exact s4 _ _ (s3 _ _ h),ls++[⟨fS d.rs[j],l4⟩],by rw [dz];rfl,?_,?_⟩
   ·rw [List.map_append,lr,List.take_succ,List.getElem?_eq_getElem hj,List.map_append];rfl
   ·exact ((la.same s4).app (.one g4 (z8 _))).put e4
  obtain ⟨ls3,rfl,lr3,la3⟩:=r3
  rw [List.length_map,List.length_map,List.take_of_length_le (Nat.le_refl _)] at lr3
  have ll3:ls3.length<=40:=by have:=congrArg List.length lr3;rw [List.length_map,List.length_map] at this;omega
  refine ⟨l2,D3,_,_,rfl,rfl,s3 _ _ g2,e3,by unfold bL;simp only [List.length_map,List.length_cons,List.length_nil];exact av (by omega),λ rw' hrw=>?_⟩
  rw [<- dz]
  have s4:=ax.upd (o:=.lst (bL ([⟨["bound",aK d.b],l1⟩]++ls3))) hrw
  have g4:(upd H3 rw' (.lst (bL ([⟨["bound",aK d.b],l1⟩]++ls3)))) rw'=some (.lst (bL ([⟨["bound",aK d.b],l1⟩]++ls3))):=ag
  have hrw0:H rw'=none:=by
   cases e:H rw' with
   | none=>rfl
   | some o=>rw [s3 _ _ (s12 _ _ e)] at hrw;cases hrw
  generalize upd H3 rw' _=H4 at s4 g4 ⊢
  have sA:ax H H4:=s12.trans (s3.trans s4)
  have a4:LAt H4 ([⟨["bound",aK d.b],l1⟩]++ls3):=((a2.same s3).app la3).same s4
  generalize hL4:[⟨["bound",aK d.b],l1⟩]++ls3=L4 at g4 a4
  have l4:L4.length<=41:=by rw [<- hL4];simp only [List.length_append,List.length_cons,List.length_nil];omega
  have m4:L4.map (·.row)=(["bound",aK d.b]:List Str)::d.rs.map fS:=by rw [<- hL4,List.map_append,lr3];rfl
  clear s4 e3 s3 hD3 la3 da2 a2 s12 g2 s2 g1 s1 h1 h2 rlr
  lia
  refine ⟨.inl ⟨rfl,_,SqL.of g4⟩,?_⟩
  lia
  have da4:=da.same sA
  have mlr:H4 d.ml=some (.lst ((d.ms.map (·.t)).map .ref)):=da4.ml
  refine ⟨d.ml,rfl,⟨_,SqL.of mlr⟩,lcH (λ D5 n zs H5=>∃ ls:List LR,zs=bL ls/\ls.map (·.row)=(d.ms.take n).map gj/\LAt H5 ls) (dN (SqL.of mlr)) (by rw [List.length_map,List.length_map];exact av (by omega)) (λ D7 hD7=>⟨[],rfl,rfl,λ _ h=>(nomatch h)⟩) (λ D5 j zs H5 hj hD5 s5 e5 r5=>?_) (λ D5 H5 zs hD5 s5 e5 r5=>?_)⟩
  ·obtain ⟨ls,rfl,lr,la⟩:=r5
   rw [List.length_map,List.length_map] at hj
   have ej:((d.ms.map (·.t)).map V.ref).getD j .non=V.ref d.ms[j].t:=by simp [List.getD_eq_getElem?_getD,hj]
   have hm:=s5 _ _ (da4.ms d.ms[j] (List.getElem_mem hj))
   rw [ej]
   lia
   refine ⟨gY rfl,?_⟩
   lia
   refine ⟨by show 1<=sizeLine;decide,λ l6 h6=>?_⟩
   have s6:=ax.upd (o:=.lst [V.str "melt"]) h6
   have g6:(upd H5 l6 (.lst [V.str "melt"])) l6=some (.lst [V.str "melt"]):=ag
   generalize upd H5 l6 _=H6 at s6 g6 ⊢
   lia
   refine ⟨d.ms[j].t,_,rfl,.inr (SqT.of (s6 _ _ hm)),λ l7 h7=>?_⟩
   have s7:=ax.upd (o:=.lst [V.str d.ms[j].m.1,.str d.ms[j].m.2.1,.str d.ms[j].m.2.2]) h7
   have g7:(upd H6 l7 (.lst [V.str d.ms[j].m.1,.str d.ms[j].m.2.1,.str d.ms[j].m.2.2])) l7=some (.lst [V.str d.ms[j].m.1,.str d.ms[j].m.2.1,.str d.ms[j].m.2.2]):=ag
   show BW _ _ (upd H6 l7 (.lst [V.str d.ms[j].m.1,.str d.ms[j].m.2.1,.str d.ms[j].m.2.2])) _
   generalize upd H6 l7 _=H7 at s7 g7 ⊢
   refine ⟨l6,l7,_,_,rfl,rfl,s7 _ _ g6,g7,by show 1+3<=sizeLine;decide,λ l8 h8=>?_⟩
   have s8:=ax.upd (o:=.lst ((gj d.ms[j]).map V.str)) h8
   have g8:(upd H7 l8 (.lst ((gj d.ms[j]).map V.str))) l8=some (.lst ((gj d.ms[j]).map V.str)):=ag
   rw [show [V.str "melt"]++[V.str d.ms[j].m.1,.str d.ms[j].m.2.1,.str d.ms[j].m.2.2]=(gj d.ms[j]).map V.str from rfl]
   generalize upd H7 l8 _=H8 at s8 g8 ⊢
   have s58:=s6.trans (s7.trans s8)
   have e8:=s58 _ _ e5
   refine ⟨e8,λ c o h=>by rw [aq (aj h hD5)];exact s58 _ _ (s5 _ _ h),ls++[⟨gj d.ms[j],l8⟩],by rw [dz];rfl,?_,?_⟩
   ·rw [List.map_append,lr,List.take_succ,List.getElem?_eq_getElem hj,List.map_append];rfl
   ·exact ((la.same s58).app (.one g8 (by unfold gj;simp))).put e8
  obtain ⟨ls5,rfl,lr5,la5⟩:=r5
  rw [List.length_map,List.length_map,List.take_of_length_le (Nat.le_refl _)] at lr5
  have ll5:ls5.length<=12:=by have:=congrArg List.length lr5;rw [List.length_map,List.length_map] at this;omega
  have g5:=s5 _ _ g4
  lia
  refine ⟨rw',D5,_,_,rfl,rfl,g5,e5,by unfold bL;simp only [List.length_map];exact av (by omega),?_⟩
  rw [<- dz]
  have s6:ax H (upd H5 rw' (.lst (bL (L4++ls5)))):=λ c o h=>by rw [aq (aj h hrw0)];exact s5 _ _ (sA _ _ h)
  have g6:(upd H5 rw' (.lst (bL (L4++ls5)))) rw'=some (.lst (bL (L4++ls5))):=ag
  have a6:LAt (upd H5 rw' (.lst (bL (L4++ls5)))) (L4++ls5):=((a4.same s5).app la5).put g5
  show sW _ _ _ _ (upd H5 rw' (.lst (bL (L4++ls5))))
  generalize upd H5 rw' _=H6 at s6 g6 a6 ⊢
  generalize hL6:L4++ls5=L6 at g6 a6
  have l6:L6.length<=53:=by rw [<- hL6];simp only [List.length_append];omega
  have m6:L6.map (·.row)=(["bound",aK d.b]:List Str)::(d.rs.map fS++d.ms.map gj):=by rw [<- hL6,List.map_append,m4,lr5];rfl
  clear g5 la5 e5 s5 hD5 mlr da4 a4 g4 sA
  lia
  have klr:H d.kl=some (.lst ((d.ks.map (·.t)).map .ref)):=da.kl
  refine ⟨d.kl,rfl,⟨_,SqL.of (s6 _ _ klr)⟩,forL (K:=K) (a:=d.kl) (xs:=(d.ks.map (·.t)).map V.ref) (λ i σ H7=>∃ v6 v7 v8 ls,σ=[some (V.ref d.t),some (V.int d.b),some (V.ref d.rl),some (V.ref d.ml),some (V.ref d.kl),some (V.ref rw'),v6,v7,v8]/\ax H H7/\H7 rw'=some (.lst (bL (L6++ls)))/\LAt H7 (L6++ls)/\ls.map (·.row)=(d.ks.take i).flatMap eJ) ⟨none,none,none,[],rfl,s6,by rw [List.append_nil];exact g6,by rw [List.append_nil];exact a6,rfl⟩ (λ i σ H7 _ ⟨_,_,_,_,_,s7,_⟩=>SqL.of (s7 _ _ klr)) ?_ ?_⟩
  ·rintro i v σ H7 hv ⟨v6,v7,v8,ls,rfl,s7,g7,a7,m7⟩
   rw [List.getElem?_map,List.getElem?_map] at hv
   obtain ⟨t,ht,rfl⟩:=Option.map_eq_some_iff.mp hv
   obtain ⟨kd,hki,rfl⟩:=Option.map_eq_some_iff.mp ht
   have hmem:=List.mem_of_getElem? hki
   have ko:=do_.ks kd hmem
   have kat:=(da.ks kd hmem).same s7
   have k12:=ko.le
   have hi:i<d.ks.length:=(List.getElem?_eq_some_iff.mp hki).1
   have kl:=jg (ks:=d.ks.take i) λ y hy=>do_.ks y (List.mem_of_mem_take hy)
   rw [List.length_take] at kl
   have ll:ls.length<=52:=by have:=congrArg List.length m7;rw [List.length_map] at this;omega
   refine dg (SqT.of kat.1) rfl ?_
   refine ⟨_,_,rfl,_,_,rfl,_,_,rfl,rfl,?_⟩
   lia
   refine ⟨.inl ⟨rfl,_,SqL.of g7⟩,?_⟩
   lia
   refine ⟨by show 3<=sizeLine;decide,λ l8 h8=>?_⟩
   have s8:=ax.upd (o:=.lst ((["kind",kd.ti,kd.en]:List Str).map V.str)) h8
   have g8:(upd H7 l8 (.lst ((["kind",kd.ti,kd.en]:List Str).map V.str))) l8=some (.lst ((["kind",kd.ti,kd.en]:List Str).map V.str)):=ag
   show wW _ (upd H7 l8 (.lst ((["kind",kd.ti,kd.en]:List Str).map V.str))) _
   generalize upd H7 l8 _=H8 at s8 g8 ⊢
   lia
   have g78:=s8 _ _ g7
   refine ⟨rw',_,_,rfl,rfl,g78,by unfold bL;simp only [List.length_map,List.length_append];exact av (by omega),?_⟩
   have es:bL (L6++ls)++[V.ref l8]=bL (L6++(ls++[⟨["kind",kd.ti,kd.en],l8⟩])):=by rw [<- List.append_assoc,dz (L6++ls)];rfl
   rw [es]
   have s9:ax H (upd H8 rw' (.lst (bL (L6++(ls++[⟨["kind",kd.ti,kd.en],l8⟩]))))):=λ c o h=>by rw [aq (aj h hrw0)];exact s8 _ _ (s7 _ _ h)
   have g9:(upd H8 rw' (.lst (bL (L6++(ls++[⟨["kind",kd.ti,kd.en],l8⟩]))))) rw'=some (.lst (bL (L6++(ls++[⟨["kind",kd.ti,kd.en],l8⟩])))):=ag
   have a9:LAt (upd H8 rw' (.lst (bL (L6++(ls++[⟨["kind",kd.ti,kd.en],l8⟩]))))) (L6++(ls++[⟨["kind",kd.ti,kd.en],l8⟩])):=by
    rw [<- List.append_assoc]
    exact ((a7.same s8).app (.one g8 (by simp))).put g78
   show vC _ _ _ (upd H8 rw' (.lst (bL (L6++(ls++[⟨["kind",kd.ti,kd.en],l8⟩])))))
   generalize upd H8 rw' _=H9 at s9 g9 a9 ⊢
   have kat9:=(da.ks kd hmem).same s9
   have kn9:H9 kd.n=some (.lst ((kd.ps.map (·.t)).map .ref)):=kat9.2.1
   lia
   refine ⟨.inl ⟨rfl,_,SqL.of g9⟩,?_⟩
   lia
   refine ⟨kd.n,rfl,⟨_,SqL.of kn9⟩,lcH (λ D10 n zs H10=>∃ ls:List LR,zs=bL ls/\ls.map (·.row)=(kd.ps.take n).map kj/\LAt H10 ls) (dN (SqL.of kn9)) (by rw [List.length_map,List.length_map];exact av (by omega)) (λ D7 hD7=>⟨[],rfl,rfl,λ _ h=>(nomatch h)⟩) (λ D10 j zs H10 hj hD10 s10 e10 r10=>?_) (λ D10 H10 zs hD10 s10 e10 r10=>?_)⟩
   ·obtain ⟨ls',rfl,lr,la⟩:=r10
    rw [List.length_map,List.length_map] at hj
    have ej:((kd.ps.map (·.t)).map V.ref).getD j .non=V.ref kd.ps[j].t:=by simp [List.getD_eq_getElem?_getD,hj]
    have hm:=s10 _ _ (kat9.2.2 kd.ps[j] (List.getElem_mem hj))
    rw [ej]
    lia
    refine ⟨gY rfl,?_⟩
    lia
    refine ⟨by show 1<=sizeLine;decide,λ l11 h11=>?_⟩
    have s11:=ax.upd (o:=.lst [V.str "turn"]) h11
    have g11:(upd H10 l11 (.lst [V.str "turn"])) l11=some (.lst [V.str "turn"]):=ag
    generalize upd H10 l11 _=H11 at s11 g11 ⊢
    lia
    refine ⟨kd.ps[j].t,_,rfl,.inr (SqT.of (s11 _ _ hm)),λ l12 h12=>?_⟩
    have s12:=ax.upd (o:=.lst [V.str kd.ps[j].m.1,.str kd.ps[j].m.2]) h12
    have g12:(upd H11 l12 (.lst [V.str kd.ps[j].m.1,.str kd.ps[j].m.2])) l12=some (.lst [V.str kd.ps[j].m.1,.str kd.ps[j].m.2]):=ag
    show BW _ _ (upd H11 l12 (.lst [V.str kd.ps[j].m.1,.str kd.ps[j].m.2])) _
    generalize upd H11 l12 _=H12 at s12 g12 ⊢
    refine ⟨l11,l12,_,_,rfl,rfl,s12 _ _ g11,g12,by show 1+2<=sizeLine;decide,λ l13 h13=>?_⟩
    have s13:=ax.upd (o:=.lst ((kj kd.ps[j]).map V.str)) h13
    have g13:(upd H12 l13 (.lst ((kj kd.ps[j]).map V.str))) l13=some (.lst ((kj kd.ps[j]).map V.str)):=ag
    rw [show [V.str "turn"]++[V.str kd.ps[j].m.1,.str kd.ps[j].m.2]=(kj kd.ps[j]).map V.str from rfl]
    generalize upd H12 l13 _=H13 at s13 g13 ⊢
    have s1013:=s11.trans (s12.trans s13)
    have e13:=s1013 _ _ e10
    refine ⟨e13,λ c o h=>by rw [aq (aj h hD10)];exact s1013 _ _ (s10 _ _ h),ls'++[⟨kj kd.ps[j],l13⟩],by rw [dz];rfl,?_,?_⟩
    ·rw [List.map_append,lr,List.take_succ,List.getElem?_eq_getElem hj,List.map_append];rfl
    ·exact ((la.same s1013).app (.one g13 (by unfold kj;simp))).put e13
   obtain ⟨ls10,rfl,lr10,la10⟩:=r10
   rw [List.length_map,List.length_map,List.take_of_length_le (Nat.le_refl _)] at lr10
   have ll10:ls10.length<=12:=by have:=congrArg List.length lr10;rw [List.length_map,List.length_map] at this;omega
   have g10:=s10 _ _ g9
   lia
   refine ⟨rw',D10,_,_,rfl,rfl,g10,e10,by unfold bL;simp only [List.length_map,List.length_append,List.length_cons,List.length_nil];exact av (by omega),?_⟩
   rw [<- dz]
   refine ⟨_,_,_,ls++[⟨["kind",kd.ti,kd.en],l8⟩]++ls10,rfl,λ c o h=>by rw [aq (aj h hrw0)];exact s10 _ _ (s9 _ _ h),by rw [ag,List.append_assoc L6],?_,?_⟩
   ·refine Eq.mpr (congrArg (LAt _) (List.append_assoc L6 _ ls10).symm) ?_
    exact ((a9.same s10).app la10).put g10
   ·rw [List.map_append,List.map_append,m7,lr10,List.take_succ,hki,List.flatMap_append]
    show _=_++List.flatMap eJ [kd]
    rw [List.flatMap_singleton]
    unfold eJ
    rw [List.append_assoc];rfl
  ·rintro σ H7 ⟨v6,v7,v8,ls,rfl,s7,g7,a7,m7⟩
   rw [List.length_map,List.length_map,List.take_of_length_le (Nat.le_refl _)] at m7
   lia
   refine k H7 rw' (L6++ls) s7 g7 a7 ?_
   rw [List.map_append,m6,m7];rfl
abbrev qD (K:PySem.W.Frag) (mg:Str->Option Value):=Df K mg "_law_whole" "_law_whole" (top 66) ["_law_found"]
def mw:Sp:=λ vs H Q _=>∃ (i:Int),vs=[.int i]/\Q (.bl true) H
theorem zP:aS ["_law_found"] ["_law_found"] (aw (top 66)):=⟨rfl,rfl,rfl,by decide +kernel,rfl,by decide +kernel,by decide +kernel⟩
theorem yj (D:qD K mg) (T:Txt K mg a):F0 P w base 1 D mw:=by
 refine Df.ok (k:=0) D.ex zP (λ vs H Q E h=>?_) (λ A outer s H vs Q E hr h=>?_)
 ·obtain ⟨c,rfl,_⟩:=h;rfl
 ·obtain ⟨i,rfl,q⟩:=h
  refine ⟨_,(ar (aO (iF (aB dP (by rfl) T.bo boot_isinstance (ai (pv 0) (ai (je (v:=.ty "int") (by rfl) T.iG (by rfl) rfl) aa))) (iO (xx (aB dP (by rfl) T.bo boot_isinstance (ai (pv 0) (ai (je (v:=.ty "bool") (by rfl) T.lK (by rfl) rfl) aa)))))))),?_⟩
  lia
  refine ⟨_,_,_,_,_,rfl,.v (.int i),rfl,T.FN,?_⟩
  lia
  refine ⟨_,_,_,_,_,rfl,.v (.int i),rfl,T.Gm,?_⟩
  lia
  exact q
abbrev DIR (K:PySem.W.Frag) (mg:Str->Option Value):=Df K mg "_law_is_rule" "_law_is_rule" (top 67) ["_law_rule_here","_law_due"]
def CW (a:Ad):Sp:=λ vs H Q _=>∃ (o:Addr) (r:RD),vs=[.ref o,.ref r.t]/\sM a H o r/\r.at H/\Pure (.bl true) H Q
abbrev nIR:List Str:=["_law_rule_here","_law_due","_law_numbers"]
theorem Gy:aS nIR ["_law_rule_here","_law_due"] (aw (top 67)):=⟨rfl,rfl,rfl,by decide +kernel,rfl,by decide +kernel,by decide +kernel⟩
theorem FO (D:DIR K mg) (bP:qD K mg) (iD:F0 P w base 1 bP mw) (T:Txt K mg a):F0 P w base 2 D (CW a):=by
 refine Df.ok (k:=1) D.ex Gy (λ vs H Q E h=>?_) (λ A outer s H vs Q E hr h=>?_)
 ·obtain ⟨o,r,rfl,_⟩:=h;rfl
 ·obtain ⟨o,r,rfl,⟨n,R,hn⟩,ra,k⟩:=h
  obtain ⟨dx,fs,ho,N,hps⟩:=id R.ob
  have nd:=Gy.nd
  have hu:=Nat.lt_of_succ_lt (vK hr)
  refine ⟨_,(ae (aN (i:=2) nd rfl (Or.inl rfl) (a5 (ai (aF (pv 0) (by rfl)) (ai (aF (pv 0) (by rfl)) (ai (aF (pv 0) (by rfl)) (ai (aF (pv 0) (by rfl)) (ai (aF (pv 0) (by rfl)) aa)))))))
 (ae (a8 (pw_or (bu (bt (aB dP (by rfl) T.bo boot_isinstance (ai (pv 0) (ai (bY (v:=.ref a.dw) (by rfl) T.iy rfl) aa))))) (pw_or1 (bu (bt (aB (oQ rfl) (by rfl) T.gX boot_all (ai (hZ (N:=["_law_number"]) (fs:=[]) (⟨rfl,by rfl,by rfl,by rfl,trivial⟩) rfl (bF (pv 2)) (λ _ _ _ _ _=>(az (i:=0) (show List.Nodup (["_law_number"]:List Str) from by decide +kernel) rfl (Or.inl rfl))) (λ _ _ _ _ _=>by exact cg) (λ _ _ _ _ _=>by exact (ay iD (hr.mono (by decide)) (by rfl) bP.mg bP.kp bP.bd .nil aW (ai (pv 0) aa)))) aa)))))).pt
 (ar (aO cb))
 aH)
 (ar (aO (iF (bI (nj hu) (pv 2) (bf b8 (by rfl) T.cL boot_list (ai (bU yI (pv 1) cX (b7 af)) aa)) (aC _)) (iF (aB dP (by rfl) T.bo boot_isinstance (ai (aF (pv 0) (by rfl)) (ai (je (v:=.ty "list") (by rfl) T.cL (by rfl) rfl) aa))) (iO (bI (nj hu) (aF (pv 0) (by rfl)) (aY mD (pv 1) af (λ _ _=>rfl)) (aC _))))))))),?_⟩
  lia
  refine ⟨o,_,dx,fs,_,rfl,ho,T.clR,T.fU,N.low,?_⟩
  lia
  refine ⟨o,_,dx,fs,_,rfl,ho,T.clR,T.fm,N.high,?_⟩
  lia
  refine ⟨o,_,dx,fs,_,rfl,ho,T.clR,T.du,N.base,?_⟩
  lia
  refine ⟨o,_,dx,fs,_,rfl,ho,T.clR,T.dh,N.first,?_⟩
  lia
  refine ⟨o,_,dx,fs,_,rfl,ho,T.clR,T.fV,N.last,?_⟩
  lia
  refine ⟨by show 5<=sizeLine;decide,λ l1 h1=>?_⟩
  have s1:=ax.upd (o:=.lst ([r.l,r.h,r.b,r.f,r.e].map V.int)) h1
  have g1:(upd H l1 (.lst ([r.l,r.h,r.b,r.f,r.e].map V.int))) l1=some (.lst ([r.l,r.h,r.b,r.f,r.e].map V.int)):=ag
  rw [show [V.int r.l,V.int r.h,V.int r.b,V.int r.f,V.int r.e]=[r.l,r.h,r.b,r.f,r.e].map V.int from rfl]
  generalize upd H l1 _=H1 at s1 g1 ⊢
  lia
  refine ⟨_,_,_,_,_,rfl,.v (.ins (s1 _ _ ho) T.clR T.EZ T.bq.gs T.bq.tk T.FD),rfl,T.y9,?_⟩
  lia
  refine ⟨l1,rfl,⟨_,SqL.of g1⟩,lcG (λ n ws=>ws=(List.replicate n true).map V.bl) (dN (SqL.of g1)) (by rw [List.length_map];show 5<=sizeLine;decide) rfl (λ D2 j ws H2 hj hD2 s2 e2 r2=>?_) (λ D2 H2 ws hD2 s2 e2 r2=>?_)⟩
  ·rw [List.length_map] at hj
   have ej:(([r.l,r.h,r.b,r.f,r.e]).map V.int).getD j .non=V.int ([r.l,r.h,r.b,r.f,r.e])[j]:=by rw [List.getD_eq_getElem?_getD,List.getElem?_map,List.getElem?_eq_getElem hj];rfl
   rw [ej]
   lia
   refine ⟨gY rfl,?_⟩
   lia
   refine ⟨_,rfl,?_⟩
   exact jJ hD2 s2 e2 (ax.refl _) (by rw [r2,List.replicate_succ',List.map_append];rfl)
  subst r2
  lia
  refine ⟨D2,_,rfl,SqL.of e2,?_⟩
  rw [show (List.replicate ([r.l,r.h,r.b,r.f,r.e].map V.int).length true).all id=true from rfl]
  lia
  have s12:=s1.trans s2
  have ra2:=ra.same s12
  refine ⟨r.t,_,rfl,SqT.of ra2.1,(λ h=>absurd h.2 (by show ¬ HT.sIx 6 6 (some 5)=6;decide +kernel)),λ t4 h4=>?_⟩
  have c5:f9 [V.int r.l,.int r.h,.int r.b,.int r.f,.int r.e,.ref r.it] none (some 5)=[r.l,r.h,r.b,r.f,r.e].map V.int:=rfl
  rw [c5]
  have s4:=ax.upd (o:=.tup ([r.l,r.h,r.b,r.f,r.e].map V.int)) h4
  have g4:(upd H2 t4 (.tup ([r.l,r.h,r.b,r.f,r.e].map V.int))) t4=some (.tup ([r.l,r.h,r.b,r.f,r.e].map V.int)):=ag
  generalize upd H2 t4 _=H4 at s4 g4 ⊢
  lia
  refine ⟨t4,_,rfl,.inr (SqT.of g4),λ l5 h5=>?_⟩
  have s5:=ax.upd (o:=.lst ([r.l,r.h,r.b,r.f,r.e].map V.int)) h5
  have g5:(upd H4 l5 (.lst ([r.l,r.h,r.b,r.f,r.e].map V.int))) l5=some (.lst ([r.l,r.h,r.b,r.f,r.e].map V.int)):=ag
  generalize upd H4 l5 _=H5 at s5 g5 ⊢
  have s15:=s2.trans (s4.trans s5)
  have sA:=s1.trans s15
  refine ⟨l1,l5,_,_,rfl,rfl,.inl ⟨SqL.of (s15 _ _ g1),SqL.of g5⟩,rfl,rfl,?_⟩
  rw [if_neg Bool.false_ne_true,sy (show ([r.l,r.h,r.b,r.f,r.e].map V.int).all eC=true from rfl)]
  refine ⟨true,rfl,?_⟩
  rw [if_pos rfl]
  lia
  refine ⟨o,_,dx,fs,_,rfl,sA _ _ ho,T.clR,T.cz,hps,?_⟩
  lia
  refine ⟨_,_,_,_,_,rfl,.v (.lst (sA _ _ hn)),rfl,T.xh,?_⟩
  lia
  refine ⟨o,_,dx,fs,_,rfl,sA _ _ ho,T.clR,T.cz,hps,?_⟩
  lia
  have raA:=ra.same sA
  refine ⟨r.t,_,5,_,rfl,rfl,SqT.of raA.1,aX (j:=5) rfl,?_⟩
  refine ⟨n,r.it,_,_,rfl,rfl,.inl ⟨SqL.of (sA _ _ hn),SqL.of raA.2⟩,dE _,dE _,?_⟩
  rw [if_neg Bool.false_ne_true,sy (dE _)]
  exact k _ sA
theorem C3 {H:Hp} {QB:Bool->Hp->Prop} {te:TE} {τ:L2.St} {T:Addr} {x:Str} (q:Nat->Bool) (hP:H T=some (Tb T)) (hτ:τ[0]?=some none) (h:∀ c∈x.cps.toList,te (τ.set 0 (some (.str ⟨#[c]⟩))) H λ v H5=>H5=H/\v=.bl (q c)) (k:QB (x.cps.toList.all q) H):
  H T=some (Tb T)/\∃ n p G,G H/\fW (L2.Its x) (dF 0) te τ G n p/\∀ H2,G H2->∃ k,V.bl (ue n p)=.bl k/\QB k H2:=BK (Q:=λ v H2=>∃ k,v=.bl k/\QB k H2) q hP hτ h ⟨_,rfl,k⟩
def DU (c:Nat):Bool:=decide (48<=c)&&decide (c<=57)
abbrev yg (K:PySem.W.Frag) (mg:Str->Option Value):=Df K mg "is_figures" "is_figures" (top 40) ["text"]
def su (a:Ad):Sp:=λ vs H Q _=>∃ (x:Str),vs=[.str x]/\x.length<=sizeLine/\H a.tFI=some (Tb a.tFI)/\Q (.bl (so x)) H
theorem Gq:aS ["text"] ["text"] (aw (top 40)):=⟨rfl,rfl,rfl,by decide +kernel,rfl,by decide +kernel,by decide +kernel⟩
theorem Dg (x:Str):so x=(decide (1<=x.length)&&decide (x.length<=60)&&x.cps.toList.all DU&&(decide (x="0")||!decide (x.cps.toList.head?=some 48))):=rfl
theorem Cy (D:yg K mg) (cP:b5 K D.cdv a.tFI) (hB:iM base) (T:Txt K mg a):F0 P w base 2 D (su a):=by
 refine Df.ok (k:=1) D.ex Gq (λ vs H Q E h=>?_) (λ A outer s H vs Q E hr h=>?_)
 ·obtain ⟨x,rfl,_⟩:=h;rfl
 ·obtain ⟨x,rfl,hx,ht,k⟩:=h
  obtain ⟨tF,hF⟩:=T.Bw
  rw [Dg] at k
  refine ⟨_,(ae (a8 (pw_or (bu (jX o5 o5 af (aB cq (by rfl) T.br boot_len (ai (pv 0) aa)) (bY (v:=.int 60) (by rfl) hF ⟨_,rfl⟩))) (pw_or1 (bu (bt (i8 (N:=["sign"]) (fs:=[]) (⟨rfl,rfl,rfl,by rfl,by rfl,trivial⟩) hB cP (hr.mono (by decide):bX (0+1) _) (by rfl) T.gX (tS (pv 0)) (λ _ _ _ _ _ _ _=>by exact (az (i:=0) (show List.Nodup (["sign"]:List Str) from by decide +kernel) rfl (Or.inl rfl))) (λ _ _ _ _ _ _ _ hr=>by exact (qY ja ja aD (pv 0) aD))))))).pt
 (ar (aO cb))
 aH)
 (ar (aO (xl (bI cj (pv 0) aD (aC _)) (iO (bI dB (aY iW (pv 0) af (λ _ _=>rfl)) aD (aC _))))))),?_⟩
  lia
  refine ⟨_,rfl,hx,?_⟩
  lia
  refine w_ite (λ e1=>?_) (λ e1=>?_)
  ·have e1':1<=x.length:=by have:=of_decide_eq_true e1;omega
   lia
   rw [decide_eq_true e1',Bool.true_and] at k
   refine w_ite (λ e2=>?_) (λ e2=>?_)
   ·rw [Bool.not_eq_true'] at e2
    have e2':¬ x.length<=60:=by have:=of_decide_eq_false e2;omega
    rw [decide_eq_false e2',Bool.false_and] at k
    lia
    exact k
   ·have e2:decide ((x.length:Int)<=60)=true:=by simpa using e2
    have e2':x.length<=60:=by have:=of_decide_eq_true e2;omega
    rw [decide_eq_true e2',Bool.true_and] at k
    lia
    refine ⟨x,rfl,C3 DU ht rfl (λ c hc=>?_) ?_⟩
    ·lia
     refine ⟨_,_,rfl,rfl,?_⟩
     lia
     show if (!decide ([c]<[48]))=true then _ else _
     rw [le1]
     refine w_ite (λ e3=>?_) (λ e3=>?_)
     ·lia
      refine ⟨_,_,rfl,rfl,rfl,?_⟩
      show V.bl (!decide ([57]<[c]))=.bl (decide (48<=c)&&decide (c<=57))
      rw [le1,e3];rfl
     ·refine ⟨rfl,?_⟩
      show V.bl false=.bl (decide (48<=c)&&decide (c<=57))
      rw [e3];rfl
    ·cases e3:x.cps.toList.all DU with
     | false=>
      rw [e3,Bool.false_and] at k
      lia
      exact k
     | true=>
      rw [e3,Bool.true_and] at k
      lia
      refine w_ite (λ e4=>?_) (λ e4=>?_)
      ·rw [e4,Bool.true_or] at k
       exact k
      ·rw [e4,Bool.false_or] at k
       obtain ⟨⟨l⟩⟩:=x
       cases l with
       | nil=>exact absurd e1' (by decide)
       | cons c l=>
        lia
        refine ⟨_,0,c,rfl,rfl,hx,aX (j:=0) rfl,?_⟩
        lia
        have e5:decide ((⟨#[c]⟩:Str)="0")=decide ((⟨⟨c::l⟩⟩:Str).cps.toList.head?=some 48):=decide_eq_decide.mpr ⟨λ z=>by
         injection z with z
         injection z with z
         injection z with z
         show some c=some 48
         rw [z];rfl,λ z=>by
         have z:some c=some 48:=z
         rw [Option.some.inj z]
         rfl⟩
        rw [e5]
        exact k
  ·have e1':¬ 1<=x.length:=by have:=of_decide_eq_false e1;omega
   rw [decide_eq_false e1',Bool.false_and,Bool.false_and,Bool.false_and] at k
   lia
   exact k
abbrev DWd (K:PySem.W.Frag) (mg:Str->Option Value):=Df K mg "word_rule" "word_rule" (top 39) ["number","word"]
def BY (a:Ad):Sp:=λ vs H Q _=>∃ (l:Int) (y:Str),vs=[.int l,.str y]/\y.length<=1000/\ip l l 2 (l % 2) (l % 2) [y]=true/\sx a H /\
 ∀ H' x n,H x=none->H n=none->ax H H'->eN a H' x l l 2 (l % 2) (l % 2) n->H' n=some (.lst ([y].map .str))->Q (.ref x) H'
theorem G1:aS ["number","word"] ["number","word"] (aw (top 39)):=⟨rfl,rfl,rfl,by decide +kernel,rfl,by decide +kernel,by decide +kernel⟩
theorem EO (D:DWd K mg) (eB:sC K) (M_Rule:Mk K a.dw eB.f) (nr:cC P w K mg base (CXE P w) 8 eB.f eB.fd ["self","low","high","base","first","last","pieces"] (ni a)) (T:Txt K mg a):F0 P w base 10 D (BY a):=by
 refine Df.ok (k:=9) D.ex G1 (λ vs H Q E h=>?_) (λ A outer s H vs Q E hr h=>?_)
 ·obtain ⟨l,y,rfl,_⟩:=h;rfl
 ·obtain ⟨l,y,rfl,hy,ro,tb,k⟩:=h
  refine ⟨_,(ar (aO (gy M_Rule nr (hr.mono (by decide)) (by rfl) T.iy eB.bd .nil oX (ai (pv 0) (ai (pv 0) (ai af (ai (au aG (pv 0) af) (ai (au aG (pv 0) af) (ai (a5 (ai (pv 1) aa)) aa))))))))),?_⟩
  lia
  refine il ?_
  lia
  refine ⟨by show 1<=sizeLine;decide,λ l8 h8=>?_⟩
  have s8:ax H _:=ax.upd (o:=.lst ([y].map .str)) h8
  have g8:(upd H l8 (.lst ([y].map .str))) l8=some (.lst ([y].map .str)):=ag
  rw [show [V.str y]=[y].map .str from rfl]
  generalize upd H l8 _=H8 at s8 g8 ⊢
  lia
  intro x dx nx ndx nex
  have s0:ax H8 (upd (upd H8 dx (.own x)) x (.ins a.dw dx [])):=λ c' o hc'=>by rw [aq (aj hc' nx),aq (aj hc' ndx)];exact hc'
  have none_of:∀ {H1 H2:Hp} {c:Addr},ax H1 H2->H2 c=none->H1 c=none:=λ {H1 H2 c} s z=>by
   cases e:H1 c with
   | none=>rfl
   | some o=>rw [s _ _ e] at z;cases z
  refine ⟨x,dx,l,l,2,l % 2,l % 2,l8,[y],rfl,ag,s0 _ _ g8,λ z hz=>by rw [List.mem_singleton.mp hz];exact av (by omega),by decide,(tb.same s8).same s0,λ H9 n hn kp9 R hn9=>?_⟩
  rw [if_pos ro]
  exact ⟨rfl,k _ _ _ (none_of s8 nx) (none_of s8 (none_of s0 hn)) (λ c' o h=>kp9 c' o (s0 _ _ (s8 _ _ h)) (aj (s8 _ _ h) nx)) R hn9⟩
end
inductive Rw where
 | bound (i:Int) | rule (r:RD) | word (r:RD) | gk (m:Str×Str×Str) | kind (t e:Str) | turn (m:Str×Str)
def Rw.words:Rw->List Str
 | .bound i=>["bound",aK i]
 | .rule r=>"rule"::aK r.l::aK r.h::aK r.b::aK r.f::aK r.e::":"::r.ys
 | .word r=>"word"::aK r.l::r.ys
 | .gk m=>["melt",m.1,m.2.1,m.2.2]
 | .kind t e=>["kind",t,e]
 | .turn m=>["turn",m.1,m.2]
def Rw.ok:Rw->Prop
 | .bound i=>0<=i/\i<10 ^ 60
 | .rule r=>r.ok
 | .word r=>r.ok/\wr r=true
 | .gk m=>c8 m=true
 | .kind t e=>cn t e []=true
 | .turn m=>dn m=true
structure Dc where
 b:Option Int
 st:Int
 rs:List RD
 ms:List (Str×Str×Str)
 ks:List (Str×Str×List (Str×Str))
def qe (m:Str×Str):List (Str×Str×List (Str×Str))->List (Str×Str×List (Str×Str))
 | []=>[]
 | [k]=>[(k.1,k.2.1,k.2.2++[m])]
 | k::r=>k::qe m r
theorem kU (m:Str×Str) (k:Str×Str×List (Str×Str)):∀ ks,qe m (ks++[k])=ks++[(k.1,k.2.1,k.2.2++[m])]
 | []=>rfl
 | [x]=>rfl
 | x::y::r=>by
  show x::qe m ((y::r)++[k])=_
  rw [kU m k (y::r)];rfl
def Dc.after (d:Dc):Rw->Dc
 | .bound i=>{ d with b:=some i }
 | .rule r=>{ d with rs:=d.rs++[r] }
 | .word r=>{ d with rs:=d.rs++[r] }
 | .gk m=>{ d with ms:=d.ms++[m] }
 | .kind t e=>{ d with ks:=d.ks++[(t,e,[])] }
 | .turn m=>{ d with ks:=qe m d.ks }
def Rw.step:Rw->Int
 | .bound _=>0
 | .rule _=>1
 | .word _=>1
 | .gk _=>2
 | .kind _ _=>3
 | .turn _=>3
def Dc.pA (d:Dc):Rw->Prop
 | .bound _=>d.b=none
 | r=>d.b≠none/\d.st<=r.step
def Dc.fit (d:Dc):Rw->Prop
 | .kind t _=>∀ k∈d.ks,k.1≠t
 | .turn m=>∃ ks k,d.ks=ks++[k]/\cn k.1 k.2.1 (k.2.2++[m])=true
 | _=>True
structure L4 where
 D:Addr
 rl:Addr
 ml:Addr
 kl:Addr
structure L4.off (L:L4) (c:Addr):Prop where
 D:c≠L.D
 rl:c≠L.rl
 ml:c≠L.ml
 kl:c≠L.kl
structure L4.sep (L:L4):Prop where
 Dr:L.D≠L.rl
 Dm:L.D≠L.ml
 Dk:L.D≠L.kl
 rm:L.rl≠L.ml
 rk:L.rl≠L.kl
 mkl:L.ml≠L.kl
def KX (L:L4) (H H':Hp):Prop:=∀ c o,L.off c->H c=some o->H' c=some o
theorem KX.of {L:L4} {H H':Hp} (s:ax H H'):KX L H H':=λ c o _ h=>s c o h
theorem KX.trans {L:L4} {H H1 H2:Hp} (a:KX L H H1) (b:KX L H1 H2):KX L H H2:=λ c o n h=>b c o n (a c o n h)
structure Dd where
 b:Option Int
 st:Int
 os:List Addr
 rs:List RD
 ms:List MD
 zs:List Addr
 ks:List KDD
def KDD.c (k:KDD):Str×Str×List (Str×Str):=(k.ti,k.en,k.ps.map (·.m))
def Dd.c (d:Dd):Dc:=⟨d.b,d.st,d.rs,d.ms.map (·.m),d.ks.map KDD.c⟩
def bV:Option Int->V
 | none=>.non
 | some i=>.int i
def dfs (b:Option Int) (L:L4) (st:Int):List (Str×V):=[("bound",bV b),("rules",.ref L.rl),("melts",.ref L.ml),("kinds",.ref L.kl),("step",.int st)]
def tO (a:Ad) (H:Hp) (L:L4) (o:Addr) (r:RD):Prop:=L.off o/\∃ n,L.off n/\eN a H o r.l r.h r.b r.f r.e n/\H n=some (.lst (r.ys.map .str))
def qf (a:Ad) (H:Hp) (L:L4) (z:Addr) (k:KDD):Prop:=L.off z/\∃ n,L.off n/\ix a H z k.ti k.en n/\H n=some (.lst (gA k.ps))/\∀ p∈k.ps,L.off p.t/\H p.t=some (dA p.m)
theorem tO.kx {a:Ad} {H H':Hp} {L:L4} {o:Addr} {r:RD} (h:tO a H L o r) (k:KX L H H'):tO a H' L o r:=by
 obtain ⟨h1,n,h2,R,h3⟩:=h
 obtain ⟨dx,fs,r1,r2⟩:=R.ob
 exact ⟨h1,n,h2,⟨dx,fs,k _ _ h1 r1,r2⟩,k _ _ h2 h3⟩
theorem qf.kx {a:Ad} {H H':Hp} {L:L4} {z:Addr} {kd:KDD} (h:qf a H L z kd) (k:KX L H H'):qf a H' L z kd:=by
 obtain ⟨h1,n,h2,R,h3,h4⟩:=h
 obtain ⟨dx,fs,r1,r2⟩:=R.ob
 exact ⟨h1,n,h2,⟨dx,fs,k _ _ h1 r1,r2⟩,k _ _ h2 h3,λ p hp=>⟨(h4 p hp).1,k _ _ (h4 p hp).1 (h4 p hp).2⟩⟩
structure Dd.at (d:Dd) (a:Ad) (H:Hp) (L:L4):Prop where
 ob:∃ dx,H L.D=some (.ins a.bZ dx (dfs d.b L d.st))
 rl:H L.rl=some (.lst (d.os.map .ref))
 ml:H L.ml=some (.lst ((d.ms.map (·.t)).map .ref))
 kl:H L.kl=some (.lst (d.zs.map .ref))
 rn:d.os.length=d.rs.length
 rs:∀ (i:Nat) o r,d.os[i]?=some o->d.rs[i]?=some r->tO a H L o r
 ms:∀ m∈d.ms,L.off m.t/\H m.t=some (jA m.m)
 kn:d.zs.length=d.ks.length
 ks:∀ (i:Nat) z k,d.zs[i]?=some z->d.ks[i]?=some k->qf a H L z k
structure Dd.few (d:Dd):Prop where
 os:d.os.length<=900
 ms:d.ms.length<=900
 zs:d.zs.length<=900
 ps:∀ k∈d.ks,k.ps.length<=900
theorem Dd.at.same {d:Dd} {a:Ad} {H H':Hp} {L:L4} (h:d.at a H L) (s:ax H H'):d.at a H' L:=
 ⟨let ⟨dx,e⟩:=h.ob;⟨dx,s _ _ e⟩,s _ _ h.rl,s _ _ h.ml,s _ _ h.kl,h.rn,λ i o r x y=>(h.rs i o r x y).kx (.of s),λ m x=>⟨(h.ms m x).1,s _ _ (h.ms m x).2⟩,h.kn,λ i o r x y=>(h.ks i o r x y).kx (.of s)⟩
theorem fq {L:L4} {H:Hp} {c:Addr} {o:HO} (h:c=L.D∨c=L.rl∨c=L.ml∨c=L.kl):KX L H (upd H c o):=λ x u n e=>by
 rw [aq]
 ·exact e
 ·rcases h with rfl | rfl | rfl | rfl
  ·exact n.D
  ·exact n.rl
  ·exact n.ml
  ·exact n.kl
theorem Dd.at.fld {d:Dd} {a:Ad} {H:Hp} {L:L4} (h:d.at a H L) (sp:L.sep) (dx:Addr) (b:Option Int) (st:Int):({ d with b:=b,st:=st }:Dd).at a (upd H L.D (.ins a.bZ dx (dfs b L st))) L:=by
 have k:KX L H (upd H L.D (.ins a.bZ dx (dfs b L st))):=fq (.inl rfl)
 exact ⟨⟨dx,ag⟩,by rw [aq sp.Dr.symm];exact h.rl,by rw [aq sp.Dm.symm];exact h.ml,by rw [aq sp.Dk.symm];exact h.kl,h.rn,λ i o r x y=>(h.rs i o r x y).kx k,λ m x=>⟨(h.ms m x).1,k _ _ (h.ms m x).1 (h.ms m x).2⟩,h.kn,λ i o r x y=>(h.ks i o r x y).kx k⟩
theorem p9 {α β:Type} {l:List α} {r:List β} {x:α} {y:β} (h:l.length=r.length) {Q:α->β->Prop} (g:∀ (i:Nat) u v,l[i]?=some u->r[i]?=some v->Q u v) (q:Q x y):∀ (i:Nat) u v,(l++[x])[i]?=some u->(r++[y])[i]?=some v->Q u v:=λ i u v e1 e2=>by
 rcases Nat.lt_trichotomy i l.length with z | z | z
 ·rw [List.getElem?_append_left z] at e1
  rw [List.getElem?_append_left (by omega)] at e2
  exact g i u v e1 e2
 ·subst z
  rw [List.getElem?_append_right (Nat.le_refl _),Nat.sub_self] at e1
  rw [h,List.getElem?_append_right (Nat.le_refl _),Nat.sub_self] at e2
  cases e1
  cases e2
  exact q
 ·rw [List.getElem?_eq_none (by simp;omega)] at e1;cases e1
theorem Dd.at.rule {d:Dd} {a:Ad} {H:Hp} {L:L4} {x:Addr} {r:RD} (h:d.at a H L) (sp:L.sep) (f:tO a H L x r):({ d with os:=d.os++[x],rs:=d.rs++[r] }:Dd).at a (upd H L.rl (.lst ((d.os++[x]).map .ref))) L:=by
 have k:KX L H (upd H L.rl (.lst ((d.os++[x]).map .ref))):=fq (.inr (.inl rfl))
 obtain ⟨dx,e⟩:=h.ob
 exact ⟨⟨dx,by rw [aq sp.Dr];exact e⟩,ag,by rw [aq sp.rm.symm];exact h.ml,by rw [aq sp.rk.symm];exact h.kl,by simp [h.rn],p9 h.rn (λ i o r x y=>(h.rs i o r x y).kx k) (f.kx k),λ m x=>⟨(h.ms m x).1,k _ _ (h.ms m x).1 (h.ms m x).2⟩,h.kn,λ i o r x y=>(h.ks i o r x y).kx k⟩
theorem Dd.at.gk {d:Dd} {a:Ad} {H:Hp} {L:L4} {m:MD} (h:d.at a H L) (sp:L.sep) (f:L.off m.t/\H m.t=some (jA m.m)):({ d with ms:=d.ms++[m] }:Dd).at a (upd H L.ml (.lst (((d.ms++[m]).map (·.t)).map .ref))) L:=by
 have k:KX L H (upd H L.ml (.lst (((d.ms++[m]).map (·.t)).map .ref))):=fq (.inr (.inr (.inl rfl)))
 obtain ⟨dx,e⟩:=h.ob
 refine ⟨⟨dx,by rw [aq sp.Dm];exact e⟩,by rw [aq sp.rm];exact h.rl,ag,by rw [aq sp.mkl.symm];exact h.kl,h.rn,λ i o r x y=>(h.rs i o r x y).kx k,λ x hx=>?_,h.kn,λ i o r x y=>(h.ks i o r x y).kx k⟩
 rcases List.mem_append.mp hx with hx | hx
 ·exact ⟨(h.ms x hx).1,k _ _ (h.ms x hx).1 (h.ms x hx).2⟩
 ·rw [List.mem_singleton.mp hx]
  exact ⟨f.1,k _ _ f.1 f.2⟩
theorem Dd.at.kinds {d:Dd} {a:Ad} {H:Hp} {L:L4} {zs:List Addr} {ks:List KDD} (h:d.at a H L) (sp:L.sep) (hn:zs.length=ks.length) (f:∀ (i:Nat) z k,zs[i]?=some z->ks[i]?=some k->qf a H L z k):({ d with zs:=zs,ks:=ks }:Dd).at a (upd H L.kl (.lst (zs.map .ref))) L:=by
 have k:KX L H (upd H L.kl (.lst (zs.map .ref))):=fq (.inr (.inr (.inr rfl)))
 obtain ⟨dx,e⟩:=h.ob
 exact ⟨⟨dx,by rw [aq sp.Dk];exact e⟩,by rw [aq sp.rk];exact h.rl,by rw [aq sp.mkl];exact h.ml,ag,h.rn,λ i o r x y=>(h.rs i o r x y).kx k,λ m x=>⟨(h.ms m x).1,k _ _ (h.ms m x).1 (h.ms m x).2⟩,hn,λ i o r x y=>(f i o r x y).kx k⟩
theorem Dd.at.off {d:Dd} {a:Ad} {H:Hp} {L:L4} {c:Addr} (h:d.at a H L) (n:H c=none):L.off c:=by
 obtain ⟨dx,e⟩:=h.ob
 exact ⟨(aj e n).symm,(aj h.rl n).symm,(aj h.ml n).symm,(aj h.kl n).symm⟩
theorem none_of {H1 H2:Hp} {c:Addr} (s:ax H1 H2) (z:H2 c=none):H1 c=none:=by
 cases e:H1 c with
 | none=>rfl
 | some o=>rw [s _ _ e] at z;cases z
theorem Dd.at.Fg {d:Dd} {a:Ad} {H:Hp} {L:L4} {c:Addr} {ys:List Str} (h:d.at a H L) (e:H c=some (.lst (ys.map .str))) (y0:ys≠[]):L.off c:=by
 obtain ⟨dx,e'⟩:=h.ob
 exact ⟨dC e e' (by intro z;cases z),fP e y0 h.rl,fP e y0 h.ml,fP e y0 h.kl⟩
def fB (a:Ad) (H:Hp):Prop:=rB a H/\H a.tFI=some (Tb a.tFI)/\H a.tTR=some (Tb a.tTR)/\H a.tTK=some (Tb a.tTK)
theorem fB.same {a:Ad} {H H':Hp} (t:fB a H) (s:ax H H'):fB a H':=⟨t.1.same s,s _ _ t.2.1,s _ _ t.2.2.1,s _ _ t.2.2.2⟩
def fv (a:Ad) (p:Rw->Prop):Sp:=λ vs H Q _=>∃ (L:L4) (W:Addr) (d:Dd) (rw:Rw),vs=[.ref L.D,.ref W]/\p rw/\d.at a H L/\L.sep/\H W=some (.lst (rw.words.map .str))/\rw.ok/\d.few/\fB a H/\d.c.fit rw /\
 ∀ (H':Hp) (d':Dd),KX L H H'->d'.at a H' L->d'.c=d.c.after rw->Q (.bl true) H'
section
variable {P:Program} {w:World} {K:PySem.W.Frag} {mg:Str->Option Value} {base:Heap} {a:Ad}
abbrev sDI:Stmt:=inClass (top 41) 0
abbrev DDr (K:PySem.W.Frag):=DfM K "__init__" "Draft.__init__" sDI ["self"]
def BV (a:Ad):Sp:=λ vs H Q _=>∃ (p dx:Addr),vs=[.ref p]/\H p=some (.ins a.bZ dx []) /\
 ∀ H' L,L.D=p->L.sep->H L.rl=none->H L.ml=none->H L.kl=none->(∀ c o,H c=some o->c≠p->H' c=some o)->(⟨none,0,[],[],[],[],[]⟩:Dd).at a H' L->Q .non H'
theorem Hu:aS ["self"] ["self"] (aw sDI):=⟨rfl,rfl,rfl,by decide +kernel,rfl,by decide +kernel,by decide +kernel⟩
theorem Fn (D:DDr K) (T:Txt K mg a):cC P w K mg base CX0 1 D.f D.fd ["self"] (BV a):=by
 refine Df.ok (k:=0) D.ex Hu (λ vs H Q E h=>?_) (λ A outer s H vs Q E hr h=>?_)
 ·obtain ⟨p,dx,rfl,_⟩:=h;rfl
 ·obtain ⟨p,dx,rfl,hp,k⟩:=h
  refine ⟨_,(ae (cp (pv 0) mJ (by rfl))
 (ae (cp (pv 0) (a5 aa) (by rfl))
 (ae (cp (pv 0) (a5 aa) (by rfl))
 (ae (cp (pv 0) (a5 aa) (by rfl))
 (ar (cp (pv 0) af (by rfl))))))),?_⟩
  lia
  refine ⟨p,a.bZ,dx,_,rfl,hp,T.clD,T.cG,(by show 0<1000;decide),?_⟩
  generalize hH1:upd H p _=H1
  have k1:∀ c o,H c=some o->c≠p->H1 c=some o:=λ c o h n=>by rw [<- hH1,aq n];exact h
  have p1:H1 p=some (.ins a.bZ dx [("bound",.non)]):=by rw [<- hH1];exact ag
  clear hH1
  lia
  refine ⟨by show 0<=sizeLine;decide,λ rl h2=>?_⟩
  lia
  have n2:p≠rl:=aj p1 h2
  refine ⟨p,a.bZ,dx,_,rfl,(by rw [aq n2];exact p1),T.clD,T.eG,(by show 1<1000;decide),?_⟩
  generalize hH2:upd (upd H1 rl _) p _=H2
  have k2:∀ c o,H1 c=some o->c≠p->H2 c=some o:=λ c o h n=>by rw [<- hH2,aq n,aq (aj h h2)];exact h
  have p2:H2 p=some (.ins a.bZ dx [("bound",.non),("rules",.ref rl)]):=by rw [<- hH2];exact ag
  have g2:H2 rl=some (.lst []):=by rw [<- hH2,aq (Ne.symm n2)];exact ag
  clear hH2
  lia
  refine ⟨by show 0<=sizeLine;decide,λ ml h3=>?_⟩
  lia
  have n3:p≠ml:=aj p2 h3
  have n23:rl≠ml:=aj g2 h3
  refine ⟨p,a.bZ,dx,_,rfl,(by rw [aq n3];exact p2),T.clD,T.eZ,(by show 2<1000;decide),?_⟩
  generalize hH3:upd (upd H2 ml _) p _=H3
  have k3:∀ c o,H2 c=some o->c≠p->H3 c=some o:=λ c o h n=>by rw [<- hH3,aq n,aq (aj h h3)];exact h
  have p3:H3 p=some (.ins a.bZ dx [("bound",.non),("rules",.ref rl),("melts",.ref ml)]):=by rw [<- hH3];exact ag
  have g3:H3 ml=some (.lst []):=by rw [<- hH3,aq (Ne.symm n3)];exact ag
  have g2:=k3 _ _ g2 n2.symm
  clear hH3
  lia
  refine ⟨by show 0<=sizeLine;decide,λ kl h4=>?_⟩
  lia
  have n4:p≠kl:=aj p3 h4
  have n24:rl≠kl:=aj g2 h4
  have n34:ml≠kl:=aj g3 h4
  refine ⟨p,a.bZ,dx,_,rfl,(by rw [aq n4];exact p3),T.clD,T.cy,(by show 3<1000;decide),?_⟩
  generalize hH4:upd (upd H3 kl _) p _=H4
  have k4:∀ c o,H3 c=some o->c≠p->H4 c=some o:=λ c o h n=>by rw [<- hH4,aq n,aq (aj h h4)];exact h
  have p4:H4 p=some (.ins a.bZ dx [("bound",.non),("rules",.ref rl),("melts",.ref ml),("kinds",.ref kl)]):=by rw [<- hH4];exact ag
  have g4:H4 kl=some (.lst []):=by rw [<- hH4,aq (Ne.symm n4)];exact ag
  have g3:=k4 _ _ g3 n3.symm
  have g2:=k4 _ _ g2 n2.symm
  clear hH4
  lia
  refine ⟨p,a.bZ,dx,_,rfl,p4,T.clD,T.gu,(by show 4<1000;decide),?_⟩
  generalize hH5:upd H4 p _=H5
  have k5:∀ c o,H4 c=some o->c≠p->H5 c=some o:=λ c o h n=>by rw [<- hH5,aq n];exact h
  have p5:H5 p=some (.ins a.bZ dx [("bound",.non),("rules",.ref rl),("melts",.ref ml),("kinds",.ref kl),("step",.int 0)]):=by rw [<- hH5];exact ag
  have no:∀ {G:Hp} {c:Addr},(∀ b o,H b=some o->b≠p->G b=some o)->G c=none->c≠p->H c=none:=λ {G c} g z n=>by
   cases e:H c with
   | none=>rfl
   | some o=>rw [g c o e n] at z;cases z
  exact k H5 ⟨p,rl,ml,kl⟩ rfl ⟨n2,n3,n4,n23,n24,n34⟩ (no k1 h2 n2.symm) (no (λ c o h n=>k2 _ _ (k1 _ _ h n) n) h3 n3.symm) (no (λ c o h n=>k3 _ _ (k2 _ _ (k1 _ _ h n) n) n) h4 n4.symm) (λ c o h n=>k5 _ _ (k4 _ _ (k3 _ _ (k2 _ _ (k1 _ _ h n) n) n) n) n)
   ⟨⟨dx,p5⟩,k5 _ _ g2 n2.symm,k5 _ _ g3 n3.symm,k5 _ _ g4 n4.symm,rfl,λ i o r x=>(nomatch x),λ m hm=>(nomatch hm),rfl,λ i o r x=>(nomatch x)⟩
end
theorem pD (xs:List V) (k:Nat):f9 xs (some (k:Int)) none=xs.drop k:=by
 unfold f9
 rw [HT.jS,HT.jY]
 by_cases h:k<=xs.length
 ·rw [Nat.min_eq_left h,List.take_of_length_le (by simp)]
 ·rw [Nat.min_eq_right (by omega),List.drop_of_length_le (Nat.le_refl _),List.drop_of_length_le (by omega),List.take_nil]
theorem z9 (xs:List V) (j k:Nat) (h:k<=xs.length) (hj:j<=k):f9 xs (some (j:Int)) (some (k:Int))=(xs.drop j).take (k - j):=by
 unfold f9
 rw [HT.jS,HT.jS,Nat.min_eq_left h,Nat.min_eq_left (by omega)]
section
variable {P:Program} {w:World} {K:PySem.W.Frag} {mg:Str->Option Value} {base:Heap} {a:Ad}
theorem eF {n:Nat} (h:n<=900):n<sizeLine:=by rw [sizeLine_eq];omega
theorem nO {i:Int} (h:0<=i/\i<10 ^ 60):(aK i).length<=sizeLine:=av (by have:(aK i).length<=60:=jH h.1 h.2;omega)
theorem mr {i:Int} (h:0<=i/\i<10 ^ 60):(aK i).length<=640:=by have:(aK i).length<=60:=jH h.1 h.2;omega
theorem sN {i:Int} (h:0<=i/\i<10 ^ 60):so (aK i)=true:=Al h.1 h.2
theorem i9 {i:Int} (h:0<=i/\i<10 ^ 60):PySem.intText? (aK i)=some i:=tH h.1 h.2
abbrev DTB (K:PySem.W.Frag) (mg:Str->Option Value):=Df K mg "take_bound" "take_bound" (top 42) ["draft","words"]
theorem Hd:aS ["draft","words"] ["draft","words"] (aw (top 42)):=⟨rfl,rfl,rfl,by decide +kernel,rfl,by decide +kernel,by decide +kernel⟩
theorem Ff (D:DTB K mg) (bp:yg K mg) (dO:F0 P w base 2 bp (su a)) (T:Txt K mg a):F0 P w base 3 D (fv a λ rw=>∃ i,rw=.bound i):=by
 refine Df.ok (k:=2) D.ex Hd (λ vs H Q E h=>?_) (λ A outer s H vs Q E hr h=>?_)
 ·obtain ⟨L,W,d,rw,rfl,_⟩:=h;rfl
 ·obtain ⟨L,W,d,rw,rfl,⟨i,rfl⟩,da,sep,hW,ro,fw,tb,ft,k⟩:=h
  obtain ⟨dx,hD⟩:=da.ob
  have ro:0<=i/\i<10 ^ 60:=ro
  have hW:H W=some (.lst [.str "bound",.str (aK i)]):=hW
  refine ⟨_,(ae (a8 (pw_or (aL dB (aB aA (by rfl) T.br boot_len (ai (pv 1) aa)) af (aC _)) (pw_or1 (bu (bt (ay dO (hr.mono (by decide)) (by rfl) bp.mg bp.kp bp.bd .nil aW (ai (aY aQ (pv 1) af (λ _ _=>rfl)) aa)))))).pt
 (ar (aO cb))
 aH)
 (ae (cp (pv 0) (bf jj (by rfl) T.iG (by decide +kernel) (ai (aY aQ (pv 1) af (λ _ _=>rfl)) aa)) (by rfl))
 (ar (aO cb)))),?_⟩
  lia
  refine ⟨W,_,rfl,.inl (SqL.of hW),?_⟩
  lia
  refine pP ?_
  lia
  refine ⟨W,_,1,_,rfl,rfl,SqL.of hW,aX (j:=1) rfl,?_⟩
  refine ⟨aK i,rfl,nO ro,tb.2.1,?_⟩
  rw [sN ro]
  lia
  refine ⟨W,_,1,_,rfl,rfl,SqL.of hW,aX (j:=1) rfl,?_⟩
  refine ⟨aK i,i,rfl,i9 ro,mr ro,?_⟩
  lia
  refine ⟨L.D,_,dx,_,rfl,hD,T.clD,T.cG,(by show 5<1000;decide),?_⟩
  lia
  exact k _ { d with b:=some i } (fq (.inl rfl)) (da.fld sep dx (some i) d.st) rfl
abbrev DTW (K:PySem.W.Frag) (mg:Str->Option Value):=Df K mg "take_word" "take_word" (top 44) ["draft","words"]
theorem G3:aS ["draft","words"] ["draft","words"] (aw (top 44)):=⟨rfl,rfl,rfl,by decide +kernel,rfl,by decide +kernel,by decide +kernel⟩
theorem xD {r:RD} (h:wr r=true):∃ y,r.ys=[y]/\r.h=r.l/\r.b=2/\r.f=r.l % 2:=by
 unfold wr at h
 simp only [Bool.and_eq_true,decide_eq_true_eq] at h
 obtain ⟨⟨⟨h1,h2⟩,h3⟩,h4⟩:=h
 match hy:r.ys,h1 with
 | [y],_=>exact ⟨y,rfl,h2.symm,h3,h4⟩
theorem AH {y:Str} (h:bD y=true):kX ["R","K"] [y]=false:=by
 unfold kX
 rw [Bool.eq_false_iff]
 intro z
 obtain ⟨s,hs,e⟩:=List.any_eq_true.mp z
 have e2:=jO.mp e
 have e3:=List.mem_singleton.mp e2
 subst e3
 simp only [List.mem_cons,List.not_mem_nil,or_false] at hs
 rcases hs with rfl | rfl <;> exact absurd h (by decide +kernel)
theorem yS {r:RD} (ro:r.ok) (h:wr r=true):r.e=r.l % 2:=by
 obtain ⟨y,e1,e2,e3,e4⟩:=xD h
 have h1:=ro.ro
 obtain ⟨y',hy',hw⟩:=ro.it.wd
 rw [e1] at hy' h1
 rw [List.mem_singleton.mp hy'] at hw
 unfold ip kH at h1
 rw [AH hw] at h1
 simp only [Bool.and_eq_true,Bool.not_false,Bool.and_true,Bool.not_not,decide_eq_true_eq] at h1
 rw [<- e4]
 exact h1.2.1.symm
theorem GA (D:DTW K mg) (bp:yg K mg) (dO:F0 P w base 2 bp (su a)) (gE:DWd K mg) (qQ:F0 P w base 10 gE (BY a)) (T:Txt K mg a):F0 P w base 11 D (fv a λ rw=>∃ r,rw=.word r):=by
 refine Df.ok (k:=10) D.ex G3 (λ vs H Q E h=>?_) (λ A outer s H vs Q E hr h=>?_)
 ·obtain ⟨L,W,d,rw,rfl,_⟩:=h;rfl
 ·obtain ⟨L,W,d,rw,rfl,⟨r,rfl⟩,da,sep,hW,ro,fw,tb,ft,k⟩:=h
  obtain ⟨ro,hw⟩:=(show r.ok/\wr r=true from ro)
  obtain ⟨y,e1,e2,e3,e4⟩:=xD hw
  have e5:=yS ro hw
  have hW:H W=some (.lst [.str "word",.str (aK r.l),.str y]):=by rw [hW];show some (HO.lst (V.str "word"::V.str (aK r.l)::r.ys.map V.str))=_;rw [e1];rfl
  have rr:ip r.l r.l 2 (r.l % 2) (r.l % 2) [y]=true:=by have:=ro.ro;rw [e1,e2,e3,e4,e5] at this;exact this
  have yl:y.length<=1000:=by have:=(ro.it.ok.pc y (by rw [e1];simp)).len;omega
  refine ⟨_,(ae (a8 (pw_or (aL dB (aB aA (by rfl) T.br boot_len (ai (pv 1) aa)) af (aC _)) (pw_or1 (bu (bt (ay dO (hr.mono (by decide)) (by rfl) bp.mg bp.kp bp.bd .nil aW (ai (aY aQ (pv 1) af (λ _ _=>rfl)) aa)))))).pt
 (ar (aO cb))
 aH)
 (ae (bx (b6 PySem.F.plainAttrs_list PySem.F.slot_list_append PySem.F.type_list_append bE (aF (pv 0) (by rfl)) (ai (ay qQ (hr.mono (by decide)) (by rfl) gE.mg gE.kp gE.bd .nil aW (ai (bf jj (by rfl) T.iG (by decide +kernel) (ai (aY aQ (pv 1) af (λ _ _=>rfl)) aa)) (ai (aY aQ (pv 1) af (λ _ _=>rfl)) aa))) aa)))
 (ar (aO cb)))),?_⟩
  lia
  refine ⟨W,_,rfl,.inl (SqL.of hW),?_⟩
  lia
  refine pP ?_
  lia
  refine ⟨W,_,1,_,rfl,rfl,SqL.of hW,aX (j:=1) rfl,?_⟩
  refine ⟨aK r.l,rfl,nO ro.l,tb.2.1,?_⟩
  rw [sN ro.l]
  lia
  obtain ⟨dx,hD⟩:=da.ob
  refine ⟨L.D,_,dx,_,_,rfl,hD,T.clD,T.eG,rfl,?_⟩
  refine ⟨.inl ⟨rfl,_,SqL.of da.rl⟩,?_⟩
  lia
  refine ⟨W,_,1,_,rfl,rfl,SqL.of hW,aX (j:=1) rfl,?_⟩
  refine ⟨aK r.l,r.l,rfl,i9 ro.l,mr ro.l,?_⟩
  lia
  refine ⟨W,_,2,_,rfl,rfl,SqL.of hW,aX (j:=2) rfl,?_⟩
  lia
  refine ⟨r.l,y,rfl,yl,rr,tb.1.1,λ H' x n nx nn s1 R hn=>?_⟩
  have da':=da.same s1
  have f:tO a H' L x r:=⟨da.off nx,n,da.off nn,by rw [e2,e3,e4,e5];exact R,by rw [e1];exact hn⟩
  refine ⟨L.rl,_,_,rfl,rfl,da'.rl,(eF (by have:=fw.os;rw [List.length_map];omega)),?_⟩
  lia
  rw [show d.os.map V.ref++[V.ref x]=(d.os++[x]).map V.ref by simp]
  exact k _ _ ((KX.of s1).trans (fq (.inr (.inl rfl)))) (da'.rule sep f) rfl
abbrev DTR (K:PySem.W.Frag) (mg:Str->Option Value):=Df K mg "take_rule" "take_rule" (top 43) ["draft","words"]
abbrev nTR:List Str:=["draft","words","figures","low","high","base","first","last"]
theorem Ei:aS nTR ["draft","words"] (aw (top 43)):=⟨rfl,rfl,rfl,by decide +kernel,rfl,by decide +kernel,by decide +kernel⟩
theorem F5 (D:DTR K mg) (cP:b5 K D.cdv a.tTR) (hB:iM base) (bp:yg K mg) (dO:F0 P w base 2 bp (su a)) (eB:sC K) (M_Rule:Mk K a.dw eB.f) (nr:cC P w K mg base (CXE P w) 8 eB.f eB.fd ["self","low","high","base","first","last","pieces"] (ni a)) (T:Txt K mg a):F0 P w base 11 D (fv a λ rw=>∃ r,rw=.rule r):=by
 refine Df.ok (k:=10) D.ex Ei (λ vs H Q E h=>?_) (λ A outer s H vs Q E hr h=>?_)
 ·obtain ⟨L,W,d,rw,rfl,_⟩:=h;rfl
 ·obtain ⟨L,W,d,rw,rfl,⟨r,rfl⟩,da,sep,hW,ro,fw,tb,ft,k⟩:=h
  have ro:r.ok:=ro
  have nd:=Ei.nd
  have rb:0<=r.b/\r.b<10 ^ 60:=⟨by have:=ro.b.1;omega,ro.b.2⟩
  have hW:H W=some (.lst (.str "rule"::.str (aK r.l)::.str (aK r.h)::.str (aK r.b)::.str (aK r.f)::.str (aK r.e)::.str ":"::r.ys.map .str)):=hW
  refine ⟨_,(ae (aN (i:=2) nd rfl (Or.inl rfl) (bU iq (pv 1) (b7 af) (b7 af)))
 (ae (a8 (pw_or (aL iU (aB aA (by rfl) T.br boot_len (ai (pv 1) aa)) af (aC _)) (pw_or (aL dB (aY aQ (pv 1) af (λ _ _=>rfl)) aD (aC _)) (pw_or1 (bu (bt (i8 (N:=["text"]) (fs:=[]) (⟨rfl,rfl,rfl,by rfl,by rfl,trivial⟩) hB cP (hr.mono (by decide):bX (2+1) _) (by rfl) T.gX (bF (pv 2)) (λ _ _ _ _ _ _ _=>by exact (az (i:=0) (show List.Nodup (["text"]:List Str) from by decide +kernel) rfl (Or.inl rfl))) (λ _ _ _ _ _ _ _ hr=>by exact (ay dO (hr.mono (by decide)) (by rfl) bp.mg bp.kp bp.bd .nil aW (ai (pv 0) aa))))))))).pt
 (ar (aO cb))
 aH)
 (ae (ir (hZ (N:=["text"]) (fs:=[]) (⟨rfl,by rfl,by rfl,by rfl,trivial⟩) rfl (bF (pv 2)) (λ _ _ _ _ _=>(az (i:=0) (show List.Nodup (["text"]:List Str) from by decide +kernel) rfl (Or.inl rfl))) (λ _ _ _ _ _=>by exact cg) (λ _ _ _ _ _=>by exact (bf jj (by rfl) T.iG (by decide +kernel) (ai (pv 0) aa)))) (AO K (n:=5) rfl (aM (az (i:=3) nd rfl (Or.inl rfl)) (aM (az (i:=4) nd rfl (Or.inl rfl)) (aM (az (i:=5) nd rfl (Or.inl rfl)) (aM (az (i:=6) nd rfl (Or.inl rfl)) (aM (az (i:=7) nd rfl (Or.inl rfl)) cF)))))))
 (ae (bx (b6 PySem.F.plainAttrs_list PySem.F.slot_list_append PySem.F.type_list_append bE (aF (pv 0) (by rfl)) (ai (gy M_Rule nr (hr.mono (by decide)) (by rfl) T.iy eB.bd .nil oX (ai (pv 3) (ai (pv 4) (ai (pv 5) (ai (pv 6) (ai (pv 7) (ai (bU iq (pv 1) (b7 af) cX) aa))))))) aa)))
 (ar (aO cb)))))),?_⟩
  lia
  refine ⟨W,_,rfl,SqL.of hW,λ F hF=>?_⟩
  rw [show (some (1:Int))=some ((1:Nat):Int) from rfl,show (some (6:Int))=some ((6:Nat):Int) from rfl,z9 _ 1 6 (by simp) (by decide)]
  have sF:ax H _:=ax.upd (o:=.lst (([r.l,r.h,r.b,r.f,r.e].map aK).map .str)) hF
  have gF:(upd H F (.lst (([r.l,r.h,r.b,r.f,r.e].map aK).map .str))) F=some (.lst (([r.l,r.h,r.b,r.f,r.e].map aK).map .str)):=ag
  have oF:L.off F:=da.off hF
  rw [show List.take (6 - 1) (List.drop 1 (V.str "rule"::.str (aK r.l)::.str (aK r.h)::.str (aK r.b)::.str (aK r.f)::.str (aK r.e)::.str ":"::r.ys.map V.str))=([r.l,r.h,r.b,r.f,r.e].map aK).map V.str from rfl]
  generalize upd H F _=H1 at sF gF ⊢
  have hW1:=sF _ _ hW
  have bd:∀ i∈[r.l,r.h,r.b,r.f,r.e],0<=i/\i<10 ^ 60:=λ i hi=>by
   simp only [List.mem_cons,List.not_mem_nil,or_false] at hi
   rcases hi with rfl | rfl | rfl | rfl | rfl
   ·exact ro.l
   ·exact ro.h
   ·exact rb
   ·exact ro.f
   ·exact ro.e
  lia
  refine ⟨W,_,rfl,.inl (SqL.of hW1),?_⟩
  lia
  rw [decide_eq_false (show ¬ (((V.str "rule"::V.str (aK r.l)::V.str (aK r.h)::V.str (aK r.b)::V.str (aK r.f)::V.str (aK r.e)::V.str ":"::r.ys.map V.str).length:Int)<7) by simp only [List.length_cons];omega)]
  lia
  refine ⟨W,_,6,_,rfl,rfl,SqL.of hW1,aX (j:=6) rfl,?_⟩
  lia
  refine pP ?_
  lia
  refine ⟨F,rfl,⟨_,SqL.of gF⟩,qd (λ _=>true) (SqL.of gF) (sF _ _ tb.2.2.1) rfl (λ v hv=>?_) ?_⟩
  ·obtain ⟨y,hy,rfl⟩:=List.mem_map.mp hv
   obtain ⟨i,hi,rfl⟩:=List.mem_map.mp hy
   have b:=bd i hi
   lia
   refine ⟨aK i,rfl,nO b,sF _ _ tb.2.1,rfl,?_⟩
   rw [sN b]
  rw [show ((([r.l,r.h,r.b,r.f,r.e].map aK).map V.str).all λ _=>true)=true from rfl]
  lia
  refine ⟨F,rfl,⟨_,SqL.of gF⟩,lcG (λ n vs=>vs=([r.l,r.h,r.b,r.f,r.e].take n).map V.int) (dN (SqL.of gF)) (by rw [List.length_map,List.length_map];show 5<=sizeLine;decide) rfl (λ D2 j vs H2 hj hD2 s2 e2 r2=>?_) (λ D2 H2 vs hD2 s2 e2 r2=>?_)⟩
  ·rw [List.length_map,List.length_map] at hj
   have ej:(([r.l,r.h,r.b,r.f,r.e].map aK).map V.str).getD j .non=V.str (aK ([r.l,r.h,r.b,r.f,r.e])[j]):=by rw [List.getD_eq_getElem?_getD,List.getElem?_map,List.getElem?_map,List.getElem?_eq_getElem hj];rfl
   have b:=bd _ (List.getElem_mem hj)
   rw [ej]
   lia
   refine ⟨gY rfl,?_⟩
   lia
   refine ⟨_,_,rfl,i9 b,mr b,?_⟩
   exact jJ hD2 s2 e2 (ax.refl _) (by rw [r2,List.take_succ_eq_append_getElem hj,List.map_append];rfl)
  subst r2
  rw [List.length_map,List.length_map] at e2
  refine ⟨D2,_,rfl,SqL.of e2,rfl,?_⟩
  refine ⟨_,_,rfl,_,_,rfl,_,_,rfl,_,_,rfl,_,_,rfl,rfl,?_⟩
  lia
  have s02:=sF.trans s2
  have da2:=da.same s02
  have hW2:=s02 _ _ hW
  obtain ⟨dx,hD⟩:=da2.ob
  refine ⟨L.D,_,dx,_,_,rfl,hD,T.clD,T.eG,rfl,?_⟩
  refine ⟨.inl ⟨rfl,_,SqL.of da2.rl⟩,?_⟩
  lia
  refine il ?_
  lia
  refine ⟨W,_,rfl,SqL.of hW2,λ q hq=>?_⟩
  rw [show (some (7:Int))=some ((7:Nat):Int) from rfl,pD]
  have s3:ax H2 _:=ax.upd (o:=.lst (r.ys.map .str)) hq
  have g3:(upd H2 q (.lst (r.ys.map .str))) q=some (.lst (r.ys.map .str)):=ag
  rw [show List.drop 7 (V.str "rule"::.str (aK r.l)::.str (aK r.h)::.str (aK r.b)::.str (aK r.f)::.str (aK r.e)::.str ":"::r.ys.map V.str)=r.ys.map V.str from rfl]
  generalize upd H2 q _=H3 at s3 g3 ⊢
  lia
  intro x dx2 nx ndx nex
  have s0:ax H3 (upd (upd H3 dx2 (.own x)) x (.ins a.dw dx2 [])):=λ c' o hc'=>by rw [aq (aj hc' nx),aq (aj hc' ndx)];exact hc'
  refine ⟨x,dx2,r.l,r.h,r.b,r.f,r.e,q,r.ys,rfl,ag,s0 _ _ g3,sf ro.it,Nat.lt_trans (c6 (by have:=ro.b.1;omega) (by have:=ro.b.2;omega)) (by decide),((tb.1.1.same s02).same s3).same s0,λ H9 n hn kp9 R hn9=>?_⟩
  rw [if_pos ro.ro]
  have s9:ax H3 H9:=λ c' o h=>kp9 c' o (s0 _ _ h) (aj h nx)
  have s09:=s02.trans (s3.trans s9)
  have da9:=da.same s09
  have f:tO a H9 L x r:=⟨(da2.same s3).off nx,n,(da2.same s3).off (none_of s0 hn),R,hn9⟩
  refine ⟨rfl,?_⟩
  refine ⟨L.rl,_,_,rfl,rfl,da9.rl,(eF (by have:=fw.os;rw [List.length_map];omega)),?_⟩
  lia
  rw [show d.os.map V.ref++[V.ref x]=(d.os++[x]).map V.ref by simp]
  exact k _ _ ((KX.of s09).trans (fq (.inr (.inl rfl)))) (da9.rule sep f) rfl
end
theorem Cw (d:Dd) (m:MD):({ d with ms:=d.ms++[m] }:Dd).c=d.c.after (.gk m.m):=by
 unfold Dd.c Dc.after
 simp
theorem Cf (d:Dd) (zs:List Addr) (k:KDD) (h:k.ps=[]):({ d with zs:=zs,ks:=d.ks++[k] }:Dd).c=d.c.after (.kind k.ti k.en):=by
 unfold Dd.c Dc.after KDD.c
 simp [h]
theorem Du (d:Dd) (zs:List Addr) (ka:List KDD) (k k':KDD) (m:Str×Str) (h:d.ks=ka++[k]) (h1:k'.ti=k.ti) (h2:k'.en=k.en) (h3:k'.ps.map (·.m)=k.ps.map (·.m)++[m]):({ d with zs:=zs,ks:=ka++[k'] }:Dd).c=d.c.after (.turn m):=by
 unfold Dd.c Dc.after
 dsimp only
 rw [h,List.map_append,List.map_append,List.map_singleton,List.map_singleton,kU]
 unfold KDD.c
 rw [h1,h2,h3]
section
variable {P:Program} {w:World} {K:PySem.W.Frag} {mg:Str->Option Value} {base:Heap} {a:Ad}
abbrev DTM (K:PySem.W.Frag) (mg:Str->Option Value):=Df K mg "take_melt" "take_melt" (top 45) ["draft","words"]
theorem FL:aS ["draft","words","melt"] ["draft","words"] (aw (top 45)):=⟨rfl,rfl,rfl,by decide +kernel,rfl,by decide +kernel,by decide +kernel⟩
theorem EN (D:DTM K mg) (cU:vq K mg) (lA:F0 P w base 3 cU (qB a)) (T:Txt K mg a):F0 P w base 4 D (fv a λ rw=>∃ m,rw=.gk m):=by
 refine Df.ok (k:=3) D.ex FL (λ vs H Q E h=>?_) (λ A outer s H vs Q E hr h=>?_)
 ·obtain ⟨L,W,d,rw,rfl,_⟩:=h;rfl
 ·obtain ⟨L,W,d,rw,rfl,⟨m,rfl⟩,da,sep,hW,ro,fw,tb,ft,k⟩:=h
  have ro:c8 m=true:=ro
  have nd:=FL.nd
  have hW:H W=some (.lst [.str "melt",.str m.1,.str m.2.1,.str m.2.2]):=hW
  refine ⟨_,(ae (aN (i:=2) nd rfl (Or.inl rfl) (bf oB (by rfl) T.gn boot_tuple (ai (bU iq (pv 1) (b7 af) cX) aa)))
 (ae (a8 (bu (bt (ay lA (hr.mono (by decide)) (by rfl) cU.mg cU.kp cU.bd .nil aW (ai (pv 2) aa))))
 (ar (aO cb))
 aH)
 (ae (bx (b6 PySem.F.plainAttrs_list PySem.F.slot_list_append PySem.F.type_list_append bE (aF (pv 0) (by rfl)) (ai (pv 2) aa)))
 (ar (aO cb))))),?_⟩
  lia
  refine ⟨W,_,rfl,SqL.of hW,λ F hF=>?_⟩
  rw [show (some (1:Int))=some ((1:Nat):Int) from rfl,pD]
  have sF:ax H _:=ax.upd (o:=.lst [.str m.1,.str m.2.1,.str m.2.2]) hF
  have gF:(upd H F (.lst [.str m.1,.str m.2.1,.str m.2.2])) F=some (.lst [.str m.1,.str m.2.1,.str m.2.2]):=ag
  rw [show List.drop 1 [V.str "melt",.str m.1,.str m.2.1,.str m.2.2]=[.str m.1,.str m.2.1,.str m.2.2] from rfl]
  generalize upd H F _=H1 at sF gF ⊢
  lia
  refine ⟨F,_,rfl,.inl ⟨SqL.of gF,λ t ht=>?_⟩⟩
  have s2:ax H1 _:=ax.upd (o:=jA m) ht
  have g2:(upd H1 t (jA m)) t=some (jA m):=ag
  rw [show HO.tup [V.str m.1,.str m.2.1,.str m.2.2]=jA m from rfl]
  have da1:=da.same sF
  have ot:L.off t:=da1.off ht
  generalize upd H1 t _=H2 at s2 g2 ⊢
  have s02:=sF.trans s2
  lia
  refine ⟨t,m,rfl,g2,ro,s02 _ _ tb.1.1.1,?_⟩
  lia
  have da2:=da.same s02
  obtain ⟨dx,hD⟩:=da2.ob
  refine ⟨L.D,_,dx,_,_,rfl,hD,T.clD,T.eZ,rfl,?_⟩
  refine ⟨.inl ⟨rfl,_,SqL.of da2.ml⟩,?_⟩
  lia
  refine ⟨L.ml,_,_,rfl,rfl,da2.ml,(eF (by have:=fw.ms;rw [List.length_map,List.length_map];omega)),?_⟩
  lia
  rw [show (d.ms.map (·.t)).map V.ref++[V.ref t]=((d.ms++[(⟨m,t⟩:MD)]).map (·.t)).map V.ref by simp]
  exact k _ _ ((KX.of s02).trans (fq (.inr (.inr (.inl rfl))))) (da2.gk sep (m:=⟨m,t⟩) ⟨ot,g2⟩) (Cw d ⟨m,t⟩)
abbrev DTK (K:PySem.W.Frag) (mg:Str->Option Value):=Df K mg "take_kind" "take_kind" (top 46) ["draft","words"]
theorem Hs:aS ["draft","words"] ["draft","words"] (aw (top 46)):=⟨rfl,rfl,rfl,by decide +kernel,rfl,by decide +kernel,by decide +kernel⟩
theorem ph {t e:Str} {ms:List (Str×Str)} (h:cn t e ms=true):t.length<=8/\e.length<=10/\∀ m∈ms,m.1.length<=10/\m.2.length<=10:=by
 unfold cn pairsOk gv at h
 simp only [Bool.and_eq_true,decide_eq_true_eq] at h
 refine ⟨by have:=h.1.1.2;omega,(cx h.2.1).2,λ m hm=>?_⟩
 have:=List.all_eq_true.mp h.2.2.1 m hm
 unfold dn at this
 rw [Bool.and_eq_true] at this
 exact ⟨(cx this.1).2,(cx this.2).2⟩
theorem GG (D:DTK K mg) (cP:b5 K D.cdv a.tTK) (hB:iM base) (ef:DKI K) (M_Kind:Mk K a.Kind ef.f) (mW:cC P w K mg base (CXE P w) 7 ef.f ef.fd pKI (zm a)) (T:Txt K mg a):F0 P w base 10 D (fv a λ rw=>∃ t e,rw=.kind t e):=by
 refine Df.ok (k:=9) D.ex Hs (λ vs H Q E h=>?_) (λ A outer s H vs Q E hr h=>?_)
 ·obtain ⟨L,W,d,rw,rfl,_⟩:=h;rfl
 ·obtain ⟨L,W,d,rw,rfl,⟨ti,en,rfl⟩,da,sep,hW,ro,fw,tb,ft,k⟩:=h
  have ro:cn ti en []=true:=ro
  have ft:∀ k∈d.ks.map KDD.c,k.1≠ti:=ft
  have hW:H W=some (.lst [.str "kind",.str ti,.str en]):=hW
  obtain ⟨dx,hD⟩:=da.ob
  obtain ⟨l1,l2,_⟩:=ph ro
  refine ⟨_,(ae (a8 (pw_or (aL dB (aB aA (by rfl) T.br boot_len (ai (pv 1) aa)) af (aC _)) (pw_or1 (bt (j0 (N:=["kind","words"]) (fs:=[(1,1)]) (⟨rfl,rfl,rfl,by rfl,by rfl,⟨⟨_,rfl,rfl,rfl,Or.inl rfl⟩,trivial⟩⟩) hB cP (hr.mono (by decide):bX (0+1) _) (by rfl) T.js (bF (aF (pv 0) (by rfl))) (λ _ _ _ _ _ _ _=>by exact (az (i:=0) (show List.Nodup (["kind","words"]:List Str) from by decide +kernel) rfl (Or.inl rfl))) (λ _ _ _ _ _ _ _ hr=>by exact (bI cj (pU K (pv 0)) (aY (nR K) (pv 1) af (λ _ _=>rfl)) (aC _))))))).pt
 (ar (aO cb))
 aH)
 (ae (bx (b6 PySem.F.plainAttrs_list PySem.F.slot_list_append PySem.F.type_list_append bE (aF (pv 0) (by rfl)) (ai (gy M_Kind mW (hr.mono (by decide)) (by rfl) T.iA ef.bd .nil oX (ai (aY aQ (pv 1) af (λ _ _=>rfl)) (ai (aY aQ (pv 1) af (λ _ _=>rfl)) (ai (a5 aa) aa)))) aa)))
 (ar (aO cb)))),?_⟩
  lia
  refine ⟨W,_,rfl,.inl (SqL.of hW),?_⟩
  lia
  refine pP ?_
  lia
  refine ⟨L.D,_,dx,_,_,rfl,hD,T.clD,T.cy,rfl,?_⟩
  refine ⟨L.kl,rfl,⟨_,SqL.of da.kl⟩,ya (λ _=>false) (SqL.of da.kl) tb.2.2.2 rfl (λ v hv=>?_) ?_⟩
  ·obtain ⟨z,hz,rfl⟩:=List.mem_map.mp hv
   obtain ⟨i,hi,ez⟩:=List.getElem_of_mem hz
   have hk:i<d.ks.length:=by rw [<- da.kn];exact hi
   obtain ⟨_,n,_,R,_⟩:=da.ks i z d.ks[i] (by rw [List.getElem?_eq_getElem hi,ez]) (List.getElem?_eq_getElem hk)
   obtain ⟨kx,kf,r1,r2⟩:=R.ob
   have ne:d.ks[i].ti≠ti:=ft (KDD.c d.ks[i]) (List.mem_map.mpr ⟨_,List.getElem_mem hk,rfl⟩)
   lia
   refine ⟨z,_,kx,kf,_,rfl,r1,T.clK,T.dm,r2.title,?_⟩
   lia
   refine ⟨W,_,1,_,rfl,rfl,SqL.of hW,aX (j:=1) rfl,?_⟩
   lia
   exact ⟨rfl,by rw [decide_eq_false ne]⟩
  rw [show ((d.zs.map V.ref).any λ _=>false)=false by simp]
  lia
  refine ⟨L.D,_,dx,_,_,rfl,hD,T.clD,T.cy,rfl,?_⟩
  refine ⟨.inl ⟨rfl,_,SqL.of da.kl⟩,?_⟩
  lia
  refine il ?_
  lia
  refine ⟨W,_,1,_,rfl,rfl,SqL.of hW,aX (j:=1) rfl,?_⟩
  lia
  refine ⟨W,_,2,_,rfl,rfl,SqL.of hW,aX (j:=2) rfl,?_⟩
  lia
  refine ⟨by show 0<=sizeLine;decide,λ q hq=>?_⟩
  have s3:ax H _:=ax.upd (o:=.lst []) hq
  have g3:(upd H q (.lst [])) q=some (.lst (([]:List Addr).map .ref)):=ag
  generalize upd H q _=H3 at s3 g3 ⊢
  lia
  intro x dx2 nx ndx nex
  have s0:ax H3 (upd (upd H3 dx2 (.own x)) x (.ins a.Kind dx2 [])):=λ c' o hc'=>by rw [aq (aj hc' nx),aq (aj hc' ndx)];exact hc'
  refine ⟨x,dx2,ti,en,q,[],[],rfl,ag,s0 _ _ g3,rfl,λ i u m x=>(nomatch x),by omega,by omega,⟨by decide,λ m hm=>(nomatch hm)⟩,(tb.1.2.1.same s3).same s0,λ H9 n hn kp9 R hn9=>?_⟩
  rw [if_pos ro]
  have s9:ax H3 H9:=λ c' o h=>kp9 c' o (s0 _ _ h) (aj h nx)
  have s09:=s3.trans s9
  have da9:=da.same s09
  have f:qf a H9 L x ⟨ti,en,[],0,0⟩:=⟨(da.same s3).off nx,n,(da.same s3).off (none_of s0 hn),R,hn9,λ p hp=>(nomatch hp)⟩
  refine ⟨rfl,?_⟩
  refine ⟨L.kl,_,_,rfl,rfl,da9.kl,(eF (by have:=fw.zs;rw [List.length_map];omega)),?_⟩
  lia
  rw [show d.zs.map V.ref++[V.ref x]=(d.zs++[x]).map V.ref by simp]
  exact k _ _ ((KX.of s09).trans (fq (.inr (.inr (.inr rfl))))) (da9.kinds sep (by simp [da.kn]) (p9 da9.kn da9.ks f)) (Cf d _ ⟨ti,en,[],0,0⟩ rfl)
abbrev FT (K:PySem.W.Frag) (mg:Str->Option Value):=Df K mg "take_turn" "take_turn" (top 47) ["draft","words"]
theorem BS:aS ["draft","words","kind"] ["draft","words"] (aw (top 47)):=⟨rfl,rfl,rfl,by decide +kernel,rfl,by decide +kernel,by decide +kernel⟩
theorem CY (D:FT K mg) (ef:DKI K) (M_Kind:Mk K a.Kind ef.f) (mW:cC P w K mg base (CXE P w) 7 ef.f ef.fd pKI (zm a)) (T:Txt K mg a):F0 P w base 10 D (fv a λ rw=>∃ m,rw=.turn m):=by
 refine Df.ok (k:=9) D.ex BS (λ vs H Q E h=>?_) (λ A outer s H vs Q E hr h=>?_)
 ·obtain ⟨L,W,d,rw,rfl,_⟩:=h;rfl
 ·obtain ⟨L,W,d,rw,rfl,⟨m,rfl⟩,da,sep,hW,ro,fw,tb,ft,k⟩:=h
  obtain ⟨kc,kl,ek,ko⟩:=(show ∃ ks k,d.ks.map KDD.c=ks++[k]/\cn k.1 k.2.1 (k.2.2++[m])=true from ft)
  have nd:=BS.nd
  have hW:H W=some (.lst [.str "turn",.str m.1,.str m.2]):=hW
  obtain ⟨dx,hD⟩:=da.ob
  obtain ⟨ka,kd,e1,e2,e3⟩:∃ ka kd,d.ks=ka++[kd]/\ka.map KDD.c=kc/\kd.c=kl:=by
   obtain ⟨l1,l2,h1,h2,h3⟩:=List.map_eq_append_iff.mp ek
   obtain ⟨y,ys,h4,h5,h6⟩:=List.map_eq_cons_iff.mp h3
   rw [List.map_eq_nil_iff.mp h6] at h4
   exact ⟨l1,y,by rw [h1,h4],h2,h5⟩
  subst e2 e3
  have ko:cn kd.ti kd.en (kd.ps.map (·.m)++[m])=true:=ko
  obtain ⟨za,z,ez⟩:∃ za z,d.zs=za++[z]:=by
   rcases List.eq_nil_or_concat d.zs with h | ⟨l,x,h⟩
   ·have:=da.kn;rw [h,e1] at this;simp at this
   ·exact ⟨l,x,by rw [h,List.concat_eq_append]⟩
  have nn:za.length=ka.length:=by have:=da.kn;rw [ez,e1] at this;simpa using this
  have kz:qf a H L z kd:=da.ks za.length z kd (by rw [ez];simp) (by rw [e1,nn];simp)
  have kr:∀ (i:Nat) u v,za[i]?=some u->ka[i]?=some v->qf a H L u v:=λ i u v hu hv=>by
   have hi:=(List.getElem?_eq_some_iff.mp hu).1
   exact da.ks i u v (by rw [ez,List.getElem?_append_left hi];exact hu) (by rw [e1,List.getElem?_append_left (by omega)];exact hv)
  obtain ⟨oz,n0,on,R0,hn0,hps⟩:=kz
  have f12:kd.ps.length<=900:=fw.ps kd (by rw [e1];simp)
  obtain ⟨l1,l2,l3⟩:=ph ko
  have hkl:H L.kl=some (.lst (za.map V.ref++[V.ref z])):=by rw [da.kl,ez];simp
  refine ⟨_,(ae (a8 (pw_or (aL dB (aB aA (by rfl) T.br boot_len (ai (pv 1) aa)) af (aC _)) (pw_or1 (bu (rK (aF (pv 0) (by rfl)) (by intro _;rfl))))).pt
 (ar (aO cb))
 aH)
 (ae (aN (i:=2) nd rfl (Or.inl rfl) (Dx PySem.F.plainAttrs_list PySem.F.slot_list_pop PySem.F.type_list_pop Dv (aF (pv 0) (by rfl))))
 (ae (bx (b6 PySem.F.plainAttrs_list PySem.F.slot_list_append PySem.F.type_list_append bE (aF (pv 0) (by rfl)) (ai (gy M_Kind mW (hr.mono (by decide)) (by rfl) T.iA ef.bd .nil oX (ai (aF (pv 2) (by rfl)) (ai (aF (pv 2) (by rfl)) (ai (au gM (aF (pv 2) (by rfl)) (a5 (ai (fT (ai (aY aQ (pv 1) af (λ _ _=>rfl)) (ai (aY aQ (pv 1) af (λ _ _=>rfl)) aa))) aa))) aa)))) aa)))
 (ar (aO cb))))),?_⟩
  lia
  refine ⟨W,_,rfl,.inl (SqL.of hW),?_⟩
  lia
  refine pP ?_
  lia
  refine ⟨L.D,_,dx,_,_,rfl,hD,T.clD,T.cy,rfl,true,.inl ⟨_,SqL.of hkl,by simp⟩,?_⟩
  lia
  refine ⟨L.D,_,dx,_,_,rfl,hD,T.clD,T.cy,rfl,?_⟩
  refine ⟨.inl ⟨rfl,_,SqL.of hkl⟩,?_⟩
  refine ⟨L.kl,_,V.ref z,rfl,rfl,hkl,by simp,?_⟩
  rw [List.dropLast_concat]
  have kx1:KX L H (upd H L.kl (.lst (za.map .ref))):=fq (.inr (.inr (.inr rfl)))
  have da1:({ d with zs:=za,ks:=ka }:Dd).at a (upd H L.kl (.lst (za.map .ref))) L:=da.kinds sep nn kr
  have tb1:fB a (upd H L.kl (.lst (za.map .ref))):=by
   have ne:∀ {c:Addr} {t:Addr},H c=some (Tb t)->(upd H L.kl (.lst (za.map .ref))) c=some (Tb t):=λ {c t} e=>by rw [aq (dC e hkl (by intro z;cases z))];exact e
   exact ⟨⟨⟨ne tb.1.1.1,ne tb.1.1.2.1,ne tb.1.1.2.2.1,ne tb.1.1.2.2.2⟩,⟨ne tb.1.2.1.1,ne tb.1.2.1.2⟩,ne tb.1.2.2⟩,ne tb.2.1,ne tb.2.2.1,ne tb.2.2.2⟩
  have oW:L.off W:=da.Fg (ys:=["turn",m.1,m.2]) hW (by simp)
  have hW1:=kx1 _ _ oW hW
  have hn1:=kx1 _ _ on hn0
  obtain ⟨kx,kf,r1,r2⟩:=R0.ob
  have r1:=kx1 _ _ oz r1
  have hps1:∀ p∈kd.ps,L.off p.t/\(upd H L.kl (.lst (za.map .ref))) p.t=some (dA p.m):=λ p hp=>⟨(hps p hp).1,kx1 _ _ (hps p hp).1 (hps p hp).2⟩
  generalize upd H L.kl (.lst (za.map .ref))=H1 at kx1 da1 tb1 hW1 hn1 r1 hps1 ⊢
  obtain ⟨dx1,hD1⟩:=da1.ob
  lia
  refine ⟨L.D,_,dx1,_,_,rfl,hD1,T.clD,T.cy,rfl,?_⟩
  refine ⟨.inl ⟨rfl,_,SqL.of da1.kl⟩,?_⟩
  lia
  refine il ?_
  lia
  refine ⟨z,_,kx,kf,_,rfl,r1,T.clK,T.dm,r2.title,?_⟩
  lia
  refine ⟨z,_,kx,kf,_,rfl,r1,T.clK,T.dM,r2.tX,?_⟩
  lia
  refine ⟨z,_,kx,kf,_,rfl,r1,T.clK,T.eQ,r2.turns,?_⟩
  lia
  refine ⟨W,_,1,_,rfl,rfl,SqL.of hW1,aX (j:=1) rfl,?_⟩
  lia
  refine ⟨W,_,2,_,rfl,rfl,SqL.of hW1,aX (j:=2) rfl,?_⟩
  lia
  refine ⟨by show 2<=sizeLine;decide,λ t ht=>?_⟩
  have s2:ax H1 _:=ax.upd (o:=dA m) ht
  have g2:(upd H1 t (dA m)) t=some (dA m):=ag
  rw [show HO.tup [V.str m.1,.str m.2]=dA m from rfl]
  have ot:L.off t:=da1.off ht
  generalize upd H1 t _=H2 at s2 g2 ⊢
  lia
  refine ⟨by show 1<=sizeLine;decide,λ l hl=>?_⟩
  have s3:ax H2 _:=ax.upd (o:=.lst [V.ref t]) hl
  have g3:(upd H2 l (.lst [V.ref t])) l=some (.lst [V.ref t]):=ag
  generalize upd H2 l _=H3 at s3 g3 ⊢
  have hn3:=s3 _ _ (s2 _ _ hn1)
  refine ⟨n0,l,_,_,rfl,rfl,hn3,g3,(by unfold gA;rw [List.length_map,List.length_map,List.length_singleton];have:=eF (n:=kd.ps.length) f12;omega),λ q hq=>?_⟩
  have eL:gA kd.ps++[V.ref t]=((kd.ps++[(⟨m,t⟩:PD)]).map (·.t)).map V.ref:=by unfold gA;simp
  rw [eL]
  have s4:ax H3 _:=ax.upd (o:=.lst (((kd.ps++[(⟨m,t⟩:PD)]).map (·.t)).map V.ref)) hq
  have g4:(upd H3 q (.lst (((kd.ps++[(⟨m,t⟩:PD)]).map (·.t)).map V.ref))) q=some (.lst (((kd.ps++[(⟨m,t⟩:PD)]).map (·.t)).map V.ref)):=ag
  generalize upd H3 q _=H4 at s4 g4 ⊢
  have s14:=s2.trans (s3.trans s4)
  have pp:∀ p∈kd.ps++[(⟨m,t⟩:PD)],L.off p.t/\H4 p.t=some (dA p.m):=λ p hp=>by
   rcases List.mem_append.mp hp with hp | hp
   ·exact ⟨(hps1 p hp).1,s14 _ _ (hps1 p hp).2⟩
   ·rw [List.mem_singleton.mp hp];exact ⟨ot,s4 _ _ (s3 _ _ g2)⟩
  lia
  intro x dx2 nx ndx nex
  have s0:ax H4 (upd (upd H4 dx2 (.own x)) x (.ins a.Kind dx2 [])):=λ c' o hc'=>by rw [aq (aj hc' nx),aq (aj hc' ndx)];exact hc'
  refine ⟨x,dx2,kd.ti,kd.en,q,(kd.ps++[(⟨m,t⟩:PD)]).map (·.t),(kd.ps++[(⟨m,t⟩:PD)]).map (·.m),rfl,ag,s0 _ _ g4,by rw [List.length_map,List.length_map],λ i u mm hu hm=>?_,by omega,by omega,⟨by rw [List.length_map,List.length_append,List.length_singleton];omega,λ mm hm=>?_⟩,(tb1.1.2.1.same s14).same s0,λ H9 n hn kp9 R hn9=>?_⟩
  ·rw [List.getElem?_map] at hu hm
   obtain ⟨pd,hpd,rfl⟩:=Option.map_eq_some_iff.mp hu
   rw [hpd] at hm
   cases hm
   exact s0 _ _ (pp pd (List.mem_of_getElem? hpd)).2
  ·have:mm∈kd.ps.map (·.m)++[m]:=by simpa using hm
   have:=l3 mm this
   omega
  have em:(kd.ps++[(⟨m,t⟩:PD)]).map (·.m)=kd.ps.map (·.m)++[m]:=by simp
  rw [em,if_pos ko]
  have s9:ax H4 H9:=λ c' o h=>kp9 c' o (s0 _ _ h) (aj h nx)
  have s19:=s14.trans s9
  have da4:=da1.same s14
  have da9:=da1.same s19
  have f:qf a H9 L x ⟨kd.ti,kd.en,kd.ps++[⟨m,t⟩],0,0⟩:=⟨da4.off nx,n,da4.off (none_of s0 hn),R,hn9,λ p hp=>⟨(pp p hp).1,s9 _ _ (pp p hp).2⟩⟩
  refine ⟨rfl,?_⟩
  refine ⟨L.kl,_,_,rfl,rfl,da9.kl,(eF (by have:=fw.zs;rw [ez] at this;rw [List.length_map];simp at this;show za.length<=900;omega)),?_⟩
  lia
  rw [show za.map V.ref++[V.ref x]=(za++[x]).map V.ref by simp]
  exact k _ _ (kx1.trans ((KX.of s19).trans (fq (.inr (.inr (.inr rfl)))))) (da9.kinds sep (by simp [nn]) (p9 da9.kn da9.ks f)) (Du d _ ka kd ⟨kd.ti,kd.en,kd.ps++[⟨m,t⟩],0,0⟩ m e1 rfl rfl em)
end
def qx:List (Key×V):=[(.inr "bound",.int 0),(.inr "rule",.int 1),(.inr "word",.int 1),(.inr "melt",.int 2),(.inr "kind",.int 3),(.inr "turn",.int 3)]
def Rw.key:Rw->Str
 | .bound _=>"bound"
 | .rule _=>"rule"
 | .word _=>"word"
 | .gk _=>"melt"
 | .kind _ _=>"kind"
 | .turn _=>"turn"
theorem kC:∀ rw:Rw,∃ t,rw.words=rw.key::t
 | .bound _=>⟨_,rfl⟩
 | .rule _=>⟨_,rfl⟩
 | .word _=>⟨_,rfl⟩
 | .gk _=>⟨_,rfl⟩
 | .kind _ _=>⟨_,rfl⟩
 | .turn _=>⟨_,rfl⟩
theorem qq:∀ rw:Rw,jk qx (.inr rw.key)=some (.int rw.step)
 | .bound _=>rfl
 | .rule _=>rfl
 | .word _=>rfl
 | .gk _=>rfl
 | .kind _ _=>rfl
 | .turn _=>rfl
section
variable {P:Program} {w:World} {K:PySem.W.Frag} {mg:Str->Option Value} {base:Heap} {a:Ad}
abbrev DMS (K:PySem.W.Frag) (mg:Str->Option Value):=Df K mg "may_stand" "may_stand" (top 51) ["draft","word"]
def Ec (a:Ad):Sp:=λ vs H Q _=>∃ (L:L4) (d:Dd) (rw:Rw),vs=[.ref L.D,.str rw.key]/\d.at a H L/\d.c.pA rw/\Q (.bl true) H
theorem Ht:aS ["draft","word"] ["draft","word"] (aw (top 51)):=⟨rfl,rfl,rfl,by decide +kernel,rfl,by decide +kernel,by decide +kernel⟩
theorem wD {rw:Rw}:rw.key="bound"->∃ i,rw=.bound i:=λ h=>by
 cases rw with
 | bound i=>exact ⟨i,rfl⟩
 | rule r=>exact absurd h (show ¬ ("rule":Str)="bound" by decide)
 | word r=>exact absurd h (show ¬ ("word":Str)="bound" by decide)
 | gk m=>exact absurd h (show ¬ ("melt":Str)="bound" by decide)
 | kind t e=>exact absurd h (show ¬ ("kind":Str)="bound" by decide)
 | turn m=>exact absurd h (show ¬ ("turn":Str)="bound" by decide)
theorem ED (D:DMS K mg) (hC_STEPS:jn P w K a.lQ qx) (T:Txt K mg a):F0 P w base 1 D (Ec a):=by
 refine Df.ok (k:=0) D.ex Ht (λ vs H Q E h=>?_) (λ A outer s H vs Q E hr h=>?_)
 ·obtain ⟨L,d,rw,rfl,_⟩:=h;rfl
 ·obtain ⟨L,d,rw,rfl,da,st,k⟩:=h
  obtain ⟨dx,hD⟩:=da.ob
  refine ⟨_,(ae (a8 (C9 (vQ hC_STEPS (pv 1) (bY (v:=.ref a.lQ) (by rfl) T.gB rfl)))
 (ar (aO cb))
 aH)
 (ae (a8 (pw_or (aL cj (pv 1) aD (aC _)) (pw_or1 (aL qy (aF (pv 0) (by rfl)) mJ (aC _)))).pt
 (ar (aO (iF (bI cj (pv 1) aD (aC _)) (iO (bI qy (aF (pv 0) (by rfl)) mJ (aC _))))))
 aH)
 (ar (aO (bI xK (pH hC_STEPS (bY (v:=.ref a.lQ) (by rfl) T.gB rfl) (pv 1) (λ _ _=>rfl)) (aF (pv 0) (by rfl)) (aC _)))))),?_⟩
  lia
  refine ⟨.inr rw.key,rfl,rfl,?_⟩
  rw [qq rw,show (!(some (V.int rw.step)).isSome)=false from rfl]
  lia
  refine w_ite (λ e1=>?_) (λ e1=>?_)
  ·obtain ⟨i,rfl⟩:=wD (of_decide_eq_true e1)
   have st:d.b=none:=st
   lia
   refine tV ?_
   lia
   refine ⟨L.D,_,dx,_,_,rfl,hD,T.clD,T.cG,rfl,?_⟩
   lia
   refine ⟨rfl,?_⟩
   rw [st]
   exact k
  ·have e1':rw.key≠"bound":=of_decide_eq_false e1
   obtain ⟨b,ste⟩:∃ i,d.b=some i/\d.st<=rw.step:=by
    have:d.b≠none/\d.st<=rw.step:=by
     cases rw with
     | bound i=>exact absurd rfl e1'
     | _=>exact st
    cases hb:d.b with
    | none=>exact absurd hb this.1
    | some i=>exact ⟨i,rfl,this.2⟩
   lia
   refine ⟨L.D,_,dx,_,_,rfl,hD,T.clD,T.cG,rfl,?_⟩
   lia
   refine ⟨rfl,?_⟩
   rw [ste.1,decide_eq_false (show ¬ bV (some b)=V.non by intro z;cases z)]
   lia
   refine ⟨.inr rw.key,_,rfl,rfl,qq rw,?_⟩
   lia
   refine ⟨L.D,_,dx,_,_,rfl,hD,T.clD,T.gu,rfl,?_⟩
   lia
   rw [decide_eq_true ste.2]
   exact k
abbrev Tk (P:Program) (w:World) (K:PySem.W.Frag) (mg:Str->Option Value) (base:Heap):=Cal P w K mg base CX0 11 ["draft","words"]
structure Six (P:Program) (w:World) (K:PySem.W.Frag) (mg:Str->Option Value) (base:Heap) (a:Ad) where
 C:Fin 6->Tk P w K mg base
 h0:(C 0).sp=fv a λ rw=>∃ i,rw=.bound i
 h1:(C 1).sp=fv a λ rw=>∃ r,rw=.rule r
 h2:(C 2).sp=fv a λ rw=>∃ r,rw=.word r
 h3:(C 3).sp=fv a λ rw=>∃ m,rw=.gk m
 h4:(C 4).sp=fv a λ rw=>∃ t e,rw=.kind t e
 h5:(C 5).sp=fv a λ rw=>∃ m,rw=.turn m
def pI {P:Program} {w:World} {K:PySem.W.Frag} {mg:Str->Option Value} {base:Heap} (C:Fin 6->Tk P w K mg base):List (Key×V):=[(.inr "bound",.ref (C 0).f),(.inr "rule",.ref (C 1).f),(.inr "word",.ref (C 2).f),(.inr "melt",.ref (C 3).f),(.inr "kind",.ref (C 4).f),(.inr "turn",.ref (C 5).f)]
theorem xM {P:Program} {w:World} {K:PySem.W.Frag} {mg:Str->Option Value} {base:Heap} {a:Ad} (S:Six P w K mg base a):∀ rw:Rw,∃ j,jk (pI S.C) (.inr rw.key)=some (.ref (S.C j).f)/\∃ p:Rw->Prop,(S.C j).sp=fv a p/\p rw
 | .bound i=>⟨0,rfl,_,S.h0,i,rfl⟩
 | .rule r=>⟨1,rfl,_,S.h1,r,rfl⟩
 | .word r=>⟨2,rfl,_,S.h2,r,rfl⟩
 | .gk m=>⟨3,rfl,_,S.h3,m,rfl⟩
 | .kind t e=>⟨4,rfl,_,S.h4,t,e,rfl⟩
 | .turn m=>⟨5,rfl,_,S.h5,m,rfl⟩
def Dc.take (d:Dc) (rw:Rw):Dc:={ d with st:=rw.step }.after rw
abbrev DIK (K:PySem.W.Frag) (mg:Str->Option Value):=Df K mg "is_taken" "is_taken" (top 50) ["draft","words"]
def CG (a:Ad):Sp:=λ vs H Q _=>∃ (L:L4) (W:Addr) (d:Dd) (rw:Rw),vs=[.ref L.D,.ref W]/\d.at a H L/\L.sep/\H W=some (.lst (rw.words.map .str))/\rw.ok/\d.few/\fB a H/\d.c.pA rw/\d.c.fit rw /\
 ∀ (H':Hp) (d':Dd),KX L H H'->d'.at a H' L->d'.c=d.c.take rw->Q (.bl true) H'
theorem F3:aS ["draft","words","take"] ["draft","words"] (aw (top 50)):=⟨rfl,rfl,rfl,by decide +kernel,rfl,by decide +kernel,by decide +kernel⟩
theorem Fh (D:DIK K mg) (S:Six P w K mg base a) (hC_STEPS:jn P w K a.lQ qx) (hC_TAKERS:jn P w K a.mE (pI S.C)) (gI:DMS K mg) (rY:F0 P w base 1 gI (Ec a)) (T:Txt K mg a):F0 P w base 12 D (CG a):=by
 refine Df.ok (k:=11) D.ex F3 (λ vs H Q E h=>?_) (λ A outer s H vs Q E hr h=>?_)
 ·obtain ⟨L,W,d,rw,rfl,_⟩:=h;rfl
 ·obtain ⟨L,W,d,rw,rfl,da,sep,hW,ro,fw,tb,st,ft,k⟩:=h
  obtain ⟨dx,hD⟩:=da.ob
  have nd:=F3.nd
  let C_take:=S.C
  obtain ⟨t,ew⟩:=kC rw
  have hW':H W=some (.lst (.str rw.key::t.map .str)):=by rw [hW,ew];rfl
  obtain ⟨j,ej,p,es,pr⟩:=xM S rw
  refine ⟨_,(ae (a8 (bu (bt (ay rY (hr.mono (by decide)) (by rfl) gI.mg gI.kp gI.bd .nil aW (ai (pv 0) (ai (aY aQ (pv 1) af (λ _ _=>rfl)) aa)))))
 (ar (aO cb))
 aH)
 (ae (aN (i:=2) nd rfl (Or.inl rfl) (pH hC_TAKERS (bY (v:=.ref a.mE) (by rfl) T.gP rfl) (aY aQ (pv 1) af (λ _ _=>rfl)) (λ _ _=>rfl)))
 (ae (cp (pv 0) (pH hC_STEPS (bY (v:=.ref a.lQ) (by rfl) T.gB rfl) (aY aQ (pv 1) af (λ _ _=>rfl)) (λ _ _=>rfl)) (by rfl))
 (ar (Ay (ar (aO (yu C_take (i:=2) (hr.mono (by decide)) rfl (Or.inl rfl) aW (ai (pv 0) (ai (pv 1) aa)))))))))),?_⟩
  lia
  refine ⟨W,_,0,_,rfl,rfl,SqL.of hW',aX (j:=0) rfl,?_⟩
  refine ⟨L,d,rw,rfl,da,st,?_⟩
  lia
  refine ⟨W,_,0,_,rfl,rfl,SqL.of hW',aX (j:=0) rfl,?_⟩
  refine ⟨.inr rw.key,_,rfl,rfl,ej,?_⟩
  lia
  refine ⟨W,_,0,_,rfl,rfl,SqL.of hW',aX (j:=0) rfl,?_⟩
  refine ⟨.inr rw.key,_,rfl,rfl,qq rw,?_⟩
  lia
  refine ⟨L.D,_,dx,_,rfl,hD,T.clD,T.gu,(by show 5<1000;decide),?_⟩
  have da1:({ d with st:=rw.step }:Dd).at a (upd H L.D (.ins a.bZ dx (dfs d.b L rw.step))) L:=da.fld sep dx d.b rw.step
  have oW:L.off W:=da.Fg hW (by rw [ew];simp)
  have kx1:KX L H (upd H L.D (.ins a.bZ dx (dfs d.b L rw.step))):=fq (.inl rfl)
  have hW1:=kx1 _ _ oW hW
  have tb1:fB a (upd H L.D (.ins a.bZ dx (dfs d.b L rw.step))):=by
   have ne:∀ {c:Addr} {t:Addr},H c=some (Tb t)->(upd H L.D (.ins a.bZ dx (dfs d.b L rw.step))) c=some (Tb t):=λ {c t} e=>by rw [aq (dC e hD (by intro z;cases z))];exact e
   exact ⟨⟨⟨ne tb.1.1.1,ne tb.1.1.2.1,ne tb.1.1.2.2.1,ne tb.1.1.2.2.2⟩,⟨ne tb.1.2.1.1,ne tb.1.2.1.2⟩,ne tb.1.2.2⟩,ne tb.2.1,ne tb.2.2.1,ne tb.2.2.2⟩
  rw [show cf "step" (V.int rw.step) (dfs d.b L d.st)=dfs d.b L rw.step from rfl]
  generalize upd H L.D (.ins a.bZ dx (dfs d.b L rw.step))=H1 at da1 kx1 hW1 tb1 ⊢
  lia
  refine AD ⟨j,rfl,?_⟩
  lia
  rw [es]
  refine ⟨L,W,_,rw,rfl,pr,da1,sep,hW1,ro,⟨fw.os,fw.ms,fw.zs,fw.ps⟩,tb1,?_,λ H' d' kx da' ec=>k H' d' (kx1.trans kx) da' ec⟩
  cases rw with
  | kind t e=>exact ft
  | turn m=>exact ft
  | _=>exact True.intro
end
def Runs:Dc->List Rw->Dc->Prop
 | d,[],d'=>d=d'
 | d,rw::r,d'=>d.pA rw/\d.fit rw/\Runs (d.take rw) r d'
def Dc.sz (d:Dc) (n:Nat):Prop:=d.rs.length<=n/\d.ms.length<=n/\d.ks.length<=n/\∀ k∈d.ks,k.2.2.length<=n
theorem rS (m:Str×Str):∀ ks,(qe m ks).length=ks.length
 | []=>rfl
 | [k]=>rfl
 | k::y::r=>by show (qe m (y::r)).length+1=_;rw [rS m (y::r)];rfl
theorem rJ (m:Str×Str) (n:Nat):∀ ks:List (Str×Str×List (Str×Str)),(∀ k∈ks,k.2.2.length<=n)->∀ k∈qe m ks,k.2.2.length<=n+1
 | [],_,k,h=>(nomatch h)
 | [x],g,k,h=>by
  have e:=List.mem_singleton.mp h
  subst e
  have:=g x (by simp)
  simp
  omega
 | x::y::r,g,k,h=>by
  rcases List.mem_cons.mp h with rfl | h
  ·have:=g k (by simp);omega
  ·exact rJ m n (y::r) (λ z hz=>g z (List.mem_cons_of_mem _ hz)) k h
theorem Dc.sz.take {d:Dc} {n:Nat} (h:d.sz n) (rw:Rw):(d.take rw).sz (n+1):=by
 obtain ⟨h1,h2,h3,h4⟩:=h
 have h4':∀ k∈d.ks,k.2.2.length<=n+1:=λ k hk=>Nat.le_succ_of_le (h4 k hk)
 cases rw with
 | bound i=>exact ⟨Nat.le_succ_of_le h1,Nat.le_succ_of_le h2,Nat.le_succ_of_le h3,h4'⟩
 | rule r=>exact ⟨by show (d.rs++[r]).length<=_;simp;omega,Nat.le_succ_of_le h2,Nat.le_succ_of_le h3,h4'⟩
 | word r=>exact ⟨by show (d.rs++[r]).length<=_;simp;omega,Nat.le_succ_of_le h2,Nat.le_succ_of_le h3,h4'⟩
 | gk m=>exact ⟨Nat.le_succ_of_le h1,by show (d.ms++[m]).length<=_;simp;omega,Nat.le_succ_of_le h3,h4'⟩
 | kind t e=>
  refine ⟨Nat.le_succ_of_le h1,Nat.le_succ_of_le h2,by show (d.ks++[(t,e,[])]).length<=_;simp;omega,λ k hk=>?_⟩
  rcases List.mem_append.mp (show k∈d.ks++[(t,e,[])] from hk) with hk | hk
  ·exact h4' k hk
  ·rw [List.mem_singleton.mp hk];exact Nat.zero_le _
 | turn m=>exact ⟨Nat.le_succ_of_le h1,Nat.le_succ_of_le h2,by show (qe m d.ks).length<=_;rw [rS];omega,rJ m n d.ks h4⟩
theorem Dd.yT {d:Dd} {a:Ad} {H:Hp} {L:L4} {n:Nat} (h:d.at a H L) (s:d.c.sz n) (hn:n<=900):d.few:=by
 obtain ⟨h1,h2,h3,h4⟩:=s
 have h1:d.rs.length<=n:=h1
 have h2:(d.ms.map (·.m)).length<=n:=h2
 have h3:(d.ks.map KDD.c).length<=n:=h3
 rw [List.length_map] at h2 h3
 refine ⟨by rw [h.rn];omega,by omega,by rw [h.kn];omega,λ k hk=>?_⟩
 have:=h4 k.c (List.mem_map.mpr ⟨k,hk,rfl⟩)
 have:(k.ps.map (·.m)).length<=n:=this
 rw [List.length_map] at this
 omega
theorem fB.kx {d:Dd} {a:Ad} {H H':Hp} {L:L4} (t:fB a H) (h:d.at a H L) (k:KX L H H'):fB a H':=by
 obtain ⟨dx,hD⟩:=h.ob
 have ne:∀ {c:Addr} {u:Addr},H c=some (Tb u)->H' c=some (Tb u):=λ {c u} e=>k _ _ ⟨dC e hD (by intro z;cases z),dC e h.rl (by intro z;cases z),dC e h.ml (by intro z;cases z),dC e h.kl (by intro z;cases z)⟩ e
 exact ⟨⟨⟨ne t.1.1.1,ne t.1.1.2.1,ne t.1.1.2.2.1,ne t.1.1.2.2.2⟩,⟨ne t.1.2.1.1,ne t.1.2.1.2⟩,ne t.1.2.2⟩,ne t.2.1,ne t.2.2.1,ne t.2.2.2⟩
theorem wR (rw:Rw):rw.words≠[]:=by
 obtain ⟨t,e⟩:=kC rw
 rw [e];simp
section
variable {P:Program} {w:World} {K:PySem.W.Frag} {mg:Str->Option Value} {base:Heap} {a:Ad}
abbrev DRd (K:PySem.W.Frag) (mg:Str->Option Value):=Df K mg "read_tongue" "read_tongue" (top 49) ["text"]
def d0:Dc:=⟨none,0,[],[],[]⟩
def AN (a:Ad):Sp:=λ vs H Q _=>∃ (x:Str) (rws:List Rw) (dc:Dc) (b:Int),vs=[.str x]/\x.length+4<=sizeLine/\dZ x=rws.map Rw.words/\(∀ rw∈rws,rw.ok)/\rws.length<=900/\Runs d0 rws dc/\dc.b=some b/\0<=b/\(dc.ks.map (·.1)).Nodup/\(∀ m∈dc.ms,c8 m=true)/\fB a H /\
 ∀ (H':Hp) (x:Addr) (os zs:List Addr) (d:DD),ax H H'->TD a H' x d os zs->d.mt H'->d.b=b->d.rs=dc.rs->d.ms.map (·.m)=dc.ms->d.ks.map KDD.c=dc.ks->Q (.ref x) H'
abbrev nRd:List Str:=["text","rows","draft","place","row","words"]
theorem Gi:aS nRd ["text"] (aw (top 49)):=⟨rfl,rfl,rfl,by decide +kernel,rfl,by decide +kernel,by decide +kernel⟩
def Left (a:Ad) (L:L4) (H:Hp) (d:Dd) (lines:List Str) (dc:Dc) (i:Nat):Prop:=
 ∃ rws:List Rw,((lines.drop i).map ws).filter (λ r=>!r.isEmpty)=rws.map Rw.words/\(∀ rw∈rws,rw.ok)/\Runs d.c rws dc/\∃ n,d.c.sz n/\n+rws.length<=900
theorem Left.blank {a:Ad} {L:L4} {H:Hp} {d:Dd} {lines:List Str} {dc:Dc} {i:Nat} {x:Str} (h:Left a L H d lines dc i) (hx:lines[i]?=some x) (e:ws x=[]):Left a L H d lines dc (i+1):=by
 obtain ⟨rws,h1,h2,h3,h4⟩:=h
 have hd:lines.drop i=x::lines.drop (i+1):=by
  obtain ⟨hi,hx⟩:=List.getElem?_eq_some_iff.mp hx
  rw [List.drop_eq_getElem_cons hi,hx]
 rw [hd,List.map_cons,e] at h1
 exact ⟨rws,h1,h2,h3,h4⟩
theorem Left.row {a:Ad} {L:L4} {H:Hp} {d:Dd} {lines:List Str} {dc:Dc} {i:Nat} {x:Str} (h:Left a L H d lines dc i) (hx:lines[i]?=some x) (e:ws x≠[]):∃ rw:Rw,ws x=rw.words/\rw.ok/\d.c.pA rw/\d.c.fit rw/\(∃ n,d.c.sz n/\n<=900) /\
  ∀ H' (d':Dd),d'.c=d.c.take rw->Left a L H' d' lines dc (i+1):=by
 obtain ⟨rws,h1,h2,h3,n,h4,h5⟩:=h
 have hd:lines.drop i=x::lines.drop (i+1):=by
  obtain ⟨hi,hx⟩:=List.getElem?_eq_some_iff.mp hx
  rw [List.drop_eq_getElem_cons hi,hx]
 rw [hd,List.map_cons,List.filter_cons_of_pos (by cases z:ws x with | nil=>exact absurd z e | cons _ _=>rfl)] at h1
 cases rws with
 | nil=>cases h1
 | cons rw r=>
  rw [List.map_cons] at h1
  obtain ⟨e1,e2⟩:=List.cons.inj h1
  obtain ⟨r1,r2,r3⟩:=h3
  rw [List.length_cons] at h5
  exact ⟨rw,e1,h2 rw (by simp),r1,r2,⟨n,h4,by omega⟩,λ H' d' ed=>⟨r,e2,λ z hz=>h2 z (List.mem_cons_of_mem _ hz),by rw [ed];exact r3,n+1,by rw [ed];exact h4.take rw,by omega⟩⟩
theorem Left.end {a:Ad} {L:L4} {H:Hp} {d:Dd} {lines:List Str} {dc:Dc} (h:Left a L H d lines dc lines.length):d.c=dc/\∃ n,d.c.sz n/\n<=900:=by
 obtain ⟨rws,h1,h2,h3,n,h4,h5⟩:=h
 rw [List.drop_length] at h1
 cases rws with
 | nil=>exact ⟨h3,n,h4,by omega⟩
 | cons rw r=>cases h1
theorem EL (D:DRd K mg) (mB:DDr K) (M_Draft:Mk K a.bZ mB.f) (zI:cC P w K mg base CX0 1 mB.f mB.fd ["self"] (BV a)) (ie:DIK K mg) (uK:F0 P w base 12 ie (CG a))
  (dU:vz K) (M_Tongue:Mk K a.bH dU.f) (bdT:Binds K dU.fd pTI []) (m5:cC P w K mg base CX0 6 dU.f dU.fd pTI (qi a)) (T:Txt K mg a):F0 P w base 13 D (AN a):=by
 refine Df.ok (k:=12) D.ex Gi (λ vs H Q E h=>?_) (λ A outer s H vs Q E hr h=>?_)
 ·obtain ⟨x,rws,dc,b,rfl,_⟩:=h;rfl
 ·obtain ⟨x,rws,dc,b,rfl,hx,erow,rok,rlen,run,eb,b0,tnd,mok,tb,k⟩:=h
  have nd:=Gi.nd
  refine ⟨_,(ae (aN (i:=1) nd rfl (Or.inl rfl) (b6 PySem.F.plainAttrs_str PySem.F.slot_str_split PySem.F.type_str_split si (pv 0) (ai aD aa)))
 (ae (aN (i:=2) nd rfl (Or.inl rfl) (xX M_Draft zI (hr.mono (by decide)) (by rfl) T.jc mB.bd .nil aW))
 (ae (fu PassesOwn.never rfl (vm (by rfl) T.cN (by decide +kernel) (ai (pv 1) aa)) (iu (n:=2) rfl (aM (az (i:=3) nd rfl (Or.inl rfl)) (aM (az (i:=4) nd rfl (Or.inl rfl)) cF)))
 (ae (j8 (i:=5) nd rfl (Or.inl rfl) (N:=["word"]) (fs:=[]) (⟨rfl,by rfl,by rfl,by rfl,trivial⟩) rfl (bF (b6 PySem.F.plainAttrs_str PySem.F.slot_str_split PySem.F.type_str_split si (pv 4) (ai aD aa))) (λ _ _ _ _ _=>(az (i:=0) (show List.Nodup (["word"]:List Str) from by decide +kernel) rfl (Or.inl rfl))) (λ _ _ _ _ _=>by exact (vE (aL dB (pv 0) aD (aC _)))) (λ _ _ _ _ _=>by exact (pv 0)))
 (ar (a8 (pw_and (rK (pv 5) (by intro _;rfl)) (pw_and1 (bu (bt (ay uK (hr.mono (by decide)) (by rfl) ie.mg ie.kp ie.bd .nil aW (ai (pv 2) (ai (pv 5) aa))))))).pt
 (ar i3)
 aH))))
 (ae (a8 (aL qy (aF (pv 2) (by rfl)) mJ (aC _))
 (ar i3)
 aH)
 (ar (aO (gy M_Tongue m5 (hr.mono (by decide)) (by rfl) T.eX bdT .nil aW (ai (aF (pv 2) (by rfl)) (ai (aF (pv 2) (by rfl)) (ai (aF (pv 2) (by rfl)) (ai (aF (pv 2) (by rfl)) aa))))))))))),?_⟩
  lia
  refine ⟨rfl,?_⟩
  lia
  refine ⟨x,"\n",rfl,rfl,rfl,by omega,λ R hR=>?_⟩
  have sR:ax H _:=ax.upd (o:=.lst ((Txt.split x "\n").map .str)) hR
  have gR:(upd H R (.lst ((Txt.split x "\n").map .str))) R=some (.lst ((Txt.split x "\n").map .str)):=ag
  generalize upd H R _=H1 at sR gR ⊢
  have hlen:(Txt.split x "\n").length<=sizeLine:=Nat.le_trans (split_len x "\n") (by omega)
  have hshort:∀ z∈Txt.split x "\n",z.length+2<=sizeLine:=λ z hz=>by have:=part_short hz;omega
  have hne:Txt.split x "\n"≠[]:=nh x 10
  have erow:((Txt.split x "\n").map ws).filter (λ r=>!r.isEmpty)=rws.map Rw.words:=erow
  generalize Txt.split x "\n"=lines at gR hlen hshort hne erow
  lia
  refine il ?_
  lia
  intro p dx np ndx nex
  have s0:ax H1 (upd (upd H1 dx (.own p)) p (.ins a.bZ dx [])):=λ c' o hc'=>by rw [aq (aj hc' np),aq (aj hc' ndx)];exact hc'
  refine ⟨p,dx,rfl,ag,λ H2 L eD sep f1 f2 f3 kp da=>?_⟩
  subst eD
  have s2:ax H1 H2:=λ c o h=>kp c o (s0 _ _ h) (aj h np)
  have off:∀ c o,H1 c=some o->L.off c:=λ c o h=>⟨aj h np,aj h (none_of s0 f1),aj h (none_of s0 f2),aj h (none_of s0 f3)⟩
  have gR2:=s2 _ _ gR
  have oR:=off _ _ gR
  have tb2:=(tb.same sR).same s2
  clear f1 f2 f3 kp s0
  refine ⟨rfl,?_⟩
  lia
  refine ⟨R,rfl,⟨_,SqL.of gR2⟩,?_⟩
  refine Fo (K:=K) (a:=R) (xs:=lines.map V.str) (λ i σ H3=>∃ v3 v4 v5 d,σ=[some (V.str x),some (V.ref R),some (V.ref L.D),v3,v4,v5]/\d.at a H3 L/\KX L H2 H3/\Left a L H3 d lines dc i) ⟨_,_,_,⟨none,0,[],[],[],[],[]⟩,rfl,da,λ c o _ h=>h,rws,erow,rok,run,0,⟨Nat.le_refl _,Nat.le_refl _,Nat.le_refl _,λ k hk=>(nomatch hk)⟩,by omega⟩ (λ i σ H3 _ ⟨_,_,_,d,_,_,kx,_⟩=>SqL.of (kx _ _ oR gR2)) ?_ ?_
  ·rintro i v p σ H3 hv ⟨v3,v4,v5,d,rfl,da3,kx3,lf⟩ hp
   rw [List.getElem?_map] at hv
   obtain ⟨z,hz,rfl⟩:=Option.map_eq_some_iff.mp hv
   have sp:ax H3 _:=ax.upd (o:=.tup [.int i,.str z]) hp
   have gp:(upd H3 p (.tup [.int i,.str z])) p=some (.tup [.int i,.str z]):=ag
   generalize upd H3 p (.tup [.int i,.str z])=H4 at sp gp ⊢
   have da4:=da3.same sp
   have kx4:KX L H2 H4:=kx3.trans (.of sp)
   refine dg (SqT.of gp) rfl ?_
   refine ⟨_,_,rfl,_,_,rfl,rfl,?_⟩
   lia
   refine ⟨rfl,?_⟩
   lia
   refine ⟨z," ",rfl,rfl,rfl,hshort z (List.mem_of_getElem? hz),λ S hS=>?_⟩
   have sS:ax H4 _:=ax.upd (o:=.lst ((Txt.split z " ").map .str)) hS
   have gS:(upd H4 S (.lst ((Txt.split z " ").map .str))) S=some (.lst ((Txt.split z " ").map .str)):=ag
   generalize upd H4 S _=H5 at sS gS ⊢
   have hl2:(Txt.split z " ").length<=sizeLine:=Nat.le_trans (split_len z " ") (hshort z (List.mem_of_getElem? hz))
   refine ⟨S,rfl,⟨_,SqL.of gS⟩,lcG (λ n zs=>zs=(((Txt.split z " ").take n).filter λ y:Str=>!decide (y="")).map V.str) (dN (SqL.of gS)) (by rw [List.length_map];exact hl2) rfl (λ D j zs H6 hj hD s6 e6 r6=>?_) (λ D H6 zs hD s6 e6 r6=>?_)⟩
   ·rw [List.length_map] at hj
    have ex:((Txt.split z " ").map V.str).getD j .non=V.str (Txt.split z " ")[j]:=by simp [List.getD_eq_getElem?_getD,hj]
    rw [ex]
    lia
    refine ⟨gY rfl,?_⟩
    have es:((Txt.split z " ").take (j+1)).filter (λ y:Str=>!decide (y=""))=((Txt.split z " ").take j).filter (λ y:Str=>!decide (y=""))++(if (!decide ((Txt.split z " ")[j]=""))=true then [(Txt.split z " ")[j]] else []):=by
     rw [List.take_succ,List.getElem?_eq_getElem hj,List.filter_append]
     congr 1
     show List.filter _ [(Txt.split z " ")[j]]=_
     rw [List.filter_cons]
     rfl
    lia
    refine w_ite (λ q=>?_) (λ q=>?_)
    ·lia
     exact jJ hD s6 e6 (ax.refl _) (by rw [es,if_pos q,List.map_append,<- r6];rfl)
    ·exact Hj s6 e6 (ax.refl _) (by rw [es,if_neg (by rw [q];exact Bool.false_ne_true),List.append_nil,<- r6])
   rw [List.length_map,List.take_length] at r6
   have r6:zs=(L2.ws z).map V.str:=r6
   subst r6
   have da6:=(da4.same sS).same s6
   have kx6:KX L H2 H6:=kx4.trans ((KX.of sS).trans (.of s6))
   lia
   refine ⟨_,.inl ⟨_,SqL.of e6,rfl⟩,?_⟩
   by_cases ew:L2.ws z=[]
   ·rw [ew]
    refine pP ?_
    lia
    exact ⟨_,_,_,d,rfl,da6,kx6,lf.blank hz ew⟩
   ·rw [show (!((L2.ws z).map V.str).isEmpty)=true by cases q:L2.ws z with | nil=>exact absurd q ew | cons _ _=>rfl]
    obtain ⟨rw_,e1,ro,st,ft,⟨n,sz,n9⟩,nxt⟩:=lf.row hz ew
    lia
    refine ⟨L,D,d,rw_,rfl,da6,sep,by rw [<- e1];exact e6,ro,Dd.yT da6 sz n9,tb2.kx da kx6,st,ft,λ H7 d' kx7 da7 ec=>?_⟩
    lia
    exact ⟨_,_,_,d',rfl,da7,kx6.trans kx7,nxt H7 d' ec⟩
  ·rintro σ H3 ⟨v3,v4,v5,d,rfl,da3,kx3,lf⟩
   rw [List.length_map] at lf
   obtain ⟨ec,n,sz,n9⟩:=lf.end
   subst ec
   have eb:d.b=some b:=eb
   have few:=Dd.yT da3 sz n9
   obtain ⟨dx3,hD3⟩:=da3.ob
   have sH:ax H H3:=λ c o h=>kx3 c o (off c o (sR _ _ h)) (s2 _ _ (sR _ _ h))
   lia
   refine ⟨L.D,_,dx3,_,_,rfl,hD3,T.clD,T.cG,rfl,?_⟩
   lia
   refine ⟨rfl,?_⟩
   rw [eb,decide_eq_false (show ¬ bV (some b)=V.non by intro z;cases z)]
   lia
   refine il ?_
   lia
   refine ⟨L.D,_,dx3,_,_,rfl,hD3,T.clD,T.cG,rfl,?_⟩
   lia
   refine ⟨L.D,_,dx3,_,_,rfl,hD3,T.clD,T.eG,rfl,?_⟩
   lia
   refine ⟨L.D,_,dx3,_,_,rfl,hD3,T.clD,T.eZ,rfl,?_⟩
   lia
   refine ⟨L.D,_,dx3,_,_,rfl,hD3,T.clD,T.cy,rfl,?_⟩
   lia
   intro y dy ny ndy ney
   have s4:ax H3 (upd (upd H3 dy (.own y)) y (.ins a.bH dy [])):=λ c' o hc'=>by rw [aq (aj hc' ny),aq (aj hc' ndy)];exact hc'
   have da4:=da3.same s4
   have tb3:=(tb2.kx da kx3).same s4
   refine ⟨y,dy,b,L.rl,L.ml,L.kl,d.os,d.ms.map (·.t),d.zs,d.ks.map (·.ti),by rw [eb];rfl,ag,b0,da4.rl,da4.ml,λ t ht=>?_,da4.kl,⟨by rw [List.length_map];exact da4.kn,λ i o t ho ht=>?_⟩,?_,by rw [List.length_map,<- da4.kn];have:=few.zs;omega,tb3.1.1.1,tb3.1.2.2,λ H9 kp9 tg=>?_⟩
   ·obtain ⟨m,hm,rfl⟩:=List.mem_map.mp ht
    exact ⟨m.m,(da4.ms m hm).2,mok m.m (List.mem_map.mpr ⟨m,hm,rfl⟩)⟩
   ·rw [List.getElem?_map] at ht
    obtain ⟨kd,hk,rfl⟩:=Option.map_eq_some_iff.mp ht
    obtain ⟨_,n',_,R',_⟩:=da4.ks i o kd ho hk
    exact ⟨_,_,R'⟩
   ·have e:d.c.ks.map (·.1)=d.ks.map (·.ti):=by show (d.ks.map KDD.c).map (·.1)=_;rw [List.map_map];rfl
    rw [<- e];exact tnd
   have s39:ax H3 H9:=λ c o h=>kp9 c o (s4 _ _ h) (aj h ny)
   have da9:=da3.same s39
   refine ⟨rfl,k H9 y d.os d.zs ⟨b,d.rs,d.ms,d.ks,0,0,0,0⟩ (sH.trans s39) ⟨tg,da9.rn,λ i o r ho hr=>?_,da9.kn,λ i o kd ho hk=>?_⟩ ⟨λ m hm=>(da9.ms m hm).2,λ kd hk p hp=>?_⟩ rfl rfl rfl rfl⟩
   ·obtain ⟨_,n',_,R',hn'⟩:=da9.rs i o r ho hr
    exact ⟨n',R',hn'⟩
   ·obtain ⟨_,n',_,R',hn',_⟩:=da9.ks i o kd ho hk
    exact ⟨n',R',hn'⟩
   ·obtain ⟨i,hi,ei⟩:=List.getElem_of_mem hk
    have hz:i<d.zs.length:=by rw [da9.kn];exact hi
    obtain ⟨_,n',_,R',hn',hp'⟩:=da9.ks i d.zs[i] kd (List.getElem?_eq_getElem hz) (by rw [List.getElem?_eq_getElem hi,ei])
    exact (hp' p hp).2
end
def rwR (r:RD):Rw:=if wr r=true then .word r else .rule r
def um (k:KDD):List Rw:=.kind k.ti k.en::k.ps.map λ p=>.turn p.m
def gN (d:DD):List Rw:=.bound d.b::(d.rs.map rwR++d.ms.map (λ m=>.gk m.m)++d.ks.flatMap um)
theorem wq (r:RD):(rwR r).words=fS r:=by
 unfold rwR fS
 split <;> rfl
theorem lp (d:DD):(gN d).map Rw.words=rowsOf d:=by
 unfold gN rowsOf
 rw [List.map_cons,List.map_append,List.map_append,List.map_map,List.map_map,List.map_flatMap]
 have h1:(Rw.words∘rwR)=fS:=funext wq
 have h3:(λ k=>(um k).map Rw.words)=eJ:=funext λ k=>by
  unfold um eJ
  rw [List.map_cons,List.map_map]
  rfl
 rw [h1,h3]
 rfl
theorem rQ {t e:Str} {ms zs:List (Str×Str)} (h:cn t e (ms++zs)=true):cn t e ms=true:=by
 unfold cn pairsOk jZ at h ⊢
 simp only [Bool.and_eq_true,decide_eq_true_eq,List.all_append,List.map_append] at h ⊢
 exact ⟨h.1,h.2.1,h.2.2.1.1,(List.nodup_append.mp h.2.2.2).1⟩
theorem we {t e:Str} {ms:List (Str×Str)} (h:cn t e ms=true):∀ m∈ms,dn m=true:=by
 unfold cn pairsOk at h
 simp only [Bool.and_eq_true] at h
 exact List.all_eq_true.mp h.2.2.1
theorem tY {d:DD} (h:d.ok):∀ rw∈gN d,rw.ok:=by
 intro rw hrw
 rcases List.mem_cons.mp hrw with rfl | hrw
 ·exact h.b
 rcases List.mem_append.mp hrw with hrw | hrw
 ·rcases List.mem_append.mp hrw with hrw | hrw
  ·obtain ⟨r,hr,rfl⟩:=List.mem_map.mp hrw
   unfold rwR
   split
   ·rename_i z
    exact ⟨h.rs r hr,z⟩
   ·exact h.rs r hr
  ·obtain ⟨m,hm,rfl⟩:=List.mem_map.mp hrw
   exact h.ms m hm
 ·obtain ⟨k,hk,hrw⟩:=List.mem_flatMap.mp hrw
  have ko:=(h.ks k hk).ko
  rcases List.mem_cons.mp hrw with rfl | hrw
  ·exact rQ (ms:=[]) ko
  ·obtain ⟨p,hp,rfl⟩:=List.mem_map.mp hrw
   exact we ko p.m (List.mem_map.mpr ⟨p,hp,rfl⟩)
def oG (x y:Rw):Prop:=x=y∨∃ r,x=.word r/\y=.rule r
theorem uC {x y:Rw} (h:oG x y) (d:Dc):(d.pA x->d.pA y)/\(d.fit x->d.fit y)/\d.take x=d.take y:=by
 rcases h with rfl | ⟨r,rfl,rfl⟩
 ·exact ⟨id,id,rfl⟩
 ·exact ⟨id,id,rfl⟩
theorem oM:∀ {xs ys:List Rw} {d d':Dc},xs.length=ys.length->(∀ (i:Nat) x y,xs[i]?=some x->ys[i]?=some y->oG x y)->Runs d xs d'->Runs d ys d'
 | [],[],_,_,_,_,h=>h
 | [],_::_,_,_,hl,_,_=>by cases hl
 | _::_,[],_,_,hl,_,_=>by cases hl
 | x::xs,y::ys,d,d',hl,hs,h=>by
  obtain ⟨h1,h2,h3⟩:=h
  obtain ⟨g1,g2,g3⟩:=uC (hs 0 x y rfl rfl) d
  refine ⟨g1 h1,g2 h2,?_⟩
  rw [<- g3]
  exact oM (by simpa using hl) (λ i u v hu hv=>hs (i+1) u v hu hv) h3
theorem jG:∀ {xs ys:List Rw} {d d1 d2:Dc},Runs d xs d1->Runs d1 ys d2->Runs d (xs++ys) d2
 | [],_,_,_,_,h,g=>by rw [show _=_ from h];exact g
 | x::xs,ys,d,d1,d2,⟨h1,h2,h3⟩,g=>⟨h1,h2,jG h3 g⟩
theorem nM (b:Option Int) (hb:b≠none) (ms:List (Str×Str×Str)) (ks:List (Str×Str×List (Str×Str))):∀ (rs l:List RD) (st:Int),st<=1->∃ st',st'<=1/\Runs ⟨b,st,l,ms,ks⟩ (rs.map rwR) ⟨b,st',l++rs,ms,ks⟩
 | [],l,st,h=>⟨st,h,by show (⟨b,st,l,ms,ks⟩:Dc)=_;rw [List.append_nil]⟩
 | r::rs,l,st,h=>by
  obtain ⟨st',h',g⟩:=nM b hb ms ks rs (l++[r]) 1 (by decide)
  refine ⟨st',h',?_⟩
  rw [List.map_cons]
  have e:l++[r]++rs=l++r::rs:=by simp
  rw [e] at g
  unfold rwR
  split
  ·exact ⟨⟨hb,h⟩,True.intro,g⟩
  ·exact ⟨⟨hb,h⟩,True.intro,g⟩
theorem nK (b:Option Int) (hb:b≠none) (rs:List RD) (ks:List (Str×Str×List (Str×Str))):∀ (xs:List MD) (l:List (Str×Str×Str)) (st:Int),st<=2->∃ st',st'<=2/\Runs ⟨b,st,rs,l,ks⟩ (xs.map λ m=>.gk m.m) ⟨b,st',rs,l++xs.map (·.m),ks⟩
 | [],l,st,h=>⟨st,h,by show (⟨b,st,rs,l,ks⟩:Dc)=_;simp⟩
 | m::xs,l,st,h=>by
  obtain ⟨st',h',g⟩:=nK b hb rs ks xs (l++[m.m]) 2 (by decide)
  refine ⟨st',h',⟨hb,h⟩,True.intro,?_⟩
  have e:l++[m.m]++xs.map (·.m)=l++(m::xs).map (·.m):=by simp
  rw [e] at g
  exact g
theorem nF (b:Option Int) (hb:b≠none) (rs:List RD) (ms:List (Str×Str×Str)) (ti en:Str) (l:List (Str×Str×List (Str×Str))):∀ (ps:List PD) (q:List (Str×Str)) (st:Int),st<=3->cn ti en (q++ps.map (·.m))=true->∃ st',st'<=3/\Runs ⟨b,st,rs,ms,l++[(ti,en,q)]⟩ (ps.map λ p=>.turn p.m) ⟨b,st',rs,ms,l++[(ti,en,q++ps.map (·.m))]⟩
 | [],q,st,h,_=>⟨st,h,by show (⟨b,st,rs,ms,_⟩:Dc)=_;simp⟩
 | p::ps,q,st,h,ko=>by
  have e:q++[p.m]++ps.map (·.m)=q++(p::ps).map (·.m):=by simp
  rw [<- e] at ko
  obtain ⟨st',h',g⟩:=nF b hb rs ms ti en l ps (q++[p.m]) 3 (by decide) ko
  refine ⟨st',h',⟨hb,h⟩,⟨l,(ti,en,q),rfl,rQ ko⟩,?_⟩
  have ea:(⟨b,st,rs,ms,l++[(ti,en,q)]⟩:Dc).take (.turn p.m)=⟨b,3,rs,ms,l++[(ti,en,q++[p.m])]⟩:=by
   show (⟨b,3,rs,ms,qe p.m (l++[(ti,en,q)])⟩:Dc)=_
   rw [kU]
  rw [ea,<- e]
  exact g
theorem nc (b:Option Int) (hb:b≠none) (rs:List RD) (ms:List (Str×Str×Str)):∀ (ks:List KDD) (l:List (Str×Str×List (Str×Str))) (st:Int),st<=3->(∀ k∈ks,k.ok)->(l.map (·.1)++ks.map (·.ti)).Nodup->∃ st',st'<=3/\Runs ⟨b,st,rs,ms,l⟩ (ks.flatMap um) ⟨b,st',rs,ms,l++ks.map KDD.c⟩
 | [],l,st,h,_,_=>⟨st,h,by show (⟨b,st,rs,ms,l⟩:Dc)=_;simp⟩
 | k::ks,l,st,h,ok,nd=>by
  have ko:=(ok k (by simp)).ko
  obtain ⟨s1,h1,g1⟩:=nF b hb rs ms k.ti k.en l k.ps [] 3 (by decide) (by simpa using ko)
  rw [List.nil_append] at g1
  have nd':((l++[(k.ti,k.en,k.ps.map (·.m))]).map (·.1)++ks.map (·.ti)).Nodup:=by
   rw [List.map_append,List.append_assoc]
   exact nd
  obtain ⟨s2,h2,g2⟩:=nc b hb rs ms ks (l++[(k.ti,k.en,k.ps.map (·.m))]) s1 h1 (λ z hz=>ok z (List.mem_cons_of_mem _ hz)) nd'
  refine ⟨s2,h2,?_⟩
  rw [List.flatMap_cons]
  have e:l++[(k.ti,k.en,k.ps.map (·.m))]++ks.map KDD.c=l++(k::ks).map KDD.c:=by simp [KDD.c]
  rw [e] at g2
  refine jG (d1:=⟨b,s1,rs,ms,l++[(k.ti,k.en,k.ps.map (·.m))]⟩) ?_ g2
  refine ⟨⟨hb,h⟩,λ z hz e=>?_,g1⟩
  have n:=(List.nodup_append.mp nd).2.2 z.1 (List.mem_map.mpr ⟨z,hz,rfl⟩) k.ti (by simp)
  exact n e
theorem zW {d:DD} (h:d.ok):∃ st,Runs d0 (gN d) ⟨some d.b,st,d.rs,d.ms.map (·.m),d.ks.map KDD.c⟩:=by
 have hb:(some d.b)≠none:=by simp
 obtain ⟨s1,h1,g1⟩:=nM (some d.b) hb [] [] d.rs [] 0 (by decide)
 obtain ⟨s2,h2,g2⟩:=nK (some d.b) hb d.rs [] d.ms [] s1 (by omega)
 obtain ⟨s3,h3,g3⟩:=nc (some d.b) hb d.rs (d.ms.map (·.m)) d.ks [] s2 (by omega) h.ks (by simpa using h.nd)
 rw [List.nil_append] at g1 g2 g3
 exact ⟨s3,rfl,True.intro,jG (jG g1 g2) g3⟩
theorem rL {n:Nat}:∀ ks:List KDD,(∀ k∈ks,(um k).length<=n)->(ks.flatMap um).length<=ks.length * n
 | [],_=>by simp
 | k::ks,h=>by
  rw [List.flatMap_cons,List.length_append,List.length_cons,Nat.succ_mul]
  have:=h k (by simp)
  have:=rL ks λ z hz=>h z (List.mem_cons_of_mem _ hz)
  omega
theorem vf {d:DD} (h:d.ok):(gN d).length<=105:=by
 unfold gN
 rw [List.length_cons,List.length_append,List.length_append,List.length_map,List.length_map]
 have h1:=h.rn
 have h2:=h.mn
 have h3:=h.kn
 have h4:=rL (n:=13) d.ks λ k hk=>by
  unfold um
  rw [List.length_cons,List.length_map]
  have:=(h.ks k hk).le
  omega
 omega
structure lZ (d e:DD):Prop where
 b:e.b=d.b
 rs:e.rs=d.rs
 ms:e.ms.map (·.m)=d.ms.map (·.m)
 ks:e.ks.map KDD.c=d.ks.map KDD.c
theorem lZ.rows {d e:DD} (h:lZ d e):rowsOf e=rowsOf d:=by
 unfold rowsOf
 have em:∀ l:List MD,l.map gj=(l.map (·.m)).map λ m=>(["melt",m.1,m.2.1,m.2.2]:List Str):=λ l=>by rw [List.map_map];rfl
 have ek:∀ l:List KDD,l.flatMap eJ=(l.map KDD.c).flatMap λ k=>(["kind",k.1,k.2.1]:List Str)::k.2.2.map λ m=>(["turn",m.1,m.2]:List Str):=λ l=>by
  rw [List.flatMap_map]
  congr 1
  funext k
  show _=(["kind",k.ti,k.en]:List Str)::(k.ps.map (·.m)).map _
  unfold eJ
  rw [List.map_map]
  rfl
 rw [h.b,h.rs,em,em d.ms,ek,ek d.ks,h.ms,h.ks]
theorem lZ.text {d e:DD} (h:lZ d e):textOf e=textOf d:=by
 unfold textOf
 rw [h.rows]
theorem lZ.ok {d e:DD} (h:lZ d e) (o:d.ok):e.ok:=by
 refine ⟨by rw [h.b];exact o.b,by rw [h.rs];exact o.rs,by rw [h.rs];exact o.rn,λ m hm=>?_,?_,λ k hk=>?_,?_,?_⟩
 ·have:m.m∈d.ms.map (·.m):=by rw [<- h.ms];exact List.mem_map.mpr ⟨m,hm,rfl⟩
  obtain ⟨m',hm',e'⟩:=List.mem_map.mp this
  rw [<- e'];exact o.ms m' hm'
 ·have:=congrArg List.length h.ms
  rw [List.length_map,List.length_map] at this
  rw [this];exact o.mn
 ·have:k.c∈d.ks.map KDD.c:=by rw [<- h.ks];exact List.mem_map.mpr ⟨k,hk,rfl⟩
  obtain ⟨k',hk',e'⟩:=List.mem_map.mp this
  have q:=o.ks k' hk'
  injection e' with e1 e2
  injection e2 with e2 e3
  refine ⟨by rw [<- e1,<- e2,<- e3];exact q.ko,?_⟩
  have:=congrArg List.length e3
  rw [List.length_map,List.length_map] at this
  rw [<- this];exact q.le
 ·have:=congrArg List.length h.ks
  rw [List.length_map,List.length_map] at this
  rw [this];exact o.kn
 ·have:e.ks.map (·.ti)=d.ks.map (·.ti):=by
   have:=congrArg (List.map (·.1)) h.ks
   rw [List.map_map,List.map_map] at this
   exact this
  rw [this];exact o.nd
section
variable {P:Program} {w:World} {K:PySem.W.Frag} {mg:Str->Option Value} {base:Heap} {a:Ad}
abbrev DIT (K:PySem.W.Frag) (mg:Str->Option Value):=Df K mg "_law_is_tongue" "_law_is_tongue" (top 68) ["_law_tongue_here","_law_data_here"]
def DA (a:Ad):Sp:=λ vs H Q _=>∃ (x:Addr) (d e:DD) (os zs:List Addr),vs=[.ref x,.ref d.t]/\TD a H x e os zs/\e.mt H/\lZ d e/\d.at H/\d.ok/\Pure (.bl true) H Q
abbrev nIT:List Str:=["_law_tongue_here","_law_data_here","_law_bound","_law_rules","_law_melts_here","_law_kinds","_law_k","_law_kind_here"]
theorem GP:aS nIT ["_law_tongue_here","_law_data_here"] (aw (top 68)):=⟨rfl,rfl,rfl,by decide +kernel,rfl,by decide +kernel,by decide +kernel⟩
theorem DS (D:DIT K mg) (bP:qD K mg) (iD:F0 P w base 1 bP mw) (dR:DIR K mg) (mK:F0 P w base 2 dR (CW a)) (T:Txt K mg a):F0 P w base 3 D (DA a):=by
 refine Df.ok (k:=2) D.ex GP (λ vs H Q E h=>?_) (λ A outer s H vs Q E hr h=>?_)
 ·obtain ⟨x,d,e,os,zs,rfl,_⟩:=h;rfl
 ·obtain ⟨x,d,e,os,zs,rfl,td,mt,sd,da,do_,k⟩:=h
  have h64:=Ha hr
  obtain ⟨dx,fs,ra,qa,ka,hx,fl,hra,hqa,hka⟩:=id td.tg.ob
  have nd:=GP.nd
  have hu2:=vK hr
  have hu:=Nat.lt_of_succ_lt hu2
  have r40:=do_.rn
  have rn:os.length=d.rs.length:=by rw [td.rn,sd.rs]
  have kl:e.ks.length=d.ks.length:=by have:=congrArg List.length sd.ks;simpa using this
  have zn:zs.length=d.ks.length:=by rw [td.kn,kl]
  have ml:e.ms.length=d.ms.length:=by have:=congrArg List.length sd.ms;simpa using this
  have k4:=do_.kn
  have rlr:H d.rl=some (.lst ((d.rs.map (·.t)).map .ref)):=da.rl
  have mlr:H d.ml=some (.lst ((d.ms.map (·.t)).map .ref)):=da.ml
  have klr:H d.kl=some (.lst ((d.ks.map (·.t)).map .ref)):=da.kl
  refine ⟨_,(ae (ir (pv 1) (iu (n:=4) rfl (aM (az (i:=2) nd rfl (Or.inl rfl)) (aM (az (i:=3) nd rfl (Or.inr rfl)) (aM (az (i:=4) nd rfl (Or.inl rfl)) (aM (az (i:=5) nd rfl (Or.inl rfl)) cF))))))
 (ae (a8 (pw_or (bu (bt (aB dP (by rfl) T.bo boot_isinstance (ai (pv 0) (ai (bY (v:=.ref a.bH) (by rfl) T.eX rfl) aa))))) (pw_or (bu (bt (ay iD (hr.mono (by decide)) (by rfl) bP.mg bP.kp bP.bd .nil aW (ai (aF (pv 0) (by rfl)) aa)))) (pw_or1 (aL dB (aF (pv 0) (by rfl)) (pv 2) (aC _))))).pt
 (ar (aO cb))
 aH)
 (ae (a8 (pw_or (aL dB (aB aA (by rfl) T.br boot_len (ai (aF (pv 0) (by rfl)) aa)) (aB aA (by rfl) T.br boot_len (ai (pv 3) aa)) (aC _)) (pw_or (aL dB (aB aA (by rfl) T.br boot_len (ai (aF (pv 0) (by rfl)) aa)) (aB aA (by rfl) T.br boot_len (ai (pv 5) aa)) (aC _)) (pw_or1 (aL (zB h64) (aF (pv 0) (by rfl)) (pv 4) (aC _))))).pt
 (ar (aO cb))
 aH)
 (ae (a8 (bu (bt (aB (oQ rfl) (by rfl) T.gX boot_all (ai (hZ (N:=["_law_k","_law_rules","_law_tongue_here"]) (fs:=[(1,3),(2,0)]) (⟨rfl,by rfl,by rfl,by rfl,⟨⟨_,rfl,rfl,rfl,Or.inl rfl⟩,⟨⟨_,rfl,rfl,rfl,Or.inl rfl⟩,trivial⟩⟩⟩) rfl (dH (by rfl) T.cO (ai (aB aA (by rfl) T.br boot_len (ai (pv 3) aa)) aa)) (λ _ _ _ _ _=>(az (i:=0) (show List.Nodup (["_law_k","_law_rules","_law_tongue_here"]:List Str) from by decide +kernel) rfl (Or.inl rfl))) (λ _ _ _ _ _=>by exact cg) (λ _ _ _ _ _=>by exact (ay mK (hr.mono (by decide)) (by rfl) dR.mg dR.kp dR.bd .nil aW (ai (aY (nR K) (pU K (pv 2)) (pv 0) (λ _ _=>rfl)) (ai (aY (nR K) (pv 1) (pv 0) (λ _ _=>rfl)) aa))))) aa))))
 (ar (aO cb))
 aH)
 (ae (fu PassesOwn.never rfl (dH (by rfl) T.cO (ai (aB aA (by rfl) T.br boot_len (ai (pv 5) aa)) aa)) (az (i:=6) nd rfl (Or.inl rfl))
 (ae (aN (i:=7) nd rfl (Or.inl rfl) (aY aQ (aF (pv 0) (by rfl)) (pv 6) (λ _ _=>rfl)))
 (ar (a8 (pw_or (bu (bt (aB dP (by rfl) T.bo boot_isinstance (ai (pv 7) (ai (bY (v:=.ref a.Kind) (by rfl) T.iA rfl) aa))))) (pw_or1 (aL (AX h64) (fT (ai (aF (pv 7) (by rfl)) (ai (aF (pv 7) (by rfl)) (ai (aF (pv 7) (by rfl)) aa)))) (aY aQ (pv 5) (pv 6) (λ _ _=>rfl)) (aC _)))).pt
 (ar (aO cb))
 aH))))
 (ar (aO cb))))))),?_⟩
  lia
  refine dg (SqT.of da.t) rfl ?_
  refine ⟨_,_,rfl,_,_,rfl,_,_,rfl,_,_,rfl,rfl,?_⟩
  lia
  refine ⟨_,_,_,_,_,rfl,.v (.ins hx T.cl T.clc T.bq.gs T.bq.tk T.clm),rfl,T.wZ,?_⟩
  lia
  refine ⟨x,_,dx,fs,_,rfl,hx,T.cl,T.fN,fl.bound,?_⟩
  lia
  refine ⟨_,rfl,?_⟩
  lia
  refine ⟨x,_,dx,fs,_,rfl,hx,T.cl,T.fN,fl.bound,?_⟩
  lia
  rw [decide_eq_true (show e.b=d.b from sd.b)]
  lia
  refine ⟨x,_,dx,fs,_,rfl,hx,T.cl,T.fD,fl.rules,?_⟩
  lia
  refine ⟨ra,_,rfl,.inl (SqL.of hra),?_⟩
  lia
  refine ⟨d.rl,_,rfl,.inl (SqL.of rlr),?_⟩
  lia
  have en1:decide (((os.map V.ref).length:Int)=(((d.rs.map (·.t)).map V.ref).length:Nat))=true:=decide_eq_true (by rw [List.length_map,List.length_map,List.length_map,rn])
  rw [en1]
  lia
  refine ⟨x,_,dx,fs,_,rfl,hx,T.cl,T.eO,fl.kinds,?_⟩
  lia
  refine ⟨ka,_,rfl,.inl (SqL.of hka),?_⟩
  lia
  refine ⟨d.kl,_,rfl,.inl (SqL.of klr),?_⟩
  lia
  have en2:decide (((zs.map V.ref).length:Int)=(((d.ks.map (·.t)).map V.ref).length:Nat))=true:=decide_eq_true (by rw [List.length_map,List.length_map,List.length_map,zn])
  rw [en2]
  lia
  refine ⟨x,_,dx,fs,_,rfl,hx,T.cl,T.fM,fl.yx,?_⟩
  lia
  refine ⟨1,qa,d.ml,(e.ms.map (·.t)).map .ref,(d.ms.map (·.t)).map .ref,rfl,rfl,hqa,mlr,by simp [ml],by decide,λ i y z hy hz=>?_,?_⟩
  ·rw [List.getElem?_map,List.getElem?_map] at hy hz
   obtain ⟨array_get_dec,hy1,rfl⟩:=Option.map_eq_some_iff.mp hy
   obtain ⟨w2,hz1,rfl⟩:=Option.map_eq_some_iff.mp hz
   obtain ⟨m1,hm1,rfl⟩:=Option.map_eq_some_iff.mp hy1
   obtain ⟨m2,hm2,rfl⟩:=Option.map_eq_some_iff.mp hz1
   have em:m1.m=m2.m:=by
    have h1:(e.ms.map (·.m))[i]?=some m1.m:=by rw [List.getElem?_map,hm1];rfl
    have h2:(d.ms.map (·.m))[i]?=some m2.m:=by rw [List.getElem?_map,hm2];rfl
    rw [sd.ms,h2] at h1
    exact (Option.some.inj h1).symm
   have t1:=mt.1 m1 (List.mem_of_getElem? hm1)
   have t2:=da.ms m2 (List.mem_of_getElem? hm2)
   rw [em] at t1
   refine .tup (n:=0) t1 t2 rfl λ j u v hu hv=>?_
   match j,hu,hv with
   | 0,hu,hv=>cases hu;cases hv;exact .str _
   | 1,hu,hv=>cases hu;cases hv;exact .str _
   | 2,hu,hv=>cases hu;cases hv;exact .str _
   | (j+3),hu,_=>cases hu
  lia
  refine ⟨d.rl,_,rfl,.inl (SqL.of rlr),?_⟩
  lia
  rw [List.length_map,List.length_map]
  refine ⟨_,rfl,by omega,by omega,?_⟩
  have lcS2:((d.rs.length:Nat):Int).toNat=d.rs.length:=Int.toNat_natCast _
  refine lcG (λ n ws=>ws=(List.replicate n true).map V.bl) (vJ (lo:=0) (n:=((d.rs.length:Nat):Int).toNat)) (by rw [lcS2];exact av (by omega)) rfl (λ D2 j ws H2 hj hD2 s2 e2 r2=>?_) (λ D2 H2 ws hD2 s2 e2 r2=>?_)
  ·rw [lcS2] at hj
   have hj':j<os.length:=by omega
   lia
   refine ⟨gY rfl,?_⟩
   lia
   refine ⟨x,_,dx,fs,_,rfl,s2 _ _ hx,T.cl,T.fD,fl.rules,?_⟩
   lia
   refine ⟨ra,_,_,.ref os[j],rfl,rfl,SqL.of (s2 _ _ hra),(by rw [Int.zero_add];exact aX (j:=j) (by rw [List.getElem?_map,List.getElem?_eq_getElem hj'];rfl)),?_⟩
   lia
   refine ⟨d.rl,_,_,.ref d.rs[j].t,rfl,rfl,SqL.of (s2 _ _ rlr),(by rw [Int.zero_add];exact aX (j:=j) (by rw [List.getElem?_map,List.getElem?_map,List.getElem?_eq_getElem hj];rfl)),?_⟩
   lia
   obtain ⟨n,R,hn⟩:=td.rs j os[j] d.rs[j] (List.getElem?_eq_getElem hj') (by rw [sd.rs];exact List.getElem?_eq_getElem hj)
   refine ⟨os[j],d.rs[j],rfl,⟨n,R.same s2,s2 _ _ hn⟩,(da.rs _ (List.getElem_mem hj)).same s2,λ H3 s3=>?_⟩
   exact jJ hD2 s2 e2 s3 (by rw [r2,List.replicate_succ',List.map_append];rfl)
  subst r2
  lia
  refine ⟨D2,_,rfl,SqL.of e2,?_⟩
  refine ⟨_,rfl,?_⟩
  rw [show (List.replicate ((d.rs.length:Nat):Int).toNat true).all id=true by simp]
  lia
  refine ⟨d.kl,_,rfl,.inl (SqL.of (s2 _ _ klr)),?_⟩
  lia
  rw [List.length_map,List.length_map]
  refine ⟨_,rfl,by omega,by omega,?_⟩
  refine forR (λ i σ H3=>∃ v6 v7,σ=[some (V.ref x),some (V.ref d.t),some (V.int d.b),some (V.ref d.rl),some (V.ref d.ml),some (V.ref d.kl),v6,v7]/\ax H H3) ⟨_,_,rfl,s2⟩ ?_ ?_
  ·rintro i σ H3 hi ⟨v6,v7,rfl,s3⟩
   rw [Int.toNat_natCast] at hi
   have hi':i<zs.length:=by omega
   have ko:=do_.ks d.ks[i] (List.getElem_mem hi)
   have kat:=(da.ks d.ks[i] (List.getElem_mem hi)).same s3
   have hie:i<e.ks.length:=by omega
   obtain ⟨n,R,hn⟩:=td.ks i zs[i] e.ks[i] (List.getElem?_eq_getElem hi') (List.getElem?_eq_getElem hie)
   have ec:e.ks[i].c=d.ks[i].c:=by
    have h1:(e.ks.map KDD.c)[i]?=some e.ks[i].c:=by rw [List.getElem?_map,List.getElem?_eq_getElem hie];rfl
    have h2:(d.ks.map KDD.c)[i]?=some d.ks[i].c:=by rw [List.getElem?_map,List.getElem?_eq_getElem hi];rfl
    rw [sd.ks,h2] at h1
    exact (Option.some.inj h1).symm
   have hmt:∀ p∈(e.ks[i]).ps,H3 p.t=some (dA p.m):=λ p hp=>s3 _ _ (mt.2 _ (List.getElem_mem hie) p hp)
   have ek:(d.ks.map (·.t))[i]?=some d.ks[i].t:=by rw [List.getElem?_map,List.getElem?_eq_getElem hi];rfl
   generalize d.ks[i]=kd at ko kat ek ec
   generalize e.ks[i]=ke at R hn ec hmt
   have e1:ke.ti=kd.ti:=congrArg (·.1) ec
   have e2:ke.en=kd.en:=congrArg (·.2.1) ec
   have e3:ke.ps.map (·.m)=kd.ps.map (·.m):=congrArg (·.2.2) ec
   rw [e1,e2] at R
   obtain ⟨kx,kf,r1,r2⟩:=(R.same s3).ob
   have hn3:=s3 _ _ hn
   lia
   refine ⟨x,_,dx,fs,_,rfl,s3 _ _ hx,T.cl,T.eO,fl.kinds,?_⟩
   lia
   refine ⟨ka,_,_,.ref zs[i],rfl,rfl,SqL.of (s3 _ _ hka),(by rw [Int.zero_add];exact aX (j:=i) (by rw [List.getElem?_map,List.getElem?_eq_getElem hi'];rfl)),?_⟩
   lia
   refine ⟨_,_,_,_,_,rfl,.v (.ins r1 T.clK T.ER T.bq.gs T.bq.tk T.FI),rfl,T.zp,?_⟩
   lia
   refine ⟨zs[i],_,kx,kf,_,rfl,r1,T.clK,T.dm,r2.title,?_⟩
   lia
   refine ⟨zs[i],_,kx,kf,_,rfl,r1,T.clK,T.dM,r2.tX,?_⟩
   lia
   refine ⟨zs[i],_,kx,kf,_,rfl,r1,T.clK,T.eQ,r2.turns,?_⟩
   lia
   refine ⟨by show 3<=sizeLine;decide,λ t4 h4=>?_⟩
   have s4:=ax.upd (o:=.tup [V.str kd.ti,.str kd.en,.ref n]) h4
   have g4:(upd H3 t4 (.tup [V.str kd.ti,.str kd.en,.ref n])) t4=some (.tup [V.str kd.ti,.str kd.en,.ref n]):=ag
   generalize upd H3 t4 _=H4 at s4 g4 ⊢
   lia
   refine ⟨d.kl,_,_,.ref kd.t,rfl,rfl,SqL.of (s4 _ _ (s3 _ _ klr)),(by rw [Int.zero_add];exact aX (j:=i) (by rw [List.getElem?_map,ek];rfl)),?_⟩
   refine ⟨2,t4,kd.t,_,_,rfl,rfl,g4,s4 _ _ kat.1,rfl,by decide,λ j u v hu hv=>?_,?_⟩
   ·match j,hu,hv with
    | 0,hu,hv=>cases hu;cases hv;exact .str _
    | 1,hu,hv=>cases hu;cases hv;exact .str _
    | 2,hu,hv=>
     cases hu;cases hv
     refine .lst (n:=1) (s4 _ _ hn3) (s4 _ _ kat.2.1) (by unfold gA;have:=congrArg List.length e3;simpa using this) λ j u v hu hv=>?_
     unfold gA at hu hv
     rw [List.getElem?_map,List.getElem?_map] at hu hv
     obtain ⟨array_get_dec,hu1,rfl⟩:=Option.map_eq_some_iff.mp hu
     obtain ⟨w2,hv1,rfl⟩:=Option.map_eq_some_iff.mp hv
     obtain ⟨p1,hp1,rfl⟩:=Option.map_eq_some_iff.mp hu1
     obtain ⟨p2,hp2,rfl⟩:=Option.map_eq_some_iff.mp hv1
     have em:p1.m=p2.m:=by
      have h1:(ke.ps.map (·.m))[j]?=some p1.m:=by rw [List.getElem?_map,hp1];rfl
      have h2:(kd.ps.map (·.m))[j]?=some p2.m:=by rw [List.getElem?_map,hp2];rfl
      rw [e3,h2] at h1
      exact (Option.some.inj h1).symm
     have t1:=hmt p1 (List.mem_of_getElem? hp1)
     have t2:=kat.2.2 p2 (List.mem_of_getElem? hp2)
     rw [em] at t1
     refine .tup (n:=0) (s4 _ _ t1) (s4 _ _ t2) rfl λ l u v hu hv=>?_
     match l,hu,hv with
     | 0,hu,hv=>cases hu;cases hv;exact .str _
     | 1,hu,hv=>cases hu;cases hv;exact .str _
     | (l+2),hu,_=>cases hu
    | (j+3),hu,_=>cases hu
   lia
   exact ⟨_,_,rfl,s3.trans s4⟩
  ·rintro σ H3 ⟨v6,v7,rfl,s3⟩
   lia
   exact k H3 s3
end
theorem uZ {ys:List Str} (h0:ys≠[]) (i j g:Int):HO.lst (ys.map .str)≠.lst [.int i,.int j,.int g]:=λ e=>by
 cases ys with
 | nil=>exact h0 rfl
 | cons y r=>injection e with e;injection e with e _;cases e
theorem LAt.kb {H H':Hp} {ls:List LR} {q:Addr} {c:Nat} (h:LAt H ls) (ao:bh H q c) (kb:KB q H H'):LAt H' ls:=λ x hx=>⟨kb _ _ (bR ao (h x hx).1 (uZ (h x hx).2)) (h x hx).1,(h x hx).2⟩
theorem bh.off {H:Hp} {q M:Addr} {c:Nat} {o:HO} (h:bh H q c) (n:q≠M):bh (upd H M o) q c:=let ⟨i,j,g,a,b⟩:=h.ob;⟨i,j,g,by rw [aq n];exact a,b⟩
theorem xn {rw:Rw}:rw.key="word"->∃ r,rw=.word r:=λ h=>by
 cases rw with
 | word r=>exact ⟨r,rfl⟩
 | rule r=>exact absurd h (show ¬ ("rule":Str)="word" by decide)
 | bound r=>exact absurd h (show ¬ ("bound":Str)="word" by decide)
 | gk m=>exact absurd h (show ¬ ("melt":Str)="word" by decide)
 | kind t e=>exact absurd h (show ¬ ("kind":Str)="word" by decide)
 | turn m=>exact absurd h (show ¬ ("turn":Str)="word" by decide)
section
variable {P:Program} {w:World} {K:PySem.W.Frag} {mg:Str->Option Value} {base:Heap} {a:Ad}
abbrev DOR (K:PySem.W.Frag) (mg:Str->Option Value):=Df K mg "_law_other_rows" "_law_other_rows" (top 70) ["_law_script","_law_at","_law_rows_here"]
def Dh (K:PySem.W.Frag):Sp:=λ vs H Q _=>∃ (p q l:Addr) (ns:List Int) (c:Nat) (ls:List LR) (rws:List Rw),vs=[.ref p,.ref q,.ref l]/\Scr K q H p ns/\ns.length<=63/\bh H q c/\c<=900000/\H l=some (.lst (bL ls))/\LAt H ls/\ls.map (·.row)=rws.map Rw.words/\(∀ x∈rws,x.ok)/\rws.length<=200 /\
 ∀ (H':Hp) (m:Addr) (ls':List LR) (rws':List Rw),KB q H H'->bh H' q (c+200)->H' m=some (.lst (bL ls'))->LAt H' ls'->ls'.map (·.row)=rws'.map Rw.words->(∀ x∈rws',x.ok)->rws'.length=rws.length->(∀ (i:Nat) x y,rws[i]?=some x->rws'[i]?=some y->oG x y)->Q (.ref m) H'
abbrev nOR:List Str:=["_law_script","_law_at","_law_rows_here","_law_made","_law_row","_law_rest"]
theorem Eh:aS nOR ["_law_script","_law_at","_law_rows_here"] (aw (top 70)):=⟨rfl,rfl,rfl,by decide +kernel,rfl,by decide +kernel,by decide +kernel⟩
theorem Gk (D:DOR K mg) (ak:iK K mg) (aP:F0 P w base 1 ak (fz K)) (T:Txt K mg a):F0 P w base 2 D (Dh K):=by
 refine Df.ok (k:=1) D.ex Eh (λ vs H Q E h=>?_) (λ A outer s H vs Q E hr h=>?_)
 ·obtain ⟨p,q,l,ns,c,ls,rws,rfl,_⟩:=h;rfl
 ·obtain ⟨p,q,l,ns,c,ls,rws,rfl,sc,hlen,ao,hc,hl,la,erow,rok,r200,k⟩:=h
  have nd:=Eh.nd
  have el:ls.length=rws.length:=by have:=congrArg List.length erow;simpa using this
  have hl:H l=some (.lst ((ls.map (·.t)).map .ref)):=hl
  have lq:l≠q:=bR ao hl cW
  refine ⟨_,(ae (aN (i:=3) nd rfl (Or.inl rfl) (a5 aa))
 (ae (fu PassesOwn.never rfl (bF (pv 2)) (az (i:=4) nd rfl (Or.inl rfl))
 (ae (a8 (pw_and (aL cj (aY aQ (pv 4) af (λ _ _=>rfl)) aD (aC _)) (pw_and1 (aL cj (au aG (ay aP (hr.mono (by decide)) (by rfl) ak.mg ak.kp ak.bd .nil aW (ai (pv 0) (ai (pv 1) aa))) af) af (aC _)))).pt
 (ae (aN (i:=5) nd rfl (Or.inl rfl) (bf ji (by rfl) T.jq (by decide +kernel) (ai (au aG (bf jj (by rfl) T.iG (by decide +kernel) (ai (aY aQ (pv 4) af (λ _ _=>rfl)) aa)) af) aa)))
 (ar (aN (i:=4) nd rfl (Or.inl rfl) (a5 (ai aD (ai (aY aQ (pv 4) af (λ _ _=>rfl)) (ai (aY aQ (pv 4) af (λ _ _=>rfl)) (ai aD (ai (pv 5) (ai (pv 5) (ai aD (ai (aY aQ (pv 4) af (λ _ _=>rfl)) aa))))))))))))
 aH)
 (ar (bx (b6 PySem.F.plainAttrs_list PySem.F.slot_list_append PySem.F.type_list_append bE (pv 3) (ai (pv 4) aa))))))
 (ar (aO (pv 3))))),?_⟩
  lia
  refine ⟨by show 0<=sizeLine;decide,λ M hM=>?_⟩
  have nMq:q≠M:=by obtain ⟨i,n,g,hq,_⟩:=ao.ob;exact aj hq hM
  have nMl:l≠M:=aj hl hM
  have s1:ax H _:=ax.upd (o:=.lst []) hM
  have g1:(upd H M (.lst [])) M=some (.lst []):=ag
  generalize upd H M _=H1 at s1 g1 ⊢
  lia
  refine ⟨l,rfl,⟨_,SqL.of (s1 _ _ hl)⟩,forL (K:=K) (a:=l) (xs:=(ls.map (·.t)).map .ref) (λ i σ H2=>∃ (v4 v5:Option V) (ls2:List LR) (rws2:List Rw),σ=[some (V.ref p),some (V.ref q),some (V.ref l),some (V.ref M),v4,v5]/\KB q H H2/\bh H2 q (c+i)/\H2 M=some (.lst (bL ls2))/\LAt H2 ls2/\ls2.map (·.row)=rws2.map Rw.words/\(∀ x∈rws2,x.ok)/\rws2.length=i/\∀ (j:Nat) x y,rws[j]?=some x->rws2[j]?=some y->oG x y)
   ⟨none,none,[],[],rfl,.of s1,ao.same s1,g1,λ x hx=>(nomatch hx),rfl,λ x hx=>(nomatch hx),rfl,λ j x y _ h=>(nomatch h)⟩ (λ i σ H2 _ ⟨_,_,_,_,_,kb,_⟩=>SqL.of (kb _ _ lq hl)) ?_ ?_⟩
  ·rintro i v σ H2 hv ⟨v4,v5,ls2,rws2,rfl,kb2,ao2,hM2,la2,er2,ok2,hi2,sm2⟩
   rw [List.getElem?_map,List.getElem?_map] at hv
   obtain ⟨array_get_dec,hv1,rfl⟩:=Option.map_eq_some_iff.mp hv
   obtain ⟨x,hx,rfl⟩:=Option.map_eq_some_iff.mp hv1
   have hi:i<ls.length:=(List.getElem?_eq_some_iff.mp hx).1
   obtain ⟨rw_,hrw⟩:∃ y,rws[i]?=some y:=⟨_,List.getElem?_eq_getElem (by omega)⟩
   have ex:x.row=rw_.words:=by
    have h1:(ls.map (·.row))[i]?=some x.row:=by rw [List.getElem?_map,hx];rfl
    have h2:(rws.map Rw.words)[i]?=some rw_.words:=by rw [List.getElem?_map,hrw];rfl
    rw [erow,h2] at h1
    exact (Option.some.inj h1).symm
   have ro:=rok rw_ (List.mem_of_getElem? hrw)
   have la2':=la.kb ao kb2
   obtain ⟨hx2,hx3⟩:=la2' x (List.mem_of_getElem? hx)
   obtain ⟨t,et⟩:=kC rw_
   have hx4:H2 x.t=some (.lst (.str rw_.key::t.map .str)):=by rw [hx2,ex,et];rfl
   refine jf ?_
   (repeat array_mem_dec)
   refine iX (λ σ2 H3=>∃ (u:Addr) (v5:Option V) (rw':Rw),σ2=[some (V.ref p),some (V.ref q),some (V.ref l),some (V.ref M),some (V.ref u),v5]/\KB q H2 H3/\bh H3 q (c+i+1)/\H3 u=some (.lst (rw'.words.map .str))/\rw'.ok/\oG rw_ rw') (λ nx' hj=>?_) ?_
   ·lia
    refine ⟨x.t,_,0,_,rfl,rfl,SqL.of hx4,aX (j:=0) rfl,?_⟩
    lia
    refine w_ite (λ z1=>?_) (λ z1=>?_)
    ·obtain ⟨r,rfl⟩:=xn (of_decide_eq_true z1)
     obtain ⟨rok',hw⟩:=(show r.ok/\wr r=true from ro)
     obtain ⟨y,e1,e2,e3,e4⟩:=xD hw
     have e5:=yS rok' hw
     have hx5:H2 x.t=some (.lst [.str "word",.str (aK r.l),.str y]):=by rw [hx2,ex];show some (HO.lst (V.str "word"::V.str (aK r.l)::r.ys.map V.str))=_;rw [e1];rfl
     lia
     refine ⟨p,q,ns,_,rfl,sc.kb kb2,hlen,ao2,by omega,λ H3 n n0 n1 kb3 ao3=>?_⟩
     have hx6:=kb3 _ _ (bR ao2 hx5 (by intro _ _ _ z;cases z)) hx5
     lia
     refine w_ite (λ z2=>?_) (λ z2=>?_)
     ·lia
      refine ⟨x.t,_,1,_,rfl,rfl,SqL.of hx6,aX (j:=1) rfl,?_⟩
      refine ⟨aK r.l,r.l,rfl,i9 rok'.l,mr rok'.l,?_⟩
      lia
      have m0:=bw r.l (show (0:Int)<2 by decide)
      have m1:=mod_lt r.l (show (0:Int)<2 by decide)
      refine ⟨_,rfl,Nat.lt_trans (c6 m0 (by omega)) (by decide),?_⟩
      lia
      refine ⟨x.t,_,1,_,rfl,rfl,SqL.of hx6,aX (j:=1) rfl,?_⟩
      lia
      refine ⟨x.t,_,1,_,rfl,rfl,SqL.of hx6,aX (j:=1) rfl,?_⟩
      lia
      refine ⟨x.t,_,2,_,rfl,rfl,SqL.of hx6,aX (j:=2) rfl,?_⟩
      lia
      refine ⟨by show 8<=sizeLine;decide,λ u hu=>?_⟩
      refine hj _ _ ⟨u,_,.rule r,rfl,kb3.trans (KB.put hu),(ao3.same (ax.upd hu)),?_,rok',.inr ⟨r,rfl,rfl⟩⟩
      have ew:(Rw.rule r).words.map V.str=[.str "rule",.str (aK r.l),.str (aK r.l),.str "2",.str (aK (r.l % 2)),.str (aK (r.l % 2)),.str ":",.str y]:=by
       show V.str "rule"::V.str (aK r.l)::V.str (aK r.h)::V.str (aK r.b)::V.str (aK r.f)::V.str (aK r.e)::V.str ":"::r.ys.map V.str=_
       rw [e1,e2,e3,e4,e5]
       rfl
      rw [ew]
      exact ag
     ·exact hj _ _ ⟨x.t,_,.word r,rfl,kb3,ao3,by rw [hx6];show _=some (HO.lst (V.str "word"::V.str (aK r.l)::r.ys.map V.str));rw [e1];rfl,ro,.inl rfl⟩
    ·exact hj _ _ ⟨x.t,_,rw_,rfl,KB.refl _ _,ao2.mono (by omega),by rw [<- ex];exact hx2,ro,.inl rfl⟩
   ·rintro σ2 H3 ⟨u,v5,rw',rfl,kb3,ao3,hu,ro',sm⟩
    have hM3:=kb3 _ _ nMq.symm hM2
    lia
    refine ⟨.inl ⟨rfl,_,SqL.of hM3⟩,?_⟩
    lia
    refine ⟨M,_,_,rfl,rfl,hM3,(eF (by unfold bL;rw [List.length_map,List.length_map];have:=congrArg List.length er2;simp at this;omega)),?_⟩
    have la3:=la2.kb ao2 kb3
    have nw:rw'.words≠[]:=wR rw'
    have uM:u≠M:=fP hu nw (show H3 M=some (.lst ((ls2.map (·.t)).map .ref)) from hM3)
    have lan:LAt H3 (ls2++[⟨rw'.words,u⟩]):=la3.app (.one hu nw)
    lia
    refine ⟨_,_,ls2++[⟨rw'.words,u⟩],rws2++[rw'],rfl,λ c' o' hc he=>by rw [aq (aj he hM)];exact (kb2.trans kb3) c' o' hc he,ao3.off nMq,?_,lan.put (show H3 M=some (.lst ((ls2.map (·.t)).map .ref)) from hM3),by simp [er2],?_,by simp [hi2],?_⟩
    ·rw [dz];exact ag
    ·intro z hz
     rcases List.mem_append.mp hz with hz | hz
     ·exact ok2 z hz
     ·rw [List.mem_singleton.mp hz];exact ro'
    ·intro j x' y' hx' hy'
     rcases Nat.lt_trichotomy j rws2.length with z | z | z
     ·rw [List.getElem?_append_left z] at hy'
      exact sm2 j x' y' hx' hy'
     ·subst z
      rw [List.getElem?_append_right (Nat.le_refl _),Nat.sub_self] at hy'
      cases hy'
      rw [hi2,hrw] at hx'
      cases hx'
      exact sm
     ·rw [List.getElem?_eq_none (by simp;omega)] at hy';cases hy'
  ·rintro σ H2 ⟨v4,v5,ls2,rws2,rfl,kb2,ao2,hM2,la2,er2,ok2,hi2,sm2⟩
   rw [List.length_map,List.length_map] at hi2 ao2
   lia
   exact k H2 M ls2 rws2 kb2 (ao2.mono (by omega)) hM2 la2 er2 ok2 (by omega) sm2
end
structure Rg (r:List Str):Prop where
 ne:r≠[]
 le:r.length<=15
 w:∀ x∈r,x≠""/\32 ∉ cpL x/\10 ∉ cpL x/\x.length<=63
def keep (r:List Str):Bool:=!r.isEmpty
structure Pl (Ls:List Str) (rows:List (List Str)) (pls:List Nat):Prop where
 len:pls.length=rows.length
 at':∀ (k:Nat) pl r,pls[k]?=some pl->rows[k]?=some r->(∃ z,Ls[pl]?=some z/\ws z=r)/\((Ls.take pl).map ws).filter keep=rows.take k
 all:(Ls.map ws).filter keep=rows
 lf:∀ z∈Ls,10 ∉ cpL z
theorem Pl.nil:Pl [] [] []:=⟨rfl,λ k pl r h=>(nomatch h),rfl,λ z h=>(nomatch h)⟩
theorem Pl.BL {Ls:List Str} {rows:List (List Str)} {pls:List Nat} (h:Pl Ls rows pls) {k pl:Nat} {r:List Str} (e1:pls[k]?=some pl) (e2:rows[k]?=some r):pl<Ls.length:=by
 obtain ⟨⟨z,hz,_⟩,_⟩:=h.at' k pl r e1 e2
 exact (List.getElem?_eq_some_iff.mp hz).1
theorem jT:∀ {bs:List Str},(∀ z∈bs,ws z=[])->(bs.map ws).filter keep=[]
 | [],_=>rfl
 | b::bs,h=>by rw [List.map_cons,h b (by simp),List.filter_cons_of_neg (by decide),jT λ z hz=>h z (List.mem_cons_of_mem _ hz)]
theorem Pl.blank {Ls bs:List Str} {rows:List (List Str)} {pls:List Nat} (h:Pl Ls rows pls) (hb:∀ z∈bs,ws z=[]/\10 ∉ cpL z):Pl (Ls++bs) rows pls:=by
 refine ⟨h.len,λ k pl r e1 e2=>?_,?_,λ z hz=>?_⟩
 ·have lt:=h.BL e1 e2
  obtain ⟨⟨z,hz,e3⟩,e4⟩:=h.at' k pl r e1 e2
  exact ⟨⟨z,by rw [List.getElem?_append_left lt];exact hz,e3⟩,by rw [List.take_append_of_le_length (Nat.le_of_lt lt)];exact e4⟩
 ·rw [List.map_append,List.filter_append,h.all,jT λ z hz=>(hb z hz).1,List.append_nil]
 ·rcases List.mem_append.mp hz with hz | hz
  ·exact h.lf z hz
  ·exact (hb z hz).2
theorem Pl.row {Ls:List Str} {rows:List (List Str)} {pls:List Nat} {z:Str} {r:List Str} (h:Pl Ls rows pls) (e:ws z=r) (n:r≠[]) (hz:10 ∉ cpL z):Pl (Ls++[z]) (rows++[r]) (pls++[Ls.length]):=by
 have kr:keep r=true:=by cases r with | nil=>exact absurd rfl n | cons _ _=>rfl
 refine ⟨by simp [h.len],λ k pl x e1 e2=>?_,?_,λ y hy=>?_⟩
 ·rcases Nat.lt_trichotomy k pls.length with lt | q | lt
  ·rw [List.getElem?_append_left lt] at e1
   have lt':k<rows.length:=by rw [<- h.len];exact lt
   rw [List.getElem?_append_left lt'] at e2
   have pt:=h.BL e1 e2
   obtain ⟨⟨y,hy,e3⟩,e4⟩:=h.at' k pl x e1 e2
   exact ⟨⟨y,by rw [List.getElem?_append_left pt];exact hy,e3⟩,by rw [List.take_append_of_le_length (Nat.le_of_lt pt),List.take_append_of_le_length (Nat.le_of_lt lt')];exact e4⟩
  ·subst q
   rw [List.getElem?_append_right (Nat.le_refl _),Nat.sub_self] at e1
   rw [h.len,List.getElem?_append_right (Nat.le_refl _),Nat.sub_self] at e2
   cases e1
   cases e2
   refine ⟨⟨z,by rw [List.getElem?_append_right (Nat.le_refl _),Nat.sub_self];rfl,e⟩,?_⟩
   rw [List.take_left,h.len,List.take_left]
   exact h.all
  ·rw [List.getElem?_eq_none (by simp;omega)] at e1;cases e1
 ·rw [List.map_append,List.filter_append,h.all,List.map_singleton,e,List.filter_cons_of_pos kr];rfl
 ·rcases List.mem_append.mp hy with hy | hy
  ·exact h.lf y hy
  ·rw [List.mem_singleton.mp hy];exact hz
theorem _root_.L2.gG.lf {b:Str} (h:gG b):10 ∉ cpL b:=λ hm=>absurd (h 10 hm) (by decide)
theorem Pl.rows {Ls:List Str} {rows:List (List Str)} {pls:List Nat} (h:Pl Ls rows pls):dZ (Txt.join "\n" Ls)=rows:=by
 have e:Txt.join "\n" Ls=Str.join ⟨#[10]⟩ Ls:=StrLaws.glued_eq_join _ _
 rw [e,pC h.lf]
 exact h.all
def ends:List Str:=["\n","","\n \n"]
theorem qR {Ls:List Str} (n:Ls≠[]) {e:Str} (h:e∈ends):∃ bs:List Str,bs.length<=2/\(∀ z∈bs,ws z=[]/\10 ∉ cpL z)/\Txt.join "\n" Ls++e=Txt.join "\n" (Ls++bs):=by
 have j:∀ L:List Str,Txt.join "\n" L=Str.join ⟨#[10]⟩ L:=λ L=>StrLaws.glued_eq_join _ _
 have b1:ws ""=[]/\10 ∉ cpL "":=⟨oh,List.not_mem_nil⟩
 have b2:ws " "=[]/\10 ∉ cpL " ":=⟨lB (λ c hc=>by have:c∈[32]:=hc;simpa using this),by decide⟩
 simp only [ends,List.mem_cons,List.not_mem_nil,or_false] at h
 rcases h with rfl | rfl | rfl
 ·refine ⟨[""],by decide,λ z hz=>by rw [List.mem_singleton.mp hz];exact b1,?_⟩
  rw [j,j,join_snoc 10 "" n]
  exact cD (by rw [aU,aU,aU,show ("":Str).cps.toList=[] from rfl,List.append_nil];rfl)
 ·exact ⟨[],by decide,λ z hz=>(nomatch hz),by rw [List.append_nil];exact cD (by rw [aU];exact List.append_nil _)⟩
 ·refine ⟨[" ",""],by decide,λ z hz=>?_,?_⟩
  ·simp only [List.mem_cons,List.not_mem_nil,or_false] at hz
   rcases hz with rfl | rfl
   ·exact b2
   ·exact b1
  ·rw [j,j,show Ls++[(" ":Str),""]=(Ls++[(" ":Str)])++[("":Str)] by simp,join_snoc 10 "" (by simp),join_snoc 10 " " n]
   exact cD (by rw [aU,aU,aU,aU,aU,show ("":Str).cps.toList=[] from rfl,List.append_nil,List.append_assoc,List.append_assoc];rfl)
theorem bh.put {H:Hp} {q M:Addr} {c:Nat} {o:HO} (h:bh H q c) (n:H M=none):bh (upd H M o) q c:=h.same (ax.upd n)
theorem blank_of {r:Str} (h:∀ c∈r.cps.toList,c∈(" ":Str).cps.toList):gG r:=λ c hc=>List.mem_singleton.mp (h c hc)
theorem zE {ri:List Str} {rl:Str}:∀ (l:List Str) (h:l≠[]),l=ri++[rl]->l.getLast h=rl:=by rintro _ h rfl;simp
theorem uA {x y own:Int} (h:own=0∨own=1):∃ mm,atI [V.int x,V.int y] own=some (.int mm)/\(mm=x∨mm=y):=by
 rcases h with rfl | rfl
 ·exact ⟨x,aX (j:=0) rfl,.inl rfl⟩
 ·exact ⟨y,aX (j:=1) rfl,.inr rfl⟩
section
variable {P:Program} {w:World} {K:PySem.W.Frag} {mg:Str->Option Value} {base:Heap} {a:Ad}
abbrev DLo (K:PySem.W.Frag) (mg:Str->Option Value):=Df K mg "_law_loose" "_law_loose" (top 69) ["_law_script","_law_at","_law_rows_here"]
def Dt (K:PySem.W.Frag):Sp:=λ vs H Q _=>∃ (p q l:Addr) (ns:List Int) (c:Nat) (ls:List LR),vs=[.ref p,.ref q,.ref l]/\Scr K q H p ns/\ns.length<=63/\bh H q c/\c<=900000/\H l=some (.lst (bL ls))/\LAt H ls/\(∀ x∈ls,Rg x.row)/\0<ls.length/\ls.length<=200 /\
 ∀ (H':Hp) (t M:Addr) (Ls:List Str) (pls:List Nat),KB q H H'->bh H' q (c+202)->H' t=some (.tup [.str (Txt.join "\n" Ls),.ref M])->H' M=some (.lst (pls.map λ (n:Nat)=>V.int (n:Int)))->(Txt.join "\n" Ls).length<=2000000->Ls≠[]->Pl Ls (ls.map (·.row)) pls->Q (.ref t) H'
abbrev nLo:List Str:=["_law_script","_law_at","_law_rows_here","_law_lines","_law_places","_law_wide","_law_k","_law_row","_law_n","_law_own","_law_part","_law_line","_law_word","_law_end"]
theorem GC:aS nLo ["_law_script","_law_at","_law_rows_here"] (aw (top 69)):=⟨rfl,rfl,rfl,by decide +kernel,rfl,by decide +kernel,by decide +kernel⟩
theorem EJ (D:DLo K mg) (ak:iK K mg) (aP:F0 P w base 1 ak (fz K)) (T:Txt K mg a):F0 P w base 2 D (Dt K):=by
 refine Df.ok (k:=1) D.ex GC (λ vs H Q E h=>?_) (λ A outer s H vs Q E hr h=>?_)
 ·obtain ⟨p,q,l,ns,c,ls,rfl,_⟩:=h;rfl
 ·obtain ⟨p,q,l,ns,c,ls,rfl,sc,hlen,ao,hc,hl,la,rg,l0,l200,k⟩:=h
  have nd:=GC.nd
  have hl:H l=some (.lst ((ls.map (·.t)).map .ref)):=hl
  have lq:l≠q:=bR ao hl cW
  have e1s:(" ":Str).length=1:=by decide
  refine ⟨_,(ae (aN (i:=3) nd rfl (Or.inl rfl) (a5 aa))
 (ae (aN (i:=4) nd rfl (Or.inl rfl) (a5 aa))
 (ae (aN (i:=5) nd rfl (Or.inl rfl) (au aG (ay aP (hr.mono (by decide)) (by rfl) ak.mg ak.kp ak.bd .nil aW (ai (pv 0) (ai (pv 1) aa))) (aB aA (by rfl) T.br boot_len (ai (pv 2) aa))))
 (ae (fu PassesOwn.never rfl (vm (by rfl) T.cN (by decide +kernel) (ai (pv 2) aa)) (iu (n:=2) rfl (aM (az (i:=6) nd rfl (Or.inl rfl)) (aM (az (i:=7) nd rfl (Or.inl rfl)) cF)))
 (ae (aN (i:=8) nd rfl (Or.inl rfl) (ay aP (hr.mono (by decide)) (by rfl) ak.mg ak.kp ak.bd .nil aW (ai (pv 0) (ai (pv 1) aa))))
 (ae (aN (i:=9) nd rfl (Or.inl rfl) (bf oZ (by rfl) T.iG (by decide +kernel) (ai (bI cj (pv 6) (pv 5) (aC _)) aa)))
 (ae (a8 (pw_or (aL cj (au aG (au bc (pv 8) af) af) af (aC _)) (pw_or1 (pw_and (aL cj (pv 9) af (aC _)) (pw_and1 (aL cj (au aG (pv 8) af) af (aC _)))).pt)).pt
 (ar (bx (b6 PySem.F.plainAttrs_list PySem.F.slot_list_extend PySem.F.type_list_extend fO (pv 3) (ai (au DC (a5 (ai (au dD aD (au aG (au bc (pv 8) af) af)) aa)) (au bT af (au eE (au aG (au bc (pv 8) af) af) (pv 9)))) aa))))
 aH)
 (ae (bx (b6 PySem.F.plainAttrs_list PySem.F.slot_list_append PySem.F.type_list_append bE (pv 4) (ai (aB aA (by rfl) T.br boot_len (ai (pv 3) aa)) aa)))
 (ae (aN (i:=10) nd rfl (Or.inl rfl) (au dD aD (au bT af (au aG (au bc (pv 8) af) (aY aQ (a5 (ai af (ai af aa))) (pv 9) (λ _ _=>rfl))))))
 (ae (aN (i:=11) nd rfl (Or.inl rfl) (au dD aD (au aG (au bc (pv 8) af) (aY aQ (a5 (ai af (ai af aa))) (pv 9) (λ _ _=>rfl)))))
 (ae (fu PassesOwn.never rfl (bF (bU iq (pv 7) cX (b7 (vn qJ af)))) (az (i:=12) nd rfl (Or.inl rfl))
 (ar (aN (i:=11) nd rfl (Or.inl rfl) (au bM (au bM (pv 11) (pv 12)) (pv 10)))))
 (ar (bx (b6 PySem.F.plainAttrs_list PySem.F.slot_list_append PySem.F.type_list_append bE (pv 3) (ai (au bM (au bM (pv 11) (aY aQ (pv 7) (vn qJ af) (λ _ _=>rfl))) (au dD aD (au aG (au bc (pv 8) af) (aY aQ (a5 (ai af (ai af aa))) (pv 9) (λ _ _=>rfl))))) aa))))))))))))
 (ae (aN (i:=13) nd rfl (Or.inl rfl) (aY aQ (a5 (ai aD (ai aD (ai aD aa)))) (au aG (ay aP (hr.mono (by decide)) (by rfl) ak.mg ak.kp ak.bd .nil aW (ai (pv 0) (ai (pv 1) aa))) af) (λ _ _=>rfl)))
 (ar (aO (fT (ai (au bM (b6 PySem.F.plainAttrs_str PySem.F.slot_str_join PySem.F.type_str_join qb aD (ai (pv 3) aa)) (pv 13)) (ai (pv 4) aa)))))))))),?_⟩
  lia
  refine ⟨by show 0<=sizeLine;decide,λ M1 hM1=>?_⟩
  have nMq1:q≠M1:=by obtain ⟨i,n,g,hq,_⟩:=ao.ob;exact aj hq hM1
  have s1:ax H _:=ax.upd (o:=.lst []) hM1
  have g1:(upd H M1 (.lst [])) M1=some (.lst []):=ag
  generalize upd H M1 _=H1 at s1 g1 ⊢
  lia
  refine ⟨by show 0<=sizeLine;decide,λ M2 hM2=>?_⟩
  have nM12:M1≠M2:=aj g1 hM2
  have hM2H:H M2=none:=none_of s1 hM2
  have nMq2:q≠M2:=by obtain ⟨i,n,g,hq,_⟩:=ao.ob;exact aj hq hM2H
  have s2:ax H1 _:=ax.upd (o:=.lst []) hM2
  have g2:(upd H1 M2 (.lst [])) M2=some (.lst []):=ag
  have g1:=s2 _ _ g1
  have s2:=s1.trans s2
  generalize upd H1 M2 _=H2 at s2 g2 g1 ⊢
  clear s1
  lia
  refine ⟨p,q,ns,_,rfl,sc.kb (KB.of s2),hlen,ao.same s2,by omega,λ H3 n0 n00 n01 kb3 ao3=>?_⟩
  have g1:=kb3 _ _ nMq1.symm g1
  have g2:=kb3 _ _ nMq2.symm g2
  have kb3:KB q H H3:=(KB.of s2).trans kb3
  lia
  refine ⟨l,_,rfl,.inl (SqL.of (kb3 _ _ lq hl)),?_⟩
  rw [List.length_map,List.length_map]
  refine w_mod (by omega) ?_
  generalize n0 % (ls.length:Int)=wide
  lia
  refine ⟨l,rfl,⟨_,SqL.of (kb3 _ _ lq hl)⟩,Fo (K:=K) (a:=l) (xs:=(ls.map (·.t)).map .ref) (λ i σ H4=>∃ (v6 v7 v8 v9 v10 v11 v12 v13:Option V) (Ls:List Str) (pls:List Nat),σ=[some (V.ref p),some (V.ref q),some (V.ref l),some (V.ref M1),some (V.ref M2),some (V.int wide),v6,v7,v8,v9,v10,v11,v12,v13]/\KB q H H4/\bh H4 q (c+1+i)/\H4 M1=some (.lst (Ls.map .str))/\H4 M2=some (.lst (pls.map λ (n:Nat)=>V.int (n:Int)))/\Pl Ls ((ls.take i).map (·.row)) pls/\Ls.length<=4 * i/\i<=Ls.length/\∀ z∈Ls,z.length<=1200)
   ⟨none,none,none,none,none,none,none,none,[],[],rfl,kb3,ao3,g1,g2,Pl.nil,by simp,by simp,λ z hz=>(nomatch hz)⟩ (λ i σ H4 _ ⟨_,_,_,_,_,_,_,_,_,_,_,kb,_⟩=>SqL.of (kb _ _ lq hl)) ?_ ?_⟩
  ·rintro i v pt σ H4 hv ⟨v6,v7,v8,v9,v10,v11,v12,v13,Ls,pls,rfl,kb4,ao4,hM1',hM2',pl,l4,li,sh⟩ hpt
   rw [List.getElem?_map,List.getElem?_map] at hv
   obtain ⟨array_get_dec,hv1,rfl⟩:=Option.map_eq_some_iff.mp hv
   obtain ⟨x,hx,rfl⟩:=Option.map_eq_some_iff.mp hv1
   have hi:i<ls.length:=(List.getElem?_eq_some_iff.mp hx).1
   have rx:=rg x (List.mem_of_getElem? hx)
   have hx2:H x.t=some (.lst (x.row.map .str)):=(la x (List.mem_of_getElem? hx)).1
   have xq:x.t≠q:=bR ao hx2 (uZ rx.ne)
   have sp:ax H4 _:=ax.upd (o:=.tup [.int i,.ref x.t]) hpt
   have gp:(upd H4 pt (.tup [.int i,.ref x.t])) pt=some (.tup [.int i,.ref x.t]):=ag
   have ao4:=ao4.same sp
   have hM1':=sp _ _ hM1'
   have hM2':=sp _ _ hM2'
   have kb4:KB q H _:=kb4.trans (KB.of sp)
   generalize upd H4 pt (.tup [.int i,.ref x.t])=H5 at sp gp ao4 hM1' hM2' kb4 ⊢
   clear sp hpt
   refine dg (SqT.of gp) rfl ?_
   refine ⟨_,_,rfl,_,_,rfl,rfl,?_⟩
   clear gp
   lia
   refine ⟨p,q,ns,_,rfl,sc.kb kb4,hlen,ao4,by omega,λ H6 n n0' n1' kb6 ao6=>?_⟩
   have hM1':=kb6 _ _ nMq1.symm hM1'
   have hM2':=kb6 _ _ nMq2.symm hM2'
   have kb4:KB q H H6:=kb4.trans kb6
   have ao4:=ao6
   clear kb6 ao6
   lia
   refine ⟨_,rfl,?_⟩
   obtain ⟨own,eo,own01⟩:∃ own:Int,(if decide ((i:Int)=wide)=true then (1:Int) else 0)=own/\(own=0∨own=1):=⟨_,rfl,by split;exact .inr rfl;exact .inl rfl⟩
   rw [eo]
   clear eo
   (repeat array_mem_dec)
   refine iX (λ σ2 H7=>∃ (Ls':List Str),σ2=[some (V.ref p),some (V.ref q),some (V.ref l),some (V.ref M1),some (V.ref M2),some (V.int wide),some (V.int i),some (V.ref x.t),some (V.int n),some (V.int own),v10,v11,v12,v13]/\KB q H H7/\bh H7 q (c+1+i+1)/\H7 M2=some (.lst (pls.map λ (n:Nat)=>V.int (n:Int)))/\H7 M1=some (.lst (Ls'.map .str))/\Pl Ls' ((ls.take i).map (·.row)) pls/\(Ls'.length<=4 * i+3/\i<=Ls'.length)/\∀ z∈Ls',z.length<=1200) (λ nx' hj=>?_) ?_
   ·have no:=hj _ H6 ⟨Ls,rfl,kb4,ao4,hM2',hM1',pl,⟨by omega,li⟩,sh⟩
    lia
    refine w_ite (λ z1=>?_) (λ z1=>?_)
    ·skip
     lia
     refine ⟨.inl ⟨rfl,_,SqL.of hM1'⟩,?_⟩
     lia
     refine ⟨" ",_,rfl,rfl,by omega,by omega,by decide,λ rb rl rc=>?_⟩
     lia
     refine ⟨by show 1<=sizeLine;decide,λ u hu=>?_⟩
     lia
     refine w_I (.inl ⟨by omega,by omega⟩) ?_
     lia
     have bd:0<=n / 2187 % 3 * own/\n / 2187 % 3 * own<=2:=by rcases own01 with rfl | rfl <;> omega
     refine ⟨u,_,[V.str rb],rfl,rfl,ag,by omega,by omega,by rw [List.length_singleton,Nat.one_mul];exact av (by omega),λ v hv=>?_⟩
     have nMu:M1≠u:=aj hM1' hu
     have nMv:M1≠v:=aj (by rw [aq nMu];exact hM1') hv
     refine ⟨M1,v,_,_,rfl,rfl,by rw [aq nMv,aq nMu];exact hM1',ag,?_,?_⟩
     ·rw [len_rep,List.length_singleton,Nat.mul_one,List.length_map];have:=l4;exact av (by omega)
     lia
     have eb:(List.replicate (1+n / 2187 % 3 * own).toNat [V.str rb]).flatten=(List.replicate (1+n / 2187 % 3 * own).toNat rb).map V.str:=by
      rw [List.map_replicate]
      generalize (1+n / 2187 % 3 * own).toNat=m
      induction m with
      | zero=>rfl
      | succ m ih=>rw [List.replicate_succ,List.flatten_cons,ih];rfl
     rw [eb,<- List.map_append]
     have bl:gG rb:=blank_of rc
     refine hj _ _ ⟨Ls++List.replicate (1+n / 2187 % 3 * own).toNat rb,rfl,λ c o hc he=>?_,((ao4.put hu).put hv).off nMq1,by rw [aq nM12.symm,aq (aj (by rw [aq (aj hM2' hu)];exact hM2') hv),aq (aj hM2' hu)];exact hM2',ag,pl.blank λ z hz=>?_,?_,λ z hz=>?_⟩
     ·rw [aq (aj he hM1),aq (aj (by rw [aq (aj (kb4 c o hc he) hu)];exact kb4 c o hc he) hv),aq (aj (kb4 c o hc he) hu)];exact kb4 c o hc he
     ·rw [(List.mem_replicate.mp hz).2];exact ⟨lB bl,bl.lf⟩
     ·rw [List.length_append,List.length_replicate];omega
     ·rcases List.mem_append.mp hz with hz | hz
      ·exact sh z hz
      ·rw [(List.mem_replicate.mp hz).2];have:(" ":Str).length=1:=by decide
       rw [this] at rl
       omega
    ·lia
     refine w_ite (λ z2=>?_) (λ z2=>no)
     lia
     refine w_ite (λ z3=>?_) (λ z3=>no)
     ·skip
      lia
      refine ⟨.inl ⟨rfl,_,SqL.of hM1'⟩,?_⟩
      lia
      refine ⟨" ",_,rfl,rfl,by omega,by omega,by decide,λ rb rl rc=>?_⟩
      lia
      refine ⟨by show 1<=sizeLine;decide,λ u hu=>?_⟩
      lia
      refine w_I (.inl ⟨by omega,by omega⟩) ?_
      lia
      have bd:0<=n / 2187 % 3 * own/\n / 2187 % 3 * own<=2:=by rcases own01 with rfl | rfl <;> omega
      refine ⟨u,_,[V.str rb],rfl,rfl,ag,by omega,by omega,by rw [List.length_singleton,Nat.one_mul];exact av (by omega),λ v hv=>?_⟩
      have nMu:M1≠u:=aj hM1' hu
      have nMv:M1≠v:=aj (by rw [aq nMu];exact hM1') hv
      refine ⟨M1,v,_,_,rfl,rfl,by rw [aq nMv,aq nMu];exact hM1',ag,?_,?_⟩
      ·rw [len_rep,List.length_singleton,Nat.mul_one,List.length_map];have:=l4;exact av (by omega)
      lia
      have eb:(List.replicate (1+n / 2187 % 3 * own).toNat [V.str rb]).flatten=(List.replicate (1+n / 2187 % 3 * own).toNat rb).map V.str:=by
       rw [List.map_replicate]
       generalize (1+n / 2187 % 3 * own).toNat=m
       induction m with
       | zero=>rfl
       | succ m ih=>rw [List.replicate_succ,List.flatten_cons,ih];rfl
      rw [eb,<- List.map_append]
      have bl:gG rb:=blank_of rc
      refine hj _ _ ⟨Ls++List.replicate (1+n / 2187 % 3 * own).toNat rb,rfl,λ c o hc he=>?_,((ao4.put hu).put hv).off nMq1,by rw [aq nM12.symm,aq (aj (by rw [aq (aj hM2' hu)];exact hM2') hv),aq (aj hM2' hu)];exact hM2',ag,pl.blank λ z hz=>?_,?_,λ z hz=>?_⟩
      ·rw [aq (aj he hM1),aq (aj (by rw [aq (aj (kb4 c o hc he) hu)];exact kb4 c o hc he) hv),aq (aj (kb4 c o hc he) hu)];exact kb4 c o hc he
      ·rw [(List.mem_replicate.mp hz).2];exact ⟨lB bl,bl.lf⟩
      ·rw [List.length_append,List.length_replicate];omega
      ·rcases List.mem_append.mp hz with hz | hz
       ·exact sh z hz
       ·rw [(List.mem_replicate.mp hz).2];have:(" ":Str).length=1:=by decide
        rw [this] at rl
        omega
   ·rintro σ2 H7 ⟨Ls',rfl,kb7,ao7,g2,g1,pl',lle,sh'⟩
    have hxt:H7 x.t=some (.lst (x.row.map .str)):=kb7 _ _ xq hx2
    lia
    refine ⟨.inl ⟨rfl,_,SqL.of g2⟩,?_⟩
    lia
    refine ⟨M1,_,rfl,.inl (SqL.of g1),?_⟩
    lia
    refine ⟨M2,_,_,rfl,rfl,g2,(by rw [List.length_map,pl'.len,List.length_map,List.length_take];exact eF (by omega)),?_⟩
    rw [List.length_map]
    have e2:(pls.map λ (n:Nat)=>V.int (n:Int))++[V.int (Ls'.length:Int)]=(pls++[Ls'.length]).map λ (n:Nat)=>V.int (n:Int):=by simp
    rw [e2]
    have g2':(upd H7 M2 (.lst ((pls++[Ls'.length]).map λ (n:Nat)=>V.int (n:Int)))) M2=some (.lst ((pls++[Ls'.length]).map λ (n:Nat)=>V.int (n:Int))):=ag
    have g1':(upd H7 M2 (.lst ((pls++[Ls'.length]).map λ (n:Nat)=>V.int (n:Int)))) M1=some (.lst (Ls'.map .str)):=by rw [aq nM12];exact g1
    have kb8:KB q H (upd H7 M2 (.lst ((pls++[Ls'.length]).map λ (n:Nat)=>V.int (n:Int)))):=λ c' o' hc he=>by rw [aq (aj he hM2H)];exact kb7 c' o' hc he
    have ao8:bh (upd H7 M2 (.lst ((pls++[Ls'.length]).map λ (n:Nat)=>V.int (n:Int)))) q (c+1+i+1):=ao7.off nMq2
    have hxt:(upd H7 M2 (.lst ((pls++[Ls'.length]).map λ (n:Nat)=>V.int (n:Int)))) x.t=some (.lst (x.row.map .str)):=kb8 _ _ xq hx2
    generalize upd H7 M2 _=H8 at g1' g2' kb8 ao8 hxt ⊢
    clear g1 g2 kb7 ao7 e2
    lia
    refine ⟨by show 2<=sizeLine;decide,λ u1 hu1=>?_⟩
    lia
    obtain ⟨m1,em1,m1b⟩:=uA (x:=2) (y:=5) own01
    have m1c:2<=m1/\m1<=5:=by omega
    refine ⟨u1,_,_,_,rfl,rfl,SqL.of ag,em1,?_⟩
    refine w_mod (by omega) ?_
    have p0:=bw (n / 243) (show (0:Int)<m1 by omega)
    have p1:=mod_lt (n / 243) (show (0:Int)<m1 by omega)
    have s8:ax H8 _:=ax.upd (o:=.lst [V.int 2,V.int 5]) hu1
    generalize upd H8 u1 (.lst [V.int 2,V.int 5])=H9 at s8 ⊢
    lia
    refine ⟨" ",_,rfl,rfl,by omega,by omega,by decide,λ part pl1 pc=>?_⟩
    have pb:gG part:=blank_of pc
    rw [e1s] at pl1
    lia
    refine ⟨by show 2<=sizeLine;decide,λ u2 hu2=>?_⟩
    lia
    obtain ⟨m2,em2,m2b⟩:=uA (x:=3) (y:=7) own01
    have m2c:3<=m2/\m2<=7:=by omega
    refine ⟨u2,_,_,_,rfl,rfl,SqL.of ag,em2,?_⟩
    refine w_mod (by omega) ?_
    have q0:=bw (n / 81) (show (0:Int)<m2 by omega)
    have q1:=mod_lt (n / 81) (show (0:Int)<m2 by omega)
    have s9:ax H9 _:=ax.upd (o:=.lst [V.int 3,V.int 7]) hu2
    generalize upd H9 u2 (.lst [V.int 3,V.int 7])=H10 at s9 ⊢
    lia
    refine ⟨" ",_,rfl,rfl,by omega,by omega,by decide,λ line0 ll1 lc=>?_⟩
    have lb:gG line0:=blank_of lc
    rw [e1s] at ll1
    lia
    have s10:=s8.trans s9
    refine ⟨x.t,_,rfl,SqL.of (s10 _ _ hxt),λ F hF=>?_⟩
    obtain ⟨ri,rl,er⟩:∃ ri rl,x.row=ri++[rl]:=by
     rcases List.eq_nil_or_concat x.row with h | ⟨l,y,h⟩
     ·exact absurd h rx.ne
     ·exact ⟨l,y,by rw [h,List.concat_eq_append]⟩
    have ecut:f9 (x.row.map V.str) none (some (-1))=ri.map V.str:=by
     unfold f9
     rw [er,HT.jY,List.map_append,List.length_append]
     show List.take ((-1+(((ri.map V.str).length+1:Nat):Int)).toNat - 0) _=_
     rw [show (-1+(((ri.map V.str).length+1:Nat):Int)).toNat - 0=(ri.map V.str).length by omega,List.drop_zero,List.take_left]
    rw [ecut]
    have sF:ax H10 _:=ax.upd (o:=.lst (ri.map .str)) hF
    have gF:(upd H10 F (.lst (ri.map .str))) F=some (.lst (ri.map .str)):=ag
    generalize upd H10 F _=H11 at sF gF ⊢
    have s11:=s10.trans sF
    have rw_:∀ z∈ri,z≠""/\32 ∉ cpL z/\10 ∉ cpL z/\z.length<=63:=λ z hz=>rx.w z (by rw [er];exact List.mem_append_left _ hz)
    have r15:ri.length<=14:=by have:=rx.le;rw [er,List.length_append,List.length_singleton] at this;omega
    refine ⟨F,rfl,⟨_,SqL.of gF⟩,forL (K:=K) (a:=F) (xs:=ri.map .str) (λ j σ H12=>∃ (v12:Option V) (line:Str),σ=[some (V.ref p),some (V.ref q),some (V.ref l),some (V.ref M1),some (V.ref M2),some (V.int wide),some (V.int i),some (V.ref x.t),some (V.int n),some (V.int own),some (V.str part),some (V.str line),v12,v13]/\H12=H11/\kq line (ri.take j)/\10 ∉ cpL line/\line.length<=6+68 * j)
     ⟨_,line0,rfl,rfl,kq.nil lb,lb.lf,by omega⟩ (λ j σ H12 _ ⟨_,_,_,e,_⟩=>by rw [e];exact SqL.of gF) ?_ ?_⟩
    ·rintro j v σ H12 hv ⟨v12',line,rfl,rfl,op,ln,ll⟩
     rw [List.getElem?_map] at hv
     obtain ⟨z,hz,rfl⟩:=Option.map_eq_some_iff.mp hv
     have hj:j<ri.length:=(List.getElem?_eq_some_iff.mp hz).1
     obtain ⟨z1,z2,z3,z4⟩:=rw_ z (List.mem_of_getElem? hz)
     lia
     refine ⟨_,_,rfl,rfl,av (by omega),?_⟩
     lia
     refine ⟨_,_,rfl,rfl,av (by rw [aT];omega),?_⟩
     lia
     refine ⟨_,_,rfl,rfl,?_,?_,?_⟩
     ·rw [List.take_succ,hz]
      exact op.word z2 z1 pb (by omega)
     ·intro hm
      rw [cpL,aU,aU] at hm
      rcases List.mem_append.mp hm with hm | hm
      ·rcases List.mem_append.mp hm with hm | hm
       ·exact ln hm
       ·exact z3 hm
      ·exact pb.lf hm
     ·rw [aT,aT];omega
    ·rintro σ H12 ⟨v12',line,rfl,rfl,op,ln,ll⟩
     rw [List.length_map] at op ll
     rw [List.take_length] at op
     obtain ⟨z1,z2,z3,z4⟩:=rx.w rl (by rw [er];simp)
     have g1'':=s11 _ _ g1'
     have g2'':=s11 _ _ g2'
     lia
     refine ⟨.inl ⟨rfl,_,SqL.of g1''⟩,?_⟩
     lia
     refine ⟨x.t,_,-1,.str rl,rfl,rfl,SqL.of (s11 _ _ hxt),by rw [pj rx.ne,zE x.row rx.ne er],?_⟩
     refine ⟨_,_,rfl,rfl,av (by omega),?_⟩
     lia
     refine ⟨by show 2<=sizeLine;decide,λ u3 hu3=>?_⟩
     lia
     obtain ⟨m3,em3,m3b⟩:=uA (x:=2) (y:=4) own01
     have m3c:2<=m3/\m3<=4:=by omega
     refine ⟨u3,_,_,_,rfl,rfl,SqL.of ag,em3,?_⟩
     refine w_mod (by omega) ?_
     have r0:=bw (n / 486) (show (0:Int)<m3 by omega)
     have r1:=mod_lt (n / 486) (show (0:Int)<m3 by omega)
     have s12:ax H12 _:=ax.upd (o:=.lst [V.int 2,V.int 4]) hu3
     generalize upd H12 u3 (.lst [V.int 2,V.int 4])=H13 at s12 ⊢
     lia
     refine ⟨" ",_,rfl,rfl,by omega,by omega,by decide,λ pe pe1 pec=>?_⟩
     have peb:gG pe:=blank_of pec
     rw [e1s] at pe1
     lia
     refine ⟨_,_,rfl,rfl,av (by rw [aT];omega),?_⟩
     have g1n:=s12 _ _ g1''
     refine ⟨M1,_,_,rfl,rfl,g1n,(by rw [List.length_map];exact eF (by omega)),?_⟩
     lia
     have el:Ls'.map V.str++[V.str (line++rl++pe)]=(Ls'++[line++rl++pe]).map V.str:=by simp
     rw [el]
     have lnn:10 ∉ cpL (line++rl++pe):=by
      intro hm
      rw [cpL,aU,aU] at hm
      rcases List.mem_append.mp hm with hm | hm
      ·rcases List.mem_append.mp hm with hm | hm
       ·exact ln hm
       ·exact z3 hm
      ·exact peb.lf hm
     have pln:=pl'.row (z:=line++rl++pe) (r:=x.row) (by rw [er];exact op.last z2 z1 peb) rx.ne lnn
     have et:(ls.take i).map (·.row)++[x.row]=(ls.take (i+1)).map (·.row):=by rw [List.take_succ,hx];simp
     rw [et] at pln
     have s13:=s11.trans s12
     refine ⟨_,_,_,_,_,_,_,_,Ls'++[line++rl++pe],pls++[Ls'.length],rfl,λ c' o' hc he=>by rw [aq (aj he hM1)];exact s13 _ _ (kb8 c' o' hc he),(ao8.same s13).off nMq1,ag,by rw [aq nM12.symm];exact s13 _ _ g2',pln,by rw [List.length_append,List.length_singleton];omega,by rw [List.length_append,List.length_singleton];omega,λ z hz=>?_⟩
     rcases List.mem_append.mp hz with hz | hz
     ·exact sh' z hz
     ·rw [List.mem_singleton.mp hz,aT,aT];omega
  ·rintro σ H4 ⟨v6,v7,v8,v9,v10,v11,v12,v13,Ls,pls,rfl,kb4,ao4,hM1',hM2',pl,l4,li,sh⟩
   rw [List.length_map,List.length_map] at ao4 l4 li pl
   rw [List.take_length] at pl
   lia
   refine ⟨by show 3<=sizeLine;decide,λ u hu=>?_⟩
   lia
   have s5:ax H4 _:=ax.upd (o:=.lst [V.str "\n",V.str "",V.str "\n \n"]) hu
   have g5:(upd H4 u (.lst [V.str "\n",V.str "",V.str "\n \n"])) u=some (.lst [V.str "\n",V.str "",V.str "\n \n"]):=ag
   generalize upd H4 u _=H5 at s5 g5 ⊢
   refine ⟨p,q,ns,_,rfl,(sc.kb kb4).kb (KB.of s5),hlen,ao4.same s5,by omega,λ H6 n n0' n1' kb6 ao6=>?_⟩
   lia
   have m0:=bw n (show (0:Int)<3 by decide)
   have m1:=mod_lt n (show (0:Int)<3 by decide)
   have uq:u≠q:=λ e=>by obtain ⟨i,j,g,hq,_⟩:=ao4.ob;rw [<- e,hu] at hq;cases hq
   obtain ⟨e,ee,eat⟩:∃ e∈ends,atI [V.str "\n",V.str "",V.str "\n \n"] (n % 3)=some (.str e):=by
    rcases (show n % 3=0∨n % 3=1∨n % 3=2 by omega) with h | h | h
    ·exact ⟨"\n",by simp [ends],by rw [h];exact aX (j:=0) rfl⟩
    ·exact ⟨"",by simp [ends],by rw [h];exact aX (j:=1) rfl⟩
    ·exact ⟨"\n \n",by simp [ends],by rw [h];exact aX (j:=2) rfl⟩
   refine ⟨u,_,_,_,rfl,rfl,SqL.of (kb6 _ _ uq g5),eat,?_⟩
   lia
   have hM1n:=kb6 _ _ nMq1.symm (s5 _ _ hM1')
   have hM2n:=kb6 _ _ nMq2.symm (s5 _ _ hM2')
   have Lne:Ls≠[]:=λ z=>by rw [z] at li;have:ls.length<=0:=li;omega
   obtain ⟨bs,b2,bb,ej⟩:=qR Lne ee
   have sm:=qM (b:=1200) sh
   have e1l:("\n":Str).length=1:=by decide
   have elen:e.length<=3:=by
    simp only [ends,List.mem_cons,List.not_mem_nil,or_false] at ee
    rcases ee with rfl | rfl | rfl <;> decide
   have jl:=iP "\n" Ls
   rw [e1l] at jl
   refine ⟨rfl,?_⟩
   lia
   refine ⟨"\n",M1,Ls,rfl,rfl,SqL.of hM1n,by rw [e1l];omega,?_⟩
   lia
   refine ⟨_,_,rfl,rfl,(by have:sizeLine=2 ^ 24:=rfl;omega),?_⟩
   lia
   refine ⟨by show 2<=sizeLine;decide,λ t ht=>?_⟩
   rw [ej]
   have s7:ax H6 _:=ax.upd (o:=.tup [V.str (Txt.join "\n" (Ls++bs)),V.ref M2]) ht
   have pl2:=pl.blank bb
   refine k _ t M2 (Ls++bs) pls (kb4.trans ((KB.of s5).trans (kb6.trans (KB.of s7)))) ((ao6.same s7).mono (by omega)) ag (s7 _ _ hM2n) ?_ (by simp [Lne]) pl2
   rw [<- ej,aT]
   omega
end
def Wg (x:Str):Prop:=x≠""/\32 ∉ cpL x/\10 ∉ cpL x/\x.length<=63
theorem hV {x:Str} (h:j6 x=true) {c:Nat} (hc:c<97):c ∉ cpL x:=λ hm=>by
 have:=List.all_eq_true.mp h c hm
 unfold i4 at this
 simp only [Bool.and_eq_true,decide_eq_true_eq] at this
 omega
theorem lG {x:Str} (h:1<=x.length):x≠"":=λ e=>by rw [e] at h;exact absurd h (by decide)
theorem mC {x:Str} (h:bD x=true):Wg x:=by
 unfold bD at h
 simp only [Bool.and_eq_true,decide_eq_true_eq] at h
 exact ⟨lG (by omega),hV h.2 (by decide),hV h.2 (by decide),by omega⟩
theorem uJ {i j:Nat} {x:Str} (h:low i j x=true) (hi:1<=i) (hj:j<=63):Wg x:=by
 unfold low at h
 simp only [Bool.and_eq_true,decide_eq_true_eq] at h
 exact ⟨lG (by omega),hV h.2 (by decide),hV h.2 (by decide),by omega⟩
theorem ju {i:Int} (h:0<=i/\i<10 ^ 60):Wg (aK i):=
 ⟨λ e=>qj h.1 (by show (aK i).cps.toList=[];rw [e];rfl),oU h.1 (by decide),oU h.1 (by decide),by have:(aK i).length<=60:=jH h.1 h.2;omega⟩
theorem BB {x:Str} (h:Pc x):Wg x:=by
 rcases h with h | h | h
 ·exact mC h
 ·simp only [sig,List.mem_cons,List.not_mem_nil,or_false] at h
  rcases h with rfl | rfl | rfl | rfl | rfl | rfl <;> exact ⟨by decide +kernel,by decide +kernel,by decide +kernel,by decide +kernel⟩
 ·subst h
  exact ⟨by decide +kernel,by decide +kernel,by decide +kernel,by decide +kernel⟩
theorem lz:∀ x∈(["bound","rule","word","melt","kind","turn"]:List Str),Wg x:=λ x hx=>by
 simp only [List.mem_cons,List.not_mem_nil,or_false] at hx
 rcases hx with rfl | rfl | rfl | rfl | rfl | rfl <;> exact ⟨by decide +kernel,by decide +kernel,by decide +kernel,by decide +kernel⟩
theorem Ci:∀ rw:Rw,Wg rw.key
 | .bound _=>lz "bound" (by simp)
 | .rule _=>lz "rule" (by simp)
 | .word _=>lz "word" (by simp)
 | .gk _=>lz "melt" (by simp)
 | .kind _ _=>lz "kind" (by simp)
 | .turn _=>lz "turn" (by simp)
theorem Bo {rw:Rw} (h:rw.ok):Rg rw.words:=by
 have k:=Ci rw
 cases rw with
 | bound i=>
  refine ⟨by show _::_≠_;simp,by show 2<=15;decide,λ x hx=>?_⟩
  have hx:x∈[("bound":Str),aK i]:=hx
  simp only [List.mem_cons,List.not_mem_nil,or_false] at hx
  rcases hx with rfl | rfl
  ·exact k
  ·exact ju h
 | rule r=>
  have h:r.ok:=h
  refine ⟨by show _::_≠_;simp,by show r.ys.length+7<=15;have:=h.it.le;omega,λ x hx=>?_⟩
  have hx:x∈(("rule":Str)::aK r.l::aK r.h::aK r.b::aK r.f::aK r.e::(":":Str)::r.ys):=hx
  simp only [List.mem_cons] at hx
  rcases hx with rfl | rfl | rfl | rfl | rfl | rfl | rfl | hx
  ·exact k
  ·exact ju h.l
  ·exact ju h.h
  ·exact ju ⟨by have:=h.b.1;omega,h.b.2⟩
  ·exact ju h.f
  ·exact ju h.e
  ·exact ⟨by decide +kernel,by decide +kernel,by decide +kernel,by decide +kernel⟩
  ·exact BB (h.it.ok.pc x hx)
 | word r=>
  obtain ⟨h,hw⟩:=(show r.ok/\wr r=true from h)
  refine ⟨by show _::_≠_;simp,by show r.ys.length+2<=15;have:=h.it.le;omega,λ x hx=>?_⟩
  have hx:x∈(("word":Str)::aK r.l::r.ys):=hx
  simp only [List.mem_cons] at hx
  rcases hx with rfl | rfl | hx
  ·exact k
  ·exact ju h.l
  ·exact BB (h.it.ok.pc x hx)
 | gk m=>
  have h:c8 m=true:=h
  unfold c8 at h
  simp only [Bool.and_eq_true] at h
  refine ⟨by show _::_≠_;simp,by show 4<=15;decide,λ x hx=>?_⟩
  have hx:x∈[("melt":Str),m.1,m.2.1,m.2.2]:=hx
  simp only [List.mem_cons,List.not_mem_nil,or_false] at hx
  rcases hx with rfl | rfl | rfl | rfl
  ·exact k
  ·exact uJ h.1.1.1 (by decide) (by decide)
  ·exact uJ h.1.1.2 (by decide) (by decide)
  ·exact uJ h.1.2 (by decide) (by decide)
 | kind t e=>
  have h:cn t e []=true:=h
  unfold cn gv at h
  simp only [Bool.and_eq_true,decide_eq_true_eq] at h
  refine ⟨by show _::_≠_;simp,by show 3<=15;decide,λ x hx=>?_⟩
  have hx:x∈[("kind":Str),t,e]:=hx
  simp only [List.mem_cons,List.not_mem_nil,or_false] at hx
  rcases hx with rfl | rfl | rfl
  ·exact k
  ·exact ⟨lG (by omega),hV h.1.2 (by decide),hV h.1.2 (by decide),by omega⟩
  ·exact mC h.2.1
 | turn m=>
  have h:dn m=true:=h
  unfold dn at h
  simp only [Bool.and_eq_true] at h
  refine ⟨by show _::_≠_;simp,by show 3<=15;decide,λ x hx=>?_⟩
  have hx:x∈[("turn":Str),m.1,m.2]:=hx
  simp only [List.mem_cons,List.not_mem_nil,or_false] at hx
  rcases hx with rfl | rfl | rfl
  ·exact k
  ·exact mC h.1
  ·exact mC h.2
theorem Hb {r:List Str} (h:Rg r):ws (J r)=r:=by
 have e:J r=Str.join ⟨#[32]⟩ r:=StrLaws.glued_eq_join _ _
 rw [e]
 exact vp λ w hw=>⟨(h.w w hw).2.1,(h.w w hw).1⟩
theorem pq {c d:Nat} (n:c≠d):∀ {r:List Str},(∀ w∈r,c ∉ cpL w)->c ∉ cpL (Str.join ⟨#[d]⟩ r)
 | [],_=>by show c ∉ cpL "";exact List.not_mem_nil
 | [w],h=>h w (by simp)
 | w::v::r,h=>λ hm=>by
  have hm:c∈cpL (w++⟨#[d]⟩++Str.join ⟨#[d]⟩ (v::r)):=hm
  rw [cpL,aU,aU] at hm
  rcases List.mem_append.mp hm with hm | hm
  ·rcases List.mem_append.mp hm with hm | hm
   ·exact h w (by simp) hm
   ·exact n (List.mem_singleton.mp hm)
  ·exact pq n (λ z hz=>h z (List.mem_cons_of_mem _ hz)) hm
theorem Hq {r:List Str} (h:Rg r):10 ∉ cpL (J r):=by
 have e:J r=Str.join ⟨#[32]⟩ r:=StrLaws.glued_eq_join _ _
 rw [e]
 exact pq (by decide) λ w hw=>(h.w w hw).2.2.1
theorem EC:∀ (rows:List (List Str)) {Ls:List Str} {rs:List (List Str)} {pls:List Nat},(∀ r∈rows,Rg r)->Pl Ls rs pls->∃ pls',Pl (Ls++rows.map J) (rs++rows) pls'
 | [],Ls,rs,pls,_,h=>⟨pls,by rw [List.map_nil,List.append_nil,List.append_nil];exact h⟩
 | r::rows,Ls,rs,pls,hr,h=>by
  have g:=hr r (by simp)
  obtain ⟨p,hp⟩:=EC rows (λ x hx=>hr x (List.mem_cons_of_mem _ hx)) (h.row (Hb g) g.ne (Hq g))
  exact ⟨p,by simpa using hp⟩
theorem vW {d:DD} (h:d.ok):dZ (textOf d)=(gN d).map Rw.words:=by
 have rg:∀ r∈rowsOf d,Rg r:=λ r hr=>by
  rw [<- lp] at hr
  obtain ⟨x,hx,rfl⟩:=List.mem_map.mp hr
  exact Bo (tY h x hx)
 obtain ⟨pls,pl⟩:=EC (rowsOf d) rg Pl.nil
 rw [List.nil_append,List.nil_append] at pl
 have ne:(rowsOf d).map J≠[]:=by unfold rowsOf;simp
 obtain ⟨bs,_,hb,e⟩:=qR ne (show ("\n":Str)∈ends by simp [ends])
 unfold textOf
 have e:Txt.join lf ((rowsOf d).map J)++lf=Txt.join "\n" ((rowsOf d).map J++bs):=e
 rw [e,(pl.blank hb).rows,lp]
theorem text_len {d:DD} (h:d.ok):(textOf d).length<=2000000:=by
 have shA:=ve h
 have n105:=sD h
 have hb:∀ t∈(rowsOf d).map J,t.length<=1000:=λ t ht=>by
  obtain ⟨r,hr,rfl⟩:=List.mem_map.mp ht
  exact (shA r hr).len
 have hs:=qM hb
 have jl:=iP lf ((rowsOf d).map J)
 rw [List.length_map] at hs jl
 have e9:lf.length=1:=by decide
 rw [e9] at jl
 unfold textOf
 rw [aT,e9]
 have:(rowsOf d).length * 1000<=105 * 1000:=Nat.mul_le_mul_right _ n105
 omega
theorem gK {H H':Hp} {q t:Addr} {c:Nat} (ao:bh H q c) (k:KB q H H') (h:H t=some (Tb t)):H' t=some (Tb t):=k _ _ (bR ao h (λ _ _ _ z=>by cases z)) h
theorem fB.kb {a:Ad} {H H':Hp} {q:Addr} {c:Nat} (t:fB a H) (ao:bh H q c) (k:KB q H H'):fB a H':=
 ⟨⟨⟨gK ao k t.1.1.1,gK ao k t.1.1.2.1,gK ao k t.1.1.2.2.1,gK ao k t.1.1.2.2.2⟩,⟨gK ao k t.1.2.1.1,gK ao k t.1.2.1.2⟩,gK ao k t.1.2.2⟩,gK ao k t.2.1,gK ao k t.2.2.1,gK ao k t.2.2.2⟩
theorem DD.at.kb {d:DD} {H H':Hp} {q:Addr} {c:Nat} (h:d.at H) (o:d.ok) (ao:bh H q c) (k:KB q H H'):d.at H':=
 ⟨k _ _ (bR ao h.t λ _ _ _ z=>by cases z) h.t,k _ _ (bR ao h.rl cW) h.rl,k _ _ (bR ao h.ml cW) h.ml,k _ _ (bR ao h.kl cW) h.kl,
  λ r hr=>⟨k _ _ (bR ao (h.rs r hr).1 λ _ _ _ z=>by cases z) (h.rs r hr).1,k _ _ (bR ao (h.rs r hr).2 (uZ (o.rs r hr).it.ne)) (h.rs r hr).2⟩,λ m hm=>k _ _ (bR ao (h.ms m hm) λ _ _ _ z=>by cases z) (h.ms m hm),λ x hx=>(h.ks x hx).kb ao k⟩
theorem DD.mt.kb {d:DD} {H H':Hp} {q:Addr} {c:Nat} (h:d.mt H) (ao:bh H q c) (k:KB q H H'):d.mt H':=
 ⟨λ m hm=>k _ _ (bR ao (h.1 m hm) λ _ _ _ z=>by cases z) (h.1 m hm),λ x hx p hp=>k _ _ (bR ao (h.2 x hx p hp) λ _ _ _ z=>by cases z) (h.2 x hx p hp)⟩
theorem TD.kb {a:Ad} {x:Addr} {d:DD} {os zs:List Addr} {H H':Hp} {q:Addr} {c:Nat} (h:TD a H x d os zs) (o:d.ok) (ao:bh H q c) (k:KB q H H'):TD a H' x d os zs:=by
 refine ⟨?_,h.rn,λ i u r hu hr=>?_,h.kn,λ i u z hu hz=>?_⟩
 ·obtain ⟨dx,fs,r,q',z,h1,h2,h3,h4,h5⟩:=h.tg.ob
  exact ⟨dx,fs,r,q',z,k _ _ (bR ao h1 λ _ _ _ z=>by cases z) h1,h2,k _ _ (bR ao h3 cW) h3,k _ _ (bR ao h4 cW) h4,k _ _ (bR ao h5 cW) h5⟩
 ·obtain ⟨n,R,hn⟩:=h.rs i u r hu hr
  obtain ⟨dx,fs,h1,h2⟩:=R.ob
  exact ⟨n,⟨dx,fs,k _ _ (bR ao h1 λ _ _ _ z=>by cases z) h1,h2⟩,k _ _ (bR ao hn (uZ (o.rs r (List.mem_of_getElem? hr)).it.ne)) hn⟩
 ·obtain ⟨n,R,hn⟩:=h.ks i u z hu hz
  obtain ⟨dx,fs,h1,h2⟩:=R.ob
  exact ⟨n,⟨dx,fs,k _ _ (bR ao h1 λ _ _ _ z=>by cases z) h1,h2⟩,k _ _ (bR ao hn cW) hn⟩
section
variable {P:Program} {w:World} {K:PySem.W.Frag} {mg:Str->Option Value} {base:Heap} {a:Ad}
abbrev GN (K:PySem.W.Frag) (mg:Str->Option Value):=Df K mg "law" "law" (top 71) ["_law_script"]
def vt (K:PySem.W.Frag) (a:Ad):Sp:=λ vs H Q _=>∃ (p:Addr) (ns:List Int),vs=[.ref p]/\SqL K H p (ns.map .int)/\ns.length<=63/\fB a H/\∀ H',ax H H'->Q (.bl true) H'
abbrev G7:List Str:=["_law_script","_law_at","_law_data_here","_law_text","_law_first","_law_loose_here","_law_second"]
theorem Bm:aS G7 ["_law_script"] (aw (top 71)):=⟨rfl,rfl,rfl,by decide +kernel,rfl,by decide +kernel,by decide +kernel⟩
structure Gs (P:Program) (w:World) (K:PySem.W.Frag) (mg:Str->Option Value) (base:Heap) (a:Ad) where
 dX:uf K mg
 jP:F0 P w base 1 dX (qH K)
 fc:DDa K mg
 lN:F0 P w base 4 fc (CZ K)
 de:DTg K mg
 jo:F0 P w base 10 de (Ef a)
 fk:DRs K mg
 lS:F0 P w base 2 fk DX
 bB:DTT K mg
 eV:F0 P w base 3 bB (DZ a)
 aZ:DIT K mg
 ck:F0 P w base 3 aZ (DA a)
 bA:DRd K mg
 eU:F0 P w base 13 bA (AN a)
 b9:DOR K mg
 gq:F0 P w base 2 b9 (Dh K)
 eg:DLo K mg
 jF:F0 P w base 2 eg (Dt K)
theorem vo {H:Hp} {Q:VK} {E:XK} {x:Str} {d:DD} (o:d.ok) (hx:x.length<=2000000) {rws:List Rw} (e:dZ x=rws.map Rw.words) (ok:∀ y∈rws,y.ok) (el:rws.length=(gN d).length) (sm:∀ (i:Nat) y z,(gN d)[i]?=some y->rws[i]?=some z->oG y z) (tb:fB a H)
  (k:∀ (H':Hp) (y:Addr) (os zs:List Addr) (e:DD),ax H H'->TD a H' y e os zs->e.mt H'->lZ d e->Q (.ref y) H'):AN a [.str x] H Q E:=by
 obtain ⟨st,run⟩:=zW o
 have l:=vf o
 refine ⟨x,rws,_,d.b,rfl,by have:sizeLine=2 ^ 24:=rfl;omega,e,ok,by omega,oM el.symm sm run,rfl,o.b.1,?_,λ m hm=>?_,tb,λ H' y os zs e s td mt h1 h2 h3 h4=>k H' y os zs e s td mt ⟨h1,h2,h3,h4⟩⟩
 ·have:(d.ks.map KDD.c).map (·.1)=d.ks.map (·.ti):=by rw [List.map_map];rfl
  show ((d.ks.map KDD.c).map (·.1)).Nodup
  rw [this];exact o.nd
 ·obtain ⟨m',hm',rfl⟩:=List.mem_map.mp hm
  exact o.ms m' hm'
theorem Ed (D:GN K mg) (g:Gs P w K mg base a) (T:Txt K mg a):F0 P w base 14 D (vt K a):=by
 obtain ⟨dX,jP,fc,lN,de,jo,fk,lS,bB,eV,aZ,ck,bA,eU,b9,gq,eg,jF⟩:=g
 refine Df.ok (k:=13) D.ex Bm (λ vs H Q E h=>?_) (λ A outer s H vs Q E hr h=>?_)
 ·obtain ⟨p,ns,rfl,_⟩:=h;rfl
 ·obtain ⟨p,ns,rfl,hp,hlen,tb,k⟩:=h
  have nd:=Bm.nd
  refine ⟨_,(ae (aN (i:=1) nd rfl (Or.inl rfl) (ay jP (hr.mono (by decide)) (by rfl) dX.mg dX.kp dX.bd .nil aW (ai (pv 0) aa)))
 (ae (aN (i:=2) nd rfl (Or.inl rfl) (ay lN (hr.mono (by decide)) (by rfl) fc.mg fc.kp fc.bd .nil aW (ai (pv 0) (ai (pv 1) aa))))
 (ae (aN (i:=3) nd rfl (Or.inl rfl) (ay eV (hr.mono (by decide)) (by rfl) bB.mg bB.kp bB.bd .nil aW (ai (ay jo (hr.mono (by decide)) (by rfl) de.mg de.kp de.bd .nil aW (ai (pv 2) aa)) aa)))
 (ae (aN (i:=4) nd rfl (Or.inl rfl) (ay eU (hr.mono (by decide)) (by rfl) bA.mg bA.kp bA.bd .nil aW (ai (pv 3) aa)))
 (ae (a8 (pw_or (bu (bt (ay ck (hr.mono (by decide)) (by rfl) aZ.mg aZ.kp aZ.bd .nil aW (ai (pv 4) (ai (pv 2) aa))))) (pw_or1 (aL dB (ay eV (hr.mono (by decide)) (by rfl) bB.mg bB.kp bB.bd .nil aW (ai (pv 4) aa)) (pv 3) (aC _)))).pt
 (ar (aO cb))
 aH)
 (ae (aN (i:=5) nd rfl (Or.inl rfl) (aY mD (ay jF (hr.mono (by decide)) (by rfl) eg.mg eg.kp eg.bd .nil aW (ai (pv 0) (ai (pv 1) (ai (ay gq (hr.mono (by decide)) (by rfl) b9.mg b9.kp b9.bd .nil aW (ai (pv 0) (ai (pv 1) (ai (ay lS (hr.mono (by decide)) (by rfl) fk.mg fk.kp fk.bd .nil aW (ai (pv 2) aa)) aa)))) aa)))) af (λ _ _=>rfl)))
 (ae (aN (i:=6) nd rfl (Or.inl rfl) (ay eU (hr.mono (by decide)) (by rfl) bA.mg bA.kp bA.bd .nil aW (ai (pv 5) aa)))
 (ae (a8 (pw_or (bu (bt (ay ck (hr.mono (by decide)) (by rfl) aZ.mg aZ.kp aZ.bd .nil aW (ai (pv 6) (ai (pv 2) aa))))) (pw_or1 (aL dB (ay eV (hr.mono (by decide)) (by rfl) bB.mg bB.kp bB.bd .nil aW (ai (pv 6) aa)) (pv 3) (aC _)))).pt
 (ar (aO cb))
 aH)
 (ar (aO (iF (ay ck (hr.mono (by decide)) (by rfl) aZ.mg aZ.kp aZ.bd .nil aW (ai (pv 4) (ai (pv 2) aa))) (iO (ay ck (hr.mono (by decide)) (by rfl) aZ.mg aZ.kp aZ.bd .nil aW (ai (ay eU (hr.mono (by decide)) (by rfl) bA.mg bA.kp bA.bd .nil aW (ai (pv 5) aa)) (ai (pv 2) aa))))))))))))))),?_⟩
  lia
  refine ⟨p,ns,rfl,hp,hlen,λ q hq n g n0 n1 g0=>?_⟩
  have s1:ax H (upd H q (.lst [.int 0,.int n,.int g])):=ax.upd hq
  have sc1:Scr K q (upd H q (.lst [.int 0,.int n,.int g])) p ns:=Scr.of hp hq s1
  have ao1:bh (upd H q (.lst [.int 0,.int n,.int g])) q 0:=⟨0,n,g,ag,by omega,by omega,n0,n1,g0⟩
  have fin:∀ H',KB q (upd H q (.lst [.int 0,.int n,.int g])) H'->ax H H':=λ H' kb c o h=>kb c o (aj h hq) (s1 c o h)
  have tb1:=tb.same s1
  generalize upd H q _=H1 at s1 sc1 ao1 fin tb1 ⊢
  clear s1
  lia
  refine ⟨p,q,ns,_,rfl,sc1,hlen,ao1,by omega,λ H2 d kb2 ao2 da do_=>?_⟩
  have tb2:=tb1.kb ao1 kb2
  lia
  refine ⟨d,rfl,da,do_,tb2.1,λ H3 x os zs s3 td=>?_⟩
  have da3:=da.same s3
  lia
  refine ⟨x,d,os,zs,rfl,td,⟨da3.ms,λ kd hk=>(da3.ks kd hk).2.2⟩,do_,λ H4 s4=>?_⟩
  have s24:=s3.trans s4
  clear td da3
  lia
  refine vo do_ (text_len do_) (vW do_) (tY do_) rfl (λ i y z h1 h2=>.inl (Option.some.inj (h1.symm.trans h2))) (tb2.same s24) λ H5 y os1 zs1 e1 s5 td1 mt1 sd1=>?_
  have s25:=s24.trans s5
  have o1:=sd1.ok do_
  lia
  refine ⟨y,d,e1,os1,zs1,rfl,td1,mt1,sd1,da.same s25,do_,λ H6 s6=>?_⟩
  lia
  refine ⟨y,e1,os1,zs1,rfl,td1.same s6,mt1.same s6,o1,λ H7 s7=>?_⟩
  lia
  rw [decide_eq_true (show textOf e1=textOf d from sd1.text)]
  lia
  have s27:=s25.trans (s6.trans s7)
  have s57:=s6.trans s7
  have td7:=td1.same s57
  have mt7:=mt1.same s57
  have ao7:=ao2.same s27
  have kb7:=kb2.trans (KB.of s27)
  refine ⟨d,rfl,da.same s27,do_,λ H8 l ls s8 g8 la8 m8=>?_⟩
  have n105:=vf do_
  have lr:ls.map (·.row)=(gN d).map Rw.words:=by rw [m8,lp]
  lia
  refine ⟨p,q,l,ns,_,ls,gN d,rfl,sc1.kb (kb7.trans (.of s8)),hlen,ao7.same s8,by omega,g8,la8,lr,tY do_,by omega,λ H9 l' ls' rws' kb9 ao9 g9 la9 lr9 ok9 el9 sm9=>?_⟩
  have kb89:=kb7.trans ((KB.of s8).trans kb9)
  have ll:ls'.length=rws'.length:=by have:=congrArg List.length lr9;simpa using this
  have l0:0<(gN d).length:=by unfold gN;simp
  lia
  refine ⟨p,q,l',ns,_,ls',rfl,sc1.kb kb89,hlen,ao9,by omega,g9,la9,λ z hz=>?_,by omega,by omega,λ H10 t M Ls pls kb10 ao10 g10 gM10 len10 ne10 pl10=>?_⟩
  ·have:z.row∈rws'.map Rw.words:=by rw [<- lr9];exact List.mem_map.mpr ⟨z,hz,rfl⟩
   obtain ⟨rw',hr',er'⟩:=List.mem_map.mp this
   rw [<- er']
   exact Bo (ok9 rw' hr')
  refine ⟨t,_,0,_,rfl,rfl,SqT.of g10,aX (j:=0) rfl,?_⟩
  have kb710:=(KB.of s8).trans (kb9.trans kb10)
  have kb110:=kb7.trans kb710
  have tb10:=tb1.kb ao1 kb110
  have da10:=(da.same s27).kb do_ ao7 kb710
  have td10:=td7.kb o1 ao7 kb710
  have mt10:=mt7.kb ao7 kb710
  have erow:dZ (Txt.join "\n" Ls)=rws'.map Rw.words:=by rw [pl10.rows,lr9]
  lia
  refine vo do_ len10 erow ok9 el9 sm9 tb10 λ H11 y2 os2 zs2 e2 s11 td2 mt2 sd2=>?_
  have o2:=sd2.ok do_
  lia
  refine ⟨y2,d,e2,os2,zs2,rfl,td2,mt2,sd2,da10.same s11,do_,λ H12 s12=>?_⟩
  lia
  refine ⟨y2,e2,os2,zs2,rfl,td2.same s12,mt2.same s12,o2,λ H13 s13=>?_⟩
  lia
  rw [decide_eq_true (show textOf e2=textOf d from sd2.text)]
  lia
  have s1013:=s11.trans (s12.trans s13)
  refine ⟨y,d,e1,os1,zs1,rfl,td10.same s1013,mt10.same s1013,sd1,da10.same s1013,do_,λ H14 s14=>?_⟩
  have s1014:=s1013.trans s14
  refine ⟨_,rfl,?_⟩
  refine tV ?_
  lia
  refine vo do_ len10 erow ok9 el9 sm9 (tb10.same s1014) λ H15 y3 os3 zs3 e3 s15 td3 mt3 sd3=>?_
  lia
  refine ⟨y3,d,e3,os3,zs3,rfl,td3,mt3,sd3,da10.same (s1014.trans s15),do_,λ H16 s16=>?_⟩
  exact k H16 (fin H16 (kb110.trans (.of (s1014.trans (s15.trans s16)))))
end
theorem AW {P:Program} {w:World} (tv:List (Str×Tok×Value×V)) {es:Array DictEntry} (v:es.toList=tv.map λ x=>(⟨hashStr w x.1,.str x.1 x.2.1,x.2.2.1⟩:DictEntry)):PySem.KeysOf (cu P w) es:=λ e he=>by
 have he:e∈es.toList:=by simpa using he
 rw [v] at he
 obtain ⟨x,hx,rfl⟩:=List.mem_map.mp he
 exact ⟨.inr x.1,iV P w x.1 x.2.1,rfl⟩
theorem jW {P:Program} {w:World}:∀ tv:List (Str×Tok×Value×V),Pairs (cu P w) (tv.map λ x=>(⟨hashStr w x.1,.str x.1 x.2.1,x.2.2.1⟩:DictEntry)) (tv.map λ x=>((.inr x.1:Key),x.2.2.1))
 | []=>.nil
 | x::tv=>.cons (iV P w x.1 x.2.1) rfl (jW tv)
theorem Bu:∀ tv:List (Str×Tok×Value×V),(∀ x∈tv,RelV x.2.2.2 x.2.2.1)->KV (tv.map λ x=>((.inr x.1:Key),x.2.2.2)) (tv.map λ x=>((.inr x.1:Key),x.2.2.1))
 | [],_=>.nil
 | x::tv,h=>.cons ⟨rfl,h x (by simp)⟩ (Bu tv λ y hy=>h y (List.mem_cons_of_mem _ hy))
theorem qN {P:Program} {w:World} {K:PySem.W.Frag} {a:Addr} {es:Array DictEntry} {ep:Nat} (l:K.lookup a=some ⟨.type "dict",none,.dict es ep,#[]⟩) (m:(a==sysModules)=false) (tv:List (Str×Tok×Value×V)) (v:es.toList=tv.map λ x=>(⟨hashStr w x.1,.str x.1 x.2.1,x.2.2.1⟩:DictEntry))
  (r:∀ x∈tv,RelV x.2.2.2 x.2.2.1) (ks:List Str) (hk:tv.map (·.1)=ks) (nd:(ks.map λ x=>(.inr x:Key)).Nodup):jn P w K a (tv.map λ x=>(.inr x.1,x.2.2.2)):=
 ⟨m,_,tv.map λ x=>(.inr x.1,x.2.2.1),l,Bu tv r,es,ep,⟨rfl,rfl,rfl⟩,rfl,AW tv v,by rw [v];exact jW tv,by rw [<- hk,List.map_map] at nd;rw [List.map_map];exact nd⟩
def EF {P:Program} {w:World} {K:PySem.W.Frag} {mg:Str->Option Value} {base:Heap} {a:Ad} (c0 c1 c2 c3 c4 c5:Tk P w K mg base) (h0:c0.sp=fv a λ rw=>∃ i,rw=.bound i) (h1:c1.sp=fv a λ rw=>∃ r,rw=.rule r) (h2:c2.sp=fv a λ rw=>∃ r,rw=.word r)
  (h3:c3.sp=fv a λ rw=>∃ m,rw=.gk m) (h4:c4.sp=fv a λ rw=>∃ t e,rw=.kind t e) (h5:c5.sp=fv a λ rw=>∃ m,rw=.turn m):Six P w K mg base a:=
 ⟨λ j=>match j.val with | 0=>c0 | 1=>c1 | 2=>c2 | 3=>c3 | 4=>c4 | _=>c5,h0,h1,h2,h3,h4,h5⟩
def vO {P:Program} {w:World} {K:PySem.W.Frag} {mg:Str->Option Value} {base:Heap} {x:Str} {st:Stmt} {sp:Sp} {k:Nat} (D:Df K mg x x st ["draft","words"]) (G:cC P w K mg base CX0 k D.f D.fd ["draft","words"] sp) (h:k<=11):Tk P w K mg base:=⟨D.f,D.fd,sp,G.mono h,D.kp,D.bd⟩
abbrev cS (K:PySem.W.Frag) (x:Str) (st:Stmt):Prop:=∃ (f:Addr) (oc kV dc pm cd ct:Value) (od an:Option Addr) (sl:Array (Option Value)),PySem.W.nsIn K mainGlobals x=some (some (.ref f))/\K.lookup f=some ⟨oc,od,.func (PySem.W.fnOf x x (bJ st) (bG st) (aw st) .none kV dc pm an cd ct),sl⟩/\PySem.W.codeIn K cd x=true/\PySem.W.keepIn K (.ref f)=true
abbrev n5 (K:PySem.W.Frag) (x:Str) (st:Stmt) (t:Addr):Prop:=∃ (f:Addr) (oc kV dc pm ct:Value) (c:Addr) (od an:Option Addr) (sl:Array (Option Value)),PySem.W.nsIn K mainGlobals x=some (some (.ref f))/\K.lookup f=some ⟨oc,od,.func (PySem.W.fnOf x x (bJ st) (bG st) (aw st) .none kV dc pm an (.ref c) ct),sl⟩/\PySem.W.codeIn K (.ref c) x=true/\PySem.W.keepIn K (.ref f)=true/\PySem.W.tabIn K x=some (c,t)/\PySem.W.codeHdIn K c t=true
theorem cZ {K:PySem.W.Frag} {mg:Str->Option Value} {h:Heap} {x:Str} {st:Stmt} {ps:List Str} (X:K.In h) (G:h.Ns mainGlobals mg) (H:cS K x st)
  (b:∀ (kV doc pm:Value) (an:Option Addr) (cdv ct:Value) (us:List Value),us.length=ps.length->bindArgs (PySem.W.fnOf x x (bJ st) (bG st) (aw st) .none kV doc pm an cdv ct) ⟨us,[]⟩=pure (ps.zip us)):Nonempty (Df K mg x x st ps):=by
 obtain ⟨f,oc,kV,doc,pm,cdv,ct,od,an,osl,a,l,c,k⟩:=H
 exact ⟨⟨f,_,cdv,⟨oc,od,kV,doc,pm,an,ct,osl,rfl,l,c⟩,k,PySem.W.mg_of X G a,.all (b _ _ _ _ _ _)⟩⟩
theorem jR {K:PySem.W.Frag} {c t:Addr} (e:PySem.W.codeHdIn K c t=true):b5 K (.ref c) t:=⟨c,rfl,λ _ X=>PySem.W.codeHd_of_K X e⟩
theorem oJ {K:PySem.W.Frag} {mg:Str->Option Value} {h:Heap} {x:Str} {st:Stmt} {ps:List Str} {t:Addr} (X:K.In h) (G:h.Ns mainGlobals mg) (H:n5 K x st t)
  (b:∀ (kV doc pm:Value) (an:Option Addr) (cdv ct:Value) (us:List Value),us.length=ps.length->bindArgs (PySem.W.fnOf x x (bJ st) (bG st) (aw st) .none kV doc pm an cdv ct) ⟨us,[]⟩=pure (ps.zip us)):∃ D:Df K mg x x st ps,b5 K D.cdv t:=by
 obtain ⟨f,oc,kV,doc,pm,ct,cc,od,an,osl,a,l,c,k,_,d⟩:=H
 exact ⟨⟨f,_,.ref cc,⟨oc,od,kV,doc,pm,an,ct,osl,rfl,l,c⟩,k,PySem.W.mg_of X G a,.all (b _ _ _ _ _ _)⟩,jR d⟩
theorem zj {K:PySem.W.Frag} {p:Addr} {r:Array Value} {n:Nat} {od:Option Addr} {sl:Array (Option Value)} {xs:List V} (l:K.lookup p=some ⟨.type "tuple",od,.seq r n,sl⟩) (hs:xs.length<=sizeLine) (v:Vals xs r.toList) (H:Hp):SqT K H p xs:=
 .inr ⟨_,r,_,l,rfl,rfl,by rw [<- Array.length_toList,<- v.length];exact hs,v⟩
theorem AF {K:PySem.W.Frag} {dT:Addr} {odT anI:Option Addr} {nT:Nat} {slT:Array (Option Value)} {kV doc pm cdv ct:Value} (lk:K.lookup dT=some ⟨.type "tuple",odT,.seq #[.none,.none] nT,slT⟩):
  Binds K (PySem.W.fnOf "__init__" "Tongue.__init__" (bJ sTI) (bG sTI) (aw sTI) (.ref dT) kV doc pm anI cdv ct) pTI []:=λ s us X hl=>by
 rw [List.append_nil] at hl ⊢
 match us,hl with
 | [u0,u1,u2,u3,u4],_=>exact BindsTo.of_defaults rfl (X _ _ lk) rfl rfl rfl
theorem all_mk {P:Program} {w:World} {K:PySem.W.Frag} {h:Heap} {mg:Str->Option Value} {fa:Addr} (X:K.In h) (G:h.Ns mainGlobals mg) (hfa:mg "law"=some (.ref fa))
  {tT tM tMF:Tok}
  {df:Addr}
  {bQ:Addr}
  {eI:Addr}
  {lh:Addr}
  {fg:Addr}
  {lu:Addr}
  {nS:Addr}
  {ur:Addr}
  {eY:Addr}
  {c7:Addr}
  {qc:Addr} {xv:Array Value} {Cd:Nat} {Ah:Option Addr} {zV:Array (Option Value)} {zt tSIGNSN tSIGNSW tSIGNSU tSIGNSR tSIGNSK:Tok}
  {fK:Addr} {jM:Array Value} {qp:Nat} {ou:Option Addr} {oq:Array (Option Value)} {ox tTIMES_SIGNSN tTIMES_SIGNSW tTIMES_SIGNSU:Tok}
  {gw:Addr} {lP:Array Value} {rR:Nat} {pG:Option Addr} {pV:Array (Option Value)} {qA tREST_SIGNSK:Tok}
  {kJ:Addr} {vL:Array DictEntry} {AR:Nat} {lY kSTEPSrule kSTEPSword kSTEPSmelt kSTEPSkind kSTEPSturn:Tok}
  {jb:Addr} {sq:Array DictEntry} {yO:Nat} {jE kTAKERSrule kTAKERSword kTAKERSmelt kTAKERSkind kTAKERSturn:Tok}
  {u9 iSrule iSword iSmelt iSkind iSturn:Tok}
  {t14:Addr}
  {t18:Addr}
  {t20:Addr}
  {t22:Addr}
  {t24:Addr}
  {t40:Addr}
  {f42:Addr} {GF an42:Option Addr} {Es:Array (Option Value)} {EX kV42 dc42 pm42 ct42:Value}{D1:Value}
  {f43:Addr} {Gr an43:Option Addr} {FW:Array (Option Value)} {EY kV43 dc43 pm43 ct43:Value}{xG:Addr} {t43:Addr}
  {f44:Addr} {Ez an44:Option Addr} {Fi:Array (Option Value)} {Gf kV44 dc44 pm44 ct44:Value}{C0:Value}
  {f45:Addr} {GL an45:Option Addr} {Ey:Array (Option Value)} {FA kV45 dc45 pm45 ct45:Value}{Co:Value}
  {f46:Addr} {EI an46:Option Addr} {E4:Array (Option Value)} {Gg kV46 dc46 pm46 ct46:Value}{xr:Addr} {t46:Addr}
  {f47:Addr} {Fv an47:Option Addr} {EH:Array (Option Value)} {Gd kV47 dc47 pm47 ct47:Value}{DP:Value}
  {f71:Addr} {Ft an71:Option Addr} {E1:Array (Option Value)} {Fs kV71 dc71 pm71 ct71:Value}{DB:Value}
  {fE:Addr} {odE anE:Option Addr} {slE:Array (Option Value)} {ocE kVE dcE pmE ctE:Value}{cdE:Value}
  {fR:Addr} {odR anR:Option Addr} {slR:Array (Option Value)} {ocR kVR dcR pmR ctR:Value}{cdR:Value}
  {fJ:Addr} {odJ anJ:Option Addr} {slJ:Array (Option Value)} {ocJ kVJ dcJ pmJ ctJ:Value}{cdJ:Value}
  {dT:Addr} {odT:Option Addr} {rT:Array Value} {nT:Nat} {slT:Array (Option Value)}
  {fI:Addr} {odI anI:Option Addr} {slI:Array (Option Value)} {ocI kVI dcI pmI ctI:Value}{ccI:Addr} {tI:Addr}
  (br:PySem.W.nsIn K mainGlobals "len"=some none)
  (bo:PySem.W.nsIn K mainGlobals "isinstance"=some none)
  (jq:PySem.W.nsIn K mainGlobals "str"=some none)
  (iG:PySem.W.nsIn K mainGlobals "int"=some none)
  (lK:PySem.W.nsIn K mainGlobals "bool"=some none)
  (cL:PySem.W.nsIn K mainGlobals "list"=some none)
  (gn:PySem.W.nsIn K mainGlobals "tuple"=some none)
  (gX:PySem.W.nsIn K mainGlobals "all"=some none)
  (js:PySem.W.nsIn K mainGlobals "any"=some none)
  (cO:PySem.W.nsIn K mainGlobals "range"=some none)
  (oO:PySem.W.nsIn K mainGlobals "zip"=some none)
  (pw:PySem.W.nsIn K mainGlobals "max"=some none)
  (mL:PySem.W.nsIn K mainGlobals "min"=some none)
  (rZ:PySem.W.nsIn K mainGlobals "set"=some none)
  (cN:PySem.W.nsIn K mainGlobals "enumerate"=some none)
  (oY:PySem.W.nsIn K mainGlobals "abs"=some none)
  (C1:PySem.W.nsIn K mainGlobals "TIE"=some (some (.str "+" tT)))
  (yL:PySem.W.nsIn K mainGlobals "MOST_PIECES"=some (some (.int 8 tM)))
  (cMF:PySem.W.nsIn K mainGlobals "MOST_FIGURES"=some (some (.int 60 tMF)))
  (iy:PySem.W.nsIn K mainGlobals "Rule"=some (some (.ref df)))
  (eX:PySem.W.nsIn K mainGlobals "Tongue"=some (some (.ref bQ)))
  (iA:PySem.W.nsIn K mainGlobals "Kind"=some (some (.ref eI)))
  (gg:PySem.W.nsIn K mainGlobals "SayError"=some (some (.ref lh)))
  (bz:PySem.W.nsIn K mainGlobals "BadRule"=some (some (.ref fg)))
  (fQ:PySem.W.nsIn K mainGlobals "BadBound"=some (some (.ref lu)))
  (gZ:PySem.W.nsIn K mainGlobals "BadMelt"=some (some (.ref nS)))
  (ki:PySem.W.nsIn K mainGlobals "Twice"=some (some (.ref ur)))
  (dJ:PySem.W.nsIn K mainGlobals "BadKind"=some (some (.ref eY)))
  (jc:PySem.W.nsIn K mainGlobals "Draft"=some (some (.ref c7)))
  (ig:PySem.W.nsIn K mainGlobals "SIGNS"=some (some (.ref qc)))
  (qK:K.lookup qc=some ⟨.type "tuple",Ah,.seq xv Cd,zV⟩)
  (qm:xv.toList=[.str "Q" zt,.str "N" tSIGNSN,.str "W" tSIGNSW,.str "U" tSIGNSU,.str "R" tSIGNSR,.str "K" tSIGNSK])
  (cA:PySem.W.nsIn K mainGlobals "TIMES_SIGNS"=some (some (.ref fK)))
  (gL:K.lookup fK=some ⟨.type "tuple",ou,.seq jM qp,oq⟩)
  (gJ:jM.toList=[.str "Q" ox,.str "N" tTIMES_SIGNSN,.str "W" tTIMES_SIGNSW,.str "U" tTIMES_SIGNSU])
  (cY:PySem.W.nsIn K mainGlobals "REST_SIGNS"=some (some (.ref gw)))
  (iw:K.lookup gw=some ⟨.type "tuple",pG,.seq lP rR,pV⟩)
  (ik:lP.toList=[.str "R" qA,.str "K" tREST_SIGNSK])
  (gs:PySem.W.specialIn K (.builtin "object.__class__") "__get__"=some (some (.builtin "getset_descriptor.__get__")))
  (tk:PySem.W.takesIn K (.builtin "object.__class__")=some true)
  (kY:PySem.W.excIn K fg [.type "ValueError",.type "Exception",.type "BaseException",.type "object"] "ValueError.__new__"=true)
  (kL:PySem.W.findIn K (.ref fg) "__getattribute__"=some (some (.builtin "BaseException.__getattribute__")))
  (lH:PySem.W.findIn K (.ref fg) "__getattr__"=some none)
  (kI:PySem.W.findIn K (.ref fg) "__class__"=some (some (.builtin "object.__class__")))
  (lM:PySem.W.mroIn K fg (.type "object")=some true)
  (kW:PySem.W.excIn K eY [.type "ValueError",.type "Exception",.type "BaseException",.type "object"] "ValueError.__new__"=true)
  (kG:PySem.W.findIn K (.ref eY) "__getattribute__"=some (some (.builtin "BaseException.__getattribute__")))
  (kR:PySem.W.findIn K (.ref eY) "__getattr__"=some none)
  (kS:PySem.W.findIn K (.ref eY) "__class__"=some (some (.builtin "object.__class__")))
  (kE:PySem.W.mroIn K eY (.type "object")=some true)
  (k1:PySem.W.kitOne K (.type "list") (.type "list")=some true)
  (k2:PySem.W.kitOne K (.type "tuple") (.type "tuple")=some true)
  (k3:PySem.W.kitOne K (.type "str") (.type "str")=some true)
  (k4:PySem.W.kitOne K (.type "int") (.type "int")=some true)
  (k5:PySem.W.kitOne K (.type "int") (.type "bool")=some false)
  (uE:PySem.W.kitOne K (.ref df) (.ref df)=some true)
  (tR:PySem.W.plainGet K df Str.empty=true)
  (sY:PySem.W.hasDictIn K df=true)
  (tm:PySem.W.plainOver K df=true)
  (sU:PySem.W.findIn K (.ref df) "__setattr__"=some (some (.builtin "object.__setattr__")))
  (uP:PySem.W.findIn K (.ref df) "__class__"=some (some (.builtin "object.__class__")))
  (ux:PySem.W.mroIn K df (.type "object")=some true)
  (fU:PySem.W.findIn K (.ref df) "low"=some none)
  (fm:PySem.W.findIn K (.ref df) "high"=some none)
  (du:PySem.W.findIn K (.ref df) "base"=some none)
  (dh:PySem.W.findIn K (.ref df) "first"=some none)
  (fV:PySem.W.findIn K (.ref df) "last"=some none)
  (cz:PySem.W.findIn K (.ref df) "pieces"=some none)
  (uz:PySem.W.makesIn K df=true)
  (tZ:PySem.W.keepIn K (.ref df)=true)
  (m9:PySem.W.kitOne K (.ref bQ) (.ref bQ)=some true)
  (mM:PySem.W.plainGet K bQ Str.empty=true)
  (nI:PySem.W.hasDictIn K bQ=true)
  (mG:PySem.W.plainOver K bQ=true)
  (mO:PySem.W.findIn K (.ref bQ) "__setattr__"=some (some (.builtin "object.__setattr__")))
  (nu:PySem.W.findIn K (.ref bQ) "__class__"=some (some (.builtin "object.__class__")))
  (nJ:PySem.W.mroIn K bQ (.type "object")=some true)
  (fN:PySem.W.findIn K (.ref bQ) "bound"=some none)
  (fD:PySem.W.findIn K (.ref bQ) "rules"=some none)
  (fM:PySem.W.findIn K (.ref bQ) "melts"=some none)
  (eO:PySem.W.findIn K (.ref bQ) "kinds"=some none)
  (nC:PySem.W.makesIn K bQ=true)
  (mP:PySem.W.keepIn K (.ref bQ)=true)
  (sQ:PySem.W.kitOne K (.ref eI) (.ref eI)=some true)
  (uv:PySem.W.plainGet K eI Str.empty=true)
  (uc:PySem.W.hasDictIn K eI=true)
  (tP:PySem.W.plainOver K eI=true)
  (tN:PySem.W.findIn K (.ref eI) "__setattr__"=some (some (.builtin "object.__setattr__")))
  (uN:PySem.W.findIn K (.ref eI) "__class__"=some (some (.builtin "object.__class__")))
  (sP:PySem.W.mroIn K eI (.type "object")=some true)
  (dm:PySem.W.findIn K (.ref eI) "title"=some none)
  (dM:PySem.W.findIn K (.ref eI) "ending"=some none)
  (eQ:PySem.W.findIn K (.ref eI) "turns"=some none)
  (ua:PySem.W.makesIn K eI=true)
  (uB:PySem.W.keepIn K (.ref eI)=true)
  (pT:PySem.W.plainGet K c7 Str.empty=true)
  (qu:PySem.W.hasDictIn K c7=true)
  (pK:PySem.W.plainOver K c7=true)
  (qw:PySem.W.findIn K (.ref c7) "__setattr__"=some (some (.builtin "object.__setattr__")))
  (cG:PySem.W.findIn K (.ref c7) "bound"=some none)
  (eG:PySem.W.findIn K (.ref c7) "rules"=some none)
  (eZ:PySem.W.findIn K (.ref c7) "melts"=some none)
  (cy:PySem.W.findIn K (.ref c7) "kinds"=some none)
  (gu:PySem.W.findIn K (.ref c7) "step"=some none)
  (qz:PySem.W.makesIn K c7=true)
  (qk:PySem.W.keepIn K (.ref c7)=true)
  (gB:PySem.W.nsIn K mainGlobals "STEPS"=some (some (.ref kJ)))
  (qh:K.lookup kJ=some ⟨.type "dict",none,.dict vL AR,#[]⟩)
  (ql:(kJ==sysModules)=false)
  (gP:PySem.W.nsIn K mainGlobals "TAKERS"=some (some (.ref jb)))
  (nZ:K.lookup jb=some ⟨.type "dict",none,.dict sq yO,#[]⟩)
  (nQ:(jb==sysModules)=false)
  (h14:n5 K "small_letters" (top 14) t14)
  (h15:cS K "is_word" (top 15))
  (h17:cS K "check_numbers" (top 17))
  (h18:n5 K "check_pieces" (top 18) t18)
  (h19:cS K "is_piece" (top 19))
  (h20:n5 K "ties_fit" (top 20) t20)
  (h21:cS K "check_telling" (top 21))
  (h22:n5 K "has_any" (top 22) t22)
  (h24:n5 K "are_word_pairs" (top 24) t24)
  (h25:cS K "is_word_pair" (top 25))
  (h28:cS K "own_list" (top 28))
  (h29:cS K "is_melt" (top 29))
  (h30:cS K "check_titles" (top 30))
  (h36:cS K "tongue_text" (top 36))
  (h37:cS K "rule_text" (top 37))
  (h38:cS K "is_word_rule" (top 38))
  (h39:cS K "word_rule" (top 39))
  (h40:n5 K "is_figures" (top 40) t40)
  (a42:PySem.W.nsIn K mainGlobals "take_bound"=some (some (.ref f42)))
  (l42:K.lookup f42=some ⟨EX,GF,.func (PySem.W.fnOf "take_bound" "take_bound" (bJ (top 42)) (bG (top 42)) (aw (top 42)) .none kV42 dc42 pm42 an42 D1 ct42),Es⟩)
  (c42:PySem.W.codeIn K D1 "take_bound"=true)
  (Cv:PySem.W.keepIn K (.ref f42)=true)
  (a43:PySem.W.nsIn K mainGlobals "take_rule"=some (some (.ref f43)))
  (l43:K.lookup f43=some ⟨EY,Gr,.func (PySem.W.fnOf "take_rule" "take_rule" (bJ (top 43)) (bG (top 43)) (aw (top 43)) .none kV43 dc43 pm43 an43 (.ref xG) ct43),FW⟩)
  (c43:PySem.W.codeIn K (.ref xG) "take_rule"=true)
  (DF:PySem.W.keepIn K (.ref f43)=true)
  (Gn:PySem.W.tabIn K "take_rule"=some (xG,t43))
  (d43:PySem.W.codeHdIn K xG t43=true)
  (a44:PySem.W.nsIn K mainGlobals "take_word"=some (some (.ref f44)))
  (l44:K.lookup f44=some ⟨Gf,Ez,.func (PySem.W.fnOf "take_word" "take_word" (bJ (top 44)) (bG (top 44)) (aw (top 44)) .none kV44 dc44 pm44 an44 C0 ct44),Fi⟩)
  (c44:PySem.W.codeIn K C0 "take_word"=true)
  (DW:PySem.W.keepIn K (.ref f44)=true)
  (a45:PySem.W.nsIn K mainGlobals "take_melt"=some (some (.ref f45)))
  (l45:K.lookup f45=some ⟨FA,GL,.func (PySem.W.fnOf "take_melt" "take_melt" (bJ (top 45)) (bG (top 45)) (aw (top 45)) .none kV45 dc45 pm45 an45 Co ct45),Ey⟩)
  (c45:PySem.W.codeIn K Co "take_melt"=true)
  (DV:PySem.W.keepIn K (.ref f45)=true)
  (a46:PySem.W.nsIn K mainGlobals "take_kind"=some (some (.ref f46)))
  (l46:K.lookup f46=some ⟨Gg,EI,.func (PySem.W.fnOf "take_kind" "take_kind" (bJ (top 46)) (bG (top 46)) (aw (top 46)) .none kV46 dc46 pm46 an46 (.ref xr) ct46),E4⟩)
  (c46:PySem.W.codeIn K (.ref xr) "take_kind"=true)
  (Dl:PySem.W.keepIn K (.ref f46)=true)
  (Gv:PySem.W.tabIn K "take_kind"=some (xr,t46))
  (d46:PySem.W.codeHdIn K xr t46=true)
  (a47:PySem.W.nsIn K mainGlobals "take_turn"=some (some (.ref f47)))
  (l47:K.lookup f47=some ⟨Gd,Fv,.func (PySem.W.fnOf "take_turn" "take_turn" (bJ (top 47)) (bG (top 47)) (aw (top 47)) .none kV47 dc47 pm47 an47 DP ct47),EH⟩)
  (c47:PySem.W.codeIn K DP "take_turn"=true)
  (Dy:PySem.W.keepIn K (.ref f47)=true)
  (h49:cS K "read_tongue" (top 49))
  (h50:cS K "is_taken" (top 50))
  (h51:cS K "may_stand" (top 51))
  (h53:cS K "_law_begin" (top 53))
  (h54:cS K "_law_next" (top 54))
  (h55:cS K "_law_words" (top 55))
  (h56:cS K "_law_melt" (top 56))
  (h57:cS K "_law_melts" (top 57))
  (h58:cS K "_law_great" (top 58))
  (h59:cS K "_law_items" (top 59))
  (h60:cS K "_law_rule" (top 60))
  (h61:cS K "_law_kind" (top 61))
  (h62:cS K "_law_data" (top 62))
  (h63:cS K "_law_tongue" (top 63))
  (h64:cS K "_law_rule_row" (top 64))
  (h65:cS K "_law_rows" (top 65))
  (h66:cS K "_law_whole" (top 66))
  (h67:cS K "_law_is_rule" (top 67))
  (h68:cS K "_law_is_tongue" (top 68))
  (h69:cS K "_law_loose" (top 69))
  (h70:cS K "_law_other_rows" (top 70))
  (a71:PySem.W.nsIn K mainGlobals "law"=some (some (.ref f71)))
  (l71:K.lookup f71=some ⟨Fs,Ft,.func (PySem.W.fnOf "law" "law" (bJ (top 71)) (bG (top 71)) (aw (top 71)) .none kV71 dc71 pm71 an71 DB ct71),E1⟩)
  (c71:PySem.W.codeIn K DB "law"=true)
  (D6:PySem.W.keepIn K (.ref f71)=true)
  (aE:PySem.W.findIn K (.ref c7) "__init__"=some (some (.ref fE)))
  (lE:K.lookup fE=some ⟨ocE,odE,.func (PySem.W.fnOf "__init__" "Draft.__init__" (bJ sDI) (bG sDI) (aw sDI) .none kVE dcE pmE anE cdE ctE),slE⟩)
  (cE:PySem.W.codeIn K cdE "Draft.__init__"=true)
  (kE_:PySem.W.keepIn K (.ref fE)=true)
  (iE:PySem.W.isFn K (.ref fE)=true)
  (qr:vL.toList=[⟨hashStr w "bound",.str "bound" lY,.int 0 u9⟩,⟨hashStr w "rule",.str "rule" kSTEPSrule,.int 1 iSrule⟩,⟨hashStr w "word",.str "word" kSTEPSword,.int 1 iSword⟩,⟨hashStr w "melt",.str "melt" kSTEPSmelt,.int 2 iSmelt⟩,⟨hashStr w "kind",.str "kind" kSTEPSkind,.int 3 iSkind⟩,⟨hashStr w "turn",.str "turn" kSTEPSturn,.int 3 iSturn⟩])
  (nG:sq.toList=[⟨hashStr w "bound",.str "bound" jE,.ref f42⟩,⟨hashStr w "rule",.str "rule" kTAKERSrule,.ref f43⟩,⟨hashStr w "word",.str "word" kTAKERSword,.ref f44⟩,⟨hashStr w "melt",.str "melt" kTAKERSmelt,.ref f45⟩,⟨hashStr w "kind",.str "kind" kTAKERSkind,.ref f46⟩,⟨hashStr w "turn",.str "turn" kTAKERSturn,.ref f47⟩])
  (aR:PySem.W.findIn K (.ref df) "__init__"=some (some (.ref fR)))
  (lR:K.lookup fR=some ⟨ocR,odR,.func (PySem.W.fnOf "__init__" "Rule.__init__" (bJ rH) (bG rH) (aw rH) .none kVR dcR pmR anR cdR ctR),slR⟩)
  (cR:PySem.W.codeIn K cdR "Rule.__init__"=true)
  (kR_:PySem.W.keepIn K (.ref fR)=true)
  (iR:PySem.W.isFn K (.ref fR)=true)
  (aJ:PySem.W.findIn K (.ref eI) "__init__"=some (some (.ref fJ)))
  (lJ:K.lookup fJ=some ⟨ocJ,odJ,.func (PySem.W.fnOf "__init__" "Kind.__init__" (bJ sKI) (bG sKI) (aw sKI) .none kVJ dcJ pmJ anJ cdJ ctJ),slJ⟩)
  (cJ:PySem.W.codeIn K cdJ "Kind.__init__"=true)
  (kJ_:PySem.W.keepIn K (.ref fJ)=true)
  (iJ:PySem.W.isFn K (.ref fJ)=true)
  (aI:PySem.W.findIn K (.ref bQ) "__init__"=some (some (.ref fI)))
  (lI:K.lookup fI=some ⟨ocI,odI,.func (PySem.W.fnOf "__init__" "Tongue.__init__" (bJ sTI) (bG sTI) (aw sTI) (.ref dT) kVI dcI pmI anI (.ref ccI) ctI),slI⟩)
  (cI:PySem.W.codeIn K (.ref ccI) "Tongue.__init__"=true)
  (kI_:PySem.W.keepIn K (.ref fI)=true)
  (dI:PySem.W.codeHdIn K ccI tI=true)
  (lT:K.lookup dT=some ⟨.type "tuple",odT,.seq rT nT,slT⟩)
  (vT:rT=#[Value.none,Value.none])
  (iI:PySem.W.isFn K (.ref fI)=true):
  ∃ fd:FuncData,(∀ (s:Shared) (v:Value),BindsTo s fd ⟨[v],[]⟩ [("_law_script",v)])/\∀ base:Heap,K.In base->base.Ns mainGlobals mg->iM base ->
   cC P w K mg base CX0 14 fa fd ["_law_script"] (vt K ⟨df,bQ,eI,lh,fg,lu,nS,ur,eY,qc,fK,gw,t14,t18,t20,t22,tI,t24,c7,kJ,jb,t40,t43,t46⟩):=by
 have e:=hfa.symm.trans (PySem.W.mg_of X G a71)
 cases e
 generalize hA:(⟨df,bQ,eI,lh,fg,lu,nS,ur,eY,qc,fK,gw,t14,t18,t20,t22,tI,t24,c7,kJ,jb,t40,t43,t46⟩:Ad)=A
 have T:Txt K mg A:=by
  subst hA
  exact {
   br:=PySem.W.mg_none_of X G br
   bo:=PySem.W.mg_none_of X G bo
   jq:=PySem.W.mg_none_of X G jq
   iG:=PySem.W.mg_none_of X G iG
   lK:=PySem.W.mg_none_of X G lK
   cL:=PySem.W.mg_none_of X G cL
   gn:=PySem.W.mg_none_of X G gn
   gX:=PySem.W.mg_none_of X G gX
   js:=PySem.W.mg_none_of X G js
   cO:=PySem.W.mg_none_of X G cO
   oO:=PySem.W.mg_none_of X G oO
   pw:=PySem.W.mg_none_of X G pw
   mL:=PySem.W.mg_none_of X G mL
   rZ:=PySem.W.mg_none_of X G rZ
   cN:=PySem.W.mg_none_of X G cN
   oY:=PySem.W.mg_none_of X G oY
   tw:=⟨_,PySem.W.mg_of X G C1⟩
   uV:=⟨_,PySem.W.mg_of X G yL⟩
   Bw:=⟨_,PySem.W.mg_of X G cMF⟩
   gB:=PySem.W.mg_of X G gB
   gP:=PySem.W.mg_of X G gP
   ig:=PySem.W.mg_of X G ig
   cA:=PySem.W.mg_of X G cA
   cY:=PySem.W.mg_of X G cY
   mv:=zj qK (by decide) (by rw [qm];exact .cons ⟨_,rfl⟩ (.cons ⟨_,rfl⟩ (.cons ⟨_,rfl⟩ (.cons ⟨_,rfl⟩ (.cons ⟨_,rfl⟩ (.cons ⟨_,rfl⟩ (.nil)))))))
   qF:=zj gL (by decide) (by rw [gJ];exact .cons ⟨_,rfl⟩ (.cons ⟨_,rfl⟩ (.cons ⟨_,rfl⟩ (.cons ⟨_,rfl⟩ (.nil)))))
   yF:=zj iw (by decide) (by rw [ik];exact .cons ⟨_,rfl⟩ (.cons ⟨_,rfl⟩ (.nil)))
   iy:=PySem.W.mg_of X G iy
   eX:=PySem.W.mg_of X G eX
   iA:=PySem.W.mg_of X G iA
   gg:=PySem.W.mg_of X G gg
   bz:=PySem.W.mg_of X G bz
   fQ:=PySem.W.mg_of X G fQ
   gZ:=PySem.W.mg_of X G gZ
   ki:=PySem.W.mg_of X G ki
   dJ:=PySem.W.mg_of X G dJ
   jc:=PySem.W.mg_of X G jc
   bq:=⟨kY,kL,lH,kI,gs,tk,lM⟩
   jd:=⟨kW,kG,kR,kS,gs,tk,kE⟩
   y9:=uE
   zp:=sQ
   wZ:=m9
   xh:=k1
   zb:=k2
   A8:=k3
   FN:=k4
   Gm:=k5
   clD:=⟨pT,qu,pK,qw⟩
   cG:=cG
   eG:=eG
   eZ:=eZ
   cy:=cy
   gu:=gu
   clR:=⟨tR,sY,tm,sU⟩
   EZ:=uP
   FD:=ux
   cl:=⟨mM,nI,mG,mO⟩
   clc:=nu
   clm:=nJ
   clK:=⟨uv,uc,tP,tN⟩
   ER:=uN
   FI:=sP
   fU:=fU
   fm:=fm
   du:=du
   dh:=dh
   fV:=fV
   cz:=cz
   fN:=fN
   fD:=fD
   fM:=fM
   eO:=eO
   dm:=dm
   dM:=dM
   eQ:=eQ }
 obtain ⟨D14,cK14⟩:∃ D:nB K mg,b5 K D.cdv t14:=oJ X G h14 (λ _ _ _ _ _ _ us hl=>match us,hl with | [_,_,_],_=>rfl)
 obtain ⟨D15⟩:Nonempty (o9 K mg):=cZ X G h15 (λ _ _ _ _ _ _ us hl=>match us,hl with | [_],_=>rfl)
 obtain ⟨D17⟩:Nonempty (ym K mg):=cZ X G h17 (λ _ _ _ _ _ _ us hl=>match us,hl with | [_],_=>rfl)
 obtain ⟨D18,cK18⟩:∃ D:qG K mg,b5 K D.cdv t18:=oJ X G h18 (λ _ _ _ _ _ _ us hl=>match us,hl with | [_],_=>rfl)
 obtain ⟨D19⟩:Nonempty (tD K mg):=cZ X G h19 (λ _ _ _ _ _ _ us hl=>match us,hl with | [_],_=>rfl)
 obtain ⟨D20,cK20⟩:∃ D:xY K mg,b5 K D.cdv t20:=oJ X G h20 (λ _ _ _ _ _ _ us hl=>match us,hl with | [_],_=>rfl)
 obtain ⟨D21⟩:Nonempty (yf K mg):=cZ X G h21 (λ _ _ _ _ _ _ us hl=>match us,hl with | [_],_=>rfl)
 obtain ⟨D22,cK22⟩:∃ D:BZ K mg,b5 K D.cdv t22:=oJ X G h22 (λ _ _ _ _ _ _ us hl=>match us,hl with | [_,_],_=>rfl)
 obtain ⟨D24,cK24⟩:∃ D:DG K mg,b5 K D.cdv t24:=oJ X G h24 (λ _ _ _ _ _ _ us hl=>match us,hl with | [_],_=>rfl)
 obtain ⟨D25⟩:Nonempty (C4 K mg):=cZ X G h25 (λ _ _ _ _ _ _ us hl=>match us,hl with | [_],_=>rfl)
 obtain ⟨D28⟩:Nonempty (DH K mg):=cZ X G h28 (λ _ _ _ _ _ _ us hl=>match us,hl with | [_],_=>rfl)
 obtain ⟨D29⟩:Nonempty (vq K mg):=cZ X G h29 (λ _ _ _ _ _ _ us hl=>match us,hl with | [_],_=>rfl)
 obtain ⟨D30⟩:Nonempty (CI K mg):=cZ X G h30 (λ _ _ _ _ _ _ us hl=>match us,hl with | [_],_=>rfl)
 obtain ⟨D36⟩:Nonempty (DTT K mg):=cZ X G h36 (λ _ _ _ _ _ _ us hl=>match us,hl with | [_],_=>rfl)
 obtain ⟨D37⟩:Nonempty (Ck K mg):=cZ X G h37 (λ _ _ _ _ _ _ us hl=>match us,hl with | [_],_=>rfl)
 obtain ⟨D38⟩:Nonempty (DWR K mg):=cZ X G h38 (λ _ _ _ _ _ _ us hl=>match us,hl with | [_],_=>rfl)
 obtain ⟨D39⟩:Nonempty (DWd K mg):=cZ X G h39 (λ _ _ _ _ _ _ us hl=>match us,hl with | [_,_],_=>rfl)
 obtain ⟨D40,cK40⟩:∃ D:yg K mg,b5 K D.cdv t40:=oJ X G h40 (λ _ _ _ _ _ _ us hl=>match us,hl with | [_],_=>rfl)
 let D42:DTB K mg:=⟨_,_,D1,⟨EX,GF,kV42,dc42,pm42,an42,ct42,Es,rfl,l42,c42⟩,Cv,PySem.W.mg_of X G a42,.all (λ us hl=>match us,hl with | [_,_],_=>rfl)⟩
 let D43:DTR K mg:=⟨_,_,.ref xG,⟨EY,Gr,kV43,dc43,pm43,an43,ct43,FW,rfl,l43,c43⟩,DF,PySem.W.mg_of X G a43,.all (λ us hl=>match us,hl with | [_,_],_=>rfl)⟩
 have cK43:=jR d43
 let D44:DTW K mg:=⟨_,_,C0,⟨Gf,Ez,kV44,dc44,pm44,an44,ct44,Fi,rfl,l44,c44⟩,DW,PySem.W.mg_of X G a44,.all (λ us hl=>match us,hl with | [_,_],_=>rfl)⟩
 let D45:DTM K mg:=⟨_,_,Co,⟨FA,GL,kV45,dc45,pm45,an45,ct45,Ey,rfl,l45,c45⟩,DV,PySem.W.mg_of X G a45,.all (λ us hl=>match us,hl with | [_,_],_=>rfl)⟩
 let D46:DTK K mg:=⟨_,_,.ref xr,⟨Gg,EI,kV46,dc46,pm46,an46,ct46,E4,rfl,l46,c46⟩,Dl,PySem.W.mg_of X G a46,.all (λ us hl=>match us,hl with | [_,_],_=>rfl)⟩
 have cK46:=jR d46
 let D47:FT K mg:=⟨_,_,DP,⟨Gd,Fv,kV47,dc47,pm47,an47,ct47,EH,rfl,l47,c47⟩,Dy,PySem.W.mg_of X G a47,.all (λ us hl=>match us,hl with | [_,_],_=>rfl)⟩
 obtain ⟨D49⟩:Nonempty (DRd K mg):=cZ X G h49 (λ _ _ _ _ _ _ us hl=>match us,hl with | [_],_=>rfl)
 obtain ⟨D50⟩:Nonempty (DIK K mg):=cZ X G h50 (λ _ _ _ _ _ _ us hl=>match us,hl with | [_,_],_=>rfl)
 obtain ⟨D51⟩:Nonempty (DMS K mg):=cZ X G h51 (λ _ _ _ _ _ _ us hl=>match us,hl with | [_,_],_=>rfl)
 obtain ⟨D53⟩:Nonempty (uf K mg):=cZ X G h53 (λ _ _ _ _ _ _ us hl=>match us,hl with | [_],_=>rfl)
 obtain ⟨D54⟩:Nonempty (iK K mg):=cZ X G h54 (λ _ _ _ _ _ _ us hl=>match us,hl with | [_,_],_=>rfl)
 obtain ⟨D55⟩:Nonempty (sG K mg):=cZ X G h55 (λ _ _ _ _ _ _ us hl=>match us,hl with | [_,_,_],_=>rfl)
 obtain ⟨D56⟩:Nonempty (DLM K mg):=cZ X G h56 (λ _ _ _ _ _ _ us hl=>match us,hl with | [_,_,_],_=>rfl)
 obtain ⟨D57⟩:Nonempty (CT K mg):=cZ X G h57 (λ _ _ _ _ _ _ us hl=>match us,hl with | [_,_,_,_],_=>rfl)
 obtain ⟨D58⟩:Nonempty (DGr K mg):=cZ X G h58 (λ _ _ _ _ _ _ us hl=>match us,hl with | [_,_],_=>rfl)
 obtain ⟨D59⟩:Nonempty (DIt K mg):=cZ X G h59 (λ _ _ _ _ _ _ us hl=>match us,hl with | [_,_,_,_],_=>rfl)
 obtain ⟨D60⟩:Nonempty (DRu K mg):=cZ X G h60 (λ _ _ _ _ _ _ us hl=>match us,hl with | [_,_,_,_],_=>rfl)
 obtain ⟨D61⟩:Nonempty (DKd K mg):=cZ X G h61 (λ _ _ _ _ _ _ us hl=>match us,hl with | [_,_,_,_],_=>rfl)
 obtain ⟨D62⟩:Nonempty (DDa K mg):=cZ X G h62 (λ _ _ _ _ _ _ us hl=>match us,hl with | [_,_],_=>rfl)
 obtain ⟨D63⟩:Nonempty (DTg K mg):=cZ X G h63 (λ _ _ _ _ _ _ us hl=>match us,hl with | [_],_=>rfl)
 obtain ⟨D64⟩:Nonempty (DRR K mg):=cZ X G h64 (λ _ _ _ _ _ _ us hl=>match us,hl with | [_],_=>rfl)
 obtain ⟨D65⟩:Nonempty (DRs K mg):=cZ X G h65 (λ _ _ _ _ _ _ us hl=>match us,hl with | [_],_=>rfl)
 obtain ⟨D66⟩:Nonempty (qD K mg):=cZ X G h66 (λ _ _ _ _ _ _ us hl=>match us,hl with | [_],_=>rfl)
 obtain ⟨D67⟩:Nonempty (DIR K mg):=cZ X G h67 (λ _ _ _ _ _ _ us hl=>match us,hl with | [_,_],_=>rfl)
 obtain ⟨D68⟩:Nonempty (DIT K mg):=cZ X G h68 (λ _ _ _ _ _ _ us hl=>match us,hl with | [_,_],_=>rfl)
 obtain ⟨D69⟩:Nonempty (DLo K mg):=cZ X G h69 (λ _ _ _ _ _ _ us hl=>match us,hl with | [_,_,_],_=>rfl)
 obtain ⟨D70⟩:Nonempty (DOR K mg):=cZ X G h70 (λ _ _ _ _ _ _ us hl=>match us,hl with | [_,_,_],_=>rfl)
 let D71:GN K mg:=⟨_,_,DB,⟨Fs,Ft,kV71,dc71,pm71,an71,ct71,E1,rfl,l71,c71⟩,D6,PySem.W.mg_of X G a71,.all (λ us hl=>match us,hl with | [_],_=>rfl)⟩
 let DE:DDr K:=⟨fE,_,cdE,⟨ocE,odE,kVE,dcE,pmE,anE,ctE,slE,rfl,lE,cE⟩,kE_,.all (λ us hl=>match us,hl with | [_],_=>rfl)⟩
 let DI:vz K:=⟨fI,_,.ref ccI,⟨ocI,odI,.ref dT,kVI,dcI,pmI,anI,ctI,slI,rfl,lI,cI⟩,kI_⟩
 let DJ:DKI K:=⟨fJ,_,cdJ,⟨ocJ,odJ,kVJ,dcJ,pmJ,anJ,ctJ,slJ,rfl,lJ,cJ⟩,kJ_,.all (λ us hl=>match us,hl with | [_,_,_,_],_=>rfl)⟩
 let DR:sC K:=⟨fR,_,cdR,⟨ocR,odR,kVR,dcR,pmR,anR,ctR,slR,rfl,lR,cR⟩,kR_,.all (λ us hl=>match us,hl with | [_,_,_,_,_,_,_],_=>rfl)⟩
 refine ⟨D71.fd,λ s v=>.of_eq rfl,λ base _ _ hB=>?_⟩
 have e1:A.tSL=t14:=by rw [<- hA]
 have ctSL_:b5 K D14.cdv A.tSL:=by rw [e1];exact cK14
 have e2:A.tCP=t18:=by rw [<- hA]
 have ctCP_:b5 K D18.cdv A.tCP:=by rw [e2];exact cK18
 have e3:A.tTF=t20:=by rw [<- hA]
 have ctTF_:b5 K D20.cdv A.tTF:=by rw [e3];exact cK20
 have e4:A.tHA=t22:=by rw [<- hA]
 have ctHA_:b5 K D22.cdv A.tHA:=by rw [e4];exact cK22
 have e5:A.tTI=tI:=by rw [<- hA]
 have ctTI_:b5 K DI.cdv A.tTI:=by rw [e5];exact jR dI
 have e6:A.tWP=t24:=by rw [<- hA]
 have ctWP_:b5 K D24.cdv A.tWP:=by rw [e6];exact cK24
 have e7:A.tFI=t40:=by rw [<- hA]
 have ctFI_:b5 K D40.cdv A.tFI:=by rw [e7];exact cK40
 have e8:A.tTR=t43:=by rw [<- hA]
 have ctTR_:b5 K D43.cdv A.tTR:=by rw [e8];exact cK43
 have e9:A.tTK=t46:=by rw [<- hA]
 have ctTK_:b5 K D46.cdv A.tTK:=by rw [e9];exact cK46
 have eR:A.dw=df:=by rw [<- hA]
 have eT:A.bH=bQ:=by rw [<- hA]
 have eK:A.Kind=eI:=by rw [<- hA]
 have eD:A.bZ=c7:=by rw [<- hA]
 have ME:Mk K A.bZ DE.f:=by rw [eD];exact ⟨qz,aE,iE,qk⟩
 have MR:Mk K A.dw DR.f:=by rw [eR];exact ⟨uz,aR,iR,tZ⟩
 have MT:Mk K A.bH DI.f:=by rw [eT];exact ⟨nC,aI,iI,mP⟩
 have MK:Mk K A.Kind DJ.f:=by rw [eK];exact ⟨ua,aJ,iJ,uB⟩
 have bd:Binds K DI.fd pTI []:=by subst vT;exact AF lT
 have G14:F0 P w base 2 D14 (ku A.tSL):=xj D14 ctSL_ hB T
 have G15:F0 P w base 3 D15 (kQ A.tSL):=zU D15 D14 G14
 have G19:F0 P w base 4 D19 (qC A.tSL):=wJ D19 D15 G15 T
 have G17:F1 P w base 1 D17 (sZ A):=AE D17 T
 have G22:F0 P w base 2 D22 (yE K A):=CS D22 ctHA_ hB T
 have G21:F1 P w base 3 D21 (uI A):=Aw D21 D22 G22 T
 have G20:F0 P w base 2 D20 (sI A):=zy D20 ctTF_ hB T
 have G18:F1 P w base 7 D18 (mX A):=wG D18 ctCP_ hB D19 G19 D15 G15 D20 G20 T
 have GR:cC P w K mg base (CXE P w) 8 DR.f DR.fd ["self","low","high","base","first","last","pieces"] (ni A):=Aa DR D17 G17 D18 G18 D21 G21 T
 have G28:F0 P w base 1 D28 (xA K):=CD D28 T
 have G29:F0 P w base 3 D29 (qB A):=z7 D29 D14 G14 T
 have G30:F0 P w base 1 D30 (xy A):=CP D30 T
 have GI:cC P w K mg base CX0 6 DI.f DI.fd pTI (qi A):=AY DI ctTI_ hB D28 G28 D29 G29 D30 G30 T
 have G25:F0 P w base 4 D25 (y6 A):=C5 D25 D15 G15 T
 have G24:F0 P w base 6 D24 (yY A):=CC D24 ctWP_ hB D25 G25 T
 have GJ:cC P w K mg base (CXE P w) 7 DJ.f DJ.fd pKI (zm A):=E9 DJ D14 G14 D15 G15 D24 G24 T
 have G38:F0 P w base 1 D38 (CQ A):=Fu D38 T
 have G37:F0 P w base 2 D37 (xC A):=Cb D37 D38 G38 T
 have G36:F0 P w base 3 D36 (DZ A):=Gz D36 D37 G37 T
 have G40:F0 P w base 2 D40 (su A):=Cy D40 ctFI_ hB T
 have G39:F0 P w base 10 D39 (BY A):=EO D39 DR MR GR T
 have GE:cC P w K mg base CX0 1 DE.f DE.fd ["self"] (BV A):=Fn DE T
 have G42:F0 P w base 3 D42 (fv A λ rw=>∃ i,rw=.bound i):=Ff D42 D40 G40 T
 have G43:F0 P w base 11 D43 (fv A λ rw=>∃ r,rw=.rule r):=F5 D43 ctTR_ hB D40 G40 DR MR GR T
 have G44:F0 P w base 11 D44 (fv A λ rw=>∃ r,rw=.word r):=GA D44 D40 G40 D39 G39 T
 have G45:F0 P w base 4 D45 (fv A λ rw=>∃ m,rw=.gk m):=EN D45 D29 G29 T
 have G46:F0 P w base 10 D46 (fv A λ rw=>∃ t e,rw=.kind t e):=GG D46 ctTK_ hB DJ MK GJ T
 have G47:F0 P w base 10 D47 (fv A λ rw=>∃ m,rw=.turn m):=CY D47 DJ MK GJ T
 let SX:Six P w K mg base A:=EF (vO D42 G42 (by decide)) (vO D43 G43 (by decide)) (vO D44 G44 (by decide)) (vO D45 G45 (by decide)) (vO D46 G46 (by decide)) (vO D47 G47 (by decide)) rfl rfl rfl rfl rfl rfl
 have eS:A.lQ=kJ:=by rw [<- hA]
 have eTk:A.mE=jb:=by rw [<- hA]
 have cSt:jn P w K A.lQ qx:=by rw [eS];exact qN qh ql [("bound",lY,.int 0 u9,.int 0),("rule",kSTEPSrule,.int 1 iSrule,.int 1),("word",kSTEPSword,.int 1 iSword,.int 1),("melt",kSTEPSmelt,.int 2 iSmelt,.int 2),("kind",kSTEPSkind,.int 3 iSkind,.int 3),("turn",kSTEPSturn,.int 3 iSturn,.int 3)] qr (λ x hx=>by simp only [List.mem_cons,List.not_mem_nil,or_false] at hx;rcases hx with rfl | rfl | rfl | rfl | rfl | rfl <;> first | exact ⟨_,rfl⟩ | exact rfl) ["bound","rule","word","melt","kind","turn"] rfl (by decide +kernel)
 have cTk:jn P w K A.mE (pI SX.C):=by rw [eTk];exact qN nZ nQ [("bound",jE,.ref f42,.ref f42),("rule",kTAKERSrule,.ref f43,.ref f43),("word",kTAKERSword,.ref f44,.ref f44),("melt",kTAKERSmelt,.ref f45,.ref f45),("kind",kTAKERSkind,.ref f46,.ref f46),("turn",kTAKERSturn,.ref f47,.ref f47)] nG (λ x hx=>by simp only [List.mem_cons,List.not_mem_nil,or_false] at hx;rcases hx with rfl | rfl | rfl | rfl | rfl | rfl <;> first | exact ⟨_,rfl⟩ | exact rfl) ["bound","rule","word","melt","kind","turn"] rfl (by decide +kernel)
 have G51:F0 P w base 1 D51 (Ec A):=ED D51 cSt T
 have G50:F0 P w base 12 D50 (CG A):=Fh D50 SX cSt cTk D51 G51 T
 have G49:F0 P w base 13 D49 (AN A):=EL D49 DE ME GE D50 G50 DI MT bd GI T
 have G53:F0 P w base 1 D53 (qH K):=xg D53 (PySem.W.mg_none_of X G oY) T
 have G54:F0 P w base 1 D54 (fz K):=AJ D54 T
 have G55:F0 P w base 2 D55 (pZ K):=w6 D55 D54 G54 T
 have G56:F0 P w base 2 D56 (DM K):=El D56 D54 G54 T
 have G57:F0 P w base 3 D57 (yv K):=Ea D57 D54 G54 D56 G56 T
 have G58:F0 P w base 2 D58 (AI K):=E3 D58 D54 G54 T
 have G59:F0 P w base 2 D59 (Cr K):=Fy D59 D54 G54 T
 have G60:F0 P w base 3 D60 (C2 K):=GH D60 D54 G54 D58 G58 D59 G59 T
 have G61:F0 P w base 2 D61 (Cz K):=Ge D61 D54 G54 T
 have G62:F0 P w base 4 D62 (CZ K):=Ew D62 D54 G54 D55 G55 D58 G58 D60 G60 D57 G57 D61 G61 T
 have G63:F0 P w base 10 D63 (Ef A):=Em D63 DR MR GR DJ MK GJ DI MT bd GI T
 have G64:F0 P w base 1 D64 Ds:=Et D64 T
 have G65:F0 P w base 2 D65 DX:=Gj D65 D64 G64 T
 have G66:F0 P w base 1 D66 mw:=yj D66 T
 have G67:F0 P w base 2 D67 (CW A):=FO D67 D66 G66 T
 have G68:F0 P w base 3 D68 (DA A):=DS D68 D66 G66 D67 G67 T
 have G70:F0 P w base 2 D70 (Dh K):=Gk D70 D54 G54 T
 have G69:F0 P w base 2 D69 (Dt K):=EJ D69 D54 G54 T
 exact Ed D71 ⟨D53,G53,D62,G62,D63,G63,D65,G65,D36,G36,D68,G68,D49,G49,D70,G70,D69,G69⟩ T
theorem walk {l:PySem.W.OpenLaw} {q:Program} {loose:List Str} {XP:(Str->Option Value)->Heap->Prop} {YP:World->Heap->Prop} {d:DefRec} {K:Params->PySem.W.Frag} (ad:Ad) (hn:l.most=some 63) (hdf:d.params.defaults=[])
  (hY:∀ (w:World) (h:Heap),YP w h->(K w.params).In h/\∀ t∈[ad.tTI],h.get? t=some (PySem.W.tabObj #[]))
  (F:∀ (w:World) (mg:Str->Option Value) (fa:Addr) (h:Heap),(K w.params).In h->h.Ns mainGlobals mg->mg d.name=some (.ref fa) ->
   ∃ fd:FuncData,(∀ (s:Shared) (u:Value),BindsTo s fd ⟨[u],[]⟩ [("_law_script",u)])/\∀ base:Heap,(K w.params).In base->base.Ns mainGlobals mg->iM base->cC l.prog w (K w.params) mg base CX0 14 fa fd ["_law_script"] (vt (K w.params) ad))
  (hK:∀ w:World,PySem.W.noTabs (K w.params)=true)
  (r0:∃ d',(recsOf q).find? (λ e=>e.name==("small_letters":Str))=some d') (t0:∀ w:World,∃ c,PySem.W.tabIn (K w.params) "small_letters"=some (c,ad.tSL)) (r1:∃ d',(recsOf q).find? (λ e=>e.name==("check_pieces":Str))=some d') (t1:∀ w:World,∃ c,PySem.W.tabIn (K w.params) "check_pieces"=some (c,ad.tCP)) (r2:∃ d',(recsOf q).find? (λ e=>e.name==("ties_fit":Str))=some d') (t2:∀ w:World,∃ c,PySem.W.tabIn (K w.params) "ties_fit"=some (c,ad.tTF)) (r3:∃ d',(recsOf q).find? (λ e=>e.name==("has_any":Str))=some d') (t3:∀ w:World,∃ c,PySem.W.tabIn (K w.params) "has_any"=some (c,ad.tHA)) (r4:∃ d',(recsOf q).find? (λ e=>e.name==("are_word_pairs":Str))=some d') (t4:∀ w:World,∃ c,PySem.W.tabIn (K w.params) "are_word_pairs"=some (c,ad.tWP)) (r5:∃ d',(recsOf q).find? (λ e=>e.name==("is_figures":Str))=some d') (t5:∀ w:World,∃ c,PySem.W.tabIn (K w.params) "is_figures"=some (c,ad.tFI)) (r6:∃ d',(recsOf q).find? (λ e=>e.name==("take_rule":Str))=some d') (t6:∀ w:World,∃ c,PySem.W.tabIn (K w.params) "take_rule"=some (c,ad.tTR)) (r7:∃ d',(recsOf q).find? (λ e=>e.name==("take_kind":Str))=some d') (t7:∀ w:World,∃ c,PySem.W.tabIn (K w.params) "take_kind"=some (c,ad.tTK)) (tq:∀ w:World,∃ c,PySem.W.codeHdIn (K w.params) c ad.tTI=true):
  PySem.W.WalkO q loose XP YP l.row.toRowW d [] (λ f vs=>PySem.call f vs):=by
 refine B3 (n:=63) (k:=14) (x:="_law_script") (CX:=λ _=>CX0) (sp:=λ w=>vt (K w.params) ad) (λ _=>[ad.tSL,ad.tCP,ad.tTF,ad.tHA,ad.tWP,ad.tFI,ad.tTR,ad.tTK,ad.tTI]) [ad.tTI] hn (by decide) hdf ⟨rfl,by decide,by decide⟩ hY hK (λ w t ht=>?_) F (λ w H a ns hl h1 hS=>?_) λ _ _ _ _ _ z=>z
 ·simp only [List.mem_cons,List.not_mem_nil,or_false] at ht
  rcases ht with rfl | rfl | rfl | rfl | rfl | rfl | rfl | rfl | rfl
  ·obtain ⟨d',e⟩:=r0;obtain ⟨c,e2⟩:=t0 w;exact .inl ⟨_,c,d',e,e2⟩
  ·obtain ⟨d',e⟩:=r1;obtain ⟨c,e2⟩:=t1 w;exact .inl ⟨_,c,d',e,e2⟩
  ·obtain ⟨d',e⟩:=r2;obtain ⟨c,e2⟩:=t2 w;exact .inl ⟨_,c,d',e,e2⟩
  ·obtain ⟨d',e⟩:=r3;obtain ⟨c,e2⟩:=t3 w;exact .inl ⟨_,c,d',e,e2⟩
  ·obtain ⟨d',e⟩:=r4;obtain ⟨c,e2⟩:=t4 w;exact .inl ⟨_,c,d',e,e2⟩
  ·obtain ⟨d',e⟩:=r5;obtain ⟨c,e2⟩:=t5 w;exact .inl ⟨_,c,d',e,e2⟩
  ·obtain ⟨d',e⟩:=r6;obtain ⟨c,e2⟩:=t6 w;exact .inl ⟨_,c,d',e,e2⟩
  ·obtain ⟨d',e⟩:=r7;obtain ⟨c,e2⟩:=t7 w;exact .inl ⟨_,c,d',e,e2⟩
  ·exact .inr ⟨by simp,tq w⟩
 ·exact ⟨a,ns,rfl,hS,hl,⟨⟨⟨h1 _ (by simp),h1 _ (by simp),h1 _ (by simp),h1 _ (by simp)⟩,⟨h1 _ (by simp),h1 _ (by simp)⟩,h1 _ (by simp)⟩,h1 _ (by simp),h1 _ (by simp),h1 _ (by simp)⟩,λ H' s=>⟨rfl,λ t ht=>s _ _ (h1 t ht)⟩⟩
end K33
namespace PySem.W.Fast
def tw6926591004162641529:=0
def tw14438211220640364357:=0
def tw14312500098433932858:=0
def tw5150618879658172608:=0
def tw105138517517287558:=0
def tw17214105005162370051:=0
def tw616523934517812499:=0
def tw15456232241975180312:=0
def tw8516226360064998843:=0
def tw11660188686316308601:=0
def tw9389682990064800693:=0
def tw17038503706108373882:=0
def tw16724545383347877528:=0
def tw482184828977298965:=0
def tw10391280849105755350:=0
def tw11137825099463012865:=0
def tw11933128984943994611:=0
def tw11650646073657203398:=0
def tw4767653202687956698:=0
def tw6008563245342077676:=0
def tw4211964879627295308:=0
def tw11819647086389213561:=0
def tw3788917321523643933:=0
def tw1662511698733808830:=0
def tw12261872634278633668:=0
def tw14289191291786212296:=0
def tw427801926733820186:=0
def tw9252099414763091204:=0
def tw17557834863796979549:=0
def tw3755755169107572380:=0
def tw7648135590359981205:=0
def tw7736876694761906812:=0
def tw575408607551222806:=0
def tw12338655827737710034:=0
def tw17877820306044120079:=0
def tw12099300181765084619:=0
def tw2998332013322045403:=0
def tw431013217826270414:=0
def tw11116716903786201863:=0
def tw1591082463241657145:=0
def tw14842866586159682821:=0
def tw4846530707207333512:=0
def tw18402507936271598034:=0
def tw5328768917433002569:=0
def tw14011269250614499483:=0
def tw13753770752513397939:=0
def tw15366324265850599451:=0
def tw15760786140714943795:=0
def tw4738841290220313310:=0
def tw7402536992074397005:=0
def tw17397592176930216658:=0
def tw16794576892179332784:=0
def tw6108311054802466728:=0
def tw13770866546259696095:=0
def tw8202246528805274542:=0
def tw7348041601658775805:=0
def tw3537531755405892134:=0
def tw8033935693937213586:=0
def tw2325961874628497721:=0
def tw775724303540880836:=0
def tw11212090565220359771:=0
def tw924350594883375443:=0
def tw11499306560928773648:=0
def tw536578103992765232:=0
def tw15112444475611064538:=0
def tw8422635376662397797:=0
def tw17591764360767895865:=0
def tw8071638570235552609:=0
def tw2663682405593819477:=0
def tw3234910100132559928:=0
def tw7311781201247931780:=0
def tw10448394762234630894:=0
def tw4331738230870024666:=0
def tw17456709668176223916:=0
def tw687511346557389022:=0
def tw16884473114311933459:=0
def tw7542135040420715559:=0
def tw18067447491766454133:=0
def tw16706418112047628664:=0
def tw18197075560342123548:=0
def tw3055960184847048669:=0
def tw11284520998966992423:=0
def tw18236444901162841402:=0
def tw5557731814236781314:=0
def tw18252864924087672750:=0
def tw677024325226142394:=0
def tw2806398260054444062:=0
def tw15966949230558971875:=0
def tw4301924168860463574:=0
def tw13156615635891931953:=0
def tw14222715667080659815:=0
def tw7919025998744132745:=0
def tw7543099879584635386:=0
def tw4084213848240078513:=0
def tw4466284518089384414:=0
def tw255516413907815499:=0
def tw2000292967300268989:=0
def tw17278229926927089101:=0
def tw15956796940610667143:=0
def tw14267341943138593495:=0
def tw17904416934215762999:=0
def tw17781052376975209621:=0
def tw17478131707602055099:=0
def tw3508756764240096615:=0
def tw3332275191680527829:=0
def tw11019351225467992785:=0
def tw10455497609068983512:=0
def tw5525494300695824423:=0
def tw10155103113490438121:=0
def tw1419085541687357448:=0
def tw3675682911495074610:=0
def tw5483444696543492637:=0
def tw6533206376634913126:=0
def tw16655387407141783696:=0
def tw6480241140726423344:=0
def tw4086054962950033624:=0
def tw11254563869065219329:=0
def tw12234693770943017706:=0
def tw3943651399610830263:=0
def tw14299781606046884496:=0
def tw3486664853397894814:=0
def tw17560779096835937164:=0
def tw3376639729726878660:=0
def tw3650024509820485936:=0
def tw15206526260238646790:=0
def tw9477325107630127109:=0
def tw3549510322689325854:=0
def tw14642239932438844096:=0
def tw12763071877890146471:=0
def tw9825466323022724255:=0
def tw18253496919202089015:=0
def tw4562898812179083775:=0
def tw5106314435971312497:=0
def tw4133877364803285705:=0
def tw10444713933906316670:=0
def tw1942623578875592737:=0
def tw12674504348921076820:=0
def tw9304401557900970314:=0
def tw2649834942494880684:=0
def tw11500054456853928342:=0
def tw16507111520689243294:=0
def tw9552290804584748548:=0
def tw15981650047740855595:=0
def tw13707096500967806797:=0
def tw17015201249563979453:=0
def tw7082786113329948874:=0
def tw15133057021381283967:=0
def tw7269978614564126907:=0
def tw13353637219339402238:=0
def tw12956721916607703214:=0
def tw16684186618568262702:=0
def tw2531953542550472867:=0
def tw3484049238947522203:=0
def tw10778923417015328983:=0
def tw12888206855007069097:=0
def tw17730266279215107555:=0
def tw6244887532815834038:=0
def tw687301582015090745:=0
def tw10712543851982746149:=0
def tw2211767433318505718:=0
def tw9590778987658587423:=0
def tw7077500401139451813:=0
def tw9803741312834054503:=0
def tw10637961417673959644:=0
def tw5373761833256904206:=0
def tw12437738429648593304:=0
def tw3969877172944050713:=0
def tw7581309499378406165:=0
def tw5694563223647125303:=0
def tw1553331286723540816:=0
def tw11708332516828223451:=0
def tw2114001793456526258:=0
def tw17386078804501913901:=0
def tw4732457568065951995:=0
def tw12730612819197242360:=0
def tw12456750231126283204:=0
def tw272226618205304752:=0
def tw16043810714862676417:=0
def tw653780214719562142:=0
def tw1446687118894490837:=0
def tw13088966581554825822:=0
def tw13165261512840985864:=0
def tw9337976501778785233:=0
def tw15787466899823860928:=0
def tw1996209590633269456:=0
def tw12053033841038037411:=0
def tw6002417919873466924:=0
def tw12942685143161910106:=0
def tw4383311120992784836:=0
def tw16360762581341285660:=0
def tw14710202483620399540:=0
def tw18434320121688530037:=0
def tw7349846939586981159:=0
def tw440209423046240385:=0
def tw14400523660016377165:=0
def tw12355375777911424096:=0
def tw8616041861635786914:=0
def tw17755352398720622830:=0
def tw13829318680765918379:=0
def tw4433520198692002304:=0
def tw2041557646277324414:=0
def tw7081453849488120644:=0
def tw10502983925322827068:=0
def tw5730782906250390782:=0
def tw740733003634979776:=0
def tw6007619455858419224:=0
def tw14108523217645548930:=0
def tw660742481533604713:=0
def tw6137061323979454581:=0
def tw17235375110575768320:=0
def tw3534022158167389697:=0
def tw8625113870998710408:=0
def tw13508284209893316833:=0
def tw15726289030955814889:=0
def tw6951275683177716818:=0
def tw372001888224565559:=0
def tw14436091701954156357:=0
def tw12537908713489866182:=0
def tw5934411117159932305:=0
def tw17215757985807487363:=0
def tw4100846166634494287:=0
def tw2799277184879590214:=0
def tw3941156503915138701:=0
def tw5194407019831077306:=0
def tw7584271638077409147:=0
def tw5513675099000743062:=0
def tw101445198873962717:=0
def tw2397331214665979852:=0
def tw449608122814048215:=0
def tw9855429455080022768:=0
def tw11703415971813136801:=0
def tw4553743544064604410:=0
def tw7876667411686437449:=0
def tw965483353622475366:=0
def tw11953020246216676651:=0
def tw2638028335188250030:=0
end PySem.W.Fast
open PySem PySem.W PyProof.Rows
local macro_rules | `(tactic| bv_omega) => `(tactic| exact ⟨_, _, _, _, _, _, _, _, _, _, by k_is, by k_is, by k_is, by k_is⟩)
local macro_rules | `(tactic| bv_decide) => `(tactic| exact ⟨_, _, _, _, _, _, _, _, _, _, by k_is, by k_is, by k_is, by k_is, by exact rfl, by exact rfl⟩)
local macro_rules
 | `(tactic| o_head ($x : $t)) => Lean.Macro.throwUnsupported
 | `(tactic| o_head $H) => `(tactic| o_head (L2.withTabs $H [220] : PySem.W.Hook))
set_option maxRecDepth 100000 in
set_option maxHeartbeats 0 in
theorem PySem.Challenge.cw_numbersay_k33_whole_tongues_read_back_holds : PySem.Challenge.rw_numbersay_k33_whole_tongues_read_back.Holds := by
 w_on;o_law;k_head;(case hw=>w_witness2)
 k_fill
 refine' K33.walk (l:=PySem.Challenge.rw_numbersay_k33_whole_tongues_read_back) ⟨_,_,_,_,_,_,_,_,_,_,_,_,_,_,_,_,220,_,_,_,_,_,_,_⟩ rfl rfl (λ w h Y=>⟨PySem.W.kIn_of Y.1,Y.2⟩) ?F ?NT ?R0 ?T0 ?R1 ?T1 ?R2 ?T2 ?R3 ?T3 ?R4 ?T4 ?R5 ?T5 ?R6 ?T6 ?R7 ?T7 ?TQ
 case F=>
  intro w mg fa h KX G hmg
  refine' K33.all_mk KX G hmg ?br ?bo ?jq ?iG ?lK ?cL ?gn ?gX ?js ?cO ?oO ?pw ?mL ?rZ ?cN ?oY ?C1 ?yL ?cMF ?iy ?eX ?iA ?gg ?bz ?fQ ?gZ ?ki ?dJ ?jc ?ig ?qK ?qm ?cA ?gL ?gJ ?cY ?iw ?ik ?gs ?tk ?kY ?kL ?lH ?kI ?lM ?kW ?kG ?kR ?kS ?kE ?k1 ?k2 ?k3 ?k4 ?k5 ?uE ?tR ?sY ?tm ?sU ?uP ?ux ?fU ?fm ?du ?dh ?fV ?cz ?uz ?tZ ?m9 ?mM ?nI ?mG ?mO ?nu ?nJ ?fN ?fD ?fM ?eO ?nC ?mP ?sQ ?uv ?uc ?tP ?tN ?uN ?sP ?dm ?dM ?eQ ?ua ?uB ?pT ?qu ?pK ?qw ?cG ?eG ?eZ ?cy ?gu ?qz ?qk ?gB ?qh ?ql ?gP ?nZ ?nQ ?h14 ?h15 ?h17 ?h18 ?h19 ?h20 ?h21 ?h22 ?h24 ?h25 ?h28 ?h29 ?h30 ?h36 ?h37 ?h38 ?h39 ?h40 ?a42 ?l42 ?c42 ?Cv ?a43 ?l43 ?c43 ?DF ?Gn ?d43 ?a44 ?l44 ?c44 ?DW ?a45 ?l45 ?c45 ?DV ?a46 ?l46 ?c46 ?Dl ?Gv ?d46 ?a47 ?l47 ?c47 ?Dy ?h49 ?h50 ?h51 ?h53 ?h54 ?h55 ?h56 ?h57 ?h58 ?h59 ?h60 ?h61 ?h62 ?h63 ?h64 ?h65 ?h66 ?h67 ?h68 ?h69 ?h70 ?a71 ?l71 ?c71 ?D6 ?aE ?lE ?cE ?kE_ ?iE ?qr ?nG ?aR ?lR ?cR ?kR_ ?iR ?aJ ?lJ ?cJ ?kJ_ ?iJ ?aI ?lI ?cI ?kI_ ?dI ?lT ?vT ?iI
  (case br=>k_is)
  (case bo=>k_is)
  (case jq=>k_is)
  (case iG=>k_is)
  (case lK=>k_is)
  (case cL=>k_is)
  (case gn=>k_is)
  (case gX=>k_is)
  (case js=>k_is)
  (case cO=>k_is)
  (case oO=>k_is)
  (case pw=>k_is)
  (case mL=>k_is)
  (case rZ=>k_is)
  (case cN=>k_is)
  (case oY=>k_is)
  (case C1=>k_is)
  (case yL=>k_is)
  (case cMF=>k_is)
  (case iy=>k_is)
  (case eX=>k_is)
  (case iA=>k_is)
  (case gg=>k_is)
  (case bz=>k_is)
  (case fQ=>k_is)
  (case gZ=>k_is)
  (case ki=>k_is)
  (case dJ=>k_is)
  (case jc=>k_is)
  (case ig=>k_is)
  (case qK=>k_is)
  (case qm=>exact rfl)
  (case cA=>k_is)
  (case gL=>k_is)
  (case gJ=>exact rfl)
  (case cY=>k_is)
  (case iw=>k_is)
  (case ik=>exact rfl)
  (case gs=>k_is)
  (case tk=>k_is)
  (case kY=>k_exc)
  (case kL=>k_is)
  (case lH=>k_is)
  (case kI=>k_is)
  (case lM=>k_is)
  (case kW=>k_exc)
  (case kG=>k_is)
  (case kR=>k_is)
  (case kS=>k_is)
  (case kE=>k_is)
  (case k1=>kit_is)
  (case k2=>kit_is)
  (case k3=>kit_is)
  (case k4=>kit_is)
  (case k5=>kit_is)
  (case uE=>kit_is)
  (case tR=>k_is)
  (case sY=>k_is)
  (case tm=>k_is)
  (case sU=>k_is)
  (case uP=>k_is)
  (case ux=>k_is)
  (case fU=>k_is)
  (case fm=>k_is)
  (case du=>k_is)
  (case dh=>k_is)
  (case fV=>k_is)
  (case cz=>k_is)
  (case uz=>k_is)
  (case tZ=>k_is)
  (case m9=>kit_is)
  (case mM=>k_is)
  (case nI=>k_is)
  (case mG=>k_is)
  (case mO=>k_is)
  (case nu=>k_is)
  (case nJ=>k_is)
  (case fN=>k_is)
  (case fD=>k_is)
  (case fM=>k_is)
  (case eO=>k_is)
  (case nC=>k_is)
  (case mP=>k_is)
  (case sQ=>kit_is)
  (case uv=>k_is)
  (case uc=>k_is)
  (case tP=>k_is)
  (case tN=>k_is)
  (case uN=>k_is)
  (case sP=>k_is)
  (case dm=>k_is)
  (case dM=>k_is)
  (case eQ=>k_is)
  (case ua=>k_is)
  (case uB=>k_is)
  (case pT=>k_is)
  (case qu=>k_is)
  (case pK=>k_is)
  (case qw=>k_is)
  (case cG=>k_is)
  (case eG=>k_is)
  (case eZ=>k_is)
  (case cy=>k_is)
  (case gu=>k_is)
  (case qz=>k_is)
  (case qk=>k_is)
  (case gB=>k_is)
  (case qh=>k_is)
  (case ql=>exact rfl)
  (case gP=>k_is)
  (case nZ=>k_is)
  (case nQ=>exact rfl)
  (case h14=>bv_decide)
  (case h15=>bv_omega)
  (case h17=>bv_omega)
  (case h18=>bv_decide)
  (case h19=>bv_omega)
  (case h20=>bv_decide)
  (case h21=>bv_omega)
  (case h22=>bv_decide)
  (case h24=>bv_decide)
  (case h25=>bv_omega)
  (case h28=>bv_omega)
  (case h29=>bv_omega)
  (case h30=>bv_omega)
  (case h36=>bv_omega)
  (case h37=>bv_omega)
  (case h38=>bv_omega)
  (case h39=>bv_omega)
  (case h40=>bv_decide)
  (case a42=>k_is)
  (case l42=>k_is)
  (case c42=>k_is)
  (case Cv=>k_is)
  (case a43=>k_is)
  (case l43=>k_is)
  (case c43=>k_is)
  (case DF=>k_is)
  (case Gn=>exact rfl)
  (case d43=>exact rfl)
  (case a44=>k_is)
  (case l44=>k_is)
  (case c44=>k_is)
  (case DW=>k_is)
  (case a45=>k_is)
  (case l45=>k_is)
  (case c45=>k_is)
  (case DV=>k_is)
  (case a46=>k_is)
  (case l46=>k_is)
  (case c46=>k_is)
  (case Dl=>k_is)
  (case Gv=>exact rfl)
  (case d46=>exact rfl)
  (case a47=>k_is)
  (case l47=>k_is)
  (case c47=>k_is)
  (case Dy=>k_is)
  (case h49=>bv_omega)
  (case h50=>bv_omega)
  (case h51=>bv_omega)
  (case h53=>bv_omega)
  (case h54=>bv_omega)
  (case h55=>bv_omega)
  (case h56=>bv_omega)
  (case h57=>bv_omega)
  (case h58=>bv_omega)
  (case h59=>bv_omega)
  (case h60=>bv_omega)
  (case h61=>bv_omega)
  (case h62=>bv_omega)
  (case h63=>bv_omega)
  (case h64=>bv_omega)
  (case h65=>bv_omega)
  (case h66=>bv_omega)
  (case h67=>bv_omega)
  (case h68=>bv_omega)
  (case h69=>bv_omega)
  (case h70=>bv_omega)
  (case a71=>k_is)
  (case l71=>k_is)
  (case c71=>k_is)
  (case D6=>k_is)
  (case aE=>k_is)
  (case lE=>k_is)
  (case cE=>k_is)
  (case kE_=>k_is)
  (case iE=>k_is)
  (case qr=>exact rfl)
  (case nG=>exact rfl)
  (case aR=>k_is)
  (case lR=>k_is)
  (case cR=>k_is)
  (case kR_=>k_is)
  (case iR=>k_is)
  (case aJ=>k_is)
  (case lJ=>k_is)
  (case cJ=>k_is)
  (case kJ_=>k_is)
  (case iJ=>k_is)
  (case aI=>k_is)
  (case lI=>k_is)
  (case cI=>k_is)
  (case kI_=>k_is)
  (case dI=>exact rfl)
  (case lT=>k_is)
  (case vT=>exact rfl)
  (case iI=>k_is)
 (case NT=>exact λ w=>rfl)
 (case R0=>exact ⟨_,rfl⟩);(case T0=>exact λ w=>⟨_,rfl⟩)
 (case R1=>exact ⟨_,rfl⟩);(case T1=>exact λ w=>⟨_,rfl⟩)
 (case R2=>exact ⟨_,rfl⟩);(case T2=>exact λ w=>⟨_,rfl⟩)
 (case R3=>exact ⟨_,rfl⟩);(case T3=>exact λ w=>⟨_,rfl⟩)
 (case R4=>exact ⟨_,rfl⟩);(case T4=>exact λ w=>⟨_,rfl⟩)
 (case R5=>exact ⟨_,rfl⟩);(case T5=>exact λ w=>⟨_,rfl⟩)
 (case R6=>exact ⟨_,rfl⟩);(case T6=>exact λ w=>⟨_,rfl⟩)
 (case R7=>exact ⟨_,rfl⟩);(case T7=>exact λ w=>⟨_,rfl⟩)
 (case TQ=>exact λ w=>⟨224,rfl⟩)
