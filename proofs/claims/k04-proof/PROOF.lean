import PyProof.Rows.All
import Wide.All
import OpenK.AllK
import Wide.FinOn
import Lean
import PyProof.EqAt
import PyProof.EqKinds
import PyProof.TupleCall
import PyProof.AttrMiss
import PyProof.IsiH_tuple
import KE.KDictOf
import PyProof.ZipIter
import PyProof.Draws
import PyProof.Rows.FactsT2
import KE.KRevIter
import PyProof.EnumStmt
import PyProof.TupleOps
import PyProof.ListRange
import PyProof.Rows.SetFrom
import PyProof.SetRoads
import PyProof.EnumFor
import PyProof.EnumMake
import PyProof.NeKinds
import PySem.Challenge.RW_everyfork_k04_right_programs
open PySem.W (Frag mg_of mg_none_of keepIn KeysLit)
set_option Elab.async false
set_option linter.all false
set_option maxRecDepth 100000
set_option maxHeartbeats 4000000
namespace L2
open PySem PySem.Spec PyProof.Rows
noncomputable abbrev Key:=Sum Int Str
noncomputable def og:Key→Value→Bool
 | .inl k,v=>Value.isInt k v
 | .inr x,v=>Value.isStrOf x v
noncomputable def HY (w:World):Key→Int
 | .inl k=>hashInt k
 | .inr x=>hashStr w x
theorem bX:∀ {k:Key} {v:Value},og k v=true→(∃ i t,k=Sum.inl i∧v=Value.int i t)∨(∃ x t,k=Sum.inr x∧v=Value.str x t)
 | .inl i,v,h=>by
  obtain ⟨t,e⟩:=Value.isInt_shape (k:=i) (v:=v) h
  exact .inl ⟨i,t,rfl,e⟩
 | .inr x,v,h=>by
  obtain ⟨t,e⟩:=Value.isStrOf_shape (x:=x) (v:=v) h
  exact .inr ⟨x,t,rfl,e⟩
theorem zM (i:Int) (t:Tok):og (.inl i) (.int i t)=true:=by simp [og,Value.isInt]
theorem zV (x:Str) (t:Tok):og (.inr x) (.str x t)=true:=by simp [og,Value.isStrOf]
theorem EQ (a b:Int):decide ((Sum.inl a:Key)=Sum.inl b)=(a==b):=by
 by_cases e:a=b
 ·subst e; simp
 ·have h:¬ (Sum.inl a:Key)=Sum.inl b:=fun q=>e (Sum.inl.inj q)
  rw [decide_eq_false h]
  exact (beq_eq_false_iff_ne.mpr e).symm
theorem Em (a b:Str):decide ((Sum.inr a:Key)=Sum.inr b)=decide (a=b):=by
 by_cases e:a=b
 ·subst e; simp
 ·have h:¬ (Sum.inr a:Key)=Sum.inr b:=fun q=>e (Sum.inr.inj q)
  rw [decide_eq_false h,decide_eq_false e]
theorem Fm (a:Int) (b:Str):decide ((Sum.inl a:Key)=Sum.inr b)=false:=decide_eq_false (fun q=>nomatch q)
theorem EF (a:Str) (b:Int):decide ((Sum.inr a:Key)=Sum.inl b)=false:=decide_eq_false (fun q=>nomatch q)
noncomputable def bB (prog:Program) (w:World):PySem.KeyKind prog w Key where
 is:=og
 hash:=HY w
 inj:=fun v a b ha hb=>by
  rcases bX ha with ⟨i,t,rfl,rfl⟩ | ⟨x,t,rfl,rfl⟩
  ·rcases bX hb with ⟨j,u,rfl,e⟩ | ⟨y,u,rfl,e⟩
   ·injection e with e1 _; rw [e1]
   ·exact nomatch e
  ·rcases bX hb with ⟨j,u,rfl,e⟩ | ⟨y,u,rfl,e⟩
   ·exact nomatch e
   ·injection e with e1 _; rw [e1]
 byValue:=fun k v h=>by
  rcases bX h with ⟨i,t,rfl,rfl⟩ | ⟨x,t,rfl,rfl⟩<;>rfl
 pyHash:=fun hv h=>by
  rcases bX hv with ⟨i,t,rfl,rfl⟩ | ⟨x,t,rfl,rfl⟩
  ·exact wpAny_pyHash_int h
  ·exact wpAny_pyHash_str h
 eqBool:=fun hu hv h=>by
  rcases bX hu with ⟨i,t,rfl,rfl⟩ | ⟨x,t,rfl,rfl⟩
  ·rcases bX hv with ⟨j,u,rfl,rfl⟩ | ⟨y,u,rfl,rfl⟩
   ·rw [EQ] at h; exact wpAny_eqBool_int h
   ·rw [Fm] at h; exact SeqAt.EqAt.int_str i t y u _ _ _ _ h
  ·rcases bX hv with ⟨j,u,rfl,rfl⟩ | ⟨y,u,rfl,rfl⟩
   ·rw [EF] at h; exact SeqAt.EqAt.str_int x t j u _ _ _ _ h
   ·rw [Em] at h; exact wpAny_eqBool_str h
 «strs»:=fun k x t v h=>by
  rcases bX h with ⟨i,u,rfl,e⟩ | ⟨y,u,rfl,e⟩
  ·exact nomatch e
  ·injection e with e1 _
   subst e1
   cases v<;>rfl
theorem sU (prog:Program) (w:World) (i:Int) (t:Tok):(bB prog w).is (.inl i) (.int i t)=true:=zM i t
theorem gW (prog:Program) (w:World) (x:Str) (t:Tok):(bB prog w).is (.inr x) (.str x t)=true:=zV x t
inductive V where
 | non | bl (b:Bool) | int (i:Int) | str (x:Str) | byt (b:Array UInt8) | flt (b:UInt64) | ref (a:Addr) | ty (n:String)
 deriving DecidableEq
noncomputable def bu:V→Value→Prop
 | .non,u=>u=Value.none
 | .bl b,u=>u=Value.bool b
 | .int i,u=>∃ t,u=Value.int i t
 | .str x,u=>∃ t,u=Value.str x t
 | .byt b,u=>∃ t,u=Value.bytes b t
 | .flt b,u=>∃ t,u=Value.float b t
 | .ref a,u=>u=Value.ref a
 | .ty n,u=>u=Value.type n
noncomputable abbrev bq:List V→List Value→Prop:=Paired bu
theorem bq.length {xs:List V} {us:List Value} (r:bq xs us):xs.length=us.length:=Paired.length r
theorem bq.get:∀ {xs:List V} {us:List Value} {i:Nat} {x:V},bq xs us→xs[i]?=some x→∃ u,us[i]?=some u∧bu x u
 | _,_,_,_,.nil,e=>by simp at e
 | _,_,0,_,.cons r _,e=>by simp at e; subst e; exact ⟨_,rfl,r⟩
 | _,_,i+1,x,.cons _ t,e=>by
  obtain ⟨u,h1,h2⟩:=bq.get (i:=i) (x:=x) t (by simpa using e)
  exact ⟨u,by simpa using h1,h2⟩
theorem bq.set {x:V} {u:Value} (r:bu x u):∀ {xs:List V} {us:List Value} (i:Nat),bq xs us→bq (xs.set i x) (us.set i u)
 | _,_,_,.nil=>.nil
 | _,_,0,.cons _ t=>.cons r t
 | _,_,i+1,.cons q t=>.cons q (bq.set r i t)
theorem bq.append:∀ {xs ys:List V} {us ws:List Value},bq xs us→bq ys ws→bq (xs++ys) (us++ws)
 | _,_,_,_,.nil,s=>s
 | _,_,_,_,.cons r t,s=>.cons r (bq.append t s)
theorem bq.take:∀ {xs:List V} {us:List Value} (n:Nat),bq xs us→bq (xs.take n) (us.take n)
 | _,_,0,_=>.nil
 | _,_,_+1,.nil=>.nil
 | _,_,n+1,.cons r t=>.cons r (bq.take n t)
theorem bq.drop:∀ {xs:List V} {us:List Value} (n:Nat),bq xs us→bq (xs.drop n) (us.drop n)
 | _,_,0,r=>r
 | _,_,_+1,.nil=>.nil
 | _,_,n+1,.cons _ t=>bq.drop n t
noncomputable def rq:Option V→Option Value→Prop
 | some v,some u=>bu v u
 | none,none=>True
 | _,_=>False
noncomputable def KV {κ:Type}:List (κ×V)→List (κ×Value)→Prop:=Paired fun (p:κ×V) (q:κ×Value)=>p.1=q.1∧bu p.2 q.2
noncomputable def kV:Key→V
 | .inl i=>.int i
 | .inr x=>.str x
inductive HO where
 /-- a list -/
 | lst (xs:List V)
 /-- a tuple (never changes) -/
 | tup (xs:List V)
 /-- a dict whose keys are ints and texts; one whose keys are tuples of ints and texts (the empty one is both) -/
 | dK (kvs:List (Key×V)) | dT (kvs:List (List Key×V))
 /-- a set of ints: its members,its size -/
 | set (S:Int→Bool) (n:Nat)
 /-- an instance of the class at C,its dict at dx,its attributes -/
 | ins (C dx:Addr) (fs:List (Str×V))
 /-- the dict of the instance at x -/
 | own (x:Addr)
 /-- the dict of an exception -/
 | xd (fs:List (Str×V))
 /-- a bound method,f of x -/
 | met (f x:Addr)
 /-- a range object lo,lo+1,.. below hi -/
 | rng (lo hi:Int)
 /-- a thing that is known to the object (the script; a dict while a loop walks it): read,never written while it is so -/
 | frz (o:Obj) (u:HO)
 /-- a code object's table -/
 | tbl (ps:Array Value)
 /-- any other thing,by what is true of its one object (a def of one's own: SetO a S n:=HO.ext fun h=>..) -/
 | ext (φ:Heap→Prop)
noncomputable abbrev Hp:=Addr→Option HO
noncomputable def upd (H:Hp) (a:Addr) (o:HO):Hp:=fun b=>if b=a then some o else H b
theorem ag {H:Hp} {a:Addr} {o:HO}:upd H a o a=some o:=by unfold upd; rw [if_pos rfl]
theorem aV {H:Hp} {a b:Addr} {o:HO} (h:b≠a):upd H a o b=H b:=by unfold upd; rw [if_neg h]
theorem dN {H:Hp} {a b:Addr} {o u:HO} (h:H a=some o) (h':H b=some u) (d:o≠u):a≠b:=by
 intro e; subst e; rw [h] at h'; exact d (Option.some.inj h')
theorem aJ {H:Hp} {a b:Addr} {o:HO} (h:H a=some o) (h':H b=none):a≠b:=by
 intro e; subst e; rw [h] at h'; cases h'
section
variable (P:Program) (w:World)
noncomputable def bZ (H:Hp) (h:Heap) (a:Addr):HO→Prop
 | .lst xs=>xs.length≤sizeLine∧∃ (its:List Value) (n:Nat),bq xs its∧h.get? a=some { cls:=.type "list",data:=.seq its.toArray n }
 | .tup xs=>xs.length≤sizeLine∧∃ its:List Value,bq xs its∧IsTup h a its.toArray∧∃ o,h.get? a=some o∧o.dict=none
 | .dK kvs=>kvs.length≤sizeLine∧(a==sysModules)=false∧∃ vs,KV kvs vs∧h.DictOf (bB P w) a vs
 | .dT kvs=>kvs.length≤sizeLine∧(a==sysModules)=false∧∃ xs:List (List Key×Addr×Value),
   Paired (fun (p:List Key×V) (q:List Key×Addr×Value)=>p.1=q.1∧H q.2.1=some (.tup (p.1.map kV))∧bu p.2 q.2.2) kvs xs ∧
   ∃ o es ep,h.get? a=some o∧o.ExactDict∧o.data=.dict es ep∧es.toList=xs.map (entryOfKey (tupleKind (bB P w)))∧(xs.map (·.1)).Nodup
 | .set S n=>h.SetOf (intKind P w) a S n
 | .ins C dx fs=>H dx=some (.own a)∧fs.length≤1000∧dx≠a∧h.get? a=some (PySem.W.instObj C dx) ∧
   ∃ mA,h.Ns1 dx mA∧(∀ f,rq (fs.lookup f) (mA f))∧PySem.Within mA (fs.map (·.1))
 | .own _=>∃ o,h.get? a=some o
 | .xd fs=>∃ mA,h.Ns1 a mA∧∀ f,rq (fs.lookup f) (mA f)
 | .rng lo hi=>∃ t u v,h.get? a=some { cls:=.type "range",data:=.fields #[.int lo t,.int hi u,.int 1 v] }
 | .frz o u=>h.get? a=some o∧bZ H h a u
 | .tbl ps=>h.get? a=some { cls:=.none,data:=.fields ps }
 | .met f x=>h.get? a=some (PySem.W.methodObj (.ref f) (.ref x))
 | .ext φ=>φ h∧(∃ o,h.get? a=some o)∧∀ h1 h2:Heap,φ h1→(∀ o,h1.get? a=some o→h2.get? a=some o)→φ h2
noncomputable def HOk (H:Hp) (h:Heap):Prop:=∀ a o,H a=some o→bZ P w H h a o
end
section
variable {P:Program} {w:World} {H H':Hp} {h h':Heap} {a:Addr} {o:HO}
theorem bZ.lt (x:bZ P w H h a o):a<h.objs.size:=by
 cases o with
 | lst xs=>obtain ⟨_,_,_,_,e⟩:=x; exact Heap.lt_size e
 | tup xs=>obtain ⟨_,_,_,p,_⟩:=x; exact p.lt
 | dK kvs=>obtain ⟨_,_,_,_,o,_,_,e,_⟩:=x; exact Heap.lt_size e
 | dT kvs=>obtain ⟨_,_,_,_,o,_,_,e,_⟩:=x; exact Heap.lt_size e
 | set S n=>obtain ⟨o,_,_,_,e,_⟩:=x; exact Heap.lt_size e
 | ins C dx fs=>obtain ⟨_,_,_,e,_⟩:=x; exact Heap.lt_size e
 | own y=>obtain ⟨_,e⟩:=x; exact Heap.lt_size e
 | xd fs=>obtain ⟨_,⟨_,_,_,e,_⟩,_⟩:=x; exact Heap.lt_size e
 | rng lo hi=>obtain ⟨_,_,_,e⟩:=x; exact Heap.lt_size e
 | frz ob u=>obtain ⟨e,_⟩:=x; exact Heap.lt_size e
 | tbl ps=>exact Heap.lt_size (show h.get? a=some _ from x)
 | met f y=>exact Heap.lt_size (show h.get? a=some _ from x)
 | ext φ=>obtain ⟨_,⟨_,e⟩,_⟩:=x; exact Heap.lt_size e
theorem Paired.mapP {α β:Type} {F G:α→β→Prop}:∀ {l₁:List α} {l₂:List β},Paired F l₁ l₂→(∀ a b,F a b→G a b)→Paired G l₁ l₂
 | _,_,.nil,_=>.nil
 | _,_,.cons r t,f=>.cons (f _ _ r) (Paired.mapP t f)
theorem bZ.stay (x:bZ P w H h a o) (k:∀ b u,(b=a∨H b=some (.own a))→h.get? b=some u→h'.get? b=some u)
  (ho:∀ b,H b=some (.own a)→H' b=some (.own a)) (ht:∀ b xs,H b=some (.tup xs)→H' b=some (.tup xs)):bZ P w H' h' a o:=by
 induction o with
 | lst xs=>obtain ⟨z,its,n,r,e⟩:=x; exact ⟨z,its,n,r,k _ _ (.inl rfl) e⟩
 | tup xs=>obtain ⟨z,its,r,⟨ob,e,c⟩,o2,e2,d2⟩:=x; exact ⟨z,its,r,⟨ob,k _ _ (.inl rfl) e,c⟩,o2,k _ _ (.inl rfl) e2,d2⟩
 | dK kvs=>obtain ⟨z,y,vs,r,ob,es,ep,e,c⟩:=x; exact ⟨z,y,vs,r,ob,es,ep,k _ _ (.inl rfl) e,c⟩
 | dT kvs =>
  obtain ⟨z,y,xs,r,ob,es,ep,e,c⟩:=x
  exact ⟨z,y,xs,Paired.mapP r fun p q z=>⟨z.1,ht _ _ z.2.1,z.2.2⟩,ob,es,ep,k _ _ (.inl rfl) e,c⟩
 | set S n=>obtain ⟨ob,es,ep,t,e,c⟩:=x; exact ⟨ob,es,ep,t,k _ _ (.inl rfl) e,c⟩
 | ins C dx fs =>
  obtain ⟨d,z,ne,e,mA,⟨od,es,ep,e2,c⟩,r⟩:=x
  exact ⟨ho _ d,z,ne,k _ _ (.inl rfl) e,mA,⟨od,es,ep,k _ _ (.inr d) e2,c⟩,r⟩
 | own y=>obtain ⟨ob,e⟩:=x; exact ⟨ob,k _ _ (.inl rfl) e⟩
 | xd fs=>obtain ⟨mA,⟨od,es,ep,e,c⟩,r⟩:=x; exact ⟨mA,⟨od,es,ep,k _ _ (.inl rfl) e,c⟩,r⟩
 | rng lo hi=>obtain ⟨t,u,v,e⟩:=x; exact ⟨t,u,v,k _ _ (.inl rfl) e⟩
 | frz ob u ih=>obtain ⟨e,q⟩:=x; exact ⟨k _ _ (.inl rfl) e,ih q⟩
 | tbl ps =>
  have e:h.get? a=some { cls:=.none,data:=.fields ps }:=x
  show h'.get? a=some { cls:=.none,data:=.fields ps }
  exact k a _ (.inl rfl) e
 | met f y =>
  have e:h.get? a=some (PySem.W.methodObj (.ref f) (.ref y)):=x
  show h'.get? a=some (PySem.W.methodObj (.ref f) (.ref y))
  exact k a _ (.inl rfl) e
 | ext φ=>obtain ⟨p,⟨o,e⟩,st⟩:=x; exact ⟨st _ _ p fun o q=>k _ _ (.inl rfl) q,⟨o,k _ _ (.inl rfl) e⟩,st⟩
theorem HOk.lt (x:HOk P w H h) (e:H a=some o):a<h.objs.size:=(x a o e).lt
theorem HOk.fresh (x:HOk P w H h) (e:h.objs.size≤a):H a=none:=by
 cases q:H a with
 | none=>rfl
 | some u=>exact absurd (Nat.lt_of_lt_of_le (x.lt q) e) (Nat.lt_irrefl _)
theorem HOk.kept (x:HOk P w H h) (k:∀ b u,h.get? b=some u→h'.get? b=some u):HOk P w H h':=fun a o e =>
 (x a o e).stay (fun b u _ q=>k b u q) (fun _ q=>q) fun _ _ q=>q
theorem HOk.laid (x:HOk P w H h) (k:∀ b u,h.get? b=some u→h'.get? b=some u) (hp:h.objs.size≤a) (new:bZ P w (upd H a o) h' a o):HOk P w (upd H a o) h':=fun b u e=>by
 have hn:=x.fresh hp
 by_cases hb:b=a
 ·subst hb; rw [ag] at e; cases e; exact new
 ·rw [aV hb] at e
  exact (x b u e).stay (fun c v _ q=>k c v q) (fun c q=>by rw [aV (aJ q hn)]; exact q) fun c xs q=>by rw [aV (aJ q hn)]; exact q
end
noncomputable def Rd (H:Hp) (a:Addr) (u:HO):Prop:=H a=some u∨∃ o,H a=some (.frz o u)
theorem Rd.ok {P:Program} {w:World} {H:Hp} {h:Heap} {a:Addr} {u:HO} (r:Rd H a u) (x:HOk P w H h):bZ P w H h a u:=by
 rcases r with r | ⟨o,r⟩
 ·exact x a u r
 ·obtain ⟨_,q⟩:=x a _ r
  exact q
noncomputable def Mut:Option HO→Prop
 | some (.lst _)=>True
 | some (.dK _)=>True
 | some (.dT _)=>True
 | some (.set _ _)=>True
 | some (.ins _ _ _)=>True
 | some (.ext _)=>True
 | _=>False
section
variable {P:Program} {w:World} {H:Hp} {h h':Heap} {x e:Addr} {o':HO}
theorem HOk.write (ok:HOk P w H h) (mu:Mut (H x)) (he:e=x∨H e=some (.own x)) (k:∀ b u,b≠e→h.get? b=some u→h'.get? b=some u) (heo:∃ u,h'.get? e=some u)
  (new:bZ P w (upd H x o') h' x o'):HOk P w (upd H x o') h':=fun b u q=>by
 have nown:∀ c y,H c=some (.own y)→c≠x:=fun c y r z=>by subst z; rw [r] at mu; exact mu
 have ntup:∀ c xs,H c=some (.tup xs)→c≠x:=fun c xs r z=>by subst z; rw [r] at mu; exact mu
 by_cases hb:b=x
 ·subst hb; rw [ag] at q; cases q; exact new
 ·rw [aV hb] at q
  by_cases hbe:b=e
  ·have q':H b=some (.own x):=by
    rcases he with z | z
    ·exact absurd (hbe.trans z) hb
    ·rw [hbe]; exact z
   rw [q] at q'; cases q'
   obtain ⟨v,hv⟩:=heo
   exact ⟨v,by rw [hbe]; exact hv⟩
  ·refine (ok b u q).stay (fun c v hc r=>k c v ?_ r) (fun c r=>by rw [aV (nown c b r)]; exact r) fun c xs r=>by rw [aV (ntup c xs r)]; exact r
   rcases hc with rfl | hc
   ·exact hbe
   ·rintro rfl
    rcases he with z | z
    ·exact nown c b hc z
    ·rw [hc] at z; cases z; exact hb rfl
end
structure Un (fs ex:List Addr) (H H':Hp) (h h':Heap):Prop where
 keep:∀ b o,h.get? b=some o→H b=none→b∉fs→b∉ex→h'.get? b=some o
 slot:∀ b o,h.get? b=some o→H b=none→b∈fs→b∉ex→∃ sl,h'.get? b=some { o with slots:=sl }
 free:∀ b o,h.get? b=some o→H b=none→b∉ex→H' b=none
 there:∀ b o,h.get? b=some o→b∉ex→∃ o',h'.get? b=some o'
 tups:∀ b xs,H b=some (.tup xs)→H' b=some (.tup xs)
 frzs:∀ b o u,H b=some (.frz o u)→H' b=some (.frz o u)
 tbls:∀ b ps,H b=some (.tbl ps)→∃ more,H' b=some (.tbl (ps++more))
section
variable {fs fs' ex ex':List Addr} {H H1 H2:Hp} {h h1 h2 h':Heap} {a x e:Addr} {o:HO}
theorem Un.any (u:Un fs ex H H1 h h1) {b:Addr} {ob:Obj} (q:h.get? b=some ob) (n:H b=none) (hx:b∉ex):∃ sl,h1.get? b=some { ob with slots:=sl }:=by
 by_cases hb:b∈fs
 ·exact u.slot b ob q n hb hx
 ·exact ⟨ob.slots,u.keep b ob q n hb hx⟩
theorem Un.kept (k:∀ b u,h.get? b=some u→h'.get? b=some u):Un fs ex H H h h' :=
 ⟨fun b ob q _ _ _=>k b ob q,fun b ob q _ _ _=>⟨ob.slots,k b ob q⟩,fun _ _ _ n _=>n,fun b ob q _=>⟨ob,k b ob q⟩,fun _ _ q=>q,fun _ _ _ q=>q,fun _ ps q=>⟨#[],by rw [q]; simp⟩⟩
theorem Un.refl:Un fs ex H H h h:=Un.kept fun _ _ q=>q
theorem Un.laid (k:∀ b u,h.get? b=some u→h'.get? b=some u) (hp:h.objs.size≤a) (hn:H a=none):Un fs ex H (upd H a o) h h' where
 keep:=fun b u q _ _ _=>k b u q
 slot:=fun b u q _ _ _=>⟨u.slots,k b u q⟩
 free:=fun b u q n _=>by rw [aV (Nat.ne_of_lt (Nat.lt_of_lt_of_le (Heap.lt_size q) hp))]; exact n
 there:=fun b u q _=>⟨u,k b u q⟩
 tups:=fun b xs q=>by rw [aV (aJ q hn)]; exact q
 frzs:=fun b u xs q=>by rw [aV (aJ q hn)]; exact q
 tbls:=fun b ps q=>⟨#[],by rw [aV (aJ q hn),q]; simp⟩
theorem Un.write (mu:Mut (H x)) (he:e=x∨H e=some (.own x)) (k:∀ b u,b≠e→h.get? b=some u→h'.get? b=some u) (heo:∃ u,h'.get? e=some u):Un fs ex H (upd H x o) h h':=by
 have hx:∀ b,H b=none→b≠x:=fun b n z=>by subst z; rw [n] at mu; exact mu
 have hb:∀ b,H b=none→b≠e:=fun b n z=>by
  subst z
  rcases he with r | r
  ·exact hx b n r
  ·rw [n] at r; cases r
 have hm:∀ b u,H b=some u→¬ Mut (some u)→b≠x:=fun b u q nm z=>by subst z; rw [q] at mu; exact nm mu
 refine ⟨fun b u q n _ _=>k b u (hb b n) q,fun b u q n _ _=>⟨u.slots,k b u (hb b n) q⟩,fun b u q n _=>by rw [aV (hx b n)]; exact n,fun b u q _=>?_,
  fun b xs q=>by rw [aV (hm b _ q fun z=>z)]; exact q,fun b u xs q=>by rw [aV (hm b _ q fun z=>z)]; exact q,fun b ps q=>⟨#[],by rw [aV (hm b _ q fun z=>z),q]; simp⟩⟩
 by_cases hbe:b=e
 ·subst hbe; exact heo
 ·exact ⟨u,k b u hbe q⟩
end
noncomputable def trk (h:Heap) (H:Hp):List Addr:=(List.range h.objs.size).filter fun a=>(H a).isSome
noncomputable def qW (h:Heap) (H:Hp):Heap:=PySem.W.hideAll h (trk h H)
theorem zP (h:Heap) (H:Hp):(qW h H).objs.size=h.objs.size:=PySem.W.hideAll_size _ _
theorem Bd {h:Heap} {H:Hp} {b:Addr} {o:Obj} (e:h.get? b=some o) (n:H b=none):(qW h H).get? b=some o :=
 PySem.W.hideAll_get _ e fun hm=>by
  have q:(H b).isSome=true:=(List.mem_filter.mp hm).2
  rw [n] at q; simp at q
theorem CG {h:Heap} {H:Hp} {b:Addr} {o:Obj} (e:(qW h H).get? b=some o):h.get? b=some o∧H b=none:=by
 have e':h.get? b=some o:=PySem.W.of_hideAll (trk h H) e
 refine ⟨e',?_⟩
 cases q:H b with
 | none=>rfl
 | some x =>
  have hm:b∈trk h H:=List.mem_filter.mpr ⟨List.mem_range.mpr (Heap.lt_size e'),by simp [q]⟩
  have z:(qW h H).get? b=none:=PySem.W.hideAll_none (trk h H) hm
  rw [z] at e; cases e
open PySem PySem.Spec PyProof.Rows
structure Mod (K:Frag) (mg:Str→Option Value) (base:Heap):Prop where
 kin:K.In base
 glob:base.Ns mainGlobals mg
 blt:∃ mb,base.Ns builtinsNs mb∧∀ x:Str,x ≠ "__name__"→mb x=bootBuiltins x
 nolimit:base.NoLimit
structure Cx where
 prog:Program
 w:World
 K:Frag
 mg:Str→Option Value
 base:Heap
 A:Around
 N:List Str
 s₀:Shared
 H₀:Hp
 env:Env
 outer:List Env
 stack:List Env
 ex:List Addr
 fn:Str→Bool
 calm:Bool
 pn:List (Addr×Obj)
 xe:Value→Shared→Prop
noncomputable def frs (l:List Env):List Addr:=l.filterMap (·.frame)
noncomputable abbrev Cx.fs (X:Cx):List Addr:=frs X.outer
noncomputable def Vis (sc:Scope) (x:Str):Prop:=sc.names.lookup x=some .local∨sc.names.lookup x=some .cell∨sc.names.lookup x=some .free
noncomputable def Loc (sc:Scope) (x:Str):Prop:=sc.names.lookup x=some .local∨sc.names.lookup x=some .cell
noncomputable def HF (env:Env) (h:Heap) (m:Str→Option Value) (x:Str) (u:Value):Prop :=
 (env.kindOf x=some .local∧m x=some u)∨((env.kindOf x=some .cell∨env.kindOf x=some .free)∧∃ c,env.cells.lookup x=some c∧h.IsCell c (some u))
structure Cx.Ok (X:Cx):Prop where
 mod:Mod X.K X.mg X.base
 kind:X.env.scope.kind=.function
 glob:X.env.globals=mainGlobals
 blt:X.env.builtins=builtinsNs
 above:X.s₀.heap.objs.size≤X.env.locals
 inj:∀ x y c,X.env.cells.lookup x=some c→X.env.cells.lookup y=some c→x=y
 has:∀ x,(X.env.kindOf x=some .cell∨X.env.kindOf x=some .free)→∃ c,X.env.cells.lookup x=some c
 cab:∀ x c,X.fn x=true→X.env.cells.lookup x=some c→X.s₀.heap.objs.size≤c
 hd:X.calm=true→X.A.handled=none
 frames:X.A.frames=some X.stack
 stk:X.stack=X.outer∨(X.stack=X.env::X.outer∧X.env.frame=some X.env.locals)
 exf:∀ b∈X.ex,b≠X.env.locals∧∀ x c,X.env.cells.lookup x=some c→c≠b
 bs:∀ b o,X.base.get? b=some o→X.s₀.heap.get? b=some o∧X.H₀ b=none
 bsz:X.base.objs.size≤X.s₀.heap.objs.size
 noex:∀ b o,X.base.get? b=some o→b∉X.ex
 exfs:∀ b∈X.ex,b∉X.fs
 funs:X.s₀.heap.FunFrames X.base X.outer
 frf:∀ b∈X.fs,X.H₀ b=none
structure Inv (X:Cx) (pins:List (Addr×Obj)) (σ:List (Option V)) (H:Hp) (s:Shared):Prop where
 ok:X.Ok
 os:s.os=X.s₀.os
 bare:AllBare s.gens
 base:Un X.fs X.ex X.H₀ H X.s₀.heap s.heap
 loc:∃ m,s.heap.Ns X.env.locals m∧∀ (i:Nat) (x:Str) (v:V),X.N[i]?=some x→σ[i]?=some (some v)→Vis X.env.scope x→∃ u,bu v u∧HF X.env s.heap m x u
 cell:∀ x c,X.env.cells.lookup x=some c→∃ v,s.heap.IsCell c v
 free:H X.env.locals=none
 freeC:∀ x c,X.env.cells.lookup x=some c→H c=none
 pin:∀ p∈X.pn++pins,s.heap.get? p.1=some p.2∧H p.1=none∧p.1≠X.env.locals∧p.1∉X.fs∧∀ v,p.2.data≠.cell v
 hok:HOk X.prog X.w H s.heap
 len:σ.length=X.N.length
section
variable {X:Cx} {pins:List (Addr×Obj)} {σ:List (Option V)} {H H':Hp} {s:Shared} {h':Heap}
theorem Cx.Ok.nofr (ok:X.Ok) {b:Addr} {o:Obj} (e:X.base.get? b=some o):b∉X.fs:=fun hb=>by
 have:=(ok.funs.mem hb).1
 rw [e] at this; cases this
theorem Inv.bs (I:Inv X pins σ H s):∀ b o,X.base.get? b=some o→s.heap.get? b=some o∧H b=none:=fun b o e =>
 ⟨I.base.keep b o (I.ok.bs b o e).1 (I.ok.bs b o e).2 (I.ok.nofr e) (I.ok.noex b o e),I.base.free b o (I.ok.bs b o e).1 (I.ok.bs b o e).2 (I.ok.noex b o e)⟩
theorem Inv.bk (I:Inv X pins σ H s):∀ b o,X.base.get? b=some o→s.heap.get? b=some o:=fun b o e=>(I.bs b o e).1
theorem Inv.mod (I:Inv X pins σ H s):Mod X.K X.mg X.base:=I.ok.mod
theorem Inv.kIn (I:Inv X pins σ H s):X.K.In s.heap:=I.ok.mod.kin.keeps I.bk
theorem Inv.fr (I:Inv X pins σ H s):∃ m,Fr X.base X.env.locals s.heap m :=
 let ⟨m,hn,_⟩:=I.loc
 ⟨m,hn,I.bk,Nat.le_trans I.ok.bsz I.ok.above⟩
theorem Inv.lt (I:Inv X pins σ H s):X.env.locals<s.heap.objs.size:=let ⟨_,hn,_⟩:=I.loc; hn.lt
theorem Inv.sz (I:Inv X pins σ H s):X.s₀.heap.objs.size≤s.heap.objs.size:=Nat.le_trans I.ok.above (Nat.le_of_lt I.lt)
theorem Inv.nofs (I:Inv X pins σ H s) {a:Addr} (h:s.heap.objs.size≤a):a∉X.fs:=fun hb=>by
 obtain ⟨_,o,ho,_⟩:=I.ok.funs.mem hb
 exact absurd (Nat.lt_of_lt_of_le (Heap.lt_size ho) (Nat.le_trans I.sz h)) (Nat.lt_irrefl _)
theorem Inv.cne (I:Inv X pins σ H s):∀ x c,X.env.cells.lookup x=some c→c≠X.env.locals:=fun x c e z=>by
 obtain ⟨v,o,ho,hd⟩:=I.cell x c e
 obtain ⟨m,⟨o',es,ep,ho',hd',_⟩,_⟩:=I.loc
 rw [z,ho'] at ho; cases ho; rw [hd'] at hd; cases hd
theorem Inv.funs (I:Inv X pins σ H s):s.heap.FunFrames X.base X.outer:=by
 have all:∀ (l:List Env),(∀ b∈frs l,b∈X.fs)→X.s₀.heap.FunFrames X.base l→s.heap.FunFrames X.base l:=by
  intro l
  induction l with
  | nil=>intro _ _; trivial
  | cons env r ih =>
   intro hs hl
   obtain ⟨hk,⟨L,o,hf,hn,ho,hd⟩,hr⟩:=hl
   have hL:L∈X.fs:=hs L (by unfold frs; rw [List.filterMap_cons,hf]; exact List.mem_cons_self)
   obtain ⟨sl,e⟩:=I.base.slot L o ho (I.ok.frf L hL) hL fun z=>I.ok.exfs L z hL
   exact ⟨hk,⟨L,_,hf,hn,e,hd⟩,ih (fun b hb=>hs b (by unfold frs; rw [List.filterMap_cons,hf]; exact List.mem_cons_of_mem _ hb)) hr⟩
 exact all X.outer (fun _ hb=>hb) I.ok.funs
theorem Inv.stack (I:Inv X pins σ H s):s.heap.FunFrames X.base X.stack:=by
 rcases I.ok.stk with e | ⟨e,hf⟩
 ·rw [e]; exact I.funs
 ·rw [e]
  obtain ⟨m,hn,_⟩:=I.loc
  refine .cons (by rw [I.ok.kind]; decide) hf hn ?_ I.funs
  exact Heap.get?_none_of_le (Nat.le_trans I.ok.bsz I.ok.above)
theorem Inv.stkSub (I:Inv X pins σ H s):∀ b∈frs X.stack,b∈X.env.locals::X.fs:=fun b hb=>by
 rcases I.ok.stk with e | ⟨e,hf⟩
 ·rw [e] at hb; exact List.mem_cons_of_mem _ hb
 ·rw [e] at hb
  unfold frs at hb
  rw [List.filterMap_cons,hf] at hb
  exact hb
theorem Inv.stkFree (I:Inv X pins σ H s):∀ b∈frs X.stack,H b=none:=fun b hb=>by
 rcases List.mem_cons.mp (I.stkSub b hb) with e | hb
 ·rw [e]; exact I.free
 ·obtain ⟨_,o,ho,_⟩:=I.ok.funs.mem hb
  exact I.base.free b o ho (I.ok.frf b hb) fun z=>I.ok.exfs b z hb
theorem Inv.step {g':Array GenState} {t':Nat} {d':Drawn} {ch:List Addr} (I:Inv X pins σ H s)
  (hch:∀ b∈ch,(b∈X.ex∨X.s₀.heap.objs.size≤b)∧b≠X.env.locals∧(∀ x c,X.env.cells.lookup x=some c→c≠b)∧∀ p∈X.pn++pins,p.1≠b)
  (keep:∀ b o,b≠X.env.locals→b∉X.fs→b∉ch→s.heap.get? b=some o→H b=none→h'.get? b=some o)
  (slot:∀ b o,b≠X.env.locals→b∈X.fs→b∉ch→s.heap.get? b=some o→H b=none→∃ sl,h'.get? b=some { o with slots:=sl }) (free:∀ b o,b∉ch→s.heap.get? b=some o→H b=none→H' b=none)
  (there:∀ b o,b∉ch→s.heap.get? b=some o→∃ o',h'.get? b=some o')
  (tups:∀ b xs,H b=some (.tup xs)→H' b=some (.tup xs)) (frzs:∀ b o u,H b=some (.frz o u)→H' b=some (.frz o u)) (tbls:∀ b ps,H b=some (.tbl ps)→∃ more,H' b=some (.tbl (ps++more)))
  (ns:∀ m,s.heap.Ns X.env.locals m→h'.Ns X.env.locals m) (hok:HOk X.prog X.w H' h') (hg:AllBare g') :
  Inv X pins σ H' { s with heap:=h',gens:=g',drawn:=d',toks:=t' }:=by
 have neL:∀ b o,X.s₀.heap.get? b=some o→b≠X.env.locals:=fun b o e=>Nat.ne_of_lt (Nat.lt_of_lt_of_le (Heap.lt_size e) I.ok.above)
 have neC:∀ b o,X.s₀.heap.get? b=some o→b∉X.ex→b∉ch:=fun b o e hx hb=>by
  rcases (hch b hb).1 with z | z
  ·exact hx z
  ·exact absurd (Nat.lt_of_lt_of_le (Heap.lt_size e) z) (Nat.lt_irrefl _)
 have cellK:∀ x c,X.env.cells.lookup x=some c→∀ v,s.heap.IsCell c v→h'.IsCell c v:=fun x c e v ⟨o,ho,hd⟩=>by
  have nch:c∉ch:=fun z=>(hch c z).2.2.1 x c e rfl
  by_cases hc:c∈X.fs
  ·obtain ⟨sl,q⟩:=slot c o (I.cne x c e) hc nch ho (I.freeC x c e)
   exact ⟨_,q,hd⟩
  ·exact ⟨o,keep c o (I.cne x c e) hc nch ho (I.freeC x c e),hd⟩
 refine ⟨I.ok,I.os,hg,⟨fun b o e n hb hx=>?_,fun b o e n hb hx=>?_,fun b o e n hx=>?_,fun b o e hx=>?_,fun b xs e=>tups b xs (I.base.tups b xs e),fun b o xs e=>frzs b o xs (I.base.frzs b o xs e),fun b ps e=>?_⟩,?_,fun x c e=>?_,?_,fun x c e=>?_,fun p hp=>?_,hok,I.len⟩
 ·exact keep b o (neL b o e) hb (neC b o e hx) (I.base.keep b o e n hb hx) (I.base.free b o e n hx)
 ·obtain ⟨sl,e1⟩:=I.base.slot b o e n hb hx
  obtain ⟨sl',e2⟩:=slot b _ (neL b o e) hb (neC b o e hx) e1 (I.base.free b o e n hx)
  exact ⟨sl',e2⟩
 ·obtain ⟨o',e1⟩:=I.base.there b o e hx
  exact free b o' (neC b o e hx) e1 (I.base.free b o e n hx)
 ·obtain ⟨o',e1⟩:=I.base.there b o e hx
  exact there b o' (neC b o e hx) e1
 ·obtain ⟨m1,e1⟩:=I.base.tbls b ps e
  obtain ⟨m2,e2⟩:=tbls b _ e1
  exact ⟨m1++m2,by rw [e2,Array.append_assoc]⟩
 ·obtain ⟨m,hn,hl⟩:=I.loc
  refine ⟨m,ns m hn,fun i x v e1 e2 e3=>?_⟩
  obtain ⟨u,r,l⟩:=hl i x v e1 e2 e3
  refine ⟨u,r,?_⟩
  rcases l with l | ⟨k,c,e,z⟩
  ·exact .inl l
  ·exact .inr ⟨k,c,e,cellK x c e _ z⟩
 ·obtain ⟨v,z⟩:=I.cell x c e
  exact ⟨v,cellK x c e v z⟩
 ·obtain ⟨m,⟨o,_,_,ho,_⟩,_⟩:=I.loc
  exact free _ o (fun z=>(hch _ z).2.1 rfl) ho I.free
 ·obtain ⟨v,o,ho,hd⟩:=I.cell x c e
  exact free c o (fun z=>(hch c z).2.2.1 x c e rfl) ho (I.freeC x c e)
 ·obtain ⟨e,n,ne,nf,d⟩:=I.pin p hp
  have nch:p.1∉ch:=fun z=>(hch p.1 z).2.2.2 p hp rfl
  exact ⟨keep p.1 p.2 ne nf nch e n,free p.1 p.2 nch e n,ne,nf,d⟩
theorem Inv.un {t':Nat} (I:Inv X pins σ H s) (u:Un X.fs [] H H' s.heap h') (hok:HOk X.prog X.w H' h'):Inv X pins σ H' { s with heap:=h',toks:=t' }:=by
 obtain ⟨m,⟨o,es,ep,ho,r⟩,_⟩:=id I.loc
 obtain ⟨sl,hL⟩:=u.any ho I.free (by simp)
 exact I.step (g':=s.gens) (d':=s.drawn) (ch:=[]) (fun _ z=>nomatch z) (fun b o _ hb _ e n=>u.keep b o e n hb (by simp)) (fun b o _ hb _ e n=>u.slot b o e n hb (by simp)) (fun b o _ e n=>u.free b o e n (by simp)) (fun b o _ e=>u.there b o e (by simp)) u.tups u.frzs u.tbls (fun m' hm=>by
  obtain ⟨o',es',ep',ho',r'⟩:=hm
  rw [ho] at ho'; cases ho'
  exact ⟨_,es',ep',hL,r'⟩) hok I.bare
theorem Inv.call {g':Array GenState} {t':Nat} {d':Drawn} {ch:List Addr} (I:Inv X pins σ H s) (u:Un (frs X.stack) ch H H' s.heap h') (hok:HOk X.prog X.w H' h') (hg:AllBare g')
  (hch:∀ b∈ch,(b∈X.ex∨X.s₀.heap.objs.size≤b)∧b≠X.env.locals∧(∀ x c,X.env.cells.lookup x=some c→c≠b)∧∀ p∈X.pn++pins,p.1≠b) :
  Inv X pins σ H' { s with heap:=h',gens:=g',drawn:=d',toks:=t' }:=by
 obtain ⟨m,⟨o,es,ep,ho,r⟩,_⟩:=id I.loc
 obtain ⟨sl,hL⟩:=u.any ho I.free fun z=>(hch _ z).2.1 rfl
 exact I.step (ch:=ch) hch (fun b o hL hb hc e n=>u.keep b o e n (fun z=>(List.mem_cons.mp (I.stkSub b z)).elim hL hb) hc) (fun b o _ _ hc e n=>u.any e n hc) (fun b o hc e n=>u.free b o e n hc) (fun b o hc e=>u.there b o e hc) u.tups u.frzs u.tbls (fun m' hm=>by
  obtain ⟨o',es',ep',ho',r'⟩:=hm
  rw [ho] at ho'; cases ho'
  exact ⟨_,es',ep',hL,r'⟩) hok hg
theorem Inv.turned {t':Nat} {it:Addr} (I:Inv X pins σ H s) (k:∀ b o,b≠it→s.heap.get? b=some o→h'.get? b=some o) (hn:H it=none) (hL:it≠X.env.locals)
  (h1:it∈X.ex∨X.s₀.heap.objs.size≤it) (h2:∀ x c,X.env.cells.lookup x=some c→c≠it) (h3:∀ p∈X.pn++pins,p.1≠it):Inv X pins σ H { s with heap:=h',toks:=t' }:=by
 have nit:∀ b u,H b=some u→b≠it:=fun b u e z=>by rw [z,hn] at e; cases e
 refine I.step (g':=s.gens) (d':=s.drawn) (ch:=[it]) (fun b hb=>?_) (fun b o _ _ hc e _=>k b o (fun z=>hc (by simp [z])) e) (fun b o _ _ hc e _=>⟨o.slots,k b o (fun z=>hc (by simp [z])) e⟩) (fun _ _ _ _ n=>n)
  (fun b o hc e=>⟨o,k b o (fun z=>hc (by simp [z])) e⟩) (fun _ _ e=>e) (fun _ _ _ e=>e) (fun b ps e=>⟨#[],by rw [e]; simp⟩) (fun m hm=>?_) (fun b u e=>?_) I.bare
 ·have e:b=it:=by simpa using hb
  subst e
  exact ⟨h1,hL,h2,h3⟩
 ·obtain ⟨o,es,ep,ho,r⟩:=hm
  exact ⟨o,es,ep,k _ o (Ne.symm hL) ho,r⟩
 ·refine (I.hok b u e).stay (fun c v hc q=>k c v ?_ q) (fun _ q=>q) fun _ _ q=>q
  rcases hc with z | z
  ·rw [z]; exact nit b u e
  ·exact nit c _ z
theorem Inv.tok (I:Inv X pins σ H s) (t:Nat):Inv X pins σ H { s with toks:=t }:=I.un (h':=s.heap) (t':=t) Un.refl I.hok
theorem Inv.kept {t':Nat} (I:Inv X pins σ H s) (k:∀ b u,s.heap.get? b=some u→h'.get? b=some u):Inv X pins σ H { s with heap:=h',toks:=t' }:=I.un (Un.kept k) (I.hok.kept k)
theorem Inv.laid {a:Addr} {o:HO} {t':Nat} (I:Inv X pins σ H s) (k:∀ b u,s.heap.get? b=some u→h'.get? b=some u) (hp:s.heap.objs.size≤a) (new:bZ X.prog X.w (upd H a o) h' a o) :
  Inv X pins σ (upd H a o) { s with heap:=h',toks:=t' }:=I.un (Un.laid k hp (I.hok.fresh hp)) (I.hok.laid k hp new)
theorem Inv.write {x e:Addr} {o:HO} {t':Nat} (I:Inv X pins σ H s) (mu:Mut (H x)) (he:e=x∨H e=some (.own x)) (k:∀ b u,b≠e→s.heap.get? b=some u→h'.get? b=some u) (heo:∃ u,h'.get? e=some u)
  (new:bZ X.prog X.w (upd H x o) h' x o):Inv X pins σ (upd H x o) { s with heap:=h',toks:=t' }:=I.un (Un.write mu he k heo) (I.hok.write mu he k heo new)
theorem Inv.weak {σ':List (Option V)} (I:Inv X pins σ H s) (hl:σ'.length=σ.length) (w:∀ (i:Nat) v,σ'[i]?=some (some v)→σ[i]?=some (some v)):Inv X pins σ' H s :=
 ⟨I.ok,I.os,I.bare,I.base,let ⟨m,hn,hl'⟩:=I.loc; ⟨m,hn,fun i x v e1 e2 e3=>hl' i x v e1 (w i v e2) e3⟩,I.cell,I.free,I.freeC,I.pin,I.hok,hl.trans I.len⟩
theorem Inv.pins_of {pins':List (Addr×Obj)} (I:Inv X pins σ H s) (h:∀ p∈pins',s.heap.get? p.1=some p.2∧H p.1=none∧p.1≠X.env.locals∧p.1∉X.fs∧∀ v,p.2.data≠.cell v):Inv X pins' σ H s :=
 ⟨I.ok,I.os,I.bare,I.base,I.loc,I.cell,I.free,I.freeC,fun p hp=>(List.mem_append.mp hp).elim (fun z=>I.pin p (List.mem_append_left _ z)) (h p),I.hok,I.len⟩
theorem sv {N:List Str} (hN:N.Nodup) {i j:Nat} {x:Str} (a:N[i]?=some x) (b:N[j]?=some x):i=j:=by
 obtain ⟨h1,e1⟩:=List.getElem?_eq_some_iff.mp a
 obtain ⟨h2,e2⟩:=List.getElem?_eq_some_iff.mp b
 exact (List.getElem_inj hN).mp (e1.trans e2.symm)
theorem zJ {M:Model} {A:Around} {E:Value→Shared→Prop} {i:Nat} {x:Str} {v:V} {u:Value} {Q:Unit→Shared→Prop} (I:Inv X pins σ H s) (hN:X.N.Nodup) (hi:X.N[i]?=some x) (hx:Loc X.env.scope x) (r:bu v u)
  (h:∀ s',Inv X pins (σ.set i (some v)) H s'→(∃ a,Heap.SameBut a s.heap s'.heap∧(a=X.env.locals∨X.env.cells.lookup x=some a))→Q () s') (hf:X.fn x=true∨X.env.scope.names.lookup x=some .local:=by first | exact .inl rfl | exact .inr rfl | assumption):wpAny M A (storeName X.env x u) Q E s:=by
 obtain ⟨m,hn,hl⟩:=id I.loc
 have hcls:(X.env.scope.kind==.class||(X.env.scope.kind==.module&&X.env.locals != X.env.globals))=false:=by rw [I.ok.kind]; rfl
 have hiσ:i<σ.length:=by rw [I.len]; exact (List.getElem?_eq_some_iff.mp hi).1
 have cne:=I.cne
 have tracked:∀ {a:Addr} {h':Heap},(∃ o,s.heap.get? a=some o∧H a=none)→Heap.SameBut a s.heap h'→HOk X.prog X.w H h':=fun {a h'} ha hs b ob e=>by
  obtain ⟨_,_,hfree⟩:=ha
  refine (I.hok b ob e).stay (fun c w' hc q=>(hs.2 c ?_).trans q) (fun _ q=>q) fun _ _ q=>q
  rintro rfl
  rcases hc with rfl | hc
  ·rw [hfree] at e; cases e
  ·rw [hfree] at hc; cases hc
 rcases hx with hk | hk
 ·refine wpAny_storeName_local hk hn (fun h' hn' hs=>?_) hcls
  obtain ⟨oL,_,_,hoL,_⟩:=id hn
  refine h _ ⟨I.ok,I.os,I.bare,⟨fun b o e n hb hx=>?_,fun b o e n hb hx=>?_,I.base.free,fun b o e hx=>?_,I.base.tups,I.base.frzs,I.base.tbls⟩,⟨_,hn',fun j y v' e1 e2 e3=>?_⟩,fun y c e=>?_,I.free,I.freeC,fun p hp=>?_,tracked ⟨oL,hoL,I.free⟩ hs,by simpa using I.len⟩ ⟨_,hs,.inl rfl⟩
  ·exact (hs.2 b (Nat.ne_of_lt (Nat.lt_of_lt_of_le (Heap.lt_size e) I.ok.above))).trans (I.base.keep b o e n hb hx)
  ·obtain ⟨sl,e1⟩:=I.base.slot b o e n hb hx
   exact ⟨sl,(hs.2 b (Nat.ne_of_lt (Nat.lt_of_lt_of_le (Heap.lt_size e) I.ok.above))).trans e1⟩
  ·obtain ⟨o',e1⟩:=I.base.there b o e hx
   exact ⟨o',(hs.2 b (Nat.ne_of_lt (Nat.lt_of_lt_of_le (Heap.lt_size e) I.ok.above))).trans e1⟩
  ·by_cases hj:j=i
   ·subst hj
    rw [hi] at e1; cases e1
    rw [List.getElem?_set_self hiσ] at e2
    cases e2
    exact ⟨u,r,.inl ⟨hk,by simp⟩⟩
   ·rw [List.getElem?_set_ne (Ne.symm hj)] at e2
    obtain ⟨u',r',q⟩:=hl j y v' e1 e2 e3
    refine ⟨u',r',?_⟩
    rcases q with ⟨k,e⟩ | ⟨k,c,e,z⟩
    ·refine .inl ⟨k,?_⟩
     have:y≠x:=fun e=>hj (sv hN e1 (e ▸ hi))
     simp [this,e]
    ·exact .inr ⟨k,c,e,z.sameBut hs (cne y c e)⟩
  ·obtain ⟨w',z⟩:=I.cell y c e
   exact ⟨w',z.sameBut hs (cne y c e)⟩
  ·obtain ⟨e,n,ne,nf,d⟩:=I.pin p hp
   exact ⟨(hs.2 p.1 ne).trans e,n,ne,nf,d⟩
 ·have hfn:X.fn x=true:=by
   rcases hf with z | z
   ·exact z
   ·rw [z] at hk; cases hk
  obtain ⟨c,hc⟩:=I.ok.has x (.inl hk)
  obtain ⟨w',z⟩:=I.cell x c hc
  refine wpAny_storeName_cell I.ok.kind hk hc z (fun h' hc' hs=>?_)
  obtain ⟨oc,hoc,hocd⟩:=id z
  refine h { s with heap:=h' } ⟨I.ok,I.os,I.bare,⟨fun b o e n hb hx=>?_,fun b o e n hb hx=>?_,I.base.free,fun b o e hx=>?_,I.base.tups,I.base.frzs,I.base.tbls⟩,⟨m,hn.sameBut hs (Ne.symm (cne x c hc)),fun j y v' e1 e2 e3=>?_⟩,fun y c' e=>?_,I.free,I.freeC,fun p hp=>?_,tracked ⟨oc,hoc,I.freeC x c hc⟩ hs,by simpa using I.len⟩ ⟨c,hs,.inr hc⟩
  ·exact (hs.2 b (Nat.ne_of_lt (Nat.lt_of_lt_of_le (Heap.lt_size e) (I.ok.cab x c hfn hc)))).trans (I.base.keep b o e n hb hx)
  ·obtain ⟨sl,e1⟩:=I.base.slot b o e n hb hx
   exact ⟨sl,(hs.2 b (Nat.ne_of_lt (Nat.lt_of_lt_of_le (Heap.lt_size e) (I.ok.cab x c hfn hc)))).trans e1⟩
  ·obtain ⟨o',e1⟩:=I.base.there b o e hx
   exact ⟨o',(hs.2 b (Nat.ne_of_lt (Nat.lt_of_lt_of_le (Heap.lt_size e) (I.ok.cab x c hfn hc)))).trans e1⟩
  ·by_cases hj:j=i
   ·subst hj
    rw [hi] at e1; cases e1
    rw [List.getElem?_set_self hiσ] at e2
    cases e2
    exact ⟨u,r,.inr ⟨.inl hk,c,hc,hc'⟩⟩
   ·rw [List.getElem?_set_ne (Ne.symm hj)] at e2
    obtain ⟨u',r',q⟩:=hl j y v' e1 e2 e3
    refine ⟨u',r',?_⟩
    rcases q with q | ⟨k,c',e,z'⟩
    ·exact .inl q
    ·refine .inr ⟨k,c',e,z'.sameBut hs ?_⟩
     rintro rfl
     exact hj (sv hN e1 (I.ok.inj _ _ _ e hc ▸ hi))
  ·by_cases hcc:c'=c
   ·subst hcc; exact ⟨_,hc'⟩
   ·obtain ⟨w2,z2⟩:=I.cell y c' e
    exact ⟨w2,z2.sameBut hs hcc⟩
  ·obtain ⟨e,n,ne,nf,d⟩:=I.pin p hp
   refine ⟨(hs.2 p.1 ?_).trans e,n,ne,nf,d⟩
   intro q
   rw [q,hoc] at e
   have q':oc=p.2:=Option.some.inj e
   exact d w' (by rw [← q']; exact hocd)
theorem jp {M:Model} {A:Around} {E:Value→Shared→Prop} {i:Nat} {x:Str} {v:V} {u:Value} {Q:Unit→Shared→Prop} (I:Inv X pins σ H s) (hN:X.N.Nodup) (hi:X.N[i]?=some x) (hx:Loc X.env.scope x) (r:bu v u)
  (h:∀ s',Inv X pins (σ.set i (some v)) H s'→Q () s') (hf:X.fn x=true∨X.env.scope.names.lookup x=some .local:=by first | exact .inl rfl | exact .inr rfl | assumption):wpAny M A (storeName X.env x u) Q E s :=
 zJ I hN hi hx r (fun s' I' _=>h s' I') hf
theorem Inv.call' {s':Shared} {ch:List Addr} (I:Inv X pins σ H s) (ho:s'.os=s.os) (u:Un (frs X.stack) ch H H' s.heap s'.heap) (hok:HOk X.prog X.w H' s'.heap) (hg:AllBare s'.gens)
  (hch:∀ b∈ch,(b∈X.ex∨X.s₀.heap.objs.size≤b)∧b≠X.env.locals∧(∀ x c,X.env.cells.lookup x=some c→c≠b)∧∀ p∈X.pn++pins,p.1≠b):Inv X pins σ H' s':=by
 obtain ⟨h',g',d',t',o'⟩:=s'
 have e:o'=s.os:=ho
 subst e
 exact I.call (g':=g') (t':=t') (d':=d') u hok hg hch
end
noncomputable abbrev XK:=Value→Option Addr→Hp→Prop
noncomputable abbrev St:=List (Option V)
noncomputable abbrev VK:=V→Hp→Prop
noncomputable abbrev TE:=St→Hp→VK→Prop
noncomputable abbrev TT:=St→Hp→(Bool→Hp→Prop)→Prop
noncomputable abbrev TA:=St→Hp→(List V→Hp→Prop)→Prop
structure mX where
 nx:St→Hp→Prop
 rt:VK
 bk:St→Hp→Prop:=fun _ _=>False
 ct:St→Hp→Prop:=fun _ _=>False
noncomputable abbrev TS:=mX→St→Hp→Prop
noncomputable def EP (X:Cx) (pins:List (Addr×Obj)) (σ:St) (Q:VK) (u:Value) (s':Shared):Prop:=∃ v H',Inv X pins σ H' s'∧bu v u∧Q v H'
noncomputable def TP (X:Cx) (pins:List (Addr×Obj)) (σ:St) (Q:Bool→Hp→Prop) (b:Bool) (s':Shared):Prop:=∃ H',Inv X pins σ H' s'∧Q b H'
noncomputable def AP (X:Cx) (pins:List (Addr×Obj)) (σ:St) (Q:List V→Hp→Prop) (us:List Value) (s':Shared):Prop:=∃ vs H',Inv X pins σ H' s'∧bq vs us∧Q vs H'
noncomputable def SP (X:Cx) (pins:List (Addr×Obj)) (D:mX) (f:Flow) (s':Shared):Prop :=
 match f with
 | .next=>∃ σ' H',Inv X pins σ' H' s'∧D.nx σ' H'
 | .brk=>∃ σ' H',Inv X pins σ' H' s'∧D.bk σ' H'
 | .cont=>∃ σ' H',Inv X pins σ' H' s'∧D.ct σ' H'
 | .ret u=>∃ v σ' H',Inv X pins σ' H' s'∧bu v u∧D.rt v H'
noncomputable def PE (X:Cx) (e:Expr) (t:TE):Prop :=
 ∀ (pins:List (Addr×Obj)) (s:Shared) (σ:St) (H:Hp) (Q:VK),Inv X pins σ H s→t σ H Q→wpAny (model X.prog X.w) X.A (eval e X.env) (EP X pins σ Q) X.xe s
noncomputable def PT (X:Cx) (e:Expr) (t:TT):Prop :=
 ∀ (pins:List (Addr×Obj)) (s:Shared) (σ:St) (H:Hp) (Q:Bool→Hp→Prop),Inv X pins σ H s→t σ H Q→wpAny (model X.prog X.w) X.A (isTrue e X.env (eval e X.env)) (TP X pins σ Q) X.xe s
noncomputable def PW (X:Cx) (e:Expr) (t:TT):Prop :=
 ∀ (whole:Sem Value) (pins:List (Addr×Obj)) (s:Shared) (σ:St) (H:Hp) (Q:Bool→Hp→Prop),Inv X pins σ H s→t σ H Q→wpAny (model X.prog X.w) X.A (isTrue e X.env whole) (TP X pins σ Q) X.xe s
theorem PW.pt {X:Cx} {e:Expr} {t:TT} (h:PW X e t):PT X e t:=h _
noncomputable def PA (X:Cx) (es:List Expr) (t:TA):Prop :=
 ∀ (pos:Pos) (pins:List (Addr×Obj)) (s:Shared) (σ:St) (H:Hp) (Q:List V→Hp→Prop),Inv X pins σ H s→t σ H Q→wpAny (model X.prog X.w) X.A (spliced (backTo pos (starEach es X.env))) (AP X pins σ Q) X.xe s
noncomputable def PS (X:Cx) (st:Stmt) (t:TS):Prop :=
 ∀ (pins:List (Addr×Obj)) (s:Shared) (σ:St) (H:Hp) (D:mX),Inv X pins σ H s→t D σ H→wpAny (model X.prog X.w) X.A (exec st X.env) (SP X pins D) X.xe s
noncomputable def PSs (X:Cx) (st:List Stmt) (t:TS):Prop :=
 ∀ (pins:List (Addr×Obj)) (s:Shared) (σ:St) (H:Hp) (D:mX),Inv X pins σ H s→t D σ H→wpAny (model X.prog X.w) X.A (execs st X.env) (SP X pins D) X.xe s
theorem thn {α:Type} {t:Sem α} {Q Q':α→Shared→Prop} {M:Model} {A:Around} {E:Value→Shared→Prop} {s:Shared} (h:wpAny M A t Q E s) (hQ:∀ a s,Q a s→Q' a s):wpAny M A t Q' E s:=wpAny_mono h hQ fun _ _ x=>x
open PySem PySem.Spec PyProof.Rows
section
variable {X:Cx}
noncomputable def Dq (i:Nat):TE:=fun σ H Q=>∃ v,σ[i]?=some (some v)∧Q v H
noncomputable def tC (v:V):TE:=fun _ H Q=>Q v H
theorem Eg {i:Nat} {x:Str} {pos:Pos} (hN:X.N[i]?=some x) (hv:Vis X.env.scope x) (hd:(x==("__debug__":Str))=false:=by decide) (hcd:(x==("__classdict__":Str))=false:=by decide):PE X (.Name x pos) (Dq i):=by
 intro pins s σ H Q I h
 obtain ⟨v,e,h⟩:=h
 obtain ⟨m,hn,hl⟩:=I.loc
 obtain ⟨u,r,l⟩:=hl i x v hN e hv
 have fin:EP X pins σ Q u s:=⟨v,H,I,r,h⟩
 rcases l with ⟨hk,hm⟩ | ⟨hk,c,hc,hcell⟩
 ·exact wpAny_Name (wpAny_loadName_local I.ok.kind hk hn hm fin) hd
 ·rcases hk with hk | hk
  ·exact wpAny_Name (wpAny_loadName_cell I.ok.kind hk hc hcell fin) hd
  ·exact wpAny_Name (wpAny_loadName_free I.ok.kind hk hc hcell fin hcd) hd
theorem ak {i j pos}:PE X (.Constant (.int i) j pos) (tC (.int i)):=fun _ _ _ H _ I h=>wpAny_Constant_int ⟨.int i,H,I.tok _,⟨_,rfl⟩,h⟩
theorem bP {b j pos}:PE X (.Constant (.bool b) j pos) (tC (.bl b)):=fun _ _ _ H _ I h=>Constant_bool ⟨.bl b,H,I,rfl,h⟩
theorem cu {j pos}:PE X (.Constant .none j pos) (tC .non):=fun _ _ _ H _ I h=>Constant_none ⟨.non,H,I,rfl,h⟩
theorem au {x j pos}:PE X (.Constant (.str x) j pos) (tC (.str x)):=fun _ _ _ H _ I h=>Calls.Constant_str ⟨.str x,H,I.tok _,⟨_,rfl⟩,h⟩
noncomputable def Gl (X:Cx) (x:Str):Prop:=X.env.kindOf x=some .globalImplicit
theorem yl {E:Value→Shared→Prop} {pins:List (Addr×Obj)} {s:Shared} {σ:St} {H:Hp} {x:Str} {u:Value} {pos:Pos} {Q:Value→Shared→Prop} (I:Inv X pins σ H s) (hg:Gl X x) (hm:X.mg x=some u) (h:Q u s)
  (hd:(x==("__debug__":Str))=false:=by decide):wpAny (model X.prog X.w) X.A (eval (.Name x pos) X.env) Q E s :=
 Calls.Name_function_global I.ok.kind hg (Calls.loadGlobal_global (by rw [I.ok.glob]; exact I.mod.glob.keeps I.bk) hm h) hd
theorem fT {E:Value→Shared→Prop} {pins:List (Addr×Obj)} {s:Shared} {σ:St} {H:Hp} {x:Str} {u:Value} {pos:Pos} {Q:Value→Shared→Prop} (I:Inv X pins σ H s) (hg:Gl X x) (hm:X.mg x=none) (hv:bootBuiltins x=some u) (h:Q u s)
  (hn:x ≠ "__name__":=by decide) (hd:(x==("__debug__":Str))=false:=by decide):wpAny (model X.prog X.w) X.A (eval (.Name x pos) X.env) Q E s:=by
 obtain ⟨mb,h1,h2⟩:=I.mod.blt
 exact Calls.Name_function_global I.ok.kind hg (Calls.loadGlobal_builtin (by rw [I.ok.glob]; exact I.mod.glob.keeps I.bk) hm (by rw [I.ok.blt]; exact h1.keeps I.bk) ((h2 x hn).trans hv) h) hd
theorem bv {x:Str} {v:V} {u:Value} {pos:Pos} (hg:Gl X x) (hm:X.mg x=some u) (r:bu v u) (hd:(x==("__debug__":Str))=false:=by decide):PE X (.Name x pos) (tC v) :=
 fun _ _ _ H _ I h=>yl I hg hm ⟨v,H,I,r,h⟩ hd
theorem cm {x:Str} {v:V} {u:Value} {pos:Pos} (hg:Gl X x) (hm:X.mg x=none) (hv:bootBuiltins x=some u) (r:bu v u) (hn:x ≠ "__name__":=by decide) (hd:(x==("__debug__":Str))=false:=by decide):PE X (.Name x pos) (tC v) :=
 fun _ _ _ H _ I h=>fT I hg hm hv ⟨v,H,I,r,h⟩ hn hd
variable {a b:Expr} {ta tb:TE} {pos:Pos}
noncomputable def tB (t:TE):TT:=fun σ H Q=>t σ H fun x H1=>∃ c,x=.bl c∧Q c H1
theorem bt {e:Expr} {t:TE} (h:PE X e t) (he:∀ whole,isTrue e X.env whole=(do let v ← whole; standAt e.pos; holding [v] (truthy v)):=by intro _; rfl):PT X e (tB t):=by
 intro pins s σ H Q I hw
 refine isTrue_plain (thn (h pins s σ H _ I hw) fun v s1 ⟨x,H1,I1,r1,q1⟩=>?_) (he _)
 obtain ⟨d,rfl,q⟩:=q1
 cases r1
 exact wpAny_truthy_bool ⟨H1,I1,q⟩
variable {tA tB':TT} {rest:List Expr}
noncomputable def HG (t u:TT):TT:=fun σ H Q=>t σ H fun c H1=>if c=true then u σ H1 Q else Q false H1
noncomputable def tOr (t u:TT):TT:=fun σ H Q=>t σ H fun c H1=>if c=true then Q true H1 else u σ H1 Q
noncomputable def Hq (t:TT):TT:=fun σ H Q=>t σ H fun c H1=>Q (!c) H1
theorem eW (ha:PT X a tA):PW X (.BoolOp .And [a] pos) tA:=by
 intro wh pins s σ H Q I h
 refine isTrue_and (thn (ha pins s σ H Q I h) fun c s1 e=>?_)
 cases c with
 | true=>exact isTrue_and_nil e
 | false=>exact e
theorem cr (ha:PT X a tA):PW X (.BoolOp .Or [a] pos) tA:=by
 intro wh pins s σ H Q I h
 refine isTrue_or (thn (ha pins s σ H Q I h) fun c s1 e=>?_)
 cases c with
 | false=>exact isTrue_or_nil e
 | true=>exact e
theorem gl (ha:PT X a tA) (hb:PW X (.BoolOp .And (b::rest) pos) tB'):PW X (.BoolOp .And (a::b::rest) pos) (HG tA tB'):=by
 intro wh pins s σ H Q I h
 refine isTrue_and (thn (ha pins s σ H _ I h) fun c s1 ⟨H1,I1,q1⟩=>?_)
 cases c with
 | true=>exact hb wh pins s1 σ H1 Q I1 q1
 | false=>exact ⟨H1,I1,q1⟩
theorem cw (ha:PT X a tA) (hb:PW X (.BoolOp .Or (b::rest) pos) tB'):PW X (.BoolOp .Or (a::b::rest) pos) (tOr tA tB'):=by
 intro wh pins s σ H Q I h
 refine isTrue_or (thn (ha pins s σ H _ I h) fun c s1 ⟨H1,I1,q1⟩=>?_)
 cases c with
 | true=>exact ⟨H1,I1,q1⟩
 | false=>exact hb wh pins s1 σ H1 Q I1 q1
theorem bE (ha:PT X a tA):PT X (.UnaryOp .Not a pos) (Hq tA):=by
 intro pins s σ H Q I h
 exact isTrue_not (ha pins s σ H (fun c H1=>Q (!c) H1) I h)
noncomputable def Ga (ta tb:TE):TE:=fun σ H Q=>ta σ H fun x H1=>∃ c,x=.bl c∧if c=true then tb σ H1 Q else Q (.bl false) H1
noncomputable def HH (ta tb:TE):TE:=fun σ H Q=>ta σ H fun x H1=>∃ c,x=.bl c∧if c=true then Q (.bl true) H1 else tb σ H1 Q
noncomputable def Ge (ta:TE):TE:=fun σ H Q=>ta σ H fun x H1=>∃ c,x=.bl c∧Q (.bl (!c)) H1
theorem cS {op} {t:TE} (h:PE X a t):PE X (.BoolOp op [a] pos) t:=fun pins s σ H Q I hw=>BoolOp_one (h pins s σ H Q I hw)
theorem dw (ha:PE X a ta) (hb:PE X (.BoolOp .And (b::rest) pos) tb):PE X (.BoolOp .And (a::b::rest) pos) (Ga ta tb):=by
 intro pins s σ H Q I h
 refine BoolOp_and (thn (ha pins s σ H _ I h) fun v s1 ⟨x,H1,I1,r1,q1⟩=>?_)
 obtain ⟨c,rfl,q1⟩:=q1
 cases r1
 refine wpAny_truthy_bool ?_
 cases c with
 | true=>exact hb pins s1 σ H1 Q I1 q1
 | false=>exact ⟨.bl false,H1,I1,rfl,q1⟩
theorem DX (ha:PE X a ta) (hb:PE X (.BoolOp .Or (b::rest) pos) tb):PE X (.BoolOp .Or (a::b::rest) pos) (HH ta tb):=by
 intro pins s σ H Q I h
 refine BoolOp_or (thn (ha pins s σ H _ I h) fun v s1 ⟨x,H1,I1,r1,q1⟩=>?_)
 obtain ⟨c,rfl,q1⟩:=q1
 cases r1
 refine wpAny_truthy_bool ?_
 cases c with
 | false=>exact hb pins s1 σ H1 Q I1 q1
 | true=>exact ⟨.bl true,H1,I1,rfl,q1⟩
theorem Ce (ha:PE X a ta):PE X (.UnaryOp .Not a pos) (Ge ta):=by
 intro pins s σ H Q I h
 refine UnaryOp_ (thn (ha pins s σ H _ I h) fun v s1 ⟨x,H1,I1,r1,q1⟩=>?_)
 obtain ⟨c,rfl,q1⟩:=q1
 cases r1
 exact not_of (wpAny_truthy_bool ⟨.bl (!c),H1,I1,rfl,q1⟩)
noncomputable def tIf (t:TT) (ta tb:TE):TE:=fun σ H Q=>t σ H fun c H1=>if c=true then ta σ H1 Q else tb σ H1 Q
theorem cR {c:Expr} (hc:PT X c tA) (ha:PE X a ta) (hb:PE X b tb):PE X (.IfExp c a b pos) (tIf tA ta tb):=by
 intro pins s σ H Q I h
 refine wpAny_IfExp (thn (hc pins s σ H _ I h) fun d s1 ⟨H1,I1,q1⟩=>?_)
 cases d with
 | true=>exact ha pins s1 σ H1 Q I1 q1
 | false=>exact hb pins s1 σ H1 Q I1 q1
end
open PySem PySem.Spec PyProof.Rows
noncomputable def SqL (K:Frag) (H:Hp) (a:Addr) (xs:List V):Prop :=
 Rd H a (.lst xs) ∨
  ∃ (o:Obj) (its:Array Value) (n:Nat),K.lookup a=some o∧o.cls=.type "list"∧o.dict=none∧o.data=.seq its n∧its.size≤sizeLine∧bq xs its.toList
noncomputable def SqT (K:Frag) (H:Hp) (a:Addr) (xs:List V):Prop :=
 Rd H a (.tup xs) ∨
  ∃ (o:Obj) (its:Array Value) (n:Nat),K.lookup a=some o∧o.cls=.type "tuple"∧o.data=.seq its n∧its.size≤sizeLine∧bq xs its.toList
noncomputable def Hm:Value→Option V
 | .none=>some .non
 | .bool b=>some (.bl b)
 | .int i _=>some (.int i)
 | .str x _=>some (.str x)
 | .bytes b _=>some (.byt b)
 | .float b _=>some (.flt b)
 | .ref a=>some (.ref a)
 | .type n=>some (.ty n)
 | _=>none
theorem bu.abs {x:V} {u:Value} (r:bu x u):Hm u=some x:=by
 cases x with
 | non=>cases r; rfl
 | bl _=>cases r; rfl
 | int _=>obtain ⟨t,rfl⟩:=r; rfl
 | str _=>obtain ⟨t,rfl⟩:=r; rfl
 | byt _=>obtain ⟨t,rfl⟩:=r; rfl
 | flt _=>obtain ⟨t,rfl⟩:=r; rfl
 | ref _=>cases r; rfl
 | ty _=>cases r; rfl
theorem bu.inj {x y:V} {u:Value} (r:bu x u) (q:bu y u):x=y:=Option.some.inj (r.abs.symm.trans q.abs)
theorem bq.inj:∀ {xs ys:List V} {us:List Value},bq xs us→bq ys us→xs=ys
 | _,_,_,.nil,.nil=>rfl
 | _,_,_,.cons r t,.cons r' t'=>by rw [r.inj r',bq.inj t t']
section
variable {X:Cx} {pins:List (Addr×Obj)} {σ:St} {H:Hp} {s:Shared} {a:Addr} {xs ys:List V}
theorem SqL.of {K:Frag} (h:H a=some (.lst xs)):SqL K H a xs:=.inl (.inl h)
theorem SqT.of {K:Frag} (h:H a=some (.tup xs)):SqT K H a xs:=.inl (.inl h)
theorem Inv.list (I:Inv X pins σ H s) (h:SqL X.K H a xs):∃ its:List Value,bq xs its∧PlainL s.heap a its.toArray∧xs.length≤sizeLine:=by
 rcases h with h | ⟨o,its,n,hk,hc,hd,hs,hz,r⟩
 ·obtain ⟨z,its,n,r,e⟩:=h.ok I.hok
  exact ⟨its,r,⟨_,n,e,rfl,rfl,rfl⟩,z⟩
 ·refine ⟨its.toList,r,⟨o,n,I.kIn a o hk,hc,hd,by simpa using hs⟩,?_⟩
  have e:=r.length
  simp only [Array.length_toList] at e
  omega
theorem Inv.tuple (I:Inv X pins σ H s) (h:SqT X.K H a xs):∃ its:List Value,bq xs its∧IsTup s.heap a its.toArray∧xs.length≤sizeLine:=by
 rcases h with h | ⟨o,its,n,hk,hc,hs,hz,r⟩
 ·obtain ⟨z,its,r,p,_⟩:=h.ok I.hok
  exact ⟨its,r,p,z⟩
 ·refine ⟨its.toList,r,⟨o,I.kIn a o hk,hc,n,by simpa using hs⟩,?_⟩
  have e:=r.length
  simp only [Array.length_toList] at e
  omega
theorem Inv.list_inj (I:Inv X pins σ H s) (h:SqL X.K H a xs) (h':SqL X.K H a ys):xs=ys:=by
 obtain ⟨its,r,⟨o,n,e,_,_,d⟩,_⟩:=I.list h
 obtain ⟨its',r',⟨o',n',e',_,_,d'⟩,_⟩:=I.list h'
 rw [e] at e'; cases e'
 rw [d] at d'
 injection d' with d1 _
 have:its=its':=by simpa using congrArg Array.toList d1
 subst this
 exact r.inj r'
theorem Inv.tuple_inj (I:Inv X pins σ H s) (h:SqT X.K H a xs) (h':SqT X.K H a ys):xs=ys:=by
 obtain ⟨its,r,⟨o,e,_,n,d⟩,_⟩:=I.tuple h
 obtain ⟨its',r',⟨o',e',_,n',d'⟩,_⟩:=I.tuple h'
 rw [e] at e'; cases e'
 rw [d] at d'
 injection d' with d1 _
 have:its=its':=by simpa using congrArg Array.toList d1
 subst this
 exact r.inj r'
end
noncomputable abbrev Cx.wish (X:Cx) (E:Value→Shared→Prop):Cx:={ X with xe:=E }
noncomputable abbrev Cx.nox (X:Cx):Cx:=X.wish fun _ _=>False
theorem Cx.Ok.wish {X:Cx} (ok:X.Ok) (E:Value→Shared→Prop):(X.wish E).Ok :=
 ⟨ok.mod,ok.kind,ok.glob,ok.blt,ok.above,ok.inj,ok.has,ok.cab,ok.hd,ok.frames,ok.stk,ok.exf,ok.bs,ok.bsz,ok.noex,ok.exfs,ok.funs,ok.frf⟩
theorem Cx.Ok.unwish {X:Cx} {E:Value→Shared→Prop} (ok:(X.wish E).Ok):X.Ok :=
 ⟨ok.mod,ok.kind,ok.glob,ok.blt,ok.above,ok.inj,ok.has,ok.cab,ok.hd,ok.frames,ok.stk,ok.exf,ok.bs,ok.bsz,ok.noex,ok.exfs,ok.funs,ok.frf⟩
section
variable {X:Cx} {pins:List (Addr×Obj)} {σ:St} {H:Hp} {s:Shared} {E:Value→Shared→Prop}
theorem Inv.wish (I:Inv X pins σ H s) (E:Value→Shared→Prop):Inv (X.wish E) pins σ H s:=⟨I.ok.wish E,I.os,I.bare,I.base,I.loc,I.cell,I.free,I.freeC,I.pin,I.hok,I.len⟩
theorem Inv.unwish (I:Inv (X.wish E) pins σ H s):Inv X pins σ H s:=⟨I.ok.unwish,I.os,I.bare,I.base,I.loc,I.cell,I.free,I.freeC,I.pin,I.hok,I.len⟩
theorem SP.unwish {D:mX} {f:Flow} {s':Shared} (h:SP (X.wish E) pins D f s'):SP X pins D f s':=by
 cases f with
 | next=>obtain ⟨σ',H',I,q⟩:=h; exact ⟨σ',H',I.unwish,q⟩
 | brk=>obtain ⟨σ',H',I,q⟩:=h; exact ⟨σ',H',I.unwish,q⟩
 | cont=>obtain ⟨σ',H',I,q⟩:=h; exact ⟨σ',H',I.unwish,q⟩
 | ret u=>obtain ⟨v,σ',H',I,r,q⟩:=h; exact ⟨v,σ',H',I.unwish,r,q⟩
theorem PSs.nox {st:List Stmt} {t:TS} (h:PSs X.nox st t):PSs X st t:=fun pins s σ H D I hw =>
 wpAny_mono (h pins s σ H D (I.wish _) hw) (fun _ _ q=>q.unwish) fun _ _ z=>False.elim z
end
noncomputable def CK:Expr→Bool
 | .Starred _ _=>true
 | _=>false
theorem ac {e:Expr} {es:List Expr} {env:Env} (h:CK e=false):starEach (e::es) env=(false,eval e env)::starEach es env:=by
 cases e<;>first | rfl | cases h
theorem mq {env:Env}:∀ {es:List Expr},es.all (fun e=>!CK e)=true→starEach es env=es.map fun e=>(false,eval e env)
 | [],_=>rfl
 | e::es,h=>by
  rw [List.all_cons,Bool.and_eq_true] at h
  rw [ac (by simpa using h.1),mq h.2]
  rfl
theorem aj {es:List Expr} {env:Env} {pos:Pos} (h:es.all (fun e=>!CK e)=true):(backTo pos (starEach es env)).any (·.1)=false:=by
 rw [mq h]
 unfold backTo
 rw [List.map_map,List.any_map,List.any_eq_false]
 intro x _
 simp
theorem du {e:Expr} {es:List Expr} {env:Env} {cpos:Pos} (h:(e::es).all (fun e=>!CK e)=true) (h2:decide ((e::es).length<29)=true):((backTo cpos (starEach (e::es) env)).all (fun x=>!x.1)&&(backToKw cpos (keywordEach [] env)).all (fun x=>x.1.isSome)
 &&decide ((e::es).length+([]:List Keyword).length+(if ([]:List Keyword).isEmpty then 0 else 1)<30))=true:=by
 rw [mq h]
 have e1:(backTo cpos ((e::es).map fun e=>(false,eval e env))).all (fun x=>!x.1)=true:=by
  unfold backTo
  rw [List.map_map,List.all_map,List.all_eq_true]
  intro x _
  simp
 have e2:(backToKw cpos (keywordEach [] env)).all (fun x=>x.1.isSome)=true:=rfl
 have e3:=of_decide_eq_true h2
 rw [e1,e2]
 simp at e3 ⊢
 omega
noncomputable def EA:Expr→Bool
 | .ListComp _ _ _ _ | .SetComp _ _ _ _ | .DictComp _ _ _ _ _=>false
 | _=>true
theorem aD {e:Expr} {t:Option Expr} {l:Nat} {env:Env} (h:EA e=true):swapsWith e t l env=pure false:=by
 cases e<;>first | rfl | cases h
section
variable {X:Cx} {st:Stmt} {rest:List Stmt} {t u:TS} {e:Expr} {te:TE} {pos:Pos}
noncomputable def DU:TS:=fun D σ H=>D.nx σ H
noncomputable def GQ (t u:TS):TS:=fun D σ H=>t { D with nx:=u D } σ H
theorem aF:PSs X [] DU:=fun _ _ σ H _ I h=>wpAny_execs_nil ⟨σ,H,I,h⟩
theorem am (h1:PS X st t) (h2:PSs X rest u):PSs X (st::rest) (GQ t u):=by
 intro pins s σ H D I h
 refine wpAny_execs_cons (thn (h1 pins s σ H { D with nx:=u D } I h) fun f s1 q=>?_)
 cases f with
 | next =>
  obtain ⟨σ',H',I',q⟩:=q
  exact h2 pins s1 σ' H' D I' q
 | ret v=>exact q
 | brk=>exact q
 | cont=>exact q
theorem ap (h1:PS X st t):PSs X [st] t:=by
 intro pins s σ H D I h
 refine wpAny_execs_cons (thn (h1 pins s σ H D I h) fun f s1 q=>?_)
 cases f with
 | next=>exact wpAny_execs_nil q
 | ret v=>exact q
 | brk=>exact q
 | cont=>exact q
theorem Inv.quiet {pins:List (Addr×Obj)} {σ:St} {H:Hp} {s:Shared} (I:Inv X pins σ H s):interactive X.env=false:=by simp [interactive,I.ok.kind]
noncomputable def Gn (te:TE):TS:=fun D σ H=>te σ H fun _ H1=>D.nx σ H1
theorem cM (he:PE X e te) (hs:swapsWith e none pos.line X.env=pure false:=by first | exact aD rfl | rfl):PS X (.Expr e pos) (Gn te):=by
 intro pins s σ H D I h
 exact wpAny_Expr_any (thn (he pins s σ H _ I h) fun v s1 ⟨x,H1,I1,r1,q1⟩=>⟨σ,H1,I1,q1⟩) I.quiet hs
noncomputable def Hy (te:TE):TS:=fun D σ H=>te σ H D.rt
theorem ay (he:PE X e te):PS X (.Return (some e) pos) (Hy te):=by
 intro pins s σ H D I h
 exact wpAny_Return_some (thn (he pins s σ H _ I h) fun v s1 ⟨x,H1,I1,r1,q1⟩=>⟨x,σ,H1,I1,r1,q1⟩)
noncomputable def Hz (c:TT) (t u:TS):TS:=fun D σ H=>c σ H fun b H1=>if b=true then t D σ H1 else u D σ H1
theorem aR {c:Expr} {a b:List Stmt} {tc:TT} (hc:PT X c tc) (ha:PSs X a t) (hb:PSs X b u):PS X (.If c a b pos) (Hz tc t u):=by
 intro pins s σ H D I h
 refine wpAny_If (thn (hc pins s σ H _ I h) fun d s1 ⟨H1,I1,q1⟩=>?_)
 cases d with
 | true=>exact ha pins s1 σ H1 D I1 q1
 | false=>exact hb pins s1 σ H1 D I1 q1
noncomputable def Et:TS:=fun _ _ _=>False
theorem nj:PS X st Et:=fun _ _ _ _ _ _ h=>h.elim
end
noncomputable abbrev TG:=V→St→Hp→(St→Hp→Prop)→Prop
noncomputable abbrev TGs:=List V→St→Hp→(St→Hp→Prop)→Prop
noncomputable def PG (X:Cx) (target:Expr) (t:TG):Prop :=
 ∀ (pins:List (Addr×Obj)) (s:Shared) (σ:St) (H:Hp) (v:V) (u:Value) (Q:St→Hp→Prop),Inv X pins σ H s→bu v u→t v σ H Q →
  wpAny (model X.prog X.w) X.A (assign target X.env u) (fun _ s'=>∃ σ' H',Inv X pins σ' H' s'∧Q σ' H') X.xe s
noncomputable def PGs (X:Cx) (ts:List Expr) (t:TGs):Prop :=
 ∀ (pins:List (Addr×Obj)) (s:Shared) (σ:St) (H:Hp) (vs:List V) (us:List Value) (Q:St→Hp→Prop),Inv X pins σ H s→bq vs us→t vs σ H Q →
  wpAny (model X.prog X.w) X.A (assignInOrder ((assignEach ts X.env).map (·.2)) us) (fun _ s'=>∃ σ' H',Inv X pins σ' H' s'∧Q σ' H') X.xe s
noncomputable abbrev EK:=V→V→V→Hp→(Hp→Prop)→Prop
noncomputable def Gz (X:Cx) (t:EK):Prop :=
 ∀ (pins:List (Addr×Obj)) (s:Shared) (σ:St) (H:Hp) (o i v:V) (ov iv u:Value) (Q:Hp→Prop),Inv X pins σ H s→bu o ov→bu i iv→bu v u→t o i v H Q →
  wpAny (model X.prog X.w) X.A (setItem ov iv u) (fun _ s'=>∃ H',Inv X pins σ H' s'∧Q H') X.xe s
noncomputable abbrev TIp:=V→V→Hp→VK→Prop
noncomputable def PIp (X:Cx) (op:Operator) (t:TIp):Prop :=
 ∀ (pins:List (Addr×Obj)) (s:Shared) (σ:St) (H:Hp) (x y:V) (v u:Value) (Q:VK),Inv X pins σ H s→bu x v→bu y u→t x y H Q →
  wpAny (model X.prog X.w) X.A (inplaceOp op v u) (EP X pins σ Q) X.xe s
section
variable {X:Cx} {pos:Pos}
noncomputable def iJ (i:Nat):TG:=fun v σ H Q=>Q (σ.set i (some v)) H
theorem aH {i:Nat} {x:Str} (hN:X.N.Nodup) (hi:X.N[i]?=some x) (hx:Loc X.env.scope x) (hf:X.fn x=true∨X.env.scope.names.lookup x=some .local:=by first | exact .inl rfl | exact .inr rfl | assumption):PG X (.Name x pos) (iJ i):=by
 intro pins s σ H v u Q I r h
 exact wpAny_assign_Name (jp I hN hi hx r (fun s' I'=>⟨_,H,I',h⟩) hf)
noncomputable def Ib:TGs:=fun vs σ H Q=>vs=[]∧Q σ H
noncomputable def Gc (t:TG) (u:TGs):TGs:=fun vs σ H Q=>∃ v r,vs=v::r∧t v σ H fun σ' H'=>u r σ' H' Q
theorem bS:PGs X [] Ib:=by
 intro pins s σ H vs us Q I r h
 obtain ⟨e,h⟩:=h
 subst e
 cases r
 exact assignInOrder_nil ⟨σ,H,I,h⟩
theorem aW {e:Expr} {es:List Expr} {t:TG} {u:TGs} (h1:PG X e t) (h2:PGs X es u)
  (hs:(assignEach (e::es) X.env).map (·.2)=assign e X.env::(assignEach es X.env).map (·.2):=by rfl):PGs X (e::es) (Gc t u):=by
 intro pins s σ H vs us Q I r h
 obtain ⟨v,vr,e1,h⟩:=h
 subst e1
 cases r with
 | cons r rr =>
  rw [hs]
  refine assignInOrder_cons (thn (h1 pins s σ H _ _ _ I r h) fun _ s1 ⟨σ1,H1,I1,q1⟩=>?_)
  exact h2 pins s1 σ1 H1 _ _ Q I1 rr q1
noncomputable def Ha (K:Frag) (n:Nat) (t:TGs):TG:=fun v σ H Q=>∃ a xs,v=.ref a∧SqT K H a xs∧xs.length=n∧t xs σ H Q
theorem cZ {es:List Expr} {k:Nat} {t:TGs} {n:Nat} (hc:X.calm=true) (h:PGs X es t)
  (hn:(assignEach es X.env).length=n:=by rfl) (hst:(assignEach es X.env).findIdx? (·.1)=none:=by rfl):PG X (.Tuple es k pos) (Ha X.K n t):=by
 intro pins s σ H v u Q I r hw
 obtain ⟨a,xs,e1,hq,hl,hw⟩:=hw
 subst e1
 cases r
 obtain ⟨its,rv,ht,hz⟩:=I.tuple hq
 refine assign_Tuple_tuple (I.ok.hd hc) ht (by simp [hn,← hl,rv.length]) hst fun h' hx=>?_
 have I1:Inv X pins σ H { s with heap:=h' }:=I.kept (t':=s.toks) fun b o e=>hx b o (Nat.ne_of_lt (Heap.lt_size e)) e
 exact h pins _ σ H xs _ Q I1 (by simpa using rv) hw
noncomputable def Hw (to ti:TE) (t:EK):TG:=fun v σ H Q=>to σ H fun o H1=>ti σ H1 fun i H2=>t o i v H2 fun H3=>Q σ H3
theorem qm {o i:Expr} {to ti:TE} {t:EK} (ho:PE X o to) (hi:PE X i ti) (hs:Gz X t)
  (ha:∀ v,assign (.Subscript o i pos) X.env v=(do
   let ov ← holding [v] (eval o X.env)
   let iv ← holding [v,ov] (eval i X.env)
   standAt pos
   holding [v,ov,iv] (setItem ov iv v)
   release [v,ov,iv] []):=by intro _; rfl):PG X (.Subscript o i pos) (Hw to ti t):=by
 intro pins s σ H v u Q I r h
 rw [ha]
 refine wpAny_bind (wpAny_holding (thn (ho pins s σ H _ I h) fun ov s1 ⟨x,H1,I1,r1,q1⟩=>?_))
 refine wpAny_bind (wpAny_holding (thn (hi pins s1 σ H1 _ I1 q1) fun iv s2 ⟨y,H2,I2,r2,q2⟩=>?_))
 refine wpAny_bind (wpAny_standAt (wpAny_bind (wpAny_holding (thn (hs pins s2 σ H2 x y v ov iv u _ I2 r1 r2 r q2) fun _ s3 ⟨H3,I3,q3⟩=>?_))))
 exact wpAny_release ⟨σ,H3,I3,q3⟩
noncomputable def EG (te:TE) (g:TG):TS:=fun D σ H=>te σ H fun x H1=>g x σ H1 D.nx
theorem gn {tg e:Expr} {te:TE} {g:TG} (he:PE X e te) (hg:PG X tg g) (hs:swapsWithSole [tg] e pos.line X.env=pure false:=by rfl) (hw:swappedStores [tg] e X.env=pure none:=by rfl)
  (h1:(assignEach [tg] X.env).map (·.2)=[assign tg X.env]:=by rfl):PS X (.Assign [tg] e pos) (EG te g):=by
 intro pins s σ H D I h
 refine wpAny_Assign_stores (thn (he pins s σ H _ I h) fun v s1 ⟨x,H1,I1,r1,q1⟩=>?_) hs hw
 rw [h1]
 exact thn (hg pins s1 σ H1 x v _ I1 r1 q1) fun _ s2 q=>q
theorem aM {i:Nat} {x:Str} {e:Expr} {te:TE} {pos':Pos} (hN:X.N.Nodup) (hi:X.N[i]?=some x) (hx:Loc X.env.scope x) (he:PE X e te) (hs:swapsWith e (some (.Name x pos')) pos.line X.env=pure false:=by first | exact aD rfl | rfl) (hf:X.fn x=true∨X.env.scope.names.lookup x=some .local:=by first | exact .inl rfl | exact .inr rfl | assumption) :
  PS X (.Assign [.Name x pos'] e pos) (EG te (iJ i)):=by
 intro pins s σ H D I h
 refine wpAny_Assign_Name (thn (he pins s σ H _ I h) fun v s1 ⟨y,H1,I1,r1,q1⟩=>?_) hs
 exact jp I1 hN hi hx r1 (fun s2 I2=>⟨_,H1,I2,q1⟩) hf
noncomputable def HE (i:Nat) (te:TE) (ti:TIp):TS:=fun D σ H=>∃ x,σ[i]?=some (some x)∧te σ H fun y H1=>ti x y H1 fun z H2=>D.nx (σ.set i (some z)) H2
theorem wZ {i:Nat} {x:Str} {e:Expr} {te:TE} {op:Operator} {ti:TIp} {pos':Pos} (hN:X.N.Nodup) (hi:X.N[i]?=some x) (hx:Loc X.env.scope x) (he:PE X e te) (ho:PIp X op ti) (hf:X.fn x=true∨X.env.scope.names.lookup x=some .local:=by first | exact .inl rfl | exact .inr rfl | assumption) :
  PS X (.AugAssign (.Name x pos') op e pos) (HE i te ti):=by
 intro pins s σ H D I h
 obtain ⟨v,e1,h⟩:=h
 obtain ⟨m,hn,hl⟩:=I.loc
 have vis:Vis X.env.scope x:=by rcases hx with k | k; exact .inl k; exact .inr (.inl k)
 obtain ⟨u,r,l⟩:=hl i x v hi e1 vis
 refine wpAny_AugAssign_Name ?_
 have go:wpAny (model X.prog X.w) X.A (eval e X.env) (fun w s₂=>wpAny (model X.prog X.w) X.A (inplaceOp op u w) (fun r s₃=>wpAny (model X.prog X.w) X.A (storeName X.env x r) (fun _=>SP X pins D .next) X.xe s₃) X.xe s₂) X.xe s:=by
  refine thn (he pins s σ H _ I h) fun w s1 ⟨y,H1,I1,r1,q1⟩=>?_
  refine thn (ho pins s1 σ H1 v y u w _ I1 r r1 q1) fun z s2 ⟨zv,H2,I2,r2,q2⟩=>?_
  exact jp I2 hN hi hx r2 (fun s3 I3=>⟨_,H2,I3,q2⟩) hf
 rcases l with ⟨hk,hm⟩ | ⟨hk,c,hc,hcell⟩
 ·exact wpAny_loadName_local I.ok.kind hk hn hm go
 ·rcases hk with hk | hk
  ·exact wpAny_loadName_cell I.ok.kind hk hc hcell go
  ·rcases hx with k | k
   ·have:X.env.scope.names.lookup x=some .free:=hk
    rw [k] at this; cases this
   ·have:X.env.scope.names.lookup x=some .free:=hk
    rw [k] at this; cases this
noncomputable def ipI (f:Int→Int→Int):TIp:=fun x y H Q=>∃ i j,x=.int i∧y=.int j∧Q (.int (f i j)) H
theorem uH:PIp X .Add (ipI fun i j=>i+j):=by
 intro pins s σ H x y v u Q I r1 r2 h
 obtain ⟨i,j,e1,e2,q⟩:=h
 subst e1; subst e2
 obtain ⟨t,rfl⟩:=r1
 obtain ⟨t',rfl⟩:=r2
 exact iadd_int ⟨.int _,H,I.tok _,⟨_,rfl⟩,q⟩
noncomputable def Ev (c:TT) (tb:TS):TS:=fun D σ H=>∃ W:Nat→St→Hp→Prop,(∃ m,W m σ H)∧∀ m σ H,W m σ H →
 c σ H fun b H1=>if b=true then ∃ N:St→Hp→Prop,(∀ σ' H',N σ' H'→∃ m',m'<m∧W m' σ' H')∧tb { D with nx:=N,ct:=N,bk:=D.nx } σ H1 else D.nx σ H1
theorem ie {c:Expr} {body:List Stmt} {tc:TT} {tb:TS} (hp:PassesOwn (model X.prog X.w) X.A X.env X.xe) (hc:PT X c tc) (hb:PSs X body tb):PS X (.While c body [] pos) (Ev tc tb):=by
 intro pins s σ H D I h
 obtain ⟨W,⟨m0,w0⟩,turn⟩:=h
 refine wpAny_While (codeAny_whileLoop (fun n s'=>∃ σ' H',Inv X pins σ' H' s'∧W n σ' H') ?_ m0 ⟨σ,H,I,w0⟩)
 rintro n s1 ⟨σ1,H1,I1,w1⟩
 refine wpAny_passesOwn hp (thn (hc pins s1 σ1 H1 _ I1 (turn n σ1 H1 w1)) fun b s2 ⟨H2,I2,q2⟩=>?_)
 cases b with
 | true =>
  obtain ⟨N,hN,q2⟩:=q2
  rw [if_pos rfl]
  refine wpAny_passesOwn hp (thn (hb pins s2 σ1 H2 _ I2 q2) fun f s3 q3=>?_)
  cases f with
  | next =>
   obtain ⟨σ3,H3,I3,n3⟩:=q3
   obtain ⟨m',hm,w3⟩:=hN σ3 H3 n3
   exact ⟨m',hm,σ3,H3,I3,w3⟩
  | cont =>
   obtain ⟨σ3,H3,I3,n3⟩:=q3
   obtain ⟨m',hm,w3⟩:=hN σ3 H3 n3
   exact ⟨m',hm,σ3,H3,I3,w3⟩
  | brk=>exact q3
  | ret v=>exact q3
 | false =>
  rw [if_neg Bool.false_ne_true]
  exact wpAny_execs_nil ⟨σ1,H2,I2,q2⟩
end
structure It where
 go:Nat→Hp→Prop
 yld:Nat→Hp→V→Hp→Prop
 stop:Nat→Hp→Prop
noncomputable def iU (X:Cx) (pins:List (Addr×Obj)) (H:Hp) (b:Addr):Prop :=
 H b=none∧b≠X.env.locals∧b∉X.fs∧(b∈X.ex∨X.s₀.heap.objs.size≤b)∧(∀ x c,X.env.cells.lookup x=some c→c≠b)∧∀ p∈X.pn++pins,p.1≠b
theorem Inv.fpOk {X:Cx} {pins:List (Addr×Obj)} {σ:St} {H H':Hp} {s:Shared} {b:Addr} (I:Inv X pins σ H s) (hb:s.heap.objs.size≤b) (hn:H' b=none):iU X pins H' b:=by
 refine ⟨hn,Nat.ne_of_gt (Nat.lt_of_lt_of_le I.lt hb),I.nofs hb,.inr (Nat.le_trans I.sz hb),fun x c e z=>?_,fun p hp z=>?_⟩
 ·obtain ⟨v,q⟩:=I.cell x c e
  exact absurd (Nat.lt_of_lt_of_le q.lt (by rw [z]; exact hb)) (Nat.lt_irrefl _)
 ·exact absurd (Nat.lt_of_lt_of_le (Heap.lt_size (I.pin p hp).1) (by rw [z]; exact hb)) (Nat.lt_irrefl _)
structure nG (P:Program) (w:World) (K:Frag) (tg:Expr) (J:It) (fp:List Addr) (it:Addr) (tn:Nat→Heap→Prop):Prop where
 mem:it∈fp
 obj:∀ i h,tn i h→∀ b∈fp,∃ o,h.get? b=some o∧∀ v,o.data≠.cell v
 keep:∀ i h h',tn i h→(∀ b∈fp,∀ o,h.get? b=some o→h'.get? b=some o)→tn i h'
 item:∀ (X:Cx),X.prog=P→X.w=w→X.K=K→X.calm=true→∀ (i:Nat) (pins:List (Addr×Obj)) (s:Shared) (σ:St) (H:Hp) (E:Value→Shared→Prop),Inv X pins σ H s→(∀ b∈fp,iU X pins H b)→tn i s.heap→J.go i H →
  wpAny (model P w) X.A (pyNext (.ref it)) (fun r s1=>∃ u,r=some u ∧
   wpAny (model P w) X.A (letOwnedTupleGo tg (.ref it) u) (fun _ s2=>∃ x H',Inv X pins σ H' s2∧bu x u∧J.yld i H x H'∧tn (i+1) s2.heap∧∀ b∈fp,H' b=none) E s1) E s
 done:∀ (X:Cx),X.prog=P→X.w=w→X.K=K→X.calm=true→∀ (i:Nat) (pins:List (Addr×Obj)) (s:Shared) (σ:St) (H:Hp) (E:Value→Shared→Prop),Inv X pins σ H s→(∀ b∈fp,iU X pins H b)→tn i s.heap→J.stop i H →
  wpAny (model P w) X.A (pyNext (.ref it)) (fun r s1=>r=none∧Inv X pins σ H s1) E s
 self:∀ (A:Around) (i:Nat) (s:Shared) (Q:Value→Shared→Prop) (E:Value→Shared→Prop),tn i s.heap→Q (.ref it) s→wpAny (model P w) A (pyIter (.ref it)) Q E s
noncomputable abbrev TI:=St→Hp→(It→Hp→Prop)→Prop
noncomputable def PIE (X:Cx) (pins:List (Addr×Obj)) (σ:St) (tg:Expr) (R:It→Hp→Prop) (itv:Value) (s2:Shared):Prop :=
 ∃ (it:Addr) (fp:List Addr) (tn:Nat→Heap→Prop) (J:It) (H':Hp),itv=.ref it∧Inv X pins σ H' s2∧nG X.prog X.w X.K tg J fp it tn∧tn 0 s2.heap∧(∀ b∈fp,iU X pins H' b)∧R J H'
noncomputable def PI (X:Cx) (tg iter:Expr) (wi:TI):Prop :=
 ∀ (pins:List (Addr×Obj)) (s:Shared) (σ:St) (H:Hp) (R:It→Hp→Prop),Inv X pins σ H s→wi σ H R →
  wpAny (model X.prog X.w) X.A (eval iter X.env) (fun v s1=>wpAny (model X.prog X.w) X.A (pyIter v) (PIE X pins σ tg R) X.xe s1) X.xe s
theorem lW {M:Model} {A:Around} {E:Value→Shared→Prop} {s:Shared} {tg:Expr} {it:Addr} {u:Value} {o:Obj} {n:String} {vs:Array Value} {Q:Unit→Shared→Prop} (ho:s.heap.get? it=some o) (hc:o.cls=.type n) (hd:o.data=.fields vs)
  (hn:["enumerate", "zip", "dict_itemiterator", "dict_reverseitemiterator", "odict_iterator", "itertools.zip_longest", "itertools.pairwise"].contains n=false) (hQ:Q () s):wpAny M A (letOwnedTupleGo tg (.ref it) u) Q E s:=by
 unfold letOwnedTupleGo
 cases tg<;>first
  | exact wpAny_pure hQ
  | (cases u<;>first
    | exact wpAny_pure hQ
    | (refine wpAny_bind (wpAny_load ho ?_)
       rw [hc,hd]
       show wpAny M A (if (["enumerate", "zip", "dict_itemiterator", "dict_reverseitemiterator", "odict_iterator", "itertools.zip_longest", "itertools.pairwise"].contains n&&vs[0]?==some (rawInt _))=true then _ else _) Q E s
       rw [if_neg (by intro h; rw [hn,Bool.false_and] at h; cases h)]
       exact wpAny_pure hQ))
noncomputable def Itl (K:Frag) (a:Addr):It :=
 ⟨fun i H=>∃ xs x,SqL K H a xs∧xs[i]?=some x,fun i H x H'=>H'=H∧∀ xs,SqL K H a xs→xs[i]?=some x,fun i H=>∃ xs,SqL K H a xs∧xs.length≤i⟩
noncomputable def Itt (K:Frag) (a:Addr):It :=
 ⟨fun i H=>∃ xs x,SqT K H a xs∧xs[i]?=some x,fun i H x H'=>H'=H∧∀ xs,SqT K H a xs→xs[i]?=some x,fun i H=>∃ xs,SqT K H a xs∧xs.length≤i⟩
noncomputable def Itr (lo:Int) (n:Nat):It:=⟨fun i _=>i<n,fun i H x H'=>H'=H∧x=.int (lo+i),fun i _=>n≤i⟩
theorem zi {P:Program} {w:World} {K:Frag} {tg:Expr} (a it:Addr):nG P w K tg (Itl K a) [it] it (fun i h=>h.IsListIter it a i) where
 mem:=by simp
 obj:=fun i h st b hb=>by
  have e:b=it:=by simpa using hb
  subst e
  obtain ⟨o,e,c,d⟩:=st
  exact ⟨o,e,fun v z=>by rw [d] at z; cases z⟩
 keep:=fun i h h' st k=>st.at fun o e=>k it (by simp) o e
 item:=by
  intro X hP hw hK hc i pins s σ H E I hf st hg
  subst hP hw hK
  obtain ⟨xs,x,hq,hx⟩:=hg
  obtain ⟨its,rv,p,hz⟩:=I.list hq
  obtain ⟨u,hu,ru⟩:=rv.get hx
  obtain ⟨f0,f1,f2,f3,f4,f5⟩:=hf it (by simp)
  refine wpAny_pyNext_list_item st p.isList (x:=u) (by simpa using hu) fun h' st' sb=>?_
  have I1:Inv X pins σ H { s with heap:=h' }:=I.turned (t':=s.toks) (fun b o hb e=>(sb.2 b hb).trans e) f0 f1 f3 f4 f5
  obtain ⟨o,e,c,d⟩:=id st'
  exact ⟨u,rfl,lW (s:={ s with heap:=h' }) e c d (by decide) ⟨x,H,I1,ru,⟨rfl,fun ys hy=>by rw [I.list_inj hy hq]; exact hx⟩,st',fun b hb=>(hf b hb).1⟩⟩
 done:=by
  intro X hP hw hK hc i pins s σ H E I hf st hg
  subst hP hw hK
  obtain ⟨xs,hq,hx⟩:=hg
  obtain ⟨its,rv,p,hz⟩:=I.list hq
  obtain ⟨f0,f1,f2,f3,f4,f5⟩:=hf it (by simp)
  have hl:=rv.length
  exact wpAny_pyNext_list_end (I.ok.hd hc) st p.isList (by simp; omega) fun h' eb=>⟨rfl,I.turned (t':=s.toks) (fun b o hb e=>eb b o hb e) f0 f1 f3 f4 f5⟩
 self:=fun _ _ _ _ _ st h=>wpAny_pyIter_listiter st h
theorem ve {P:Program} {w:World} {K:Frag} {tg:Expr} (a it:Addr):nG P w K tg (Itt K a) [it] it (fun i h=>h.IsTupleIter it a i) where
 mem:=by simp
 obj:=fun i h st b hb=>by
  have e:b=it:=by simpa using hb
  subst e
  obtain ⟨o,e,c,d⟩:=st
  exact ⟨o,e,fun v z=>by rw [d] at z; cases z⟩
 keep:=fun i h h' st k=>st.at fun o e=>k it (by simp) o e
 item:=by
  intro X hP hw hK hc i pins s σ H E I hf st hg
  subst hP hw hK
  obtain ⟨xs,x,hq,hx⟩:=hg
  obtain ⟨its,rv,p,hz⟩:=I.tuple hq
  obtain ⟨u,hu,ru⟩:=rv.get hx
  obtain ⟨f0,f1,f2,f3,f4,f5⟩:=hf it (by simp)
  refine wpAny_pyNext_tuple_item st (show s.heap.IsTuple a its.toArray from p) (x:=u) (by simpa using hu) fun h' st' sb=>?_
  have I1:Inv X pins σ H { s with heap:=h' }:=I.turned (t':=s.toks) (fun b o hb e=>(sb.2 b hb).trans e) f0 f1 f3 f4 f5
  obtain ⟨o,e,c,d⟩:=id st'
  exact ⟨u,rfl,lW (s:={ s with heap:=h' }) e c d (by decide) ⟨x,H,I1,ru,⟨rfl,fun ys hy=>by rw [I.tuple_inj hy hq]; exact hx⟩,st',fun b hb=>(hf b hb).1⟩⟩
 done:=by
  intro X hP hw hK hc i pins s σ H E I hf st hg
  subst hP hw hK
  obtain ⟨xs,hq,hx⟩:=hg
  obtain ⟨its,rv,p,hz⟩:=I.tuple hq
  obtain ⟨f0,f1,f2,f3,f4,f5⟩:=hf it (by simp)
  have hl:=rv.length
  exact wpAny_pyNext_tuple_end (I.ok.hd hc) st (show s.heap.IsTuple a its.toArray from p) (by simp; omega) fun h' eb=>⟨rfl,I.turned (t':=s.toks) (fun b o hb e=>eb b o hb e) f0 f1 f3 f4 f5⟩
 self:=fun _ _ _ _ _ st h=>wpAny_pyIter_tupleiter st h
theorem vz {P:Program} {w:World} {K:Frag} {tg:Expr} (it:Addr) (lo:Int) (n:Nat):nG P w K tg (Itr lo n) [it] it (fun i h=>IsRangeIter h it (lo+(i:Nat)*1) ((n:Int) - (i:Nat)) 1) where
 mem:=by simp
 obj:=fun i h st b hb=>by
  have e:b=it:=by simpa using hb
  subst e
  exact ⟨_,st,fun v z=>by
   have z':Data.fields _=Data.cell v:=z
   cases z'⟩
 keep:=fun i h h' st k=>k it (by simp) _ st
 item:=by
  intro X hP hw hK hc i pins s σ H E I hf st hg
  subst hP hw hK
  obtain ⟨f0,f1,f2,f3,f4,f5⟩:=hf it (by simp)
  have W:=Walks.range (prog:=X.prog) (w:=X.w) (I.ok.hd hc) it lo 1 n
  refine W.item i s _ _ hg st fun v h' tk hv st' kk=>?_
  obtain ⟨t,rfl⟩:=hv
  have I1:Inv X pins σ H { s with heap:=h',toks:=tk }:=I.turned (fun b o hb e=>kk b o (by simpa using hb) e) f0 f1 f3 f4 f5
  refine ⟨_,rfl,lW (s:={ s with heap:=h',toks:=tk }) (n := "range_iterator") st' rfl rfl (by decide) ⟨.int (lo+i),H,I1,⟨t,?_⟩,⟨rfl,rfl⟩,st',fun b hb=>(hf b hb).1⟩⟩
  rw [Int.mul_one]
 done:=by
  intro X hP hw hK hc i pins s σ H E I hf st hg
  subst hP hw hK
  obtain ⟨f0,f1,f2,f3,f4,f5⟩:=hf it (by simp)
  exact wpAny_pyNext_range_end (I.ok.hd hc) st (by have:n≤i:=hg; omega) fun h' eb=>⟨rfl,I.turned (t':=s.toks) (fun b o hb e=>eb b o hb e) f0 f1 f3 f4 f5⟩
 self:=fun _ _ _ _ _ st h=>wpAny_pyIter_rangeiter st h
open PySem PySem.Spec PyProof.Rows
section
variable {X:Cx} {tg:Expr}
noncomputable def Hc (K:Frag) (tl:TE):TI:=fun σ H R=>tl σ H fun x H1=>∃ a,x=.ref a∧(∃ xs,SqL K H1 a xs)∧R (Itl K a) H1
noncomputable def Ht (K:Frag) (tl:TE):TI:=fun σ H R=>tl σ H fun x H1=>∃ a,x=.ref a∧(∃ xs,SqT K H1 a xs)∧R (Itt K a) H1
theorem dD {l:Expr} {tl:TE} (hl:PE X l tl):PI X tg l (Hc X.K tl):=by
 intro pins s σ H R I h
 refine thn (hl pins s σ H _ I h) fun v s1 ⟨x,H1,I1,r1,q1⟩=>?_
 obtain ⟨a,e,⟨xs,hq⟩,q⟩:=q1
 subst e
 cases r1
 obtain ⟨its,rv,p,hz⟩:=I1.list hq
 refine wpAny_pyIter_list p.isList ?_
 refine ⟨s1.heap.objs.size,[s1.heap.objs.size],_,_,H1,rfl,I1.kept (t':=s1.toks) fun b o e=>Heap.get?_push_of_some _ e,zi a _,⟨_,Heap.get?_push_size _ rfl,rfl,rfl⟩,fun b hb=>?_,q⟩
 have e:b=s1.heap.objs.size:=by simpa using hb
 subst e
 exact I1.fpOk (Nat.le_refl _) (I1.hok.fresh (Nat.le_refl _))
theorem bJ {l:Expr} {tl:TE} (hl:PE X l tl):PI X tg l (Ht X.K tl):=by
 intro pins s σ H R I h
 refine thn (hl pins s σ H _ I h) fun v s1 ⟨x,H1,I1,r1,q1⟩=>?_
 obtain ⟨a,e,⟨xs,hq⟩,q⟩:=q1
 subst e
 cases r1
 obtain ⟨its,rv,p,hz⟩:=I1.tuple hq
 refine wpAny_pyIter_tuple (show s1.heap.IsTuple a its.toArray from p) ?_
 refine ⟨s1.heap.objs.size,[s1.heap.objs.size],_,_,H1,rfl,I1.kept (t':=s1.toks) fun b o e=>Heap.get?_push_of_some _ e,ve a _,⟨_,Heap.get?_push_size _ rfl,rfl,rfl⟩,fun b hb=>?_,q⟩
 have e:b=s1.heap.objs.size:=by simpa using hb
 subst e
 exact I1.fpOk (Nat.le_refl _) (I1.hok.fresh (Nat.le_refl _))
theorem Aa {pins:List (Addr×Obj)} {σ:St} {H:Hp} {s:Shared} {R:It→Hp→Prop} {E:Value→Shared→Prop} {lo hi:Int} {t u v:Tok} {tk:Nat} (I:Inv X pins σ H s) (h1:-(2 ^ 62)≤lo) (h2:lo<2 ^ 62) (h3:-(2 ^ 62)≤hi) (h4:hi<2 ^ 62)
  (q:R (Itr lo (hi - lo).toNat) H):wpAny (model X.prog X.w) X.A (pyIter (.ref s.heap.objs.size)) (PIE X pins σ tg R) E { s with heap:=s.heap.push { cls:=.type "range",data:=.fields #[.int lo t,.int hi u,.int 1 v] },toks:=tk }:=by
 refine wpAny_pyIter_range (IsRange.new ..) (small_one h1 h2 h3 h4) ?_
 have I1:Inv X pins σ H { s with heap:=s.heap.push { cls:=.type "range",data:=.fields #[.int lo t,.int hi u,.int 1 v] },toks:=tk }:=I.kept fun b o e=>Heap.get?_push_of_some _ e
 refine ⟨(s.heap.push { cls:=.type "range",data:=.fields #[.int lo t,.int hi u,.int 1 v] }).objs.size,[(s.heap.push { cls:=.type "range",data:=.fields #[.int lo t,.int hi u,.int 1 v] }).objs.size],_,_,H,rfl,
  I1.kept (t':=tk) fun b o e=>Heap.get?_push_of_some _ e,vz _ lo (hi - lo).toNat,?_,fun b hb=>?_,q⟩
 ·have e1:lo+((0:Nat):Int)*1=lo:=by simp
  have e2:(((hi - lo).toNat:Nat):Int) - ((0:Nat):Int)=Builtin.Range.rangeSize lo hi 1:=by rw [rangeSize_one]; split<;>omega
  show IsRangeIter _ _ (lo+((0:Nat):Int)*1) ((((hi - lo).toNat:Nat):Int) - ((0:Nat):Int)) 1
  rw [e1,e2]
  exact Heap.get?_push_size _ rfl
 ·have e:b=(s.heap.push { cls:=.type "range",data:=.fields #[.int lo t,.int hi u,.int 1 v] }).objs.size:=by simpa using hb
  subst e
  exact I1.fpOk (Nat.le_refl _) (I1.hok.fresh (Nat.le_refl _))
noncomputable def Hb (ta:TA):TI:=fun σ H R=>ta σ H fun vs H1=>∃ j:Int,vs=[.int j]∧-(2 ^ 62)≤j∧j<2 ^ 62∧R (Itr 0 j.toNat) H1
theorem dB {a:Expr} {ta:TA} {p pos:Pos} (hg:Gl X "range") (hm:X.mg "range"=none) (ha:PA X [a] ta) (hs:starEach [a] X.env=[(false,eval a X.env)]:=by rfl):PI X tg (.Call (.Name "range" p) [a] [] pos) (Hb ta):=by
 intro pins s σ H R I h
 refine Call_ (fT I hg hm boot_range (PyProof.Rows.callWith_type1 (thn (ha pos pins s σ H _ I h) fun us s1 ⟨vs,H1,I1,r1,q1⟩=>?_) hs rfl))
 obtain ⟨j,e,q1,q2,q⟩:=q1
 subst e
 cases r1 with
 | cons r rr =>
  cases rr
  obtain ⟨t,rfl⟩:=r
  exact call_range_1 (Aa I1 (by omega) (by omega) q1 q2 (by simpa using q))
noncomputable def HZ (wi:TI) (g:TG) (tb:TS):TS:=fun D σ H=>wi σ H fun J H1=>∃ W:Nat→Nat→St→Hp→Prop,(∃ m,W 0 m σ H1)∧∀ i m σ H,W i m σ H →
 (J.stop i H∧D.nx σ H)∨(J.go i H∧∃ N:St→Hp→Prop,(∀ σ' H',N σ' H'→∃ m',m'<m∧W (i+1) m' σ' H')∧∀ x H',J.yld i H x H'→g x σ H' fun σ2 H2=>tb { D with nx:=N,ct:=N,bk:=D.nx } σ2 H2)
noncomputable def kj (fp:List Addr) (h:Heap):List (Addr×Obj):=fp.filterMap fun b=>(h.get? b).map fun o=>(b,o)
theorem el {fp:List Addr} {h:Heap} {b:Addr} {o:Obj} (hb:b∈fp) (e:h.get? b=some o):(b,o)∈kj fp h:=List.mem_filterMap.mpr ⟨b,hb,by rw [e]; rfl⟩
theorem zR {fp:List Addr} {h:Heap} {p:Addr×Obj} (hp:p∈kj fp h):p.1∈fp∧h.get? p.1=some p.2:=by
 obtain ⟨b,hb,e⟩:=List.mem_filterMap.mp hp
 cases q:h.get? b with
 | none=>rw [q] at e; cases e
 | some o =>
  rw [q] at e
  have e':(b,o)=p:=Option.some.inj e
  subst e'
  exact ⟨hb,q⟩
theorem Inv.pinned {pins:List (Addr×Obj)} {σ:St} {H:Hp} {s:Shared} {fp:List Addr} (I:Inv X pins σ H s) (hf:∀ b∈fp,iU X pins H b) (ho:∀ b∈fp,∃ o,s.heap.get? b=some o∧∀ v,o.data≠.cell v):Inv X (pins++kj fp s.heap) σ H s :=
 I.pins_of fun p hp=>(List.mem_append.mp hp).elim (fun z=>I.pin p (List.mem_append_right _ z)) fun z=>by
  obtain ⟨hb,e⟩:=zR z
  obtain ⟨f0,f1,f2,_⟩:=hf p.1 hb
  obtain ⟨o,e',d⟩:=ho p.1 hb
  rw [e] at e'; cases e'
  exact ⟨e,f0,f1,f2,d⟩
theorem Inv.unpinned {pins pl:List (Addr×Obj)} {σ:St} {H:Hp} {s:Shared} (I:Inv X (pins++pl) σ H s):Inv X pins σ H s:=I.pins_of fun p hp=>I.pin p (List.mem_append_right _ (List.mem_append_left _ hp))
theorem cg {iter:Expr} {body:List Stmt} {wi:TI} {g:TG} {tb:TS} {pos:Pos} (hp:PassesOwn (model X.prog X.w) X.A X.env X.xe) (hc:X.calm=true) (hi:PI X tg iter wi) (hg:PG X tg g) (hb:PSs X body tb)
  (hs:∀ x,foldedSetIterable iter X.env x=pure x:=by intro _; rfl):PS X (.For tg iter body [] pos) (HZ wi g tb):=by
 intro pins s σ H D I h
 refine wpAny_For (thn (hi pins s σ H _ I h) fun v s1 h1=>thn h1 fun itv s2 h2=>?_) hs
 obtain ⟨it,fp,tn,J,H2,e,I2,T,st2,f2,W,⟨m0,w0⟩,turn⟩:=h2
 subst e
 -- what stays true of the iterator's objects through the loop
 have stat:∀ {H':Hp},(∀ b∈fp,H' b=none)→∀ b∈fp,iU X pins H' b:=fun hn b hb=>⟨hn b hb,(f2 b hb).2⟩
 refine codeAny_forLoop_any (fun n s'=>∃ i σ' H',Inv X pins σ' H' s'∧tn i s'.heap∧(∀ b∈fp,H' b=none)∧W i n σ' H') ?_ m0 ⟨0,σ,H2,I2,st2,fun b hb=>(f2 b hb).1,w0⟩
 rintro n s3 ⟨i,σ3,H3,I3,st3,fr3,w3⟩
 rcases turn i n σ3 H3 w3 with ⟨stop,qn⟩ | ⟨go,N,hN,step⟩
 ·refine wpAny_passesOwn hp (thn (T.done X rfl rfl rfl hc i pins s3 σ3 H3 X.xe I3 (stat fr3) st3 stop) fun r s4 ⟨hr,I4⟩=>?_)
  subst hr
  exact wpAny_execs_nil ⟨σ3,H3,I4,qn⟩
 ·refine wpAny_passesOwn hp (thn (T.item X rfl rfl rfl hc i pins s3 σ3 H3 X.xe I3 (stat fr3) st3 go) fun r s4 ⟨u,hr,h4⟩=>?_)
  subst hr
  refine wpAny_passesOwn hp (thn h4 fun _ s5 ⟨x,H5,I5,r5,y5,st5,fr5⟩=>?_)
  have I5':=I5.pinned (stat fr5) (T.obj _ _ st5)
  refine wpAny_passesOwn hp (thn (hg _ s5 σ3 H5 x u _ I5' r5 (step x H5 y5)) fun _ s6 ⟨σ6,H6,I6,q6⟩=>?_)
  refine wpAny_passesOwn hp (thn (hb _ s6 σ6 H6 _ I6 q6) fun f s7 q7=>?_)
  have again:∀ {σ7:St} {H7:Hp},Inv X (pins++kj fp s5.heap) σ7 H7 s7→N σ7 H7→∃ m,m<n∧∃ i σ' H',Inv X pins σ' H' s7∧tn i s7.heap∧(∀ b∈fp,H' b=none)∧W i m σ' H':=fun {σ7 H7} I7 n7=>by
   obtain ⟨m',hm,w7⟩:=hN σ7 H7 n7
   refine ⟨m',hm,i+1,σ7,H7,I7.unpinned,T.keep _ _ _ st5 fun b hb o e=>(I7.pin (b,o) (List.mem_append_right _ (List.mem_append_right _ (el hb e)))).1,fun b hb=>?_,w7⟩
   obtain ⟨o,e,d⟩:=T.obj _ _ st5 b hb
   exact (I7.pin (b,o) (List.mem_append_right _ (List.mem_append_right _ (el hb e)))).2.1
  cases f with
  | next=>obtain ⟨σ7,H7,I7,n7⟩:=q7; exact again I7 n7
  | cont=>obtain ⟨σ7,H7,I7,n7⟩:=q7; exact again I7 n7
  | brk=>obtain ⟨σ7,H7,I7,q7⟩:=q7; exact ⟨σ7,H7,I7.unpinned,q7⟩
  | ret v=>obtain ⟨x7,σ7,H7,I7,r7,q7⟩:=q7; exact ⟨x7,σ7,H7,I7.unpinned,r7,q7⟩
end
theorem gZ {K:Frag} {a:Addr} {xs:List V} {g:TG} {tb:TS} {D:mX} {σ:St} {H:Hp} (Pv:Nat→St→Hp→Prop) (h0:Pv 0 σ H) (hl:∀ i σ H,i≤xs.length→Pv i σ H→SqL K H a xs)
  (hs:∀ i x σ H,xs[i]?=some x→Pv i σ H→g x σ H fun σ2 H2=>tb { D with nx:=Pv (i+1),ct:=Pv (i+1),bk:=D.nx } σ2 H2) (hd:∀ σ H,Pv xs.length σ H→D.nx σ H) :
  ∃ W:Nat→Nat→St→Hp→Prop,(∃ m,W 0 m σ H)∧∀ i m σ H,W i m σ H →
   ((Itl K a).stop i H∧D.nx σ H)∨((Itl K a).go i H∧∃ N:St→Hp→Prop,(∀ σ' H',N σ' H'→∃ m',m'<m∧W (i+1) m' σ' H')∧∀ x H',(Itl K a).yld i H x H'→g x σ H' fun σ2 H2=>tb { D with nx:=N,ct:=N,bk:=D.nx } σ2 H2):=by
 refine ⟨fun i m σ H=>m=xs.length - i∧i≤xs.length∧Pv i σ H,⟨xs.length,by simp,Nat.zero_le _,h0⟩,?_⟩
 rintro i m σ H ⟨rfl,hi,p⟩
 have q:=hl i σ H hi p
 by_cases hlt:i<xs.length
 ·refine .inr ⟨⟨xs,xs[i],q,by simp [hlt]⟩,Pv (i+1),fun σ' H' p'=>⟨xs.length - (i+1),by omega,rfl,hlt,p'⟩,fun x H' y=>?_⟩
  obtain ⟨e,y⟩:=y
  subst e
  exact hs i x σ _ (y xs q) p
 ·have e:i=xs.length:=by omega
  subst e
  exact .inl ⟨⟨xs,q,Nat.le_refl _⟩,hd σ H p⟩
theorem eU {K:Frag} {a:Addr} {xs:List V} {g:TG} {tb:TS} {D:mX} {σ:St} {H:Hp} (Pv:Nat→St→Hp→Prop) (h0:Pv 0 σ H) (hl:∀ i σ H,i≤xs.length→Pv i σ H→SqT K H a xs)
  (hs:∀ i x σ H,xs[i]?=some x→Pv i σ H→g x σ H fun σ2 H2=>tb { D with nx:=Pv (i+1),ct:=Pv (i+1),bk:=D.nx } σ2 H2) (hd:∀ σ H,Pv xs.length σ H→D.nx σ H) :
  ∃ W:Nat→Nat→St→Hp→Prop,(∃ m,W 0 m σ H)∧∀ i m σ H,W i m σ H →
   ((Itt K a).stop i H∧D.nx σ H)∨((Itt K a).go i H∧∃ N:St→Hp→Prop,(∀ σ' H',N σ' H'→∃ m',m'<m∧W (i+1) m' σ' H')∧∀ x H',(Itt K a).yld i H x H'→g x σ H' fun σ2 H2=>tb { D with nx:=N,ct:=N,bk:=D.nx } σ2 H2):=by
 refine ⟨fun i m σ H=>m=xs.length - i∧i≤xs.length∧Pv i σ H,⟨xs.length,by simp,Nat.zero_le _,h0⟩,?_⟩
 rintro i m σ H ⟨rfl,hi,p⟩
 have q:=hl i σ H hi p
 by_cases hlt:i<xs.length
 ·refine .inr ⟨⟨xs,xs[i],q,by simp [hlt]⟩,Pv (i+1),fun σ' H' p'=>⟨xs.length - (i+1),by omega,rfl,hlt,p'⟩,fun x H' y=>?_⟩
  obtain ⟨e,y⟩:=y
  subst e
  exact hs i x σ _ (y xs q) p
 ·have e:i=xs.length:=by omega
  subst e
  exact .inl ⟨⟨xs,q,Nat.le_refl _⟩,hd σ H p⟩
theorem km {lo:Int} {n:Nat} {g:TG} {tb:TS} {D:mX} {σ:St} {H:Hp} (Pv:Nat→St→Hp→Prop) (h0:Pv 0 σ H)
  (hs:∀ i σ H,i<n→Pv i σ H→g (.int (lo+i)) σ H fun σ2 H2=>tb { D with nx:=Pv (i+1),ct:=Pv (i+1),bk:=D.nx } σ2 H2) (hd:∀ σ H,Pv n σ H→D.nx σ H) :
  ∃ W:Nat→Nat→St→Hp→Prop,(∃ m,W 0 m σ H)∧∀ i m σ H,W i m σ H →
   ((Itr lo n).stop i H∧D.nx σ H)∨((Itr lo n).go i H∧∃ N:St→Hp→Prop,(∀ σ' H',N σ' H'→∃ m',m'<m∧W (i+1) m' σ' H')∧∀ x H',(Itr lo n).yld i H x H'→g x σ H' fun σ2 H2=>tb { D with nx:=N,ct:=N,bk:=D.nx } σ2 H2):=by
 refine ⟨fun i m σ H=>m=n - i∧i≤n∧Pv i σ H,⟨n,by simp,Nat.zero_le _,h0⟩,?_⟩
 rintro i m σ H ⟨rfl,hi,p⟩
 by_cases hlt:i<n
 ·refine .inr ⟨hlt,Pv (i+1),fun σ' H' p'=>⟨n - (i+1),by omega,rfl,hlt,p'⟩,fun x H' y=>?_⟩
  obtain ⟨e,y⟩:=y
  subst e y
  exact hs i σ _ hlt p
 ·have e:i=n:=by omega
  subst e
  exact .inl ⟨Nat.le_refl _,hd σ H p⟩
open PySem PySem.Spec PyProof.Rows
noncomputable abbrev R2:=V→V→Hp→VK→Prop
noncomputable def OpR (X:Cx) (f:Value→Value→Sem Value) (r:R2):Prop :=
 ∀ (pins:List (Addr×Obj)) (s:Shared) (σ:St) (H:Hp) (x y:V) (v u:Value) (Q:VK),Inv X pins σ H s→bu x v→bu y u→r x y H Q →
  wpAny (model X.prog X.w) X.A (f v u) (EP X pins σ Q) X.xe s
noncomputable def UnR (X:Cx) (f:Value→Sem Value) (r:V→Hp→VK→Prop):Prop :=
 ∀ (pins:List (Addr×Obj)) (s:Shared) (σ:St) (H:Hp) (x:V) (v:Value) (Q:VK),Inv X pins σ H s→bu x v→r x H Q →
  wpAny (model X.prog X.w) X.A (f v) (EP X pins σ Q) X.xe s
noncomputable def eX (X:Cx) (f:Value) (r:List V→Hp→VK→Prop):Prop :=
 ∀ (pins:List (Addr×Obj)) (s:Shared) (σ:St) (H:Hp) (xs:List V) (us:List Value) (Q:VK),Inv X pins σ H s→bq xs us→r xs H Q →
  wpAny (model X.prog X.w) X.A (call f us) (EP X pins σ Q) X.xe s
noncomputable def HR (X:Cx) (r:V→Hp→(Bool→Hp→Prop)→Prop):Prop :=
 ∀ (pins:List (Addr×Obj)) (s:Shared) (σ:St) (H:Hp) (x:V) (v:Value) (Q:Bool→Hp→Prop),Inv X pins σ H s→bu x v→r x H Q →
  wpAny (model X.prog X.w) X.A (truthy v) (TP X pins σ Q) X.xe s
noncomputable def tOp (r:R2) (ta tb:TE):TE:=fun σ H Q=>ta σ H fun x H1=>tb σ H1 fun y H2=>r x y H2 Q
noncomputable def tUn (r:V→Hp→VK→Prop) (ta:TE):TE:=fun σ H Q=>ta σ H fun x H1=>r x H1 Q
noncomputable def rI (C:Int→Int→Prop) (g:Int→Int→V):R2:=fun x y H Q=>∃ i j,x=.int i∧y=.int j∧C i j∧Q (g i j) H
noncomputable def rI0 (g:Int→Int→V):R2:=fun x y H Q=>∃ i j,x=.int i∧y=.int j∧Q (g i j) H
noncomputable def rU (g:Int→V):V→Hp→VK→Prop:=fun x H Q=>∃ i,x=.int i∧Q (g i) H
section
variable {X:Cx} {a b c:Expr} {ta tb tc:TE} {pos:Pos}
theorem Fs (ha:PE X a ta) (hb:PE X b tb) {pins:List (Addr×Obj)} {s:Shared} {σ:St} {H:Hp} {R:V→V→Hp→Prop} (I:Inv X pins σ H s)
  (h:ta σ H fun x H1=>tb σ H1 fun y H2=>R x y H2) {Q:Value→Shared→Prop} {f:Value→Value→Sem Value}
  (hf:∀ v u s2 x y H2,Inv X pins σ H2 s2→bu x v→bu y u→R x y H2→wpAny (model X.prog X.w) X.A (f v u) Q X.xe s2) :
  wpAny (model X.prog X.w) X.A (eval a X.env) (fun v s₁=>wpAny (model X.prog X.w) X.A (eval b X.env) (fun u s₂=>wpAny (model X.prog X.w) X.A (f v u) Q X.xe s₂) X.xe s₁) X.xe s:=by
 refine thn (ha pins s σ H _ I h) fun v s1 ⟨x,H1,I1,r1,q1⟩=>?_
 refine thn (hb pins s1 σ H1 _ I1 q1) fun u s2 ⟨y,H2,I2,r2,q2⟩=>?_
 exact hf v u s2 x y H2 I2 r1 r2 q2
theorem ba {op:Operator} {r:R2} (ho:OpR X (binaryOp op) r) (ha:PE X a ta) (hb:PE X b tb):PE X (.BinOp a op b pos) (tOp r ta tb):=by
 intro pins s σ H Q I h
 exact wpAny_BinOp (Fs ha hb I h fun v u s2 x y H2 I2 rx ry q=>ho pins s2 σ H2 x y v u Q I2 rx ry q)
theorem BI {op:UnaryOp} {r:V→Hp→VK→Prop} (ho:UnR X (unaryOp op) r) (ha:PE X a ta):PE X (.UnaryOp op a pos) (tUn r ta):=by
 intro pins s σ H Q I h
 exact UnaryOp_ (thn (ha pins s σ H _ I h) fun v s1 ⟨x,H1,I1,r1,q1⟩=>ho pins s1 σ H1 x v Q I1 r1 q1)
theorem opI {f:Value→Value→Sem Value} {C:Int→Int→Prop} {g:Int→Int→Int}
  (rule:∀ (i j:Int) (t u:Tok) (s:Shared) (Q:Value→Shared→Prop) (E:Value→Shared→Prop),C i j→Q (.int (g i j) s.toks) { s with toks:=s.toks+1 }→wpAny (model X.prog X.w) X.A (f (.int i t) (.int j u)) Q E s) :
  OpR X f (rI C fun i j=>.int (g i j)):=by
 intro pins s σ H x y v u Q I rx ry h
 obtain ⟨i,j,rfl,rfl,hc,q⟩:=h
 obtain ⟨t,rfl⟩:=rx
 obtain ⟨t',rfl⟩:=ry
 exact rule i j t t' s _ _ hc ⟨.int (g i j),H,I.tok _,⟨_,rfl⟩,q⟩
theorem FK {f:Value→Value→Sem Value} {g:Int→Int→Int}
  (rule:∀ (i j:Int) (t u:Tok) (s:Shared) (Q:Value→Shared→Prop) (E:Value→Shared→Prop),Q (.int (g i j) s.toks) { s with toks:=s.toks+1 }→wpAny (model X.prog X.w) X.A (f (.int i t) (.int j u)) Q E s) :
  OpR X f (rI0 fun i j=>.int (g i j)):=by
 intro pins s σ H x y v u Q I rx ry h
 obtain ⟨i,j,rfl,rfl,q⟩:=h
 obtain ⟨t,rfl⟩:=rx
 obtain ⟨t',rfl⟩:=ry
 exact rule i j t t' s _ _ ⟨.int (g i j),H,I.tok _,⟨_,rfl⟩,q⟩
theorem Ex {f:Value→Value→Sem Value} {g:Int→Int→Bool}
  (rule:∀ (i j:Int) (t u:Tok) (s:Shared) (Q:Value→Shared→Prop) (E:Value→Shared→Prop),Q (.bool (g i j)) s→wpAny (model X.prog X.w) X.A (f (.int i t) (.int j u)) Q E s) :
  OpR X f (rI0 fun i j=>.bl (g i j)):=by
 intro pins s σ H x y v u Q I rx ry h
 obtain ⟨i,j,rfl,rfl,q⟩:=h
 obtain ⟨t,rfl⟩:=rx
 obtain ⟨t',rfl⟩:=ry
 exact rule i j t t' s _ _ ⟨.bl (g i j),H,I,rfl,q⟩
noncomputable def Hk (i j:Int):Prop:=0<j∧j<1073741824
noncomputable def Hg (i j:Int):Prop:=0≤j∧j≤1000000∧i.natAbs<2 ^ 64
noncomputable def CY (i j:Int):Prop:=(-(2 ^ 64)<i∧i<2 ^ 64)∨(-(2 ^ 64)<j∧j<2 ^ 64)
theorem CY.ok {i j:Int} (h:CY i j):IntMulOk i j:=by
 rcases h with ⟨h1,h2⟩ | ⟨h1,h2⟩
 ·exact .of_left (intBits_le_64 h1 h2)
 ·exact .of_right (intBits_le_64 h1 h2)
theorem eK:OpR X (binaryOp .Add) (rI0 fun i j=>.int (i+j)):=FK fun _ _ _ _ _ _ _ q=>add_int q
theorem bM:OpR X (binaryOp .Sub) (rI0 fun i j=>.int (i - j)):=FK fun _ _ _ _ _ _ _ q=>sub_int q
theorem mh:OpR X (binaryOp .Mult) (rI CY fun i j=>.int (i*j)):=opI fun _ _ _ _ _ _ _ hc q=>mul_int q hc.ok
theorem Dp:OpR X (binaryOp .FloorDiv) (rI Hk fun i j=>.int (i / j)):=opI fun i j _ _ _ _ _ hc q=>by
 have h1:(0:Int)<j:=hc.1
 have h2:j<1073741824:=hc.2
 exact floordiv_int (by omega) (by rw [Int.fdiv_eq_ediv_of_nonneg i (by omega)]; exact q) (.inl (PyProof.noPylong_small (by omega)))
theorem fW:OpR X (binaryOp .Mod) (rI (fun _ j=>0<j) fun i j=>.int (i % j)):=opI fun i j _ _ _ _ _ hc q=>by
 have h1:(0:Int)<j:=hc
 exact mod_int' (by omega) (by rw [Int.fmod_eq_emod_of_nonneg i (by omega)]; exact q)
theorem qL:OpR X (binaryOp .Pow) (rI Hg fun i j=>.int (i ^ j.toNat)):=opI fun _ _ _ _ _ _ _ hc q=>pow_int_small hc.1 hc.2.1 hc.2.2 q
theorem unI {f:Value→Sem Value} {g:Int→Int}
  (rule:∀ (i:Int) (t:Tok) (s:Shared) (Q:Value→Shared→Prop) (E:Value→Shared→Prop),Q (.int (g i) s.toks) { s with toks:=s.toks+1 }→wpAny (model X.prog X.w) X.A (f (.int i t)) Q E s) :
  UnR X f (rU fun i=>.int (g i)):=by
 intro pins s σ H x v Q I rx h
 obtain ⟨i,rfl,q⟩:=h
 obtain ⟨t,rfl⟩:=rx
 exact rule i t s _ _ ⟨.int (g i),H,I.tok _,⟨_,rfl⟩,q⟩
theorem wS:UnR X (unaryOp .USub) (rU fun i=>.int (-i)):=unI fun _ _ _ _ _ q=>neg_int q
end
noncomputable def Gb:V→V→Bool
 | .non,.non=>true | .non,.int _=>true | .int _,.non=>true | .non,.bl _=>true | .bl _,.non=>true | .non,.str _=>true | .str _,.non=>true
 | .int _,.int _=>true | .bl _,.bl _=>true | .str _,.str _=>true | .byt _,.byt _=>true
 | .int _,.str _=>true | .str _,.int _=>true | .bl _,.str _=>true | .str _,.bl _=>true
 | _,_=>false
noncomputable def rEq:R2:=fun x y H Q=>Gb x y=true∧Q (.bl (decide (x=y))) H
noncomputable def rNe:R2:=fun x y H Q=>Gb x y=true∧Q (.bl (!decide (x=y))) H
theorem yB {i j:Int}:decide (V.int i=V.int j)=(i==j):=by
 rw [Bool.eq_iff_iff]
 simp
theorem Ai {i j:Bool}:decide (V.bl i=V.bl j)=(i==j):=by
 rw [Bool.eq_iff_iff]
 simp
theorem yf {i j:Str}:decide (V.str i=V.str j)=(i==j):=by
 rw [Bool.eq_iff_iff]
 simp
theorem yg {i j:Array UInt8}:decide (V.byt i=V.byt j)=(i.toList==j.toList):=by
 rw [Bool.eq_iff_iff]
 cases i
 cases j
 simp
section
variable {X:Cx} {a b c:Expr} {ta tb tc:TE} {pos:Pos}
theorem bh {pins:List (Addr×Obj)} {σ:St} {H:Hp} {s:Shared} {Q:VK} {k k':Bool} (I:Inv X pins σ H s) (q:Q (.bl k) H) (e:k=k'):EP X pins σ Q (.bool k') s:=by
 subst e
 exact ⟨.bl k,H,I,rfl,q⟩
theorem bg:OpR X (compareOp .Eq) rEq:=by
 intro pins s σ H x y v u Q I rx ry h
 obtain ⟨hs,q⟩:=h
 cases x with
 | non =>
  cases rx
  cases y with
  | non=>cases ry; exact PySem.EqNone.eq_none_none (bh I q (by simp))
  | bl j=>cases ry; exact PySem.EqNone.eq_none_bool (bh I q (by simp))
  | int j=>obtain ⟨t',rfl⟩:=ry; exact PySem.EqNone.eq_none_int (bh I q (by simp))
  | str j=>obtain ⟨t',rfl⟩:=ry; exact PySem.EqNone.eq_none_str (bh I q (by simp))
  | _=>exact absurd (show false=true from hs) Bool.false_ne_true
 | bl i =>
  cases rx
  cases y with
  | non=>cases ry; exact PySem.EqNone.eq_bool_none (bh I q (by simp))
  | bl j=>cases ry; exact eq_bool (bh I q Ai)
  | str j=>obtain ⟨t',rfl⟩:=ry; exact PySem.EqMixed.eq_bool_str (bh I q (by simp))
  | _=>exact absurd (show false=true from hs) Bool.false_ne_true
 | int i =>
  obtain ⟨t,rfl⟩:=rx
  cases y with
  | non=>cases ry; exact PySem.EqNone.eq_int_none (bh I q (by simp))
  | int j=>obtain ⟨t',rfl⟩:=ry; exact eq_int (bh I q yB)
  | str j=>obtain ⟨t',rfl⟩:=ry; exact PySem.EqMixed.eq_int_str (bh I q (by simp))
  | _=>exact absurd (show false=true from hs) Bool.false_ne_true
 | str i =>
  obtain ⟨t,rfl⟩:=rx
  cases y with
  | non=>cases ry; exact PySem.EqNone.eq_str_none (bh I q (by simp))
  | bl j=>cases ry; exact PySem.EqMixed.eq_str_bool (bh I q (by simp))
  | int j=>obtain ⟨t',rfl⟩:=ry; exact PySem.EqMixed.eq_str_int (bh I q (by simp))
  | str j=>obtain ⟨t',rfl⟩:=ry; exact eq_str (bh I q yf)
  | _=>exact absurd (show false=true from hs) Bool.false_ne_true
 | byt i =>
  obtain ⟨t,rfl⟩:=rx
  cases y with
  | byt j=>obtain ⟨t',rfl⟩:=ry; exact PySem.W.eq_bytes (bh I q yg)
  | _=>exact absurd (show false=true from hs) Bool.false_ne_true
 | _=>cases y<;>exact absurd (show false=true from hs) Bool.false_ne_true
theorem oW:OpR X (compareOp .NotEq) rNe:=by
 intro pins s σ H x y v u Q I rx ry h
 obtain ⟨hs,q⟩:=h
 cases x with
 | non =>
  cases rx
  cases y with
  | non=>cases ry; exact PySem.EqNone.ne_none_none (bh I q (by simp))
  | bl j=>cases ry; exact PySem.EqNone.ne_none_bool (bh I q (by simp))
  | int j=>obtain ⟨t',rfl⟩:=ry; exact PySem.EqNone.ne_none_int (bh I q (by simp))
  | str j=>obtain ⟨t',rfl⟩:=ry; exact PySem.EqNone.ne_none_str (bh I q (by simp))
  | _=>exact absurd (show false=true from hs) Bool.false_ne_true
 | bl i =>
  cases rx
  cases y with
  | non=>cases ry; exact PySem.EqNone.ne_bool_none (bh I q (by simp))
  | bl j=>cases ry; exact ne_bool (bh I q (congrArg not Ai))
  | str j=>obtain ⟨t',rfl⟩:=ry; exact PySem.EqMixed.ne_bool_str (bh I q (by simp))
  | _=>exact absurd (show false=true from hs) Bool.false_ne_true
 | int i =>
  obtain ⟨t,rfl⟩:=rx
  cases y with
  | non=>cases ry; exact PySem.EqNone.ne_int_none (bh I q (by simp))
  | int j=>obtain ⟨t',rfl⟩:=ry; exact ne_int (bh I q (congrArg not yB))
  | str j=>obtain ⟨t',rfl⟩:=ry; exact PySem.EqMixed.ne_int_str (bh I q (by simp))
  | _=>exact absurd (show false=true from hs) Bool.false_ne_true
 | str i =>
  obtain ⟨t,rfl⟩:=rx
  cases y with
  | non=>cases ry; exact PySem.EqNone.ne_str_none (bh I q (by simp))
  | bl j=>cases ry; exact PySem.EqMixed.ne_str_bool (bh I q (by simp))
  | int j=>obtain ⟨t',rfl⟩:=ry; exact PySem.EqMixed.ne_str_int (bh I q (by simp))
  | str j=>obtain ⟨t',rfl⟩:=ry; exact ne_str (bh I q (congrArg not yf))
  | _=>exact absurd (show false=true from hs) Bool.false_ne_true
 | byt i =>
  obtain ⟨t,rfl⟩:=rx
  cases y with
  | byt j=>obtain ⟨t',rfl⟩:=ry; exact PySem.W.ne_bytes (bh I q (congrArg not yg))
  | _=>exact absurd (show false=true from hs) Bool.false_ne_true
 | _=>cases y<;>exact absurd (show false=true from hs) Bool.false_ne_true
theorem oV:OpR X (compareOp .Lt) (rI0 fun i j=>.bl (decide (i<j))):=Ex fun _ _ _ _ _ _ _ q=>lt_int q
theorem ii:OpR X (compareOp .LtE) (rI0 fun i j=>.bl (decide (i≤j))):=Ex fun _ _ _ _ _ _ _ q=>le_int q
theorem gu:OpR X (compareOp .Gt) (rI0 fun i j=>.bl (decide (j<i))):=Ex fun _ _ _ _ _ _ _ q=>gt_int q
theorem zO:OpR X (compareOp .In) (fun x y H Q=>∃ i j,x=.str i∧y=.str j∧Q (.bl (!(Builtin.Str.occurrences j i 0 j.length 1).isEmpty)) H):=by
 intro pins s σ H x y v u Q I rx ry h
 obtain ⟨i,j,rfl,rfl,q⟩:=h
 obtain ⟨t,rfl⟩:=rx
 obtain ⟨t',rfl⟩:=ry
 exact in_str (bh I q rfl)
theorem xg:OpR X (compareOp .Is) (fun x y H Q=>y=.non∧Q (.bl (decide (x=.non))) H):=by
 intro pins s σ H x y v u Q I rx ry h
 obtain ⟨rfl,q⟩:=h
 cases ry
 refine is_none_gen (bh I q ?_)
 cases x<;>first
  | (cases rx; rfl)
  | (obtain ⟨t,rfl⟩:=rx; rfl)
theorem qr:OpR X (compareOp .IsNot) (fun x y H Q=>y=.non∧Q (.bl (!decide (x=.non))) H):=by
 intro pins s σ H x y v u Q I rx ry h
 obtain ⟨rfl,q⟩:=h
 cases ry
 refine isnot_none_gen (bh I q ?_)
 cases x<;>first
  | (cases rx; rfl)
  | (obtain ⟨t,rfl⟩:=rx; rfl)
theorem OpR.or {f:Value→Value→Sem Value} {r r':R2} (h:OpR X f r) (h':OpR X f r'):OpR X f (fun x y H Q=>r x y H Q∨r' x y H Q):=by
 intro pins s σ H x y v u Q I rx ry q
 rcases q with q | q
 ·exact h pins s σ H x y v u Q I rx ry q
 ·exact h' pins s σ H x y v u Q I rx ry q
theorem aG (b:Expr) {op:CmpOp} (h:op≠.In:=by decide) (h2:op≠.NotIn:=by decide):behindInMarks op b=false:=by
 have e1:(op==CmpOp.In)=false:=by cases op<;>first | rfl | exact absurd rfl h
 have e2:(op==CmpOp.NotIn)=false:=by cases op<;>first | rfl | exact absurd rfl h2
 cases b<;>simp [behindInMarks,e1,e2]
theorem bW {op:CmpOp} {r:R2} (ho:OpR X (compareOp op) r) (ha:PE X a ta) (hb:PE X b tb) (hm:behindInMarks op b=false):PE X (.Compare a [op] [b] pos) (tOp r ta tb):=by
 intro pins s σ H Q I h
 exact wpAny_Compare1 (Fs ha hb I h fun v u s2 x y H2 I2 rx ry q=>ho pins s2 σ H2 x y v u Q I2 rx ry q) hm
noncomputable def DS (t:TE):TT:=fun σ H Q=>t σ H fun x H'=>∃ k,x=.bl k∧Q k H'
theorem az {op:CmpOp} {r:R2} (ho:OpR X (compareOp op) r) (ha:PE X a ta) (hb:PE X b tb) (hm:behindInMarks op b=false):PT X (.Compare a [op] [b] pos) (DS (tOp r ta tb)):=by
 intro pins s σ H Q I h
 refine wpAny_isTrue_Compare1 (thn (ha pins s σ H _ I h) fun v s1 ⟨x,H1,I1,r1,q1⟩=>thn (hb pins s1 σ H1 _ I1 q1) fun u s2 ⟨y,H2,I2,r2,q2⟩ =>
  thn (ho pins s2 σ H2 x y v u _ I2 r1 r2 q2) fun c s3 ⟨z,H3,I3,r3,k,e,q3⟩=>?_) hm
 subst e
 cases r3
 exact wpAny_truthy_bool ⟨H3,I3,q3⟩
noncomputable def Ck (r r':R2) (ta tb tc:TE):TE:=fun σ H Q=>ta σ H fun x H1=>tb σ H1 fun y H2=>r x y H2 fun z H3=>∃ k,z=.bl k ∧
 (if k=true then tc σ H3 fun w' H4=>r' y w' H4 Q else Q (.bl false) H3)
theorem lZ {op op':CmpOp} {r r':R2} (ho:OpR X (compareOp op) r) (ho':OpR X (compareOp op') r') (ha:PE X a ta) (hb:PE X b tb) (hc:PE X c tc)
  (hm:lastMarks [op,op'] [b,c]=false:=by with_unfolding_all rfl):PE X (.Compare a [op,op'] [b,c] pos) (Ck r r' ta tb tc):=by
 intro pins s σ H Q I h
 refine Compare_chain (thn (ha pins s σ H _ I h) fun v s1 ⟨x,H1,I1,r1,q1⟩=>chain_link (thn (hb pins s1 σ H1 _ I1 q1) fun u s2 ⟨y,H2,I2,r2,q2⟩ =>
  thn (ho pins s2 σ H2 x y v u _ I2 r1 r2 q2) fun d s3 ⟨z,H3,I3,r3,k,e,q3⟩=>?_)) hm
 subst e
 cases r3
 refine wpAny_truthy_bool ?_
 cases k with
 | false=>exact ite_ff ⟨.bl false,H3,I3,rfl,q3⟩
 | true=>exact ite_tt (chain_last (thn (hc pins s3 σ H3 _ I3 q3) fun w' s4 ⟨z',H4,I4,r4,q4⟩=>ho' pins s4 σ H4 y z' u w' Q I4 r2 r4 q4))
theorem AO {op op':CmpOp} {r r':R2} (ho:OpR X (compareOp op) r) (ho':OpR X (compareOp op') r') (ha:PE X a ta) (hb:PE X b tb) (hc:PE X c tc)
  (hm:lastMarks [op,op'] [b,c]=false:=by with_unfolding_all rfl):PT X (.Compare a [op,op'] [b,c] pos) (DS (Ck r r' ta tb tc)):=by
 intro pins s σ H Q I h
 refine isTrue_chain (thn (ha pins s σ H _ I h) fun v s1 ⟨x,H1,I1,r1,q1⟩=>test_link (thn (hb pins s1 σ H1 _ I1 q1) fun u s2 ⟨y,H2,I2,r2,q2⟩ =>
  thn (ho pins s2 σ H2 x y v u _ I2 r1 r2 q2) fun d s3 ⟨z,H3,I3,r3,k,e,q3⟩=>?_)) hm
 subst e
 cases r3
 refine wpAny_truthy_bool ?_
 cases k with
 | false =>
  obtain ⟨k',e',q'⟩:=q3
  cases e'
  exact ite_ff ⟨H3,I3,q'⟩
 | true =>
  refine ite_tt (test_last (thn (hc pins s3 σ H3 _ I3 q3) fun w' s4 ⟨z',H4,I4,r4,q4⟩=>thn (ho' pins s4 σ H4 y z' u w' _ I4 r2 r4 q4) fun d' s5 ⟨z2,H5,I5,r5,k2,e2,q5⟩=>?_))
  subst e2
  cases r5
  exact wpAny_truthy_bool ⟨H5,I5,q5⟩
noncomputable def FH (K:Frag) (x:V) (H:Hp) (k:Bool):Prop :=
 match x with
 | .non=>k=false
 | .bl b=>k=b
 | .int i=>k=(i != 0)
 | .str y=>y.length≤sizeLine∧k=((y.length:Int) != 0)
 | .byt y=>y.size≤sizeLine∧k=((y.size:Int) != 0)
 | .ref p=>(∃ xs,SqL K H p xs∧k=!xs.isEmpty)∨(∃ xs,SqT K H p xs∧k=!xs.isEmpty)∨∃ kvs,H p=some (.dK kvs)∧k=!kvs.isEmpty
 | _=>False
theorem xw {κ:Type} {kvs:List (κ×V)} {vs:List (κ×Value)} (r:KV kvs vs):(!vs.isEmpty)=!kvs.isEmpty:=by
 cases r<;>rfl
theorem mJ {xs:List V} {its:List Value} (r:bq xs its):(!its.toArray.isEmpty)=!xs.isEmpty:=by
 cases r<;>simp
theorem kc:(sizeLine:Nat)<2 ^ 63:=by rw [sizeLine_eq]; decide
theorem Fj:HR X (fun x H Q=>∃ k,FH X.K x H k∧Q k H):=by
 intro pins s σ H x v Q I rx h
 obtain ⟨k,e,q⟩:=h
 have hl:=kc
 have hs:sizeLine=16777216:=sizeLine_eq
 cases x with
 | non =>
  cases rx
  have e':k=false:=e
  subst e'
  exact truthy_none ⟨H,I,q⟩
 | bl b =>
  cases rx
  have e':k=b:=e
  subst e'
  exact wpAny_truthy_bool ⟨H,I,q⟩
 | int i =>
  obtain ⟨t,rfl⟩:=rx
  have e':k=(i != 0):=e
  subst e'
  exact PySem.P.truthy_int ⟨H,I,q⟩
 | str y =>
  obtain ⟨t,rfl⟩:=rx
  obtain ⟨hy,e'⟩:y.length≤sizeLine∧k=((y.length:Int) != 0):=e
  subst e'
  exact PySem.P.truthy_str (by omega) ⟨H,I.tok _,q⟩
 | byt y =>
  obtain ⟨t,rfl⟩:=rx
  obtain ⟨hy,e'⟩:y.size≤sizeLine∧k=((y.size:Int) != 0):=e
  subst e'
  exact PySem.W.truthy_bytes (by omega) ⟨H,I.tok _,q⟩
 | ref p =>
  cases rx
  have e':(∃ xs,SqL X.K H p xs∧k=!xs.isEmpty)∨(∃ xs,SqT X.K H p xs∧k=!xs.isEmpty)∨∃ kvs,H p=some (.dK kvs)∧k=!kvs.isEmpty:=e
  rcases e' with ⟨xs,hx,e'⟩ | ⟨xs,hx,e'⟩ | ⟨kvs,hx,e'⟩
  ·subst e'
   obtain ⟨its,r,pl,hz⟩:=I.list hx
   have hlen:=r.length
   exact wpAny_truthy_list pl.isList (by simp only [List.size_toArray]; omega) ⟨H,I.tok _,by rw [mJ r]; exact q⟩
  ·subst e'
   obtain ⟨its,r,pl,hz⟩:=I.tuple hx
   have hlen:=r.length
   exact truthy_tuple pl (by simp only [List.size_toArray]; omega) ⟨H,I.tok _,by rw [mJ r]; exact q⟩
  ·subst e'
   obtain ⟨hz,hS,vs,r,m⟩:kvs.length≤sizeLine∧(p==sysModules)=false∧∃ vs,KV kvs vs∧s.heap.DictOf (bB X.prog X.w) p vs:=I.hok p _ hx
   have hlen:kvs.length=vs.length:=Paired.length r
   exact wpAny_truthy_dict hS m (by omega) ⟨H,I.tok _,by rw [xw r]; exact q⟩
 | _=>exact (show False from e).elim
theorem jt (ha:PE X a ta) (he:∀ whole,isTrue a X.env whole=(do let v ← whole; standAt a.pos; holding [v] (truthy v))) :
  PT X a (fun σ H Q=>ta σ H fun x H'=>∃ k,FH X.K x H' k∧Q k H'):=by
 intro pins s σ H Q I h
 exact isTrue_plain (thn (ha pins s σ H _ I h) fun v s1 ⟨x,H1,I1,r1,q1⟩=>Fj pins s1 σ H1 x v Q I1 r1 q1) (he _)
theorem eP {x:V} {us:List Value} (r:bq [x] us):∃ u,us=[u]∧bu x u:=by
 cases r with
 | cons r1 r2=>cases r2; exact ⟨_,rfl,r1⟩
theorem BM {x y:V} {us:List Value} (r:bq [x,y] us):∃ u w',us=[u,w']∧bu x u∧bu y w':=by
 cases r with
 | cons r1 r2 =>
  cases r2 with
  | cons r3 r4=>cases r4; exact ⟨_,_,rfl,r1,r3⟩
theorem zf:eX X (.type "int") (fun xs H Q=>(∃ i,xs=[.int i]∧Q (.int i) H)∨∃ k,xs=[.bl k]∧Q (.int (if k then 1 else 0)) H):=by
 intro pins s σ H xs us Q I r h
 rcases h with ⟨i,rfl,q⟩ | ⟨k,rfl,q⟩
 ·obtain ⟨u,rfl,t,rfl⟩:=eP r
  exact call_int_int ⟨.int i,H,I,⟨_,rfl⟩,q⟩
 ·obtain ⟨u,rfl,r1⟩:=eP r
  cases r1
  exact call_int_bool ⟨.int (if k then 1 else 0),H,I.tok _,⟨_,rfl⟩,q⟩
theorem Ao:eX X (.builtin "ord") (fun xs H Q=>∃ x,xs=[.str x]∧x.length=1∧Q (.int (x.cps.getD 0 0:Nat)) H):=by
 intro pins s σ H xs us Q I r h
 obtain ⟨x,rfl,hz,q⟩:=h
 obtain ⟨u,rfl,t,rfl⟩:=eP r
 exact ord_of_one hz ⟨.int _,H,I.tok _,⟨_,rfl⟩,q⟩
end
open PySem PySem.Spec PyProof.Rows
structure Fi (h:Heap) (x dx C:Addr) (mA:Str→Option Value):Prop where
 obj:h.get? x=some (PySem.W.instObj C dx)
 ns:h.Ns1 dx mA
 ne:dx≠x
theorem zj {h:Heap} {dx:Addr} {mA:Str→Option Value} (n:h.Ns1 dx mA):∃ od,h.get? dx=some od∧∀ name,PySem.W.lookIn name od=some (mA name):=by
 obtain ⟨o,es,ep,ho,hd,hk,_,hm⟩:=n
 refine ⟨o,ho,fun name=>?_⟩
 have e:=hm name
 unfold nsFind findBy at e
 rw [← Array.find?_toList] at e
 unfold PySem.W.lookIn
 rw [hd]
 dsimp only
 split
 ·rename_i y q
  rw [q] at e
  exact congrArg some e
 ·rename_i q
  rw [q] at e
  have a:es.toList.any (·.refKey)=false:=by
   rw [List.any_eq_false]
   intro y hy
   obtain ⟨z,t,hkey⟩:=hk y (Array.mem_toList_iff.mp hy)
   simp [DictEntry.refKey,hkey]
  have a':¬ es.toList.any (·.refKey)=true:=by rw [a]; exact Bool.false_ne_true
  rw [if_neg a']
  exact congrArg some e
theorem Fi.look {h:Heap} {x dx C:Addr} {mA:Str→Option Value} (I:Fi h x dx C mA):∃ od,PySem.W.InstAt h x (PySem.W.instObj C dx) C (some od)∧∀ name,PySem.W.lookIn name od=some (mA name) :=
 let ⟨od,ho,hl⟩:=zj I.ns
 ⟨od,⟨I.obj,rfl,rfl,ho⟩,hl⟩
section
variable {prog:Program} {w:World} {A:Around} {E:Value→Shared→Prop} {s:Shared} {K:Frag} {x dx C f:Addr} {mA:Str→Option Value} {name:Str} {v:Value}
end
section
variable {P:Program} {w:World} {H H':Hp} {h h':Heap} {a C dx:Addr} {fs fs':List (Str×V)}
theorem CH (hok:HOk P w H h) (e:H a=some (.ins C dx fs)):∃ mA,Fi h a dx C mA∧(∀ f,rq (fs.lookup f) (mA f))∧PySem.Within mA (fs.map (·.1))∧fs.length≤1000∧H dx=some (.own a):=by
 obtain ⟨d,z,ne,ob,mA,n,r,q⟩:=(show bZ P w H h a (.ins C dx fs) from hok a _ e)
 exact ⟨mA,⟨ob,n,ne⟩,r,q,z,d⟩
end
structure Cls (K:Frag) (C:Addr):Prop where
 pg:PySem.W.plainGet K C Str.empty=true
 hd:PySem.W.hasDictIn K C=true
 po:PySem.W.plainOver K C=true
 sa:PySem.W.findIn K (.ref C) "__setattr__"=some (some (.builtin "object.__setattr__"))
theorem Cls.get {K:Frag} {C:Addr} (c:Cls K C) (f:Str):PySem.W.plainGet K C f=true:=c.pg
structure Con (K:Frag) (C:Addr) (f:Str) (v:V) (u:Value):Prop where
 at_:PySem.W.findIn K (.ref C) f=some (some u)
 rel:bu v u
 get:PySem.W.specialIn K u "__get__"=some none
 cp:PySem.W.copiedNames.contains f=false
structure Ic (K:Frag) (C:Addr) (m:Str) (f:Addr):Prop where
 at_:PySem.W.findIn K (.ref C) m=some (some (.ref f))
 fn:PySem.W.isFn K (.ref f)=true
 kp:keepIn K (.ref f)=true
section
variable {X:Cx} {pins:List (Addr×Obj)} {σ:St} {H:Hp} {s:Shared} {a C dx:Addr} {fs:List (Str×V)} {f:Str} {v:V} {A:Around} {E:Value→Shared→Prop}
end
section
variable {X:Cx} {o e value:Expr} {f:Str} {pos pos' tpos:Pos} {ta tv:TE}
end
section
variable {X:Cx} {pins:List (Addr×Obj)} {σ:St} {H:Hp} {s:Shared} {A:Around} {E:Value→Shared→Prop} {Q:Value→Shared→Prop} {c:Value} {b:Bool}
inductive jE (K:Frag) (H:Hp):V→Value→Prop where
 | non:jE K H .non (.type "NoneType")
 | bl (x:Bool):jE K H (.bl x) (.type "bool")
 | int (i:Int):jE K H (.int i) (.type "int")
 | str (x:Str):jE K H (.str x) (.type "str")
 | flt (x:UInt64):jE K H (.flt x) (.type "float")
 | lst {a:Addr} {xs:List V} (e:H a=some (.lst xs)):jE K H (.ref a) (.type "list")
 | frz {a:Addr} {o:Obj} {xs:List V} (e:H a=some (.frz o (.lst xs))):jE K H (.ref a) (.type "list")
 | tup {a:Addr} {xs:List V} (e:H a=some (.tup xs)):jE K H (.ref a) (.type "tuple")
 | dK {a:Addr} {kvs:List (Key×V)} (e:H a=some (.dK kvs)):jE K H (.ref a) (.type "dict")
 | dT {a:Addr} {kvs:List (List Key×V)} (e:H a=some (.dT kvs)):jE K H (.ref a) (.type "dict")
 | ins {a C dx:Addr} {fs:List (Str×V)} (e:H a=some (.ins C dx fs)) (cl:Cls K C) (ha:PySem.W.findIn K (.ref C) "__class__"=some (some (.builtin "object.__class__")))
   (hn:PySem.W.specialIn K (.builtin "object.__class__") "__get__"=some (some (.builtin "getset_descriptor.__get__"))) (htk:PySem.W.takesIn K (.builtin "object.__class__")=some true)
   (hm:PySem.W.mroIn K C (.type "object")=some true):jE K H (.ref a) (.ref C)
theorem zo {x:V} {u t:Value} (I:Inv X pins σ H s) (rx:bu x u) (ty:jE X.K H x t) (e:PySem.W.kitOne X.K t c=some b) (h:∀ tk,Q (.bool b) { s with toks:=tk }) :
  wpAny (model X.prog X.w) A (call (.builtin "isinstance") [u,c]) Q E s:=by
 cases ty with
 | non=>cases (show u=Value.none from rx); exact PySem.W.kia_one PySem.W.kitx_none I.kIn True.intro e (fun z=>nomatch z) h
 | bl y=>cases (show u=Value.bool y from rx); exact PySem.W.kia_one PySem.W.kitx_bool I.kIn True.intro e (fun z=>nomatch z) h
 | int i=>obtain ⟨t,q⟩:=(show ∃ t,u=Value.int i t from rx); cases q; exact PySem.W.kia_one PySem.W.kitx_int I.kIn True.intro e (fun z=>nomatch z) h
 | str y=>obtain ⟨t,q⟩:=(show ∃ t,u=Value.str y t from rx); cases q; exact PySem.W.kia_one PySem.W.kitx_str I.kIn True.intro e (fun z=>nomatch z) h
 | flt y=>obtain ⟨t,q⟩:=(show ∃ t,u=Value.float y t from rx); cases q; exact PySem.W.kia_one PySem.W.kitx_float I.kIn True.intro e (fun z=>nomatch z) h
 | @lst a xs ea =>
  cases (show u=Value.ref a from rx)
  obtain ⟨_,_,n,_,h1⟩:=(show bZ X.prog X.w H s.heap a (.lst xs) from I.hok a _ ea)
  exact PySem.W.kia_one PySem.W.kitx_list I.kIn ⟨_,h1,rfl⟩ e (fun z=>nomatch z) h
 | @frz a ob xs ea =>
  cases (show u=Value.ref a from rx)
  obtain ⟨_,_,_,n,_,h1⟩:=(show bZ X.prog X.w H s.heap a (.frz ob (.lst xs)) from I.hok a _ ea)
  exact PySem.W.kia_one PySem.W.kitx_list I.kIn ⟨_,h1,rfl⟩ e (fun z=>nomatch z) h
 | @tup a xs ea =>
  cases (show u=Value.ref a from rx)
  obtain ⟨_,_,_,p,_⟩:=(show bZ X.prog X.w H s.heap a (.tup xs) from I.hok a _ ea)
  obtain ⟨o,h1,h2,_⟩:=p
  exact PySem.W.kia_one PySem.W.kitx_tuple I.kIn ⟨o,h1,h2⟩ e (fun z=>nomatch z) h
 | @dK a kvs ea =>
  cases (show u=Value.ref a from rx)
  obtain ⟨_,_,vs,_,p⟩:=(show bZ X.prog X.w H s.heap a (.dK kvs) from I.hok a _ ea)
  obtain ⟨o,es,ep,h1,h2,_⟩:=p
  exact PySem.W.kia_one PySem.W.kitx_dict I.kIn ⟨o,h1,h2.1⟩ e (fun z=>nomatch z) h
 | @dT a kvs ea =>
  cases (show u=Value.ref a from rx)
  obtain ⟨_,_,xs,_,o,es,ep,h1,h2,_⟩:=(show bZ X.prog X.w H s.heap a (.dT kvs) from I.hok a _ ea)
  exact PySem.W.kia_one PySem.W.kitx_dict I.kIn ⟨o,h1,h2.1⟩ e (fun z=>nomatch z) h
 | @ins a C dx fs ea cl ha hn htk hm =>
  cases (show u=Value.ref a from rx)
  obtain ⟨mA,O,_⟩:=CH I.hok ea
  obtain ⟨od,J,_⟩:=O.look
  exact PySem.W.kia_one (PySem.W.kitx_own (cl.get _) cl.hd ha hn htk hm) I.kIn J e (fun z=>nomatch z) h
end
open PySem PySem.Spec PyProof.Rows
structure ft (k:Nat) (A:Around):Prop where
 hd:A.handled=none
 dp:A.depth+3*k+5<recursionLimit
 un:A.units+16*k+200<cLine
 gd:A.guards=some []
theorem ft.mono {j k:Nat} {A:Around} (r:ft k A) (h:j≤k):ft j A:=⟨r.hd,by have:=r.dp; omega,by have:=r.un; omega,r.gd⟩
theorem ft.deeper {k:Nat} {A:Around} (r:ft (k+1) A) (env:Env):ft k (A.deeper env) :=
 ⟨r.hd,by have:=r.dp; show A.depth+1+3*k+5<_; omega,by have:=r.un; show A.units+3+16*k+200<_; omega,r.gd⟩
theorem ft.depth {k:Nat} {A:Around} (r:ft k A):A.depth<recursionLimit:=by have:=r.dp; omega
theorem ft.units {k:Nat} {A:Around} (r:ft k A):A.units+64<cLine:=by have:=r.un; omega
theorem ft.units0 {k:Nat} {A:Around} (r:ft k A):A.units<cLine:=by have:=r.un; omega
noncomputable def Hd:TA:=fun _ H Q=>Q [] H
noncomputable def Br (ta:TE) (tr:TA):TA:=fun σ H Q=>ta σ H fun x H1=>tr σ H1 fun xs H2=>Q (x::xs) H2
section
variable {X:Cx} {e:Expr} {es:List Expr} {te:TE} {t:TA} {pos:Pos}
theorem ah:PA X [] Hd:=fun _ _ _ _ H Q I h=>Calls.spliced_nil ⟨[],H,I,.nil,h⟩
theorem ad (ha:PE X e te) (hr:PA X es t) (hs:starEach (e::es) X.env=(false,eval e X.env)::starEach es X.env:=by exact ac rfl):PA X (e::es) (Br te t):=by
 intro pos pins s σ H Q I h
 rw [hs]
 show wpAny _ _ (spliced ((false,eval e X.env)::backTo pos (starEach es X.env))) _ _ s
 refine Calls.spliced_cons (thn (ha pins s σ H _ I h) fun u s1 ⟨x,H1,I1,r1,q1⟩=>?_)
 exact thn (hr pos pins s1 σ H1 _ I1 q1) fun us s2 ⟨xs,H2,I2,r2,q2⟩=>⟨x::xs,H2,I2,.cons r1 r2,q2⟩
noncomputable def Hs (t:TA):TE:=fun σ H Q=>t σ H fun xs H1=>xs.length≤sizeLine∧∀ p,H1 p=none→Q (.ref p) (upd H1 p (.tup xs))
noncomputable def HQ (t:TA):TE:=fun σ H Q=>t σ H fun xs H1=>xs.length≤sizeLine∧∀ p,H1 p=none→Q (.ref p) (upd H1 p (.lst xs))
theorem aT {x1} (h:PA X es t):PE X (.Tuple es x1 pos) (Hs t):=by
 intro pins s σ H Q I hq
 refine wpAny_Tuple_spliced (thn (h pos pins s σ H _ I hq) fun us s1 ⟨xs,H1,I1,r,z,q⟩=>⟨by rw [← r.length]; exact z,?_⟩)
 have hf:H1 s1.heap.objs.size=none:=I1.hok.fresh (Nat.le_refl _)
 refine ⟨.ref s1.heap.objs.size,upd H1 s1.heap.objs.size (.tup xs),I1.laid (t':=s1.toks) (fun b u e=>Heap.get?_push_of_some _ e) (Nat.le_refl _) ?_,rfl,q _ hf⟩
 exact ⟨z,us,r,⟨_,Heap.get?_push_size _ rfl,rfl,_,rfl⟩,_,Heap.get?_push_size _ rfl,rfl⟩
theorem bo (h:PA X es t):PE X (.List es pos) (HQ t):=by
 intro pins s σ H Q I hq
 refine wpAny_List_spliced (thn (h pos pins s σ H _ I hq) fun us s1 ⟨xs,H1,I1,r,z,q⟩=>⟨by rw [← r.length]; exact z,?_⟩)
 have hf:H1 s1.heap.objs.size=none:=I1.hok.fresh (Nat.le_refl _)
 refine ⟨.ref s1.heap.objs.size,upd H1 s1.heap.objs.size (.lst xs),I1.laid (t':=s1.toks) (fun b u e=>Heap.get?_push_of_some _ e) (Nat.le_refl _) ?_,rfl,q _ hf⟩
 exact ⟨z,us,0,r,Heap.get?_push_size _ rfl⟩
end
noncomputable abbrev Sp:=List V→Hp→VK→XK→Prop
noncomputable abbrev CXT:=List Env→Hp→Shared→XK→Value→Shared→Prop
structure CC (P:Program) (w:World) (K:Frag) (mg:Str→Option Value) (base:Heap) (A:Around) (outer:List Env) (s:Shared) (H:Hp):Prop where
 frames:A.frames=some outer
 mod:Mod K mg base
 bs:∀ b o,base.get? b=some o→s.heap.get? b=some o∧H b=none
 bsz:base.objs.size≤s.heap.objs.size
 funs:s.heap.FunFrames base outer
 frf:∀ b∈frs outer,H b=none
 hok:HOk P w H s.heap
 bare:AllBare s.gens
noncomputable def CE (outer:List Env) (P:Program) (w:World) (H:Hp) (s:Shared) (Q:VK) (u:Value) (s':Shared):Prop :=
 ∃ v H',s'.os=s.os∧AllBare s'.gens∧Un (frs outer) [] H H' s.heap s'.heap∧HOk P w H' s'.heap∧bu v u∧Q v H'
noncomputable def CR (CX:CXT) (outer:List Env) (P:Program) (w:World) (H:Hp) (s:Shared) (Q:VK) (E:XK) (r:Result) (s':Shared):Prop :=
 match r with
 | .ok (.ret u)=>CE outer P w H s Q u s'
 | .ok _=>False
 | .error e=>CX outer H s E e s'
structure bj (P:Program) (w:World) (K:Frag) (mg:Str→Option Value) (base:Heap) (CX:CXT) (k:Nat) (f:Addr) (fd:FuncData) (ps:List Str) (sp:Sp):Prop where
 len:∀ vs H Q E,sp vs H Q E→vs.length=ps.length
 run:∀ (A:Around) (outer:List Env) (s:Shared) (H:Hp) (args:Args) (us:List Value) (vs:List V) (Q:VK) (E:XK),ft k A→CC P w K mg base A outer s H→BindsTo s fd args (ps.zip us)→bq vs us→sp vs H Q E →
  codeAny (model P w) A (.call (.ref f) args) (CR CX outer P w H s Q E) s
theorem bj.imp {P:Program} {w:World} {K:Frag} {mg:Str→Option Value} {base:Heap} {CX:CXT} {k:Nat} {f:Addr} {fd:FuncData} {ps:List Str} {sp sp':Sp} (F:bj P w K mg base CX k f fd ps sp)
  (h:∀ vs H Q E,sp' vs H Q E→sp vs H Q E):bj P w K mg base CX k f fd ps sp' :=
 ⟨fun vs H Q E q=>F.len vs H Q E (h _ _ _ _ q),fun A outer s H args us vs Q E hr he hb hv hs=>F.run A outer s H args us vs Q E hr he hb hv (h _ _ _ _ hs)⟩
section
variable {X:Cx} {pins:List (Addr×Obj)} {σ:St} {H:Hp} {s s':Shared}
theorem Inv.env0 (I:Inv X pins σ H s):CC X.prog X.w X.K X.mg X.base X.A X.stack s H :=
 ⟨I.ok.frames,I.ok.mod,I.bs,Nat.le_trans I.ok.bsz I.sz,I.stack,I.stkFree,I.hok,I.bare⟩
theorem Inv.after {Q:VK} {u:Value} (I:Inv X pins σ H s) (h:CE X.stack X.prog X.w H s Q u s'):EP X pins σ Q u s':=by
 obtain ⟨v,H',os,bare,un,hok,r,q⟩:=h
 obtain ⟨hh,g,d,t,os'⟩:=s'
 obtain rfl:os'=s.os:=os
 exact ⟨v,H',I.call (h':=hh) (g':=g) (d':=d) (t':=t) (ch:=[]) un hok bare (fun b z=>absurd z (by simp)),r,q⟩
end
noncomputable def FX (sp:Sp) (dvs:List V) (E:XK) (t:TA):TE:=fun σ H Q=>t σ H fun vs H1=>sp (vs++dvs) H1 Q E
noncomputable def dU (K:Frag) (fd:FuncData) (ps:List Str) (ds:List Value):Prop :=
 ∀ (s:Shared) (us:List Value),K.In s.heap→(us++ds).length=ps.length→BindsTo s fd ⟨us,[]⟩ (ps.zip (us++ds))
theorem dU.all {K:Frag} {fd:FuncData} {ps:List Str} (h:∀ us:List Value,us.length=ps.length→bindArgs fd ⟨us,[]⟩=pure (ps.zip us)):dU K fd ps []:=fun s us _ hl=>by
 rw [List.append_nil] at hl ⊢
 exact .of_eq (h us hl)
noncomputable def uW (CX:CXT) (X:Cx) (E:XK):Prop:=∀ (pins:List (Addr×Obj)) (σ:St) (H:Hp) (s:Shared) (e:Value) (s':Shared),Inv X pins σ H s→CX X.stack H s E e s'→X.xe e s'
section
variable {X:Cx} {CX:CXT} {k:Nat} {f C:Addr} {fd:FuncData} {ps:List Str} {sp:Sp} {dvs:List V} {ds:List Value} {E:XK} {x m:Str} {p pos apos:Pos} {e o:Expr} {es:List Expr} {ta:TE} {t:TA}
theorem Fe {pins:List (Addr×Obj)} {σ:St} {H:Hp} {s:Shared} {Q:VK} {us:List Value} {vs:List V} (F:bj X.prog X.w X.K X.mg X.base CX k f fd ps sp) (hr:ft k X.A) (hb:dU X.K fd ps ds) (hd:bq dvs ds) (hx:uW CX X E)
  (I:Inv X pins σ H s) (r:bq vs us) (h:sp (vs++dvs) H Q E):wpAny (model X.prog X.w) X.A (call (.ref f) us) (EP X pins σ Q) X.xe s:=by
 have r2:bq (vs++dvs) (us++ds):=r.append hd
 have hl:(us++ds).length=ps.length:=by rw [← r2.length]; exact F.len _ _ _ _ h
 refine wpAny_call (codeAny_mono (F.run X.A X.stack s H ⟨us,[]⟩ (us++ds) (vs++dvs) Q E hr I.env0 (hb s us I.kIn hl) r2 h) fun r s' hq=>?_)
 cases r with
 | error e=>exact hx pins σ H s e s' I hq
 | ok fl =>
  cases fl with
  | ret u=>exact I.after hq
  | next=>exact False.elim hq
  | brk=>exact False.elim hq
  | cont=>exact False.elim hq
theorem aq (F:bj X.prog X.w X.K X.mg X.base CX k f fd ps sp) (hr:ft k X.A) (hg:Gl X x) (hm:X.mg x=some (.ref f)) (hk:keepIn X.K (.ref f)=true) (hb:dU X.K fd ps ds) (hd:bq dvs ds) (hx:uW CX X E)
  (ha:PA X (e::es) t) (hdb:(x==("__debug__":Str))=false:=by decide) (he:starEach (e::es) X.env=(false,eval e X.env)::starEach es X.env:=by exact ac rfl) (hpl:(backTo pos (starEach es X.env)).any (·.1)=false:=by exact aj rfl) :
  PE X (.Call (.Name x p) (e::es) [] pos) (FX sp dvs E t):=by
 intro pins s σ H Q I h
 refine wpAny_Call_Name_kw (yl I hg hm ?_ hdb)
 refine PySem.W.callWith_K (h₀:=X.base) I.ok.mod.kin hk (thn (ha pos pins s σ H _ I h) fun us s1 ⟨vs,H1,I1,r,q⟩=>⟨I1.kIn,?_⟩) he hpl
 exact Fe F hr hb hd hx I1 r q
structure Mk (K:Frag) (C f:Addr):Prop where
 makes:PySem.W.makesIn K C=true
 init:PySem.W.findIn K (.ref C) "__init__"=some (some (.ref f))
 fn:PySem.W.isFn K (.ref f)=true
 kp:keepIn K (.ref C)=true
end
section
variable {X:Cx} {CX:CXT} {k:Nat} {f C:Addr} {fd:FuncData} {ps ks:List Str} {sp:Sp} {E:XK} {x m:Str} {p pos apos kpos:Pos} {e o:Expr} {es:List Expr} {kws:List Keyword} {te ta:TE} {t tk:TA} {nm:Option Str}
structure Hv (K:Frag) (fd:FuncData) (ps ks:List Str) (g:List Value→List Value→List Value) (gV:List V→List V→List V):Prop where
 to:∀ (s:Shared) (us ws:List Value),K.In s.heap→(g us ws).length=ps.length→BindsTo s fd ⟨us,ks.zip ws⟩ (ps.zip (g us ws))
 rel:∀ {vs:List V} {us:List Value} {zs:List V} {ws:List Value},bq vs us→bq zs ws→bq (gV vs zs) (g us ws)
variable {g:List Value→List Value→List Value} {gV:List V→List V→List V}
end
structure aO (N P:List Str) (sc:Scope):Prop where
 kind:sc.kind=.function
 co:sc.isCoroutine=false
 gen:sc.isGenerator=false
 nd:N.Nodup
 pre:N.take P.length=P
 par:∀ x∈P,sc.names.lookup x=some .local∨sc.names.lookup x=some .cell
 nofree:∀ y∈sc.names,y.2≠.free
theorem oU {kindOf:Str→Option NameKind} {x:Str}:∀ {binds:List (Str×Value)} {m:Str→Option Value},(∀ v,(x,v)∉binds)→bindL kindOf binds m x=m x
 | [],_,_=>rfl
 | (n,v)::r,m,h=>by
  unfold bindL
  rw [oU fun w hw=>h w (List.mem_cons_of_mem _ hw)]
  split
  ·have:x≠n:=by rintro rfl; exact h v List.mem_cons_self
   simp [this]
  ·rfl
theorem oM {kindOf:Str→Option NameKind} {x:Str}:∀ {binds:List (Str×Value)} {m:Str→Option Value},(∀ v,(x,v)∉binds)→bindC kindOf binds m x=m x
 | [],_,_=>rfl
 | (n,v)::r,m,h=>by
  unfold bindC
  rw [oM fun w hw=>h w (List.mem_cons_of_mem _ hw)]
  split
  ·rfl
  ·have:x≠n:=by rintro rfl; exact h v List.mem_cons_self
   simp [this]
theorem nY {kindOf:Str→Option NameKind} {x:Str} {v:Value}:∀ {P:List Str} {vs:List Value} {i:Nat} {m:Str→Option Value},P.Nodup→P[i]?=some x→vs[i]?=some v→kindOf x=some .local →
  bindL kindOf (P.zip vs) m x=some v
 | [],_,_,_,_,h,_,_=>by simp at h
 | _::_,[],_,_,_,_,h,_=>by simp at h
 | p::P,w::vs,0,m,nd,h1,h2,hk=>by
  simp at h1 h2; subst h1; subst h2
  show bindL kindOf ((p,w)::P.zip vs) m p=_
  unfold bindL
  rw [oU fun v hv=>(List.nodup_cons.mp nd).1 (List.of_mem_zip hv).1,if_pos hk]
  simp
 | p::P,w::vs,i+1,m,nd,h1,h2,hk=>by
  show bindL kindOf ((p,w)::P.zip vs) m x=_
  unfold bindL
  exact nY (i:=i) (List.nodup_cons.mp nd).2 (by simpa using h1) (by simpa using h2) hk
theorem nZ {kindOf:Str→Option NameKind} {x:Str} {v:Value}:∀ {P:List Str} {vs:List Value} {i:Nat} {m:Str→Option Value},P.Nodup→P[i]?=some x→vs[i]?=some v→kindOf x≠some .local →
  bindC kindOf (P.zip vs) m x=some v
 | [],_,_,_,_,h,_,_=>by simp at h
 | _::_,[],_,_,_,_,h,_=>by simp at h
 | p::P,w::vs,0,m,nd,h1,h2,hk=>by
  simp at h1 h2; subst h1; subst h2
  show bindC kindOf ((p,w)::P.zip vs) m p=_
  unfold bindC
  rw [oM fun v hv=>(List.nodup_cons.mp nd).1 (List.of_mem_zip hv).1,if_neg hk]
  simp
 | p::P,w::vs,i+1,m,nd,h1,h2,hk=>by
  show bindC kindOf ((p,w)::P.zip vs) m x=_
  unfold bindC
  exact nZ (i:=i) (List.nodup_cons.mp nd).2 (by simpa using h1) (by simpa using h2) hk
noncomputable def kq (N:List Str) (vs:List V):St:=vs.map some++List.replicate (N.length - vs.length) none
noncomputable def cP (CX:CXT) (P:Program) (w:World) (K:Frag) (mg:Str→Option Value) (base:Heap) (N:List Str) (qual:Str) (scope:Scope) (f:Addr) (cd:Value) (A:Around) (outer:List Env) (s:Shared) (H:Hp) (E:XK):Cx where
 prog:=P
 w:=w
 K:=K
 mg:=mg
 base:=base
 A:=A.deeper (envOfC qual scope s.heap.objs.size f cd)
 N:=N
 s₀:=s
 H₀:=H
 env:=envOfC qual scope s.heap.objs.size f cd
 outer:=outer
 stack:=envOfC qual scope s.heap.objs.size f cd::outer
 ex:=[]
 calm:=true
 fn:=fun _=>true
 pn:=[]
 xe:=fun e s'=>wpAny (model P w) (A.deeper (envOfC qual scope s.heap.objs.size f cd)) (leaving (envOfC qual scope s.heap.objs.size f cd) e) (fun _ s''=>CX outer H s E e s'') (fun e' s''=>CX outer H s E e' s'') s'
theorem sQ {sc:Scope} {n:Nat} {x:Str} (h:sc.names.lookup x=some .cell):∃ c,(cellsFrom n sc.names []).lookup x=some c:=by
 have q:=PySem.W.cellsFrom_some sc.names n [] (.inl h)
 exact Option.isSome_iff_exists.mp q
theorem zQ {CX:CXT} {P:Program} {w:World} {K:Frag} {mg:Str→Option Value} {base:Heap} {N ps:List Str} {qual:Str} {scope:Scope} {f:Addr} {cd:Value} {A:Around} {outer:List Env} {s s1:Shared} {H:Hp} {E:XK} {us:List Value} {vs:List V}
  (S:aO N ps scope) (hd:A.handled=none) (e0:CC P w K mg base A outer s H) (hl:vs.length=ps.length) (r:bq vs us)
  (x:InCallC s s.heap.objs.size (bindL (envOfC qual scope s.heap.objs.size f cd).kindOf (ps.zip us) fun _=>none) (cellsFrom (s.heap.objs.size+1) scope.names []) (bindC (envOfC qual scope s.heap.objs.size f cd).kindOf (ps.zip us) fun _=>none) s1) :
  Inv (cP CX P w K mg base N qual scope f cd A outer s H E) [] (kq N vs) H s1:=by
 have hpl:ps.length≤N.length:=by have:=congrArg List.length S.pre; rw [List.length_take] at this; omega
 obtain ⟨h1,tk,rfl,hk⟩:=x.done
 have noA:∀ b:Addr,b∉(cP CX P w K mg base N qual scope f cd A outer s H E).ex:=fun b z=>absurd (show b∈([]:List Addr) from z) (by simp)
 refine ⟨⟨e0.mod,S.kind,rfl,rfl,Nat.le_refl _,fun y z c h1 h2=>?_,fun y hy=>?_,fun y c _ h=>?_,fun _=>hd,Around.frames_deeper e0.frames,.inr ⟨rfl,rfl⟩,fun b z=>absurd z (noA b),e0.bs,e0.bsz,fun b _ _=>noA b,fun b z=>absurd z (noA b),e0.funs,e0.frf⟩,
  rfl,e0.bare,Un.kept hk,⟨_,x.toInCall.ns,fun i y v h1 h2 h3=>?_⟩,fun y c h=>⟨_,x.cell y c h⟩,e0.hok.fresh (Nat.le_refl _),fun y c h=>?_,fun p hp=>absurd (show p∈([]:List (Addr×Obj)) from hp) (by simp),e0.hok.kept hk,?_⟩
 ·exact name_of_addr x.apart (PySem.mem_of_lookup h1) (PySem.mem_of_lookup h2)
 ·have hy:scope.names.lookup y=some .cell∨scope.names.lookup y=some .free:=hy
  rcases hy with hy | hy
  ·exact sQ hy
  ·exact absurd rfl (S.nofree _ (PySem.mem_of_lookup hy))
 ·exact Nat.le_of_lt (x.above y c (PySem.mem_of_lookup h))
 ·have hi:i<vs.length:=by
   unfold kq at h2
   by_cases hi:i<vs.length
   ·exact hi
   ·rw [List.getElem?_append_right (by simpa using hi)] at h2
    rw [List.getElem?_replicate] at h2
    split at h2<;>cases h2
  have ha:vs[i]?=some v:=by
   unfold kq at h2
   rw [List.getElem?_append_left (by simpa using hi),List.getElem?_map] at h2
   cases e:vs[i]? with
   | none=>rw [e] at h2; cases h2
   | some a=>rw [e] at h2; cases h2; rfl
  obtain ⟨u,hu,rv⟩:=r.get ha
  have hp:ps[i]?=some y:=by
   rw [← S.pre,List.getElem?_take_of_lt (by omega)]; exact h1
  have ndP:ps.Nodup:=by rw [← S.pre]; exact S.nd.sublist (List.take_sublist _ _)
  refine ⟨u,rv,?_⟩
  rcases S.par y (List.mem_of_getElem? hp) with k | k
  ·exact .inl ⟨k,nY ndP hp hu k⟩
  ·obtain ⟨c,e⟩:=sQ (n:=s.heap.objs.size+1) k
   refine .inr ⟨.inl k,c,e,?_⟩
   have q:=x.cell y c e
   rw [nZ ndP hp hu (by show scope.names.lookup y≠_; rw [k]; decide)] at q
   exact q
 ·exact e0.hok.fresh (Nat.le_of_lt (x.above y c (PySem.mem_of_lookup h)))
 ·unfold kq
  show _=N.length
  rw [List.length_append,List.length_map,List.length_replicate]
  omega
theorem FY {CX:CXT} {P:Program} {w:World} {K:Frag} {mg:Str→Option Value} {base:Heap} {k:Nat} {f:Addr} {name qual:Str} {params:Arguments} {body:List Stmt} {scope:Scope} {dV kV doc pm cdv ct oc:Value} {an od:Option Addr}
  {osl:Array (Option Value)} {N ps:List Str} {sp:Sp} (lk:K.lookup f=some ⟨oc,od,.func (PySem.W.fnOf name qual params body scope dV kV doc pm an cdv ct),osl⟩) (hcd:PySem.W.codeIn K cdv qual=true) (S:aO N ps scope)
  (len:∀ vs H Q E,sp vs H Q E→vs.length=ps.length)
  (hbody:∀ (A:Around) (outer:List Env) (s:Shared) (H:Hp) (vs:List V) (Q:VK) (E:XK),ft k (A.deeper (envOfC qual scope s.heap.objs.size f cdv))→sp vs H Q E →
   ∃ t,PSs (cP CX P w K mg base N qual scope f cdv A outer s H E) body t∧t { nx:=fun _ H'=>Q .non H',rt:=Q } (kq N vs) H) :
  bj P w K mg base CX (k+1) f (PySem.W.fnOf name qual params body scope dV kV doc pm an cdv ct) ps sp:=by
 refine ⟨len,fun A outer s H args us vs Q E hr e0 hb r hsp=>?_⟩
 have hl:=len _ _ _ _ hsp
 have KX:K.In s.heap:=e0.mod.kin.keeps fun b o e=>(e0.bs b o e).1
 have lim:s.heap.NoLimit:=e0.mod.nolimit.keeps fun b o e=>(e0.bs b o e).1
 have hkind:∀ y∈ps.zip us,scope.names.lookup y.1=some .local∨(scope.names.lookup y.1=some .cell∧((cellsFrom (s.heap.objs.size+1) scope.names []).lookup y.1).isSome=true):=fun ⟨n,v⟩ hy=>by
  rcases S.par n (List.of_mem_zip hy).1 with q | q
  ·exact .inl q
  ·exact .inr ⟨q,PySem.W.cellsFrom_some _ _ _ (.inl q)⟩
 refine codeAny_call_function hr.depth (KX _ _ lk) rfl S.co S.gen rfl (PySem.W.codeRec_of KX hcd) (hb _ _ _ _ ?_)
 refine wpAny_newFunctionEnv_cells S.kind hkind fun env he s1 x=>?_
 subst he
 refine ⟨lim.keeps x.toInCall.keep,codeAny_func ?_⟩
 obtain ⟨t,ht,hq⟩:=hbody A outer s H vs Q E (hr.deeper _) hsp
 have I:Inv (cP CX P w K mg base N qual scope f cdv A outer s H E) [] (kq N vs) H s1:=zQ S hr.hd e0 hl r x
 refine wpAny_mono (ht [] s1 (kq N vs) H _ I hq) (fun fl s' hs=>?_) fun e s' hs=>hs
 have fin:∀ {σ':St} {H':Hp} {v:V} {u:Value},Inv (cP CX P w K mg base N qual scope f cdv A outer s H E) [] σ' H' s'→bu v u→Q v H'→CE outer P w H s Q u s' :=
  fun {σ' H' v u} J rv q=>⟨v,H',J.os,J.bare,J.base,J.hok,rv,q⟩
 cases fl with
 | ret u =>
  obtain ⟨v,σ',H',J,rv,q⟩:=hs
  exact fin J rv q
 | next =>
  obtain ⟨σ',H',J,q⟩:=hs
  exact fin (v:=V.non) (u:=Value.none) J rfl q
 | brk =>
  obtain ⟨_,_,_,q⟩:=hs
  exact False.elim q
 | cont =>
  obtain ⟨_,_,_,q⟩:=hs
  exact False.elim q
open PySem PySem.Spec PyProof.Rows
section
variable {X:Cx} {x:Str} {p pos:Pos} {e:Expr} {es:List Expr} {t:TA} {id T:String} {r:List V→Hp→VK→Prop}
noncomputable def tCB (r:List V→Hp→VK→Prop) (t:TA):TE:=fun σ H Q=>t σ H fun vs H1=>r vs H1 Q
theorem aK (hc:eX X (.builtin id) r) (hg:Gl X x) (hm:X.mg x=none) (hv:bootBuiltins x=some (.builtin id)) (ha:PA X (e::es) t) (hn:x ≠ "__name__":=by decide) (hdb:(x==("__debug__":Str))=false:=by decide)
  (he:starEach (e::es) X.env=(false,eval e X.env)::starEach es X.env:=by exact ac rfl) (hpl:(backTo pos (starEach es X.env)).any (·.1)=false:=by exact aj rfl):PE X (.Call (.Name x p) (e::es) [] pos) (tCB r t):=by
 intro pins s σ H Q I h
 refine wpAny_Call_Name_kw (fT I hg hm hv ?_ hn hdb)
 exact PyProof.Rows.callWith_builtin1 (thn (ha pos pins s σ H _ I h) fun us s1 ⟨vs,H1,I1,r1,q1⟩=>hc pins s1 σ H1 vs us Q I1 r1 q1) he hpl
theorem bK (hc:eX X (.type T) r) (hg:Gl X x) (hm:X.mg x=none) (hv:bootBuiltins x=some (.type T)) (ha:PA X (e::es) t) (hn:x ≠ "__name__":=by decide) (hdb:(x==("__debug__":Str))=false:=by decide)
  (he:starEach (e::es) X.env=(false,eval e X.env)::starEach es X.env:=by exact ac rfl) (hpl:(backTo pos (starEach es X.env)).any (·.1)=false:=by exact aj rfl):PE X (.Call (.Name x p) (e::es) [] pos) (tCB r t):=by
 intro pins s σ H Q I h
 refine wpAny_Call_Name_kw (fT I hg hm hv ?_ hn hdb)
 exact PyProof.Rows.callWith_type1 (thn (ha pos pins s σ H _ I h) fun us s1 ⟨vs,H1,I1,r1,q1⟩=>hc pins s1 σ H1 vs us Q I1 r1 q1) he hpl
end
end L2
namespace HT
open PySem PyProof.Rows
section
open PySem.SeqAt
open PySem.AutoSeq1 (wpAny_loadPart')
open PySem.MeetsSeq PySem.MeetsSeq2 PySem.MeetsSeq3
end
section
variable {prog:Program} {w:World} {A:Around} {E:Value→Shared→Prop} {s:Shared}
theorem cat_tup {t b:Addr} {vs ws:List Value} {Q:Value→Shared→Prop} (ht:IsTup s.heap t vs.toArray) (hb:IsTup s.heap b ws.toArray) (hv:vs≠[])
  (h1:ws=[]→Q (.ref t) s) (h2:ws≠[]→Q (.ref s.heap.objs.size) { s with heap:=s.heap.push { cls:=.type "tuple",data:=.seq (vs++ws).toArray } })
  (hsz:vs.length+ws.length≤sizeLine):wpAny (model prog w) A (binaryOp .Add (.ref t) (.ref b)) Q E s:=by
 obtain ⟨⟨cls,dd,data,sl⟩,ho,hc,n,hd⟩:=id ht
 obtain ⟨⟨cls2,dd2,data2,sl2⟩,ho2,hc2,n2,hd2⟩:=id hb
 simp only at hc hd hc2 hd2
 subst hc hd hc2 hd2
 have e:vs.toArray++ws.toArray=(vs++ws).toArray:=by simp
 by_cases hw:ws=[]
 ·exact concat_meets ⟨_,ho,rfl⟩ ⟨_,ho2,rfl⟩ noFill_tuple_add seq_tuple_add PySem.F.slot_tuple_add PySem.F.entry_tuple_add (PySem.F.args_tuple_add_2 _ _)
   (tuple_addW1 t b vs.toArray ws.toArray n n2 dd dd2 sl sl2 (by simpa using hv) (by simp [hw])) ⟨ho,ho2,h1 hw⟩
 ·refine concat_meets ⟨_,ho,rfl⟩ ⟨_,ho2,rfl⟩ noFill_tuple_add seq_tuple_add PySem.F.slot_tuple_add PySem.F.entry_tuple_add (PySem.F.args_tuple_add_2 _ _)
   (tuple_addW2 t b vs.toArray ws.toArray n n2 dd dd2 sl sl2 (by simpa using hv) (by simpa using hw) (by rw [List.size_toArray,List.size_toArray]; exact hsz)) ⟨ho,ho2,?_⟩
  rw [e]
  exact h2 hw
noncomputable def sIx (n d:Nat):Option Int→Nat
 | none=>d
 | some v=>if v<0 then (v+(n:Int)).toNat else min v.toNat n
theorem sIx_none (n d:Nat):sIx n d none=d:=rfl
theorem sIx_nat (n d k:Nat):sIx n d (some (k:Int))=min k n:=by
 show (if (k:Int)<0 then ((k:Int)+(n:Int)).toNat else min (k:Int).toNat n)=min k n
 rw [if_neg (by omega),Int.toNat_natCast]
theorem Ef (n d:Nat) (hd:d≤n) (o:Option Int):sIx n d o≤n:=by
 cases o with
 | none=>exact hd
 | some v =>
  show (if v<0 then (v+(n:Int)).toNat else min v.toNat n)≤n
  by_cases hv:v<0
  ·rw [if_pos hv]; omega
  ·rw [if_neg hv]; exact Nat.min_le_right _ _
theorem yO (v:Int) (n d:Nat):(if v<0 then max (v+(n:Int)) 0 else min v (n:Int))=((sIx n d (some v):Nat):Int):=by
 show (if v<0 then max (v+(n:Int)) 0 else min v (n:Int))=(((if v<0 then (v+(n:Int)).toNat else min v.toNat n):Nat):Int)
 by_cases hv:v<0
 ·simp only [if_pos hv]; omega
 ·simp only [if_neg hv]; omega
theorem uM (lo hi:Option Int) (n:Nat):Builtin.Slice.sliceAdjust lo hi 1 (n:Int)=(((sIx n 0 lo:Nat):Int),((sIx n n hi:Nat):Int)):=by
 have h1:¬ ((1:Int)<0):=by omega
 unfold Builtin.Slice.sliceAdjust
 simp only [h1,if_false]
 refine Prod.ext ?_ ?_
 ·cases lo with
  | none=>rfl
  | some v=>exact yO v n 0
 ·cases hi with
  | none=>rfl
  | some v=>exact yO v n n
theorem vO (i j:Nat):Builtin.Slice.slicePlaces (i:Int) (j:Int) 1=j - i:=by
 unfold Builtin.Slice.slicePlaces
 have h1:(1:Int) > 0:=by omega
 simp only [h1,if_true,Int.ediv_one]
 split<;>omega
theorem mj {v:Value} {o:Option Int} {Q:Option Int→Shared→Prop} (p:IsPart v o) (h:Q o s):wpAny (model prog w) A (Builtin.Slice.slicePartIndex v) Q E s:=by
 cases p with
 | none=>exact slicePart_none h
 | int i t=>exact slicePart_int h
theorem fD {sl:Addr} {vl vu:Value} {lo hi:Option Int} {n:Nat} {Q:Int×Int×Nat→Shared→Prop} (hs:s.heap.IsSliceOf sl vl vu .none) (pl:IsPart vl lo) (pu:IsPart vu hi)
  (h:Q (((sIx n 0 lo:Nat):Int),1,sIx n n hi - sIx n 0 lo) s):wpAny (model prog w) A (Builtin.Slice.sliceApplied (.ref sl) (pure (n:Int))) Q E s:=by
 obtain ⟨os,hos,hcs,hds⟩:=id hs
 unfold Builtin.Slice.sliceApplied Builtin.Slice.sliceFields
 refine wpAny_bind (wpAny_bind (wpAny_field hos hds (x:=vl) rfl (wpAny_bind (wpAny_field hos hds (x:=vu) rfl (wpAny_bind (wpAny_field hos hds (x:=.none) rfl (wpAny_pure ?_)))))))
 refine wpAny_bind (slicePart_none ?_)
 show wpAny _ _ (if ((1:Int)==0)=true then _ else _) _ _ s
 rw [if_neg (by decide)]
 refine wpAny_bind (mj pl (wpAny_bind (mj pu (wpAny_bind (wpAny_pure ?_)))))
 show wpAny _ _ (match Builtin.Slice.sliceAdjust lo hi 1 (n:Int) with | (lo,hi)=>pure (lo,(1:Int),Builtin.Slice.slicePlaces lo hi 1)) _ _ s
 rw [uM lo hi n]
 show wpAny _ _ (pure (((sIx n 0 lo:Nat):Int),(1:Int),Builtin.Slice.slicePlaces ((sIx n 0 lo:Nat):Int) ((sIx n n hi:Nat):Int) 1)) _ _ s
 rw [vO]
 exact wpAny_pure h
theorem AJ (xs:Array Value) (i k:Nat):((List.range k).filterMap fun (m:Nat)=>xs[((i:Int)+(m:Int)*1).toNat]?).toArray=((xs.toList.drop i).take k).toArray:=by
 have e:(fun (m:Nat)=>xs[((i:Int)+(m:Int)*1).toNat]?)=fun m=>xs[i+m]?:=by
  funext m
  have:((i:Int)+(m:Int)*1).toNat=i+m:=by omega
  rw [this]
 rw [e]
 have:=pick_run xs i k
 rw [List.filterMap_map] at this
 have e2:((fun x=>xs[x]?) ∘ fun x=>i+x)=fun m=>xs[i+m]?:=rfl
 rw [e2] at this
 rw [this]
theorem getItem_tuple_cut {t sl:Addr} {items:Array Value} {vl vu:Value} {lo hi:Option Int} {Q:Value→Shared→Prop} (ht:IsTup s.heap t items) (hs:s.heap.IsSliceOf sl vl vu .none) (pl:IsPart vl lo) (pu:IsPart vu hi)
  (hw:¬ (sIx items.size 0 lo=0∧sIx items.size items.size hi=items.size))
  (h:Q (.ref s.heap.objs.size) { s with heap:=s.heap.push { cls:=.type "tuple",data:=.seq ((items.toList.drop (sIx items.size 0 lo)).take (sIx items.size items.size hi - sIx items.size 0 lo)).toArray } })
  (hsz:items.size≤sizeLine):wpAny (model prog w) A (getItem (.ref t) (.ref sl)) Q E s:=by
 have htake:sizeOk (.seq ((items.toList.drop (sIx items.size 0 lo)).take (sIx items.size items.size hi - sIx items.size 0 lo)).toArray):=by
  show ((items.toList.drop (sIx items.size 0 lo)).take (sIx items.size items.size hi - sIx items.size 0 lo)).toArray.size≤sizeLine
  rw [List.size_toArray,List.length_take,List.length_drop,Array.length_toList]
  omega
 have hj:sIx items.size items.size hi≤items.size:=Ef _ _ (Nat.le_refl _) hi
 obtain ⟨os,hos,hcs,hds⟩:=id hs
 have hTs:s.TypeIs (.ref sl) "slice":=⟨os,hos,hcs⟩
 unfold getItem
 try with_reducible refine wpAny_holding ?_
 first | refine wpAny_bind (wpAny_pure ?_) | skip
 refine wpAny_bind (wpAny_sequenceKey ht.typeIs (by decide) ?_)
 refine wpAny_bind (wpAny_callSpecial?_slot (name:=Str.ofString "__getitem__") ht.typeIs PyProof.Rows.slot_tuple_getitem
  (wpAny_call_entry PyProof.Rows.slot_tuple_getitem ht.typeIs entry_tuple_getitem ?_ (args_tuple_getitem _ _)))
 show wpAny _ _ (Builtin.Tuple.tupleItemsOf (.ref t) >>= _) _ _ s
 refine wpAny_bind (tupleItemsOf_ ht ?_)
 refine wpAny_bind (wpAny_typeOf hTs ?_)
 rw [if_pos (by decide)]
 refine wpAny_bind (fD hs pl pu ?_)
 have hno:¬ ((((sIx items.size 0 lo:Nat):Int)==0&&(1:Int)==1&&(sIx items.size items.size hi - sIx items.size 0 lo)==items.size)=true):=by
  intro q
  rw [Bool.and_eq_true,Bool.and_eq_true] at q
  have q1:((sIx items.size 0 lo:Nat):Int)=0:=eq_of_beq q.1.1
  have q2:sIx items.size items.size hi - sIx items.size 0 lo=items.size:=eq_of_beq q.2
  exact hw ⟨by omega,by omega⟩
 show wpAny _ _ (if (((sIx items.size 0 lo:Nat):Int)==0&&(1:Int)==1&&(sIx items.size items.size hi - sIx items.size 0 lo)==items.size)=true then _ else _) _ _ s
 rw [if_neg hno,AJ]
 first
  | exact wpAny_bind (m:=Builtin.Tuple.tupleExact _) (wpAny_newObj_type (wpAny_pure ⟨_,rfl,wpAny_pure h⟩) htake)
  | exact wpAny_bind (m:=Builtin.Tuple.tupleExact _) (wpAny_newObj_type (wpAny_bind (wpAny_pure (wpAny_pure ⟨_,rfl,wpAny_pure h⟩))) htake)
  | exact wpAny_bind (wpAny_bind (m:=Builtin.Tuple.tupleExact _) (wpAny_newObj_type (wpAny_pure (wpAny_pure ⟨_,rfl,wpAny_pure h⟩)) htake))
  | exact wpAny_bind (wpAny_bind (m:=Builtin.Tuple.tupleExact _) (wpAny_newObj_type (wpAny_pure ⟨_,rfl,wpAny_pure h⟩) htake))
end
end HT
namespace L2
open PySem PySem.Spec PyProof.Rows
noncomputable abbrev TO:=St→Hp→(Option Int→Hp→Prop)→Prop
noncomputable def PO (X:Cx) (e:Option Expr) (t:TO):Prop :=
 ∀ (pins:List (Addr×Obj)) (s:Shared) (σ:St) (H:Hp) (Q:Option Int→Hp→Prop),Inv X pins σ H s→t σ H Q →
  wpAny (model X.prog X.w) X.A (evalPart e X.env) (fun u s'=>∃ o H',Inv X pins σ H' s'∧IsPart u o∧Q o H') X.xe s
noncomputable def CI:TO:=fun _ H Q=>Q none H
noncomputable def FE (t:TE):TO:=fun σ H Q=>t σ H fun x H1=>∃ i,x=.int i∧Q (some i) H1
section
variable {X:Cx} {e:Expr} {te:TE} {lo hi:Option Expr} {tl th:TO} {pos p2:Pos}
theorem eS:PO X none CI:=by
 intro pins s σ H Q I h
 rw [evalPart_none]
 exact wpAny_pure ⟨none,H,I,.none,h⟩
theorem eO (h:PE X e te):PO X (some e) (FE te):=by
 intro pins s σ H Q I hw
 rw [evalPart_some]
 refine thn (h pins s σ H _ I hw) fun u s1 ⟨x,H1,I1,r1,q1⟩=>?_
 obtain ⟨i,rfl,q⟩:=q1
 obtain ⟨t,rfl⟩:=r1
 exact ⟨some i,H1,I1,.int i t,q⟩
noncomputable def SlR (X:Cx) (r:V→Option Int→Option Int→Hp→VK→Prop):Prop :=
 ∀ (pins:List (Addr×Obj)) (s:Shared) (σ:St) (H:Hp) (x:V) (v vl vu:Value) (lo hi:Option Int) (sl:Addr) (Q:VK),Inv X pins σ H s→bu x v→s.heap.IsSliceOf sl vl vu .none→IsPart vl lo→IsPart vu hi→r x lo hi H Q →
  ∃ T id,typeLookup (.type T) "__getitem__"=pure (some (.builtin id))∧s.TypeIs v T∧wpAny (model X.prog X.w) X.A (getItem v (.ref sl)) (EP X pins σ Q) X.xe s
theorem SlR.or {r r':V→Option Int→Option Int→Hp→VK→Prop} (h:SlR X r) (h':SlR X r'):SlR X (fun x lo hi H Q=>r x lo hi H Q∨r' x lo hi H Q):=by
 intro pins s σ H x v vl vu lo hi sl Q I rx hs pl pu q
 rcases q with q | q
 ·exact h pins s σ H x v vl vu lo hi sl Q I rx hs pl pu q
 ·exact h' pins s σ H x v vl vu lo hi sl Q I rx hs pl pu q
noncomputable def tSl (r:V→Option Int→Option Int→Hp→VK→Prop) (te:TE) (tl th:TO):TE:=fun σ H Q=>te σ H fun x H1=>tl σ H1 fun l H2=>th σ H2 fun u H3=>r x l u H3 Q
theorem dI {r:V→Option Int→Option Int→Hp→VK→Prop} (hr:SlR X r) (he:PE X e te) (hl:PO X lo tl) (hu:PO X hi th):PE X (.Subscript e (.Slice lo hi none p2) pos) (tSl r te tl th):=by
 intro pins s σ H Q I h
 refine Subscript_ (thn (he pins s σ H _ I h) fun v s1 ⟨x,H1,I1,r1,q1⟩=>?_)
 refine wpAny_Slice (thn (hl pins s1 σ H1 _ I1 q1) fun vl s2 ⟨l,H2,I2,pl,q2⟩=>thn (hu pins s2 σ H2 _ I2 q2) fun vu s3 ⟨u,H3,I3,pu,q3⟩=>?_)
 rw [evalPart_none]
 refine wpAny_pure ?_
 have I4:Inv X pins σ H3 { s3 with heap:=s3.heap.push { cls:=.type "slice",data:=.fields #[vl,vu,.none] } }:=I3.kept (t':=s3.toks) fun b ob q=>Heap.get?_push_of_some _ q
 obtain ⟨T,id,hT,ht,hg⟩:=hr pins { s3 with heap:=s3.heap.push { cls:=.type "slice",data:=.fields #[vl,vu,.none] } } σ H3 x v vl vu l u s3.heap.objs.size Q I4 r1 (Heap.IsSliceOf.new ..) pl pu q3
 show wpAny (model X.prog X.w) X.A (subscriptTail e (.Slice lo hi none p2) v (.ref s3.heap.objs.size)) (EP X pins σ Q) X.xe { s3 with heap:=s3.heap.push { cls:=.type "slice",data:=.fields #[vl,vu,.none] } }
 exact tail_any (ops:=[.ref s3.heap.objs.size,v]) ht hT hg (by with_unfolding_all rfl)
noncomputable def iM (xs:List V) (lo hi:Option Int):List V:=(xs.drop (HT.sIx xs.length 0 lo)).take (HT.sIx xs.length xs.length hi - HT.sIx xs.length 0 lo)
theorem kC (xs:List V) (lo hi:Option Int):(iM xs lo hi).length≤xs.length:=by
 unfold iM
 rw [List.length_take,List.length_drop]
 omega
noncomputable def Ej (K:Frag):V→Option Int→Option Int→Hp→VK→Prop:=fun x lo hi H Q=>∃ a xs,x=.ref a∧SqT K H a xs ∧
 ¬ (HT.sIx xs.length 0 lo=0∧HT.sIx xs.length xs.length hi=xs.length)∧∀ p,H p=none→Q (.ref p) (upd H p (.tup (iM xs lo hi)))
theorem uC:SlR X (Ej X.K):=by
 intro pins s σ H x v vl vu lo hi sl Q I rx hs pl pu h
 obtain ⟨a,xs,rfl,hx,hw,q⟩:=h
 cases rx
 obtain ⟨its,r,ht,hz⟩:=I.tuple hx
 have hlen:its.toArray.size=xs.length:=by rw [List.size_toArray]; exact r.length.symm
 refine ⟨"tuple",_,PyProof.Rows.slot_tuple_getitem.lookup,ht.typeIs,?_⟩
 refine HT.getItem_tuple_cut ht hs pl pu (by rw [hlen]; exact hw) ?_ (by rw [hlen]; exact hz)
 rw [hlen]
 refine ⟨.ref s.heap.objs.size,_,I.laid (t':=s.toks) (o:=.tup (iM xs lo hi)) (fun b ob q=>Heap.get?_push_of_some _ q) (Nat.le_refl _) ?_,rfl,q _ (I.hok.fresh (Nat.le_refl _))⟩
 exact ⟨Nat.le_trans (kC xs lo hi) hz,_,(r.drop (HT.sIx xs.length 0 lo)).take (HT.sIx xs.length xs.length hi - HT.sIx xs.length 0 lo),IsTup.new _ _,_,Heap.get?_push_size _ rfl,rfl⟩
noncomputable def DA (K:Frag):R2:=fun x y H Q=>∃ a b xs ys,x=.ref a∧y=.ref b∧SqT K H a xs∧SqT K H b ys∧xs≠[]∧xs.length+ys.length≤sizeLine ∧
 (ys=[]→Q (.ref a) H)∧(ys≠[]→∀ p,H p=none→Q (.ref p) (upd H p (.tup (xs++ys))))
theorem bq.nil_iff {xs:List V} {us:List Value} (r:bq xs us):us=[]↔xs=[]:=by
 cases r with
 | nil=>simp
 | cons _ _=>simp
theorem fR:OpR X (binaryOp .Add) (DA X.K):=by
 intro pins s σ H x y v u Q I rx ry h
 obtain ⟨a,b,xs,ys,rfl,rfl,ha,hb,hx,hz,q1,q2⟩:=h
 cases rx
 cases ry
 obtain ⟨its,r1,p1,_⟩:=I.tuple ha
 obtain ⟨its2,r2,p2,_⟩:=I.tuple hb
 refine HT.cat_tup p1 p2 (fun z=>hx (r1.nil_iff.mp z)) (fun z=>⟨.ref a,H,I,rfl,q1 (r2.nil_iff.mp z)⟩) (fun z=>?_) (by rw [← r1.length,← r2.length]; exact hz)
 refine ⟨.ref s.heap.objs.size,_,I.laid (t':=s.toks) (o:=.tup (xs++ys)) (fun b ob q=>Heap.get?_push_of_some _ q) (Nat.le_refl _) ?_,rfl,q2 (fun w=>z (r2.nil_iff.mpr w)) _ (I.hok.fresh (Nat.le_refl _))⟩
 exact ⟨by rw [List.length_append]; exact hz,_,r1.append r2,IsTup.new _ _,_,Heap.get?_push_size _ rfl,rfl⟩
end
open PySem PySem.Spec PyProof.Rows
noncomputable def ixN (n:Nat) (i:Int):Option Nat:=if 0≤i then (if i<n then some i.toNat else none) else if -(n:Int)≤i then some (i+n).toNat else none
noncomputable def atI {α:Type} (xs:List α) (i:Int):Option α:=(ixN xs.length i).bind fun j=>xs[j]?
theorem yw {n:Nat} {i:Int} {j:Nat} (h:ixN n i=some j):seqIndex? i n=some j∧j<n∧-(n:Int)≤i∧i<n:=by
 unfold ixN at h
 by_cases h0:0≤i
 ·rw [if_pos h0] at h
  by_cases h1:i<n
  ·rw [if_pos h1] at h
   have e:i.toNat=j:=Option.some.inj h
   exact ⟨by rw [seqIndex_of h0 h1,e],by omega,by omega,h1⟩
  ·rw [if_neg h1] at h; cases h
 ·rw [if_neg h0] at h
  by_cases h1:-(n:Int)≤i
  ·rw [if_pos h1] at h
   have e:(i+n).toNat=j:=Option.some.inj h
   exact ⟨by rw [seqIndex_neg (by omega) h1,e],by omega,h1,by omega⟩
  ·rw [if_neg h1] at h; cases h
theorem ye {α:Type} {xs:List α} {i:Int} {v:α} (h:atI xs i=some v):∃ j,seqIndex? i xs.length=some j∧xs[j]?=some v∧j<xs.length∧-(xs.length:Int)≤i∧i<xs.length:=by
 unfold atI at h
 cases e:ixN xs.length i with
 | none=>rw [e] at h; cases h
 | some j =>
  rw [e] at h
  obtain ⟨h1,h2,h3,h4⟩:=yw e
  exact ⟨j,h1,h,h2,h3,h4⟩
theorem lh {α:Type} {xs:List α} {j:Nat} {v:α} (h:xs[j]?=some v):atI xs (j:Int)=some v:=by
 have hj:j<xs.length:=(List.getElem?_eq_some_iff.mp h).1
 have e:ixN xs.length (j:Int)=some j:=by
  unfold ixN
  rw [if_pos (by omega),if_pos (by omega)]; simp
 unfold atI; rw [e]; exact h
noncomputable def CD (b:Expr):Prop:=∀ o i,subscripted b false o i=operate [o,i] (getItem o i)
noncomputable def IxR (X:Cx) (r:R2):Prop :=
 ∀ (value slice:Expr) (pins:List (Addr×Obj)) (s:Shared) (σ:St) (H:Hp) (x y:V) (v u:Value) (Q:VK),Inv X pins σ H s→bu x v→bu y u→r x y H Q →
  subscripted slice false v u=operate [v,u] (getItem v u)→wpAny (model X.prog X.w) X.A (subscriptTail value slice v u) (EP X pins σ Q) X.xe s
noncomputable def MtR (X:Cx) (id:String) (r:V→List V→Hp→VK→Prop):Prop :=
 ∀ (pins:List (Addr×Obj)) (s:Shared) (σ:St) (H:Hp) (x:V) (xs:List V) (v:Value) (us:List Value) (Q:VK),Inv X pins σ H s→bu x v→bq xs us→r x xs H Q →
  wpAny (model X.prog X.w) X.A (call (.builtin id) (v::us)) (EP X pins σ Q) X.xe s
section
variable {X:Cx} {a b:Expr} {ta tb:TE} {pos:Pos}
theorem aA {r:R2} (hr:IxR X r) (ha:PE X a ta) (hb:PE X b tb) (hs:CD b):PE X (.Subscript a b pos) (tOp r ta tb):=by
 intro pins s σ H Q I h
 exact Subscript_ (Fs ha hb I h fun v u s2 x y H2 I2 rx ry q=>hr a b pins s2 σ H2 x y v u Q I2 rx ry q (hs _ _))
noncomputable def FT (K:Frag):R2:=fun x y H Q=>∃ p xs i v,x=.ref p∧y=.int i∧SqL K H p xs∧atI xs i=some v∧Q v H
noncomputable def Gi (K:Frag):R2:=fun x y H Q=>∃ p xs i v,x=.ref p∧y=.int i∧SqT K H p xs∧atI xs i=some v∧Q v H
theorem bf:IxR X (FT X.K):=by
 intro value slice pins s σ H x y v u Q I rx ry h hs
 obtain ⟨p,xs,i,z,rfl,rfl,hq,he,q⟩:=h
 cases rx
 obtain ⟨t,rfl⟩:=ry
 obtain ⟨its,r,pl,hz⟩:=I.list hq
 obtain ⟨j,h1,h2,h3,h4,h5⟩:=ye he
 obtain ⟨w,ew,rw'⟩:=r.get h2
 have hl:=r.length
 have hn:=kc
 have fin:EP X pins σ Q w s:=⟨z,H,I,rw',q⟩
 by_cases h0:0≤i
 ·have hj:i.toNat=j:=by
   rw [seqIndex_of h0 h5] at h1
   exact Option.some.inj h1
  exact item_listR pl.isList h0 (by omega) (by rw [hj]; simpa using ew) fin hs
 ·have hj:(i+(its.toArray.size:Int)).toNat=j:=by
   rw [seqIndex_neg (by omega) h4] at h1
   rw [List.size_toArray,← hl]
   exact Option.some.inj h1
  exact subscriptTail_builtinR (x:=w) pl.isList.typeIs slot_list_getitem.lookup
   (wpAny_getItem_list_neg (Q:=fun r s'=>r=w∧EP X pins σ Q r s') pl.isList (by omega) (by rw [List.size_toArray]<;>omega) (by omega) (by rw [hj]; simpa using ew) ⟨rfl,fin⟩) hs
theorem aI:IxR X (Gi X.K):=by
 intro value slice pins s σ H x y v u Q I rx ry h hs
 obtain ⟨p,xs,i,z,rfl,rfl,hq,he,q⟩:=h
 cases rx
 obtain ⟨t,rfl⟩:=ry
 obtain ⟨its,r,pl,hz⟩:=I.tuple hq
 obtain ⟨j,h1,h2,h3,h4,h5⟩:=ye he
 obtain ⟨w,ew,rw'⟩:=r.get h2
 have hl:=r.length
 have hn:=kc
 have fin:EP X pins σ Q w s:=⟨z,H,I,rw',q⟩
 exact subscriptTail_builtinR (x:=w) pl.typeIs slot_tuple_getitem.lookup
  (getItem_tuple (j:=j) (Q:=fun r s'=>r=w∧EP X pins σ Q r s') pl (by omega) (by omega) (by rw [List.size_toArray,← hl]; exact h1) (by simpa using ew) ⟨rfl,fin⟩) hs
theorem xC (its:List Value) (n j:Nat) (u:Value):Obj.mapSeq (·.setIfInBounds j u) { cls:=.type "list",data:=.seq its.toArray n }={ cls:=.type "list",data:=.seq (its.set j u).toArray n }:=by
 simp [Obj.mapSeq]
theorem Inv.lst {pins:List (Addr×Obj)} {σ:St} {H:Hp} {s:Shared} {p:Addr} {xs:List V} (I:Inv X pins σ H s) (h:H p=some (.lst xs)) :
  ∃ (its:List Value) (n:Nat),bq xs its∧s.heap.get? p=some { cls:=.type "list",data:=.seq its.toArray n }∧xs.length≤sizeLine:=by
 obtain ⟨z,its,n,r,e⟩:=I.hok p _ h
 exact ⟨its,n,r,e,z⟩
theorem Inv.lstUpd {pins:List (Addr×Obj)} {σ:St} {H:Hp} {s:Shared} {p:Addr} {xs ys:List V} {its its':List Value} {n n':Nat} {f:Obj→Obj} (I:Inv X pins σ H s) (h:H p=some (.lst xs))
  (ho:s.heap.get? p=some { cls:=.type "list",data:=.seq its.toArray n }) (hf:f { cls:=.type "list",data:=.seq its.toArray n }={ cls:=.type "list",data:=.seq its'.toArray n' }) (r:bq ys its') (hz:ys.length≤sizeLine) (t:Nat) :
  Inv X pins σ (upd H p (.lst ys)) { s with heap:=s.heap.update p f,toks:=t }:=by
 have e:(s.heap.update p f).get? p=some { cls:=.type "list",data:=.seq its'.toArray n' }:=by
  rw [Heap.get?_update_self f ho (by rw [hf]<;>rfl),hf]
 refine I.write (x:=p) (e:=p) (by rw [h]; trivial) (.inl rfl) (fun b u hb q=>(Heap.get?_update_other _ _ (Ne.symm hb)).trans q) ⟨_,e⟩ ?_
 exact ⟨hz,its',n',r,e⟩
noncomputable def FQ:V→V→V→Hp→(Hp→Prop)→Prop:=fun o i v H Q=>∃ p xs k j,o=.ref p∧i=.int k∧H p=some (.lst xs)∧ixN xs.length k=some j∧Q (upd H p (.lst (xs.set j v)))
theorem jo:Gz X FQ:=by
 intro pins s σ H o i v ov iv u Q I ro ri rv h
 obtain ⟨p,xs,k,j,rfl,rfl,hp,hj,q⟩:=h
 cases ro
 obtain ⟨t,rfl⟩:=ri
 obtain ⟨its,n,r,ho,hz⟩:=I.lst hp
 obtain ⟨h1,h2,h3,h4⟩:=yw hj
 have hl:=r.length
 have hn:=kc
 have I':Inv X pins σ (upd H p (.lst (xs.set j v))) { s with heap:=s.heap.update p (Obj.mapSeq (·.setIfInBounds j u)) } :=
  I.lstUpd hp ho (xC its n j u) (r.set rv j) (by rw [List.length_set]; exact hz) s.toks
 by_cases h0:0≤k
 ·have hk:k.toNat=j:=by
   rw [seqIndex_of h0 h4] at h1
   exact Option.some.inj h1
  exact PySem.W.ki_setAt ho h0 (by omega) (by rw [List.size_toArray,← hl]; exact h4) (by rw [hk]; exact ⟨_,I',q⟩)
 ·have hk:(k+(its.toArray.size:Int)).toNat=j:=by
   rw [seqIndex_neg (by omega) h3] at h1
   rw [List.size_toArray,← hl]
   exact Option.some.inj h1
  exact PySem.W.ki_setBack ho (by omega) (by rw [List.size_toArray,← hl]; exact h3) (by omega) (by rw [hk]; exact ⟨_,I',q⟩)
theorem qT (lo hi:Option Int) (n:Nat):(sliceBounds lo hi none n).1=((HT.sIx n 0 lo:Nat):Int)∧(sliceBounds lo hi none n).2.1=((HT.sIx n n hi:Nat):Int)∧(sliceBounds lo hi none n).2.2=1:=by
 refine ⟨?_,?_,rfl⟩
 ·cases lo with
  | none=>simp [sliceBounds,HT.sIx]
  | some i =>
   simp only [sliceBounds,HT.sIx,Option.getD_none,show (1:Int) > 0 by decide,if_true]
   by_cases h:i<0
   ·simp only [h,if_true]<;>omega
   ·simp only [h,if_false]<;>omega
 ·cases hi with
  | none=>simp [sliceBounds,HT.sIx]
  | some i =>
   simp only [sliceBounds,HT.sIx,Option.getD_none,show (1:Int) > 0 by decide,if_true]
   by_cases h:i<0
   ·simp only [h,if_true]<;>omega
   ·simp only [h,if_false]<;>omega
theorem nJ (its:List Value) (lo hi:Option Int):slicePick its.toArray lo hi none=((its.drop (HT.sIx its.length 0 lo)).take (HT.sIx its.length its.length hi - HT.sIx its.length 0 lo)).toArray:=by
 obtain ⟨h1,h2,h3⟩:=qT lo hi its.toArray.size
 unfold slicePick
 rw [h1,h2,h3]
 simp only [sliceRange_one,pick_run,List.size_toArray]<;>rfl
noncomputable def HV (K:Frag):V→Option Int→Option Int→Hp→VK→Prop:=fun x lo hi H Q=>∃ a xs,x=.ref a∧SqL K H a xs∧∀ p,H p=none→Q (.ref p) (upd H p (.lst (iM xs lo hi)))
theorem jr:SlR X (HV X.K):=by
 intro pins s σ H x v vl vu lo hi sl Q I rx hs pl pu h
 obtain ⟨a,xs,rfl,hx,q⟩:=h
 cases rx
 obtain ⟨its,r,ht,hz⟩:=I.list hx
 have hlen:=r.length
 refine ⟨"list",_,slot_list_getitem.lookup,ht.isList.typeIs,?_⟩
 refine wpAny_getItem_list_slice ht.isList hs pl pu .none (by simp) ?_ (by rw [List.size_toArray]<;>omega)
 rw [nJ,← hlen]
 refine ⟨.ref s.heap.objs.size,_,I.laid (t':=s.toks) (o:=.lst (iM xs lo hi)) (fun b ob q=>Heap.get?_push_of_some _ q) (Nat.le_refl _) ?_,rfl,q _ (I.hok.fresh (Nat.le_refl _))⟩
 exact ⟨Nat.le_trans (kC xs lo hi) hz,_,0,(r.drop (HT.sIx xs.length 0 lo)).take (HT.sIx xs.length xs.length hi - HT.sIx xs.length 0 lo),Heap.get?_push_size _ rfl⟩
noncomputable def gy:V→Bool
 | .non=>true
 | .bl _=>true
 | .int _=>true
 | .str _=>true
 | _=>false
noncomputable def eqV:V→V→Bool
 | .non,.non=>true
 | .bl a,.bl b=>a==b
 | .bl a,.int b=>(if a then 1 else 0)==b
 | .int a,.bl b=>a==(if b then 1 else 0)
 | .int a,.int b=>a==b
 | .str a,.str b=>a==b
 | _,_=>false
theorem ET {A:Around} {s:Shared} {y x:V} {u v:Value} (ry:bu y u) (rx:bu x v) (fy:gy y=true) (fx:gy x=true):SeqAt.EqAt A s u v (eqV y x):=by
 cases y with
 | non =>
  cases ry
  cases x with
  | non=>cases rx; exact SeqAt.EqAt.same _
  | bl b=>cases rx; exact SeqAt.EqAt.none_bool b
  | int b=>obtain ⟨t,rfl⟩:=rx; exact SeqAt.EqAt.none_int b t
  | str b=>obtain ⟨t,rfl⟩:=rx; exact SeqAt.EqAt.none_str b t
  | _=>exact absurd (show false=true from fx) Bool.false_ne_true
 | bl a =>
  cases ry
  cases x with
  | non=>cases rx; exact SeqAt.EqAt.bool_none a
  | bl b=>cases rx; exact SeqAt.EqAt.bool_bool a b
  | int b=>obtain ⟨t,rfl⟩:=rx; exact SeqAt.EqAt.bool_int a b t
  | str b=>obtain ⟨t,rfl⟩:=rx; exact SeqAt.EqAt.bool_str a b t
  | _=>exact absurd (show false=true from fx) Bool.false_ne_true
 | int a =>
  obtain ⟨t',rfl⟩:=ry
  cases x with
  | non=>cases rx; exact SeqAt.EqAt.int_none a t'
  | bl b=>cases rx; exact SeqAt.EqAt.int_bool a t' b
  | int b=>obtain ⟨t,rfl⟩:=rx; exact SeqAt.EqAt.int_int a t' b t
  | str b=>obtain ⟨t,rfl⟩:=rx; exact SeqAt.EqAt.int_str a t' b t
  | _=>exact absurd (show false=true from fx) Bool.false_ne_true
 | str a =>
  obtain ⟨t',rfl⟩:=ry
  cases x with
  | non=>cases rx; exact SeqAt.EqAt.str_none a t'
  | bl b=>cases rx; exact SeqAt.EqAt.str_bool a t' b
  | int b=>obtain ⟨t,rfl⟩:=rx; exact SeqAt.EqAt.str_int a t' b t
  | str b=>obtain ⟨t,rfl⟩:=rx; exact SeqAt.EqAt.str_str a t' b t
  | _=>exact absurd (show false=true from fx) Bool.false_ne_true
 | _=>exact absurd (show false=true from fy) Bool.false_ne_true
noncomputable def eqU (x:V) (u:Value):Bool:=match u with
 | .none=>eqV .non x
 | .bool b=>eqV (.bl b) x
 | .int i _=>eqV (.int i) x
 | .str z _=>eqV (.str z) x
 | _=>false
theorem Bl {x y:V} {u:Value} (r:bu y u) (f:gy y=true):eqU x u=eqV y x:=by
 cases y with
 | non=>cases r; rfl
 | bl b=>cases r; rfl
 | int i=>obtain ⟨t,rfl⟩:=r; rfl
 | str z=>obtain ⟨t,rfl⟩:=r; rfl
 | _=>exact absurd (show false=true from f) Bool.false_ne_true
theorem jF {x:V}:∀ {xs:List V} {us:List Value},bq xs us→xs.all gy=true→us.any (eqU x)=xs.any fun y=>eqV y x
 | _,_,.nil,_=>rfl
 | y::xs,u::us,.cons r t,f=>by
  rw [List.all_cons,Bool.and_eq_true] at f
  rw [List.any_cons,List.any_cons,Bl r f.1,jF t f.2]
theorem ik {A:Around} {s:Shared} {x:V} {v:Value} (rx:bu x v) (fx:gy x=true):∀ {xs:List V} {us:List Value},bq xs us→xs.all gy=true→∀ u∈us,SeqAt.EqAt A s u v (eqU x u)
 | _,_,.nil,_=>fun u hu=>by cases hu
 | y::xs,u::us,.cons r t,f=>fun u' hu=>by
  rw [List.all_cons,Bool.and_eq_true] at f
  rcases List.mem_cons.mp hu with rfl | hu
  ·rw [Bl r f.1]; exact ET r rx f.1 fx
  ·exact ik rx fx t f.2 u' hu
noncomputable def inV (x:V) (xs:List V):Bool:=xs.any fun y=>eqV y x
noncomputable def rIn (K:Frag) (neg:Bool):R2:=fun x y H Q=>∃ p xs,y=.ref p∧(SqL K H p xs∨SqT K H p xs)∧gy x=true∧xs.all gy=true∧Q (.bl (if neg then !inV x xs else inV x xs)) H
theorem cN:OpR X (compareOp .In) (rIn X.K false):=by
 intro pins s σ H x y v u Q I rx ry h
 obtain ⟨p,xs,rfl,hq,fx,fs,q⟩:=h
 cases ry
 rcases hq with hq | hq
 ·obtain ⟨its,r,pl,hz⟩:=I.list hq
  refine SeqAt.in_listAt (eqU x) pl.isList (fun w hw=>ik rx fx r fs w (by simpa using hw)) ⟨.bl _,H,I,rfl,?_⟩
  rw [show its.toArray.any (eqU x)=its.any (eqU x) by simp,jF r fs]
  exact q
 ·obtain ⟨its,r,pl,hz⟩:=I.tuple hq
  refine SeqAt.in_tupleAt (eqU x) pl (fun w hw=>ik rx fx r fs w (by simpa using hw)) ⟨.bl _,H,I,rfl,?_⟩
  rw [show its.toArray.any (eqU x)=its.any (eqU x) by simp,jF r fs]
  exact q
theorem jB:OpR X (compareOp .NotIn) (rIn X.K true):=by
 intro pins s σ H x y v u Q I rx ry h
 obtain ⟨p,xs,rfl,hq,fx,fs,q⟩:=h
 cases ry
 rcases hq with hq | hq
 ·obtain ⟨its,r,pl,hz⟩:=I.list hq
  refine SeqAt.notIn_listAt (eqU x) pl.isList (fun w hw=>ik rx fx r fs w (by simpa using hw)) ⟨.bl _,H,I,rfl,?_⟩
  rw [show its.toArray.any (eqU x)=its.any (eqU x) by simp,jF r fs]
  exact q
 ·obtain ⟨its,r,pl,hz⟩:=I.tuple hq
  refine SeqAt.notIn_tupleAt (eqU x) pl (fun w hw=>ik rx fx r fs w (by simpa using hw)) ⟨.bl _,H,I,rfl,?_⟩
  rw [show its.toArray.any (eqU x)=its.any (eqU x) by simp,jF r fs]
  exact q
theorem aU:eX X (.builtin "len") (fun xs H Q=>∃ p ys,xs=[.ref p]∧(SqL X.K H p ys∨SqT X.K H p ys)∧Q (.int ys.length) H):=by
 intro pins s σ H xs us Q I r h
 obtain ⟨p,ys,rfl,hq,q⟩:=h
 obtain ⟨u,rfl,rx⟩:=eP r
 cases rx
 have hn:=kc
 rcases hq with hq | hq
 ·obtain ⟨its,r',pl,hz⟩:=I.list hq
  have hlen:=r'.length
  exact Calls.call_len_list pl.isList (by simp only [List.size_toArray]<;>omega) ⟨.int ys.length,H,I.tok _,⟨s.toks+1,by rw [List.size_toArray,hlen]⟩,q⟩
 ·obtain ⟨its,r',pl,hz⟩:=I.tuple hq
  have hlen:=r'.length
  exact len_tuple pl (by simp only [List.size_toArray]<;>omega) ⟨.int ys.length,H,I.tok _,⟨s.toks+1,by rw [List.size_toArray,hlen]⟩,q⟩
theorem jL:eX X (.builtin "len") (fun xs H Q=>∃ z,xs=[.str z]∧z.length≤sizeLine∧Q (.int z.length) H):=by
 intro pins s σ H xs us Q I r h
 obtain ⟨z,rfl,hz,q⟩:=h
 obtain ⟨u,rfl,t,rfl⟩:=eP r
 have hn:=kc
 exact len_str (by omega) ⟨.int z.length,H,I.tok _,⟨_,rfl⟩,q⟩
theorem gc:eX X (.type "list") (fun xs H Q=>∃ p ys,xs=[.ref p]∧(SqL X.K H p ys∨SqT X.K H p ys)∧∀ l,H l=none→Q (.ref l) (upd H l (.lst ys))):=by
 intro pins s σ H xs us Q I r h
 obtain ⟨p,ys,rfl,hq,q⟩:=h
 obtain ⟨u,rfl,rx⟩:=eP r
 cases rx
 have fin:∀ (its:List Value),bq ys its→ys.length≤sizeLine→∀ (h':Heap) (c':Nat),(∀ b o',s.heap.get? b=some o'→h'.get? b=some o') →
   h'.get? s.heap.objs.size=some { cls:=.type "list",dict:=none,data:=.seq its.toArray c',slots:=#[] }→EP X pins σ Q (.ref s.heap.objs.size) { s with heap:=h' }:=fun its r' hz h' c' kp e =>
  ⟨.ref s.heap.objs.size,_,I.laid (t':=s.toks) kp (Nat.le_refl _) (show bZ X.prog X.w _ h' _ (.lst ys) from ⟨hz,its,c',r',e⟩),rfl,q _ (I.hok.fresh (Nat.le_refl _))⟩
 rcases hq with hq | hq
 ·obtain ⟨its,r',pl,hz⟩:=I.list hq
  have hlen:=r'.length
  obtain ⟨o,ho,hc,n,hd⟩:=pl.isList
  exact call_list_seq p (.inl rfl) ho hc hd (fun h' c' kp e=>fin its r' hz h' c' kp e) (by simp only [List.size_toArray]<;>omega)
 ·obtain ⟨its,r',pl,hz⟩:=I.tuple hq
  have hlen:=r'.length
  obtain ⟨o,ho,hc,n,hd⟩:=pl
  exact call_list_seq p (.inr rfl) ho hc hd (fun h' c' kp e=>fin its r' hz h' c' kp e) (by simp only [List.size_toArray]<;>omega)
theorem bF:eX X (.type "tuple") (fun xs H Q=>∃ p ys,xs=[.ref p]∧((SqL X.K H p ys∧∀ l,H l=none→Q (.ref l) (upd H l (.tup ys)))∨(SqT X.K H p ys∧Q (.ref p) H))):=by
 intro pins s σ H xs us Q I r h
 obtain ⟨p,ys,rfl,h⟩:=h
 obtain ⟨u,rfl,rx⟩:=eP r
 cases rx
 rcases h with ⟨hq,q⟩ | ⟨hq,q⟩
 ·obtain ⟨its,r',pl,hz⟩:=I.list hq
  have hlen:=r'.length
  refine call_tuple_list pl.isList (fun h' kp=>?_) (by simp only [List.size_toArray]<;>omega)
  have I1:Inv X pins σ H { s with heap:=h' }:=I.kept (t':=s.toks) kp
  have I2:Inv X pins σ (upd H h'.objs.size (.tup ys)) { s with heap:=h'.push { cls:=.type "tuple",data:=.seq its.toArray } } :=
   I1.laid (t':=s.toks) (fun b o e=>Heap.get?_push_of_some _ e) (Nat.le_refl _) (show bZ X.prog X.w _ _ _ (.tup ys) from ⟨hz,its,r',IsTup.new _ _,_,Heap.get?_push_size _ rfl,rfl⟩)
  exact ⟨.ref h'.objs.size,_,I2,rfl,q _ (I1.hok.fresh (Nat.le_refl _))⟩
 ·obtain ⟨its,r',pl,hz⟩:=I.tuple hq
  exact call_tuple_same pl ⟨.ref p,H,I,rfl,q⟩
noncomputable def tyV (K:Frag) (T:String) (x:V) (H:Hp):Prop:=match x with
 | .str _=>T = "str"
 | .int _=>T = "int"
 | .ref p=>(T = "list"∧∃ xs,SqL K H p xs)∨(T = "tuple"∧∃ o,K.lookup p=some o∧o.cls=.type "tuple"∧o.dict=none) ∨
   (T = "dict"∧((∃ kvs,H p=some (.dK kvs))∨∃ kvs,H p=some (.dT kvs)))∨(T = "set"∧∃ S n,H p=some (.set S n))
 | _=>False
theorem BC {pins:List (Addr×Obj)} {σ:St} {H:Hp} {s:Shared} {T:String} {x:V} {v:Value} (I:Inv X pins σ H s) (r:bu x v) (ty:tyV X.K T x H) :
  s.TypeIs v T∧∀ a,v=.ref a→∃ ob,s.heap.get? a=some ob∧ob.dict=none:=by
 cases x with
 | str z =>
  obtain ⟨t,rfl⟩:=r
  cases (show T = "str" from ty)
  exact ⟨typeIs_str s z t,fun _ e=>nomatch e⟩
 | int i =>
  obtain ⟨t,rfl⟩:=r
  cases (show T = "int" from ty)
  exact ⟨typeIs_int s i t,fun _ e=>nomatch e⟩
 | ref p =>
  cases r
  rcases ty with ⟨rfl,xs,hq⟩ | ⟨rfl,o,hk,hc,hd⟩ | ⟨rfl,hk⟩ | ⟨rfl,S,n,hk⟩
  ·obtain ⟨its,_,pl,_⟩:=I.list hq
   refine ⟨pl.isList.typeIs,fun a e=>?_⟩
   cases e
   obtain ⟨o,n,e,c,hd,_⟩:=pl
   exact ⟨o,e,hd⟩
  ·refine ⟨⟨o,I.kIn p o hk,hc⟩,fun a e=>?_⟩
   cases e
   exact ⟨o,I.kIn _ o hk,hd⟩
  ·have z:∃ o,s.heap.get? p=some o∧o.ExactDict:=by
    rcases hk with ⟨kvs,hk⟩ | ⟨kvs,hk⟩
    ·obtain ⟨_,_,_,_,o,_,_,e,ex,_⟩:=I.hok p _ hk
     exact ⟨o,e,ex⟩
    ·obtain ⟨_,_,_,_,o,_,_,e,ex,_⟩:=I.hok p _ hk
     exact ⟨o,e,ex⟩
   obtain ⟨o,e,ex⟩:=z
   refine ⟨⟨o,e,ex.1⟩,fun a e2=>?_⟩
   cases e2
   exact ⟨o,e,ex.2.1⟩
  ·obtain ⟨o,_,_,_,e,ex,_⟩:=I.hok p _ hk
   refine ⟨⟨o,e,ex.1⟩,fun a e2=>?_⟩
   cases e2
   exact ⟨o,e,ex.2.1⟩
 | _=>exact False.elim ty
noncomputable def HX (K:Frag) (T:String) (r:V→List V→Hp→VK→Prop) (to:TE):TE:=fun σ H Q=>to σ H fun x H1=>tyV K T x H1∧r x [] H1 Q
noncomputable def tBM (K:Frag) (T:String) (r:V→List V→Hp→VK→Prop) (to:TE) (t:TA):TE:=fun σ H Q=>to σ H fun x H1=>tyV K T x H1∧t σ H1 fun xs H2=>r x xs H2 Q
variable {o e:Expr} {es:List Expr} {to:TE} {t:TA} {name:Str} {apos cpos:Pos} {T id:String} {r:V→List V→Hp→VK→Prop}
theorem mK (pa:PlainAttrs T) (slot:Slot T name id) (hty:typeOf (.builtin id)=pure (.type "method_descriptor")) (hm:MtR X id r) (ho:PE X o to)
  (hbase:attributeBase o name X.env (eval o X.env)=eval o X.env:=by rfl) (hline:(apos.endLine==cpos.line)=true:=by rfl):PE X (.Call (.Attribute o name apos) [] [] cpos) (HX X.K T r to):=by
 intro pins s σ H Q I h
 refine wpAny_Call_method0_late hbase hline (thn (ho pins s σ H _ I h) fun v s1 ⟨x,H1,I1,r1,ty,q1⟩=>?_)
 obtain ⟨h1,h2⟩:=BC I1 r1 ty
 exact ⟨T,id,pa,slot,hty,h1,h2,Calls.callWith_builtin rfl (PySem.evalArgs_none (hm pins s1 σ H1 x [] v [] Q I1 r1 .nil q1))⟩
theorem fG (pa:PlainAttrs T) (slot:Slot T name id) (hty:typeOf (.builtin id)=pure (.type "method_descriptor")) (hm:MtR X id r) (ho:PE X o to) (ha:PA X (e::es) t)
  (hbase:attributeBase o name X.env (eval o X.env)=eval o X.env:=by rfl)
  (hfew:((backTo cpos (starEach (e::es) X.env)).all (fun x=>!x.1)&&(backToKw cpos (keywordEach [] X.env)).all (fun x=>x.1.isSome)
  &&decide ((e::es).length+([]:List Keyword).length+(if ([]:List Keyword).isEmpty then 0 else 1)<30))=true:=by exact du rfl rfl)
  (hline:(apos.endLine==cpos.line)=true:=by rfl) (hs:starEach (e::es) X.env=(false,eval e X.env)::starEach es X.env:=by exact ac rfl) (hplain:(backTo cpos (starEach es X.env)).any (·.1)=false:=by exact aj rfl) :
  PE X (.Call (.Attribute o name apos) (e::es) [] cpos) (tBM X.K T r to t):=by
 intro pins s σ H Q I h
 refine wpAny_Call_method_late hbase hfew hline rfl (thn (ho pins s σ H _ I h) fun v s1 ⟨x,H1,I1,r1,ty,q1⟩=>?_)
 obtain ⟨h1,h2⟩:=BC I1 r1 ty
 refine ⟨T,id,pa,slot,hty,h1,h2,?_⟩
 have hA:=ha cpos pins s1 σ H1 _ I1 q1
 rw [hs] at hA ⊢
 refine Calls.callWith_builtin (by show (false||(backTo cpos (starEach es X.env)).any (·.1))=false; rw [hplain]<;>rfl) (Calls.evalArgs_plain ?_)
 exact thn hA fun us s2 ⟨vs,H2,I2,r2,q2⟩=>hm pins s2 σ H2 x vs v us Q I2 r1 r2 q2
end
open PySem PySem.Spec PyProof.Rows
noncomputable def MtM (X:Cx) (id:String) (r:V→List V→Hp→VK→Prop):Prop :=
 ∀ (pins:List (Addr×Obj)) (s:Shared) (σ:St) (H:Hp) (x:V) (xs:List V) (v:Value) (us:List Value) (Q:VK),Inv X pins σ H s→bu x v→bq xs us→r x xs H Q →
  wpAny (model X.prog X.w) X.A (call (.builtin id) (v::us)) (EP X pins σ Q) X.xe s
theorem bq.one:∀ {x:V} {us:List Value},bq [x] us→∃ u,us=[u]∧bu x u
 | _,_,.cons r .nil=>⟨_,rfl,r⟩
theorem bq.zero:∀ {us:List Value},bq [] us→us=[]
 | _,.nil=>rfl
theorem bq.dropLast {xs:List V} {us:List Value} (h:bq xs us):bq xs.dropLast us.dropLast:=by
 induction h with
 | nil=>exact .nil
 | cons r t ih =>
  cases t with
  | nil=>exact .nil
  | cons q t'=>exact .cons r ih
theorem va {α:Type} (l:List α):l.eraseIdx (l.length - 1)=l.dropLast:=by
 induction l with
 | nil=>rfl
 | cons a r ih =>
  cases r with
  | nil=>rfl
  | cons b r =>
   have e:(a::b::r).length - 1=((b::r).length - 1)+1:=by
    have h1:(a::b::r).length=r.length+2:=rfl
    have h2:(b::r).length=r.length+1:=rfl
    omega
   rw [e,List.eraseIdx_cons_succ,ih]
   all_goals rfl
section
variable {X:Cx} {pins:List (Addr×Obj)} {σ:St} {H:Hp} {s:Shared} {l b:Addr} {xs ys zs:List V}
theorem Inv.lset {its its':List Value} {n:Nat} {f:Array Value→Array Value} {t':Nat} (I:Inv X pins σ H s) (hH:H l=some (.lst xs))
  (e:s.heap.get? l=some { cls:=.type "list",data:=.seq its.toArray n }) (hf:f its.toArray=its'.toArray) (hv:bq ys its') (hz:ys.length≤sizeLine) :
  Inv X pins σ (upd H l (.lst ys)) { s with heap:=s.heap.update l (Obj.mapSeq f),toks:=t' }:=by
 have q:=PySem.IsL.update e f
 rw [hf] at q
 refine I.write (x:=l) (e:=l) (by rw [hH]; exact trivial) (.inl rfl) (fun b' u hb hu=>(Heap.get?_update_other s.heap (Obj.mapSeq f) (Ne.symm hb)).trans hu) ⟨_,q⟩ ?_
 exact ⟨hz,its',_,hv,q⟩
theorem Inv.lnew {its:List Value} {t':Nat} (I:Inv X pins σ H s) (hv:bq ys its) (hz:ys.length≤sizeLine) :
  Inv X pins σ (upd H s.heap.objs.size (.lst ys)) { s with heap:=s.heap.push { cls:=.type "list",data:=.seq its.toArray },toks:=t' } :=
 I.laid (fun _ _ q=>Heap.get?_push_of_some _ q) (Nat.le_refl _) ⟨hz,its,0,hv,Heap.get?_push_size _ rfl⟩
theorem Inv.fresh (I:Inv X pins σ H s):H s.heap.objs.size=none:=I.hok.fresh (Nat.le_refl _)
theorem Inv.lstM (I:Inv X pins σ H s) (hH:H l=some (.lst xs)):xs.length≤sizeLine∧∃ (its:List Value) (n:Nat),bq xs its∧xs.length=its.length∧s.heap.get? l=some { cls:=.type "list",data:=.seq its.toArray n }:=by
 obtain ⟨z,its,n,r,e⟩:=I.hok l _ hH
 exact ⟨z,its,n,r,r.length,e⟩
theorem BO {n:Nat} (h:n≤sizeLine):Builtin.List.listTooLong n=false:=by
 unfold Builtin.List.listTooLong
 exact decide_eq_false (by omega)
end
section
variable {X:Cx}
noncomputable def Dx:V→List V→Hp→VK→Prop:=fun x vs H Q=>∃ l xs y,x=.ref l∧vs=[y]∧H l=some (.lst xs)∧xs.length<sizeLine∧Q .non (upd H l (.lst (xs++[y])))
theorem dY:MtM X "list.append" Dx:=by
 intro pins s σ H x vs v us Q I rx rv h
 obtain ⟨l,xs,y,rfl,rfl,hH,hz,q⟩:=h
 cases rx
 obtain ⟨u,rfl,ru⟩:=rv.one
 obtain ⟨z,its,n,r,hl,e⟩:=I.lstM hH
 refine call_meets F.slot_list_append ⟨_,e,rfl⟩ F.entry_list_append (F.args_list_append_2 _ _) (PySem.list_append l its.toArray n u (by rw [List.size_toArray]; omega)) ⟨e,?_⟩
 refine ⟨.non,_,I.lset (its':=its++[u]) hH e (by simp) (r.append (.cons ru .nil)) ?_,rfl,q⟩
 rw [List.length_append,List.length_singleton]
 omega
noncomputable def yx:V→List V→Hp→VK→Prop:=fun x vs H Q=>∃ l b xs zs,x=.ref l∧vs=[.ref b]∧H l=some (.lst xs)∧H b=some (.lst zs)∧xs.length+zs.length≤sizeLine∧Q .non (upd H l (.lst (xs++zs)))
theorem dA:MtM X "list.extend" yx:=by
 intro pins s σ H x vs v us Q I rx rv h
 obtain ⟨l,b,xs,zs,rfl,rfl,hH,hB,hz,q⟩:=h
 cases rx
 obtain ⟨u,rfl,ru⟩:=rv.one
 cases ru
 obtain ⟨z,its,n,r,hl,e⟩:=I.lstM hH
 obtain ⟨z2,its2,n2,r2,hl2,e2⟩:=I.lstM hB
 have hsz:its.toArray.size+its2.toArray.size≤sizeLine:=by rw [List.size_toArray,List.size_toArray]; omega
 have hlong:¬ (!its.toArray.isEmpty&&Builtin.List.listTooLong (its.toArray.size+its2.toArray.size))=true:=by
  rw [BO hsz,Bool.and_false]
  exact Bool.false_ne_true
 refine call_meets F.slot_list_extend ⟨_,e,rfl⟩ F.entry_list_extend (F.args_list_extend_2 _ _)
  (AutoSeq1.list_extend_list_list_0 l its.toArray n b its2.toArray n2 hlong (by rw [List.size_toArray]; omega) (by omega)) ⟨e,e2,?_⟩
 refine ⟨.non,_,I.lset (its':=its++its2) hH e (by simp) (r.append r2) ?_,rfl,q⟩
 rw [List.length_append]
 omega
noncomputable def Hl:V→List V→Hp→VK→Prop:=fun x vs H Q=>∃ l xs y,x=.ref l∧vs=[]∧H l=some (.lst xs)∧xs[xs.length - 1]?=some y∧Q y (upd H l (.lst xs.dropLast))
theorem lX:MtM X "list.pop" Hl:=by
 intro pins s σ H x vs v us Q I rx rv h
 obtain ⟨l,xs,y,rfl,rfl,hH,hy,q⟩:=h
 cases rx
 have hus:=rv.zero
 subst hus
 obtain ⟨z,its,n,r,hl,e⟩:=I.lstM hH
 obtain ⟨u,hu,ru⟩:=r.get hy
 have hy':its.toArray[its.toArray.size - 1]?=some u:=by
  show its.toArray[its.length - 1]?=some u
  rw [← Array.getElem?_toList,← hl]
  exact hu
 refine call_meets F.slot_list_pop ⟨_,e,rfl⟩ F.entry_list_pop (F.args_list_pop_1 _) (MeetsSeq.list_pop_last l its.toArray n u hy' (by rw [List.size_toArray]; omega)) ⟨e,?_⟩
 refine ⟨y,_,I.lset (its':=its.dropLast) hH e ?_ r.dropLast ?_,ru,q⟩
 ·show its.toArray.eraseIdxIfInBounds (its.toArray.size - 1)=its.dropLast.toArray
  rw [List.size_toArray,List.eraseIdxIfInBounds_toArray,va]
 ·rw [List.length_dropLast]
  omega
noncomputable def HM:R2:=fun x y H Q=>∃ l b xs zs,x=.ref l∧y=.ref b∧H l=some (.lst xs)∧H b=some (.lst zs)∧xs.length+zs.length≤sizeLine∧∀ p,H p=none→Q (.ref p) (upd H p (.lst (xs++zs)))
theorem Fz:OpR X (binaryOp .Add) HM:=by
 intro pins s σ H x y v u Q I rx ry h
 obtain ⟨l,b,xs,zs,rfl,rfl,hH,hB,hz,q⟩:=h
 cases rx
 cases ry
 obtain ⟨z,its,n,r,hl,e⟩:=I.lstM hH
 obtain ⟨z2,its2,n2,r2,hl2,e2⟩:=I.lstM hB
 refine PySem.P.add_list e e2 ?_ (by rw [List.size_toArray,List.size_toArray]; omega)
 have ea:its.toArray++its2.toArray=(its++its2).toArray:=by simp
 rw [ea]
 exact ⟨.ref _,_,I.lnew (t':=s.toks) (r.append r2) (by rw [List.length_append]; omega),rfl,q _ I.fresh⟩
end
section
variable {prog:Program} {w:World} {A:Around} {E:Value→Shared→Prop} {s:Shared}
end
section
variable {X:Cx}
end
end L2
namespace Att
open PySem PySem.W PySem.Calls PyProof.Rows
theorem kQ {P:Params} {h:Heap}:∀ (ns:List Int) (vs:List Value),WellAll P h vs (ns.map WData.int)→IntsAre vs ns:=by
 intro ns
 induction ns with
 | nil =>
  intro vs w
  rw [List.map_nil] at w
  cases w
  exact .nil
 | cons n ns ih =>
  intro vs w
  rw [List.map_cons] at w
  cases w with
  | cons a b =>
   cases a
   exact .cons _ _ (ih _ b)
theorem zG {l:OpenLaw} {n:Nat} (hn:l.most=some n) {P:Params} {h:Heap} {args:List WData} {vals:List Value}
  (hpre:l.row.toRowW.claim.pre args=true) (hwl:WellAll P h vals args) :
  ∃ a vs ns,vals=[Value.ref a]∧args=[WData.list (ns.map WData.int)]∧h.get? a=some { cls:=.type "list",data:=.seq vs.toArray }∧IntsAre vs ns∧ns.length≤n:=by
 have hsh:WShape.hasAll [] args [.list .int]=true:=(pre_splitW hpre).1
 have hc:l.pre.holds [] { args:=args }=true:=(pre_splitW hpre).2
 obtain ⟨d,r,rfl,h1,h2⟩:=hasAllW_cons hsh
 obtain rfl:=hasAllW_nil h2
 obtain ⟨xs,rfl,h3⟩:=hasW_list h1
 obtain ⟨ns,rfl⟩:=items_int h3
 have hlen:ns.length≤n:=by
  unfold OpenLaw.pre at hc
  have h4:(WTm.not (.lt (.lit (.int (n:Int))) (.len (.arg 0)))).holds [] { args:=[.list (ns.map .int)] }=true:=by
   have h4:=(holds_andW hc).1
   rw [hn] at h4
   exact h4
  have h5:=condW_of h4 (w_not (w_lt w_lit (w_len_list (w_arg rfl))))
  rw [List.length_map] at h5
  refine Nat.le_of_not_lt fun q=>?_
  have q':(n:Int)<((ns.length:Nat):Int):=by omega
  first
   | (rw [decide_eq_true q'] at h5; exact absurd h5 (by decide))
   | (simp at h5; omega)
 cases hwl with
 | cons w1 w2 =>
  cases w2
  cases w1 with
  | list ho hall=>exact ⟨_,_,ns,rfl,rfl,ho,kQ ns _ hall,hlen⟩
theorem ze (l:OpenLaw) (args:List WData):l.row.toRowW.claim.post args (.bool true) args=true :=
 postW_of (r:=l.row.toRowW) (X:=(true==true))
  (show WShape.has [] (.bool true) .bool=true by first | rfl | decide | simp [WShape.has,WShape.arms,WShape.armsAll])
  (show (WTm.eq .res (.lit (.bool true))).value [] { args:=args,res:=some (.bool true),after:=args }=some (.bool (true==true)) from w_eq_bool (w_res rfl) w_lit) rfl
theorem attach_call {l:OpenLaw} {n:Nat} {q:Program} {loose:List Str} {XP:(Str→Option Value)→Heap→Prop} {YP:World→Heap→Prop} {d:DefRec}
  (hn:l.most=some n) (hdf:d.params.defaults=[])
  (call:∀ (w:World) (s₀ s₁:Shared) (mg mb:Str→Option Value) (fa:Addr) (o:Obj) (pm cd doc:Value) (a:Addr) (vs:List Value) (ns:List Int),
   Ground q loose [] XP w s₀ mg mb s₁.heap→YP w s₁.heap →
   s₁.heap.get? fa=some o→o.data=.func (docDef d.name d.params d.body d.scope pm cd doc)→s₁.heap.CodeRec cd d.name→mg d.name=some (.ref fa) →
   s₁.heap.get? a=some { cls:=.type "list",data:=.seq vs.toArray }→IntsAre vs ns→ns.length≤n→s₁.gens=#[] →
   codeAny (model l.prog w) callerA (.call (.ref fa) ⟨[.ref a],[]⟩) (fun r s'=>r=.ok (.ret (.bool true))∧OldK s₁.heap s'.heap∧s'.os=s₁.os∧AllBare s'.gens) s₁) :
  WalkO q loose XP YP l.row.toRowW d [] (fun f vs=>PySem.call f vs):=by
 intro w s₀ s₁ mg mb G Y fa o pm cd doc dV kV ho hd hcd hD hmg hg args vals as hpre hlay hrd hwl hlo
 obtain rfl:dV=.none:=Dflts.none hD hdf
 obtain rfl:kV=.none:=Dflts.noKw hD
 obtain ⟨a,vs,ns,rfl,rfl,hobj,hints,hlen⟩:=zG hn hpre hwl
 refine enter_call (codeAny_mono (call w s₀ s₁ mg mb fa o pm cd doc a vs ns G Y ho (fd_plain hd) hcd hmg hobj hints hlen hg) fun r s' hq=>?_)
 obtain ⟨rfl,h2,h3,h4⟩:=hq
 exact ⟨.inl ⟨.bool true,.bool true,[],rfl,fun _=>rfl,.bool true,ze l _,fun _=>⟨List.Pairwise.nil,fun _ hm=>(nomatch hm)⟩⟩,h2,h3,h4⟩
section
variable {prog:Program} {w:World} {A:Around} {E:Value→Shared→Prop} {s:Shared} {K:Frag}
end
end Att
namespace L2
open PySem PySem.Spec PyProof.Rows
theorem oo:∀ {vs:List Value} {ns:List Int},IntsAre vs ns→bq (ns.map V.int) vs
 | _,_,.nil=>.nil
 | _,_,.cons n t h=>.cons ⟨t,rfl⟩ (oo h)
noncomputable def Fa (H:Hp):Prop:=∀ b,H b=none∨∃ o xs,H b=some (.frz o (.lst xs))
theorem AD {P:Program} {w:World} {K:Frag} {mg mb:Str→Option Value} {CX:CXT} {k:Nat} {fa a:Addr} {fd:FuncData} {x:Str} {sp:Sp} {s₁:Shared} {vs:List Value} {ns:List Int}
  (KX:K.In s₁.heap) (hns:s₁.heap.Ns mainGlobals mg) (hb:s₁.heap.Ns builtinsNs mb) (hbb:∀ x:Str,x ≠ "__name__"→mb x=bootBuiltins x) (hlim:s₁.heap.NoLimit) (hg:s₁.gens=#[])
  (ha:s₁.heap.get? a=some { cls:=.type "list",data:=.seq vs.toArray }) (hi:IntsAre vs ns) (hl:ns.length≤sizeLine) (hr:ft k callerA)
  (F:∀ base:Heap,K.In base→base.Ns mainGlobals mg→bj P w K mg base CX k fa fd [x] sp) (hbind:∀ (s:Shared) (u:Value),BindsTo s fd ⟨[u],[]⟩ [(x,u)])
  (hsp:∀ H:Hp,Fa H→SqL K H a (ns.map V.int)→sp [.ref a] H (fun v _=>v=.bl true) fun _ _ _=>False)
  (hCX:∀ H e s',CX [] H s₁ (fun _ _ _=>False) e s'→False) :
  codeAny (model P w) callerA (.call (.ref fa) ⟨[.ref a],[]⟩) (fun r s'=>r=.ok (.ret (.bool true))∧OldK s₁.heap s'.heap∧s'.os=s₁.os∧AllBare s'.gens) s₁:=by
 have rv:=oo hi
 have lenV:=hi.length
 -- from an abstract heap in which nothing but the script may be tracked
 have core:∀ H:Hp,Fa H→SqL K H a (ns.map V.int)→HOk P w H s₁.heap→(∀ b,H b≠none→b=a)→(H a≠none→K.lookup a=none) →
   codeAny (model P w) callerA (.call (.ref fa) ⟨[.ref a],[]⟩) (fun r s'=>r=.ok (.ret (.bool true))∧OldK s₁.heap s'.heap∧s'.os=s₁.os∧AllBare s'.gens) s₁:=by
  intro H hO hS hok hA hK
  have base_of:∀ {b:Addr} {o:Obj},s₁.heap.get? b=some o→H b=none→(qW s₁.heap H).get? b=some o:=fun e n=>Bd e n
  have noA:∀ {b:Addr} {o:Obj} {es:Array DictEntry} {ep:Nat},s₁.heap.get? b=some o→o.data=.dict es ep→H b=none:=fun {b o es ep} e d=>by
   cases q:H b with
   | none=>rfl
   | some u =>
    have e':b=a:=hA b (by rw [q]; simp)
    subst e'
    rw [ha] at e; cases e
    have d':Data.seq vs.toArray _=Data.dict es ep:=d
    cases d'
  have nsK:∀ {b:Addr} {m:Str→Option Value},s₁.heap.Ns b m→(qW s₁.heap H).Ns b m:=fun {b m} ⟨o,es,ep,e,d,r⟩=>⟨o,es,ep,base_of e (noA e d),d,r⟩
  have hKb:K.In (qW s₁.heap H):=fun b o e=>base_of (KX b o e) (by
   cases q:H b with
   | none=>rfl
   | some u =>
    have e':b=a:=hA b (by rw [q]; simp)
    subst e'
    rw [hK (by rw [q]; simp)] at e; cases e)
  have hM:Mod K mg (qW s₁.heap H):=⟨hKb,nsK hns,⟨mb,nsK hb,hbb⟩,let ⟨mc,h1,h2⟩:=hlim; ⟨mc,nsK h1,h2⟩⟩
  have e0:CC P w K mg (qW s₁.heap H) callerA [] s₁ H:=⟨rfl,hM,fun b o e=>CG e,Nat.le_of_eq (zP _ _),trivial,fun b hb=>absurd (show b∈([]:List Addr) from hb) (by simp),hok,.of_eq hg⟩
  refine codeAny_mono ((F _ hKb (nsK hns)).run callerA [] s₁ H ⟨[.ref a],[]⟩ [.ref a] [.ref a] _ _ hr e0 (hbind s₁ (.ref a)) (.cons rfl .nil) (hsp H hO hS)) fun r s' h=>?_
  cases r with
  | error e=>exact (hCX H e s' h).elim
  | ok fl =>
   cases fl with
   | next=>exact False.elim h
   | brk=>exact False.elim h
   | cont=>exact False.elim h
   | ret u =>
    obtain ⟨v,H',os,bare,un,hok',r',q⟩:=h
    have q':v=.bl true:=q
    subst q'
    obtain rfl:u=Value.bool true:=r'
    refine ⟨rfl,OldK.of_keep fun b o e=>?_,os,bare⟩
    cases q:H b with
    | none=>exact un.keep b o e q (by intro z; exact absurd (show b∈([]:List Addr) from z) (by simp)) (by simp)
    | some u =>
     rcases hO b with z | ⟨ob,xs,z⟩
     ·rw [q] at z; cases z
     ·have z2:=un.frzs b ob _ z
      obtain ⟨e1,_⟩:=hok b _ z
      obtain ⟨e2,_⟩:=hok' b _ z2
      rw [e] at e1; cases e1
      exact e2
 cases hk:K.lookup a with
 | some o =>
  -- the script is one of the module's own objects
  have e:=KX a o hk
  rw [ha] at e
  cases e
  refine core (fun _=>none) (fun _=>.inl rfl) (.inr ⟨_,vs.toArray,_,hk,rfl,rfl,rfl,by rw [List.size_toArray,lenV]; exact hl,by simpa using rv⟩) (fun b u z=>by have z':(none:Option HO)=some u:=z; cases z') (fun b z=>absurd rfl z) fun z=>absurd rfl z
 | none =>
  refine core (fun b=>if b=a then some (.frz { cls:=.type "list",data:=.seq vs.toArray } (.lst (ns.map V.int))) else none) (fun b=>?_) (.inl (.inr ⟨{ cls:=.type "list",data:=.seq vs.toArray },if_pos rfl⟩)) (fun b u z=>?_) (fun b z=>?_) fun _=>hk
  ·by_cases hb:b=a
   ·exact .inr ⟨_,_,if_pos hb⟩
   ·exact .inl (if_neg hb)
  ·by_cases hb:b=a
   ·have z':=(if_pos hb).symm.trans z
    cases z'
    subst hb
    exact ⟨ha,by rw [List.length_map]; exact hl,vs,_,rv,ha⟩
   ·have z':=(if_neg hb).symm.trans z
    cases z'
  ·by_cases hb:b=a
   ·exact hb
   ·exact absurd (if_neg hb) z
theorem walk_of {l:PySem.W.OpenLaw} {n k:Nat} {q:Program} {loose:List Str} {XP:(Str→Option Value)→Heap→Prop} {YP:World→Heap→Prop} {d:DefRec} {K:Params→Frag} {CX:World→CXT} {sp:World→Sp} {x:Str}
  (hn:l.most=some n) (hn2:n≤sizeLine) (hdf:d.params.defaults=[]) (hr:ft k callerA)
  (hY:∀ (w:World) (h:Heap),YP w h→(K w.params).In h)
  (F:∀ (w:World) (mg:Str→Option Value) (fa:Addr) (h:Heap),(K w.params).In h→h.Ns mainGlobals mg→mg d.name=some (.ref fa) →
   ∃ fd:FuncData,(∀ (s:Shared) (u:Value),BindsTo s fd ⟨[u],[]⟩ [(x,u)]) ∧
    ∀ base:Heap,(K w.params).In base→base.Ns mainGlobals mg→bj l.prog w (K w.params) mg base (CX w) k fa fd [x] (sp w))
  (hsp:∀ (w:World) (H:Hp) (a:Addr) (ns:List Int),ns.length≤n→Fa H→SqL (K w.params) H a (ns.map V.int)→sp w [.ref a] H (fun v _=>v=.bl true) fun _ _ _=>False)
  (hCX:∀ (w:World) (H:Hp) (s:Shared) (e:Value) (s':Shared),CX w [] H s (fun _ _ _=>False) e s'→False) :
  PySem.W.WalkO q loose XP YP l.row.toRowW d [] (fun f vs=>PySem.call f vs):=by
 refine Att.attach_call hn hdf fun w s₀ s₁ mg mb fa o pm cd doc a vs ns G Y ho hd hcd hmg hobj hints hlen hg=>?_
 have KX:=hY w _ Y
 obtain ⟨fd,hb,hF⟩:=F w mg fa _ KX G.T.g hmg
 exact AD KX G.T.g G.T.b G.T.builtins G.T.nolimit hg hobj hints (Nat.le_trans hlen hn2) hr hF hb (fun H hO hS=>hsp w H a ns hlen hO hS) fun H e s'=>hCX w H s₁ e s'
end L2
/- THE LAST THEOREM (shape; LID,My.* are yours):
  My.Adr: a structure of the addresses that your layer names (classes,functions); My.Txt K t: a structure (Prop) of the equations over K;
  My.txt_mk:{K} {implicit addresses ..} (e1:nsIn K mainGlobals "law"=some (some (.ref f))) (e2:K.lookup f=some ⟨oc,od,.func (fnOf "law" "law" params body scope dV kV doc pm an cdv ct),sl⟩) (e3:codeIn K cdv "law"=true) ..:∃ t,My.Txt K t
(the tactic k_is has no namespace: write k_is) -/
namespace L2
open PySem PySem.Spec PyProof.Rows
noncomputable def defArgs (s:Stmt):Arguments:=match s with
 | .FunctionDef _ a _ _ _ _ _ _ _ _=>a
 | _=>{ posonlyargs:=[],args:=[],vararg:=none,kwonlyargs:=[],kw_defaults:=[],kwarg:=none,defaults:=[] }
noncomputable def defBody (s:Stmt):List Stmt:=match s with
 | .FunctionDef _ _ b _ _ _ _ _ _ _=>b
 | _=>[]
noncomputable def defScope (s:Stmt):Scope:=match s with
 | .FunctionDef _ _ _ _ _ _ sc _ _ _=>sc
 | _=>{ kind:=.function,names:=[],isGenerator:=false,isCoroutine:=false }
noncomputable abbrev CX0:CXT:=fun _ _ _ _ _ _=>False
noncomputable abbrev E0:XK:=fun _ _ _=>False
theorem aC {X:Cx}:uW CX0 X E0:=fun _ _ _ _ _ _ _ h=>h.elim
structure Fun (K:Frag) (x qual:Str) (st:Stmt) (f:Addr) (fd:FuncData):Prop where
 ex:∃ (oc:Value) (od:Option Addr) (kV doc pm:Value) (an:Option Addr) (cdv ct:Value) (osl:Array (Option Value)),
  fd=PySem.W.fnOf x qual (defArgs st) (defBody st) (defScope st) .none kV doc pm an cdv ct∧K.lookup f=some ⟨oc,od,.func fd,osl⟩∧PySem.W.codeIn K cdv qual=true
 kp:keepIn K (.ref f)=true
section
variable {P:Program} {w:World} {K:Frag} {mg:Str→Option Value} {base:Heap}
theorem Fun.ok {x qual:Str} {st:Stmt} {f:Addr} {fd:FuncData} {N ps:List Str} {k:Nat} {sp:Sp} (F:Fun K x qual st f fd) (S:aO N ps (defScope st)) (len:∀ vs H Q E,sp vs H Q E→vs.length=ps.length)
  (hbody:∀ (cdv:Value) (A:Around) (outer:List Env) (s:Shared) (H:Hp) (vs:List V) (Q:VK) (E:XK),ft k (A.deeper (envOfC qual (defScope st) s.heap.objs.size f cdv))→sp vs H Q E →
   ∃ t,PSs (cP CX0 P w K mg base N qual (defScope st) f cdv A outer s H E).nox (defBody st) t∧t { nx:=fun _ H'=>Q .non H',rt:=Q } (kq N vs) H):bj P w K mg base CX0 (k+1) f fd ps sp:=by
 obtain ⟨oc,od,kV,doc,pm,an,cdv,ct,osl,rfl,lk,hcd⟩:=F.ex
 refine FY lk hcd S len fun A outer s H vs Q E hr hsp=>?_
 obtain ⟨t,h,q⟩:=hbody cdv A outer s H vs Q E hr hsp
 exact ⟨t,h.nox,q⟩
theorem Fun.binds {x qual:Str} {st:Stmt} {f:Addr} {fd:FuncData} {ps:List Str} (F:Fun K x qual st f fd)
  (h:∀ (kV doc pm:Value) (an:Option Addr) (cdv ct:Value) (us:List Value),us.length=ps.length→bindArgs (PySem.W.fnOf x qual (defArgs st) (defBody st) (defScope st) .none kV doc pm an cdv ct) ⟨us,[]⟩=pure (ps.zip us)):dU K fd ps []:=by
 obtain ⟨oc,od,kV,doc,pm,an,cdv,ct,osl,rfl,lk,hcd⟩:=F.ex
 exact .all (h kV doc pm an cdv ct)
theorem Ez {x qual:Str} {st:Stmt} {f:Addr} {oc:Value} {od an:Option Addr} {osl:Array (Option Value)} {kV doc pm cdv ct:Value} (l:K.lookup f=some ⟨oc,od,.func (PySem.W.fnOf x qual (defArgs st) (defBody st) (defScope st) .none kV doc pm an cdv ct),osl⟩)
  (c:PySem.W.codeIn K cdv qual=true) (k:keepIn K (.ref f)=true):Fun K x qual st f (PySem.W.fnOf x qual (defArgs st) (defBody st) (defScope st) .none kV doc pm an cdv ct):=⟨⟨oc,od,kV,doc,pm,an,cdv,ct,osl,rfl,l,c⟩,k⟩
end
theorem Cd {A:Around} {k:Nat} (hr:ft k A):A.units+1<cLine:=Nat.lt_of_le_of_lt (Nat.add_le_add_left (by decide:1≤64) _) hr.units
theorem bU {n:Nat} (h:n≤1000):n<sizeLine:=Nat.lt_of_le_of_lt h (by decide)
section
variable {X:Cx}
theorem pv (i:Nat) {x:Str} {pos:Pos} (hN:X.N[i]?=some x:=by rfl) (hv:Vis X.env.scope x:=by first | exact Or.inl rfl | exact Or.inr (Or.inl rfl) | exact Or.inr (Or.inr rfl)) (hd:(x==("__debug__":Str))=false:=by decide)
  (hcd:(x==("__classdict__":Str))=false:=by decide):PE X (.Name x pos) (Dq i):=Eg hN hv hd hcd
end
theorem bL {A B:Prop} (h:B):if false=true then A else B:=by
 rw [if_neg Bool.false_ne_true]
 exact h
theorem cO {A B:Prop} (h:A):if true=true then A else B:=by
 rw [if_pos rfl]
 exact h
theorem aE {c A B:Prop} [Decidable c] (h1:c→A) (h2:¬ c→B):if c then A else B:=by
 by_cases h:c
 ·rw [if_pos h]
  exact h1 h
 ·rw [if_neg h]
  exact h2 h
noncomputable def aZ (H H':Hp):Prop:=∀ b o,H b=some o→H' b=some o
theorem aZ.refl (H:Hp):aZ H H:=fun _ _ h=>h
theorem aZ.trans {H H1 H2:Hp} (a:aZ H H1) (b:aZ H1 H2):aZ H H2:=fun c o h=>b c o (a c o h)
theorem aZ.free {H H':Hp} (e:aZ H H') {l:Addr} (h:H' l=Option.none):H l=Option.none:=by
 cases q:H l with
 | none=>rfl
 | some o =>
  rw [e l o q] at h
  cases h
open PySem PySem.Spec PyProof.Rows
section
variable {prog:Program} {w:World} {A:Around} {R:Result→Shared→Prop} {s:Shared}
theorem sZ {elt target iter:Expr} {ifs:List Expr} {scope:Scope} {pos:Pos} {it acc:Value} {env:Env} (I:Nat→Shared→Prop)
  (turn:∀ n s,I n s→wpAny (model prog w) A (pyNext it) (fun r s₁=>match r with
   | none=>R (.ok .next) s₁
   | some v=>wpAny (model prog w) A (letOwnedTupleGo target it v) (fun _ s₁'=>wpAny (model prog w) A (assign target env v) (fun _ s₂ =>
     wpAny (model prog w) A (forIn ifs true fun c r=>if r=true then do let ok ← isTrue c env (eval c env); pure (ForInStep.yield ok) else pure (ForInStep.yield r)) (fun ok s₃ =>
      if ok=true then wpAny (model prog w) A (eval elt env) (fun x s₄ =>
       wpAny (model prog w) A (call (.builtin "list.append") [acc,x]) (fun _ s₅=>∃ m,m<n∧I m s₅) (fun _ _=>False) s₄) (fun _ _=>False) s₃
      else ∃ m,m<n∧I m s₃) (fun _ _=>False) s₂) (fun _ _=>False) s₁') (fun _ _=>False) s₁) (fun _ _=>False) s)
  (n:Nat) (h:I n s) :
  codeAny (model prog w) A (.compLoop (.ListComp elt [⟨target,iter,ifs,0⟩] scope pos) 0 it acc env) R s:=by
 refine codeAny_loop rfl I (fun n s hI=>?_) n h
 show wpAny _ A ((compTurn (.ListComp elt [⟨target,iter,ifs,0⟩] scope pos) 0 it acc env).onRaise (fun x=>do noteFrame x env; theTreesLotGoes x)) _ _ s
 refine wpAny_noted ?_
 rw [compTurn_list]
 refine wpAny_bind (wpAny_standAt (wpAny_bind (wpAny_mono (turn n s hI) (fun r s₁ h₁=>?_) fun _ _ h'=>h'.elim)))
 cases r with
 | none=>exact wpAny_pure h₁
 | some v =>
  refine wpAny_bind (wpAny_mono h₁ (fun _ s₁' h₁'=>?_) fun _ _ h'=>h'.elim)
  refine wpAny_bind (wpAny_mono h₁' (fun _ s₂ h₂=>wpAny_bind (wpAny_mono h₂ (fun ok s₃ h₃=>?_) fun _ _ h'=>h'.elim)) fun _ _ h'=>h'.elim)
  cases ok with
  | false=>exact wpAny_pure ⟨rfl,h₃⟩
  | true =>
   exact wpAny_bind (wpAny_bind (wpAny_mono h₃ (fun x s₄ h₄=>wpAny_bind (wpAny_mono h₄ (fun _ s₅ h₅=>wpAny_pure (wpAny_pure ⟨rfl,h₅⟩)) fun _ _ h'=>h'.elim)) fun _ _ h'=>h'.elim))
end
noncomputable def clo (env:Env):List (Str×NameKind)→List (Str×Addr)→List (Str×Addr)
 | [],cs=>cs
 | (n,k)::r,cs=>if k==.free then (match env.cells.lookup n with
  | some c=>clo env r ((n,c)::cs)
  | none=>clo env r cs) else clo env r cs
theorem ij {scope:Scope} {env:Env} (h:∀ x∈scope.names,x.2=.free→∃ c,env.cells.lookup x.1=some c):closureFor scope env=pure (clo env scope.names []):=by
 have go:∀ (l:List (Str×NameKind)) (cs:List (Str×Addr)),(∀ x∈l,x.2=.free→∃ c,env.cells.lookup x.1=some c) →
   (forIn (m:=Sem) l cs fun x r=>if (x.2==NameKind.free)=true then do let c ← cellOf env x.1; pure (ForInStep.yield ((x.1,c)::r)) else pure (ForInStep.yield r))=pure (clo env l cs):=by
  intro l
  induction l with
  | nil=>intro cs _; rfl
  | cons x r ih =>
   intro cs hx
   obtain ⟨n,k⟩:=x
   rw [List.forIn_cons]
   unfold clo
   cases hk:k==NameKind.free with
   | true =>
    obtain ⟨c,hc⟩:=hx (n,k) List.mem_cons_self (by simpa using hk)
    simp only [hk,if_true,cellOf,hc]
    exact ih _ fun y hy=>hx y (List.mem_cons_of_mem _ hy)
   | false =>
    simp only [hk,Bool.false_eq_true,if_false]
    exact ih _ fun y hy=>hx y (List.mem_cons_of_mem _ hy)
 have e:=go scope.names [] h
 unfold closureFor
 exact congrArg (fun t:Sem (List (Str×Addr))=>t >>= fun r=>pure r) e
theorem fX {env:Env}:∀ (l:List (Str×NameKind)) (cs:List (Str×Addr)),(∀ p∈cs,env.cells.lookup p.1=some p.2)→∀ p∈clo env l cs,env.cells.lookup p.1=some p.2
 | [],cs,h,p,hp=>h p hp
 | (n,k)::r,cs,h,p,hp=>by
  unfold clo at hp
  split at hp
  ·split at hp
   ·next c hc =>
    refine fX r _ (fun q hq=>?_) p hp
    rcases List.mem_cons.mp hq with e | hq
    ·subst e; exact hc
    ·exact h q hq
   ·exact fX r cs h p hp
  ·exact fX r cs h p hp
theorem jy {env:Env}:∀ (l:List (Str×NameKind)) (cs:List (Str×Addr)),∀ p∈cs,p∈clo env l cs
 | [],_,_,hp=>hp
 | (n,k)::r,cs,p,hp=>by
  unfold clo
  split
  ·split
   ·exact jy r _ p (List.mem_cons_of_mem _ hp)
   ·exact jy r _ p hp
  ·exact jy r _ p hp
theorem ll {env:Env} {x:Str} {c:Addr} (hc:env.cells.lookup x=some c):∀ (l:List (Str×NameKind)) (cs:List (Str×Addr)),(x,NameKind.free)∈l→(x,c)∈clo env l cs
 | [],_,h=>nomatch h
 | (n,k)::r,cs,h=>by
  unfold clo
  rcases List.mem_cons.mp h with e | h
  ·cases e
   simp only [beq_self_eq_true,if_true,hc]
   exact jy r _ _ List.mem_cons_self
  ·split
   ·split
    ·exact ll hc r _ h
    ·exact ll hc r _ h
   ·exact ll hc r _ h
theorem fg {cs:List (Str×Addr)} {f:Str→Option Addr} (h:∀ p∈cs,f p.1=some p.2) {x:Str} {c:Addr} (e:cs.lookup x=some c):f x=some c:=h _ (PySem.mem_of_lookup e)
theorem mm {x:Str} {c:Addr}:∀ {cs:List (Str×Addr)},(∀ p∈cs,p.1=x→p.2=c)→(x,c)∈cs→cs.lookup x=some c
 | [],_,h=>nomatch h
 | (n,d)::r,ha,h=>by
  rw [List.lookup_cons]
  cases e:x==n with
  | true =>
   have e':x=n:=by simpa using e
   have:=ha (n,d) List.mem_cons_self e'.symm
   simp at this ⊢
   exact this
  | false =>
   rcases List.mem_cons.mp h with z | h
   ·cases z; simp at e
   ·exact mm (fun p hp=>ha p (List.mem_cons_of_mem _ hp)) h
theorem lQ {env:Env} {names:List (Str×NameKind)} {x:Str} {c:Addr} (hc:env.cells.lookup x=some c) (h:(x,NameKind.free)∈names):(clo env names []).lookup x=some c :=
 mm (fun p hp e=>by have:=fX names [] (fun _ z=>nomatch z) p hp; rw [e,hc] at this; exact (Option.some.inj this).symm) (ll hc names [] h)
noncomputable def slots (ρ:List (Option Nat)) (σ:St):St:=ρ.map fun o=>o.bind fun j=>(σ[j]?).join
noncomputable def blk (X:Cx) (scope:Scope) (N':List Str) (C:Addr) (s₀:Shared) (H₀:Hp) (ex:List Addr):Cx :=
 { X with N:=N',s₀:=s₀,H₀:=H₀,env:=compEnvC scope (clo X.env scope.names []) C X.env,outer:=X.stack,stack:=X.stack,ex:=ex,fn:=fun _=>false,pn:=[],xe:=fun _ _=>False }
structure bI (X:Cx) (scope:Scope) (N':List Str) (ρ:List (Option Nat)) (m:Nat):Prop where
 kind:scope.kind=.function
 nocell:∀ x∈scope.names,x.2≠.cell
 names:∀ x∈scope.names,x.2=.local→scope.names.lookup x.1=some .local
 frees:∀ x∈scope.names,x.2=.free→X.env.kindOf x.1=some .cell∨X.env.kindOf x.1=some .free
 len:ρ.length=N'.length
 own:∀ (i j:Nat),ρ[i]?=some (some j)→m≤i
 slot:∀ (i j:Nat) (x:Str),ρ[i]?=some (some j)→N'[i]?=some x→X.N[j]?=some x∧(x,NameKind.free)∈scope.names
 slotNoLocal:∀ (i j:Nat) (x:Str),ρ[i]?=some (some j)→N'[i]?=some x→(relabel scope X.env).names.lookup x≠some .local
theorem dX {env:Env}:∀ {names:List (Str×NameKind)} {x:Str} {k:NameKind},(names.map fun (n,k)=>if (k==NameKind.free&&env.scope.kind==.function&&env.kindOf n==some .cell) then (n,NameKind.cell) else (n,k)).lookup x=some k→(k=.cell∨k=.free)→(∀ y∈names,y.2≠.cell)→(x,NameKind.free)∈names
 | [],_,_,h,_,_=>by simp at h
 | (n,k0)::r,x,k,h,hk,hn=>by
  rw [List.map_cons] at h
  by_cases hc:(k0==NameKind.free&&env.scope.kind==.function&&env.kindOf n==some .cell)=true
  ·simp only [hc,if_true,List.lookup_cons] at h
   cases e:x==n with
   | true =>
    have e':x=n:=by simpa using e
    have hk0:k0=.free:=by simp [Bool.and_eq_true] at hc; exact hc.1.1
    subst e'; subst hk0
    exact List.mem_cons_self
   | false =>
    rw [e] at h
    exact List.mem_cons_of_mem _ (dX h hk fun y hy=>hn y (List.mem_cons_of_mem _ hy))
  ·simp only [hc,Bool.false_eq_true,if_false,List.lookup_cons] at h
   cases e:x==n with
   | true =>
    rw [e] at h
    have e':x=n:=by simpa using e
    subst e'
    have h':k0=k:=by simpa using h
    subst h'
    rcases hk with z | z
    ·exact absurd z (hn (x,k0) List.mem_cons_self)
    ·subst z; exact List.mem_cons_self
   | false =>
    rw [e] at h
    exact List.mem_cons_of_mem _ (dX h hk fun y hy=>hn y (List.mem_cons_of_mem _ hy))
theorem nX {ρ:List (Option Nat)} {σ:St} {i:Nat} {v:V} (h:(slots ρ σ)[i]?=some (some v)):∃ j,ρ[i]?=some (some j)∧σ[j]?=some (some v):=by
 unfold slots at h
 rw [List.getElem?_map] at h
 cases e:ρ[i]? with
 | none=>rw [e] at h; cases h
 | some o =>
  rw [e] at h
  cases o with
  | none=>simp at h
  | some j =>
   refine ⟨j,rfl,?_⟩
   simp at h
   cases q:σ[j]? with
   | none=>rw [q] at h; simp at h
   | some z=>rw [q] at h; simp at h; rw [h]
section
variable {X:Cx} {pins:List (Addr×Obj)} {σ:St} {H:Hp} {s:Shared} {scope:Scope} {N':List Str} {ρ:List (Option Nat)} {m:Nat}
theorem zp (I:Inv X pins σ H s) (B:bI X scope N' ρ m) {fp:List Addr} (hfp:∀ b∈fp,iU X pins H b) {C D:Addr} {h1:Heap} {tk:Nat} {oD:Obj} {mC:Str→Option Value} (hC:s.heap.objs.size≤C) (hD:s.heap.objs.size≤D) (hDC:D≠C)
  (hfs:∀ b∈fp,b<s.heap.objs.size) (old:∀ b o,s.heap.get? b=some o→h1.get? b=some o) (hns:h1.Ns C mC) (hoD:h1.get? D=some oD) (hdD:∀ v,oD.data≠.cell v) :
  Inv (blk X scope N' C s H fp) [(D,oD)] (slots ρ σ) H { s with heap:=h1,toks:=tk }:=by
 have hcl:∀ x c,(clo X.env scope.names []).lookup x=some c→X.env.cells.lookup x=some c:=fun x c e=>fg (f:=fun y=>X.env.cells.lookup y) (fX scope.names [] fun _ z=>nomatch z) e
 have nofs:∀ b,s.heap.objs.size≤b→b∉frs X.stack:=fun b hb z=>by
  rcases List.mem_cons.mp (I.stkSub b z) with e | z
  ·exact absurd (Nat.lt_of_lt_of_le I.lt hb) (by rw [e]; exact Nat.lt_irrefl _)
  ·exact I.nofs hb z
 have lk:∀ x,((relabel scope X.env).names.lookup x=some .cell∨(relabel scope X.env).names.lookup x=some .free)→(x,NameKind.free)∈scope.names:=fun x hx=>by
  rcases hx with hx | hx
  ·exact dX hx (.inl rfl) B.nocell
  ·exact dX hx (.inr rfl) B.nocell
 refine ⟨⟨I.ok.mod,B.kind,I.ok.glob,I.ok.blt,hC,fun x y c h1 h2=>I.ok.inj x y c (hcl x c h1) (hcl y c h2),fun x hx=>?_,fun x c hf _=>absurd hf Bool.false_ne_true,I.ok.hd,I.ok.frames,.inl rfl,fun b hb=>⟨Nat.ne_of_lt (Nat.lt_of_lt_of_le (hfs b hb) hC),fun x c e=>(hfp b hb).2.2.2.2.1 x c (hcl x c e)⟩,I.bs,Nat.le_trans I.ok.bsz I.sz,fun b o e hb=>?_,fun b hb z=>?_,I.stack,I.stkFree⟩,
  rfl,I.bare,Un.kept old,⟨mC,hns,fun i x v h1 h2 h3=>?_⟩,fun x c e=>?_,I.hok.fresh hC,fun x c e=>I.freeC x c (hcl x c e),fun p hp=>?_,I.hok.kept old,?_⟩
 ·have hm:=lk x hx
  obtain ⟨c,hc⟩:=I.ok.has x (B.frees _ hm rfl)
  exact ⟨c,lQ hc hm⟩
 ·rcases (hfp b hb).2.2.2.1 with z | z
  ·exact I.ok.noex b o e z
  ·exact absurd (Nat.lt_of_lt_of_le (Heap.lt_size (I.ok.bs b o e).1) z) (Nat.lt_irrefl _)
 ·rcases List.mem_cons.mp (I.stkSub b z) with e | z
  ·exact (hfp b hb).2.1 e
  ·exact (hfp b hb).2.2.1 z
 ·obtain ⟨j,hj,hσ⟩:=nX h2
  obtain ⟨hN,hm⟩:=B.slot i j x hj h1
  have hk:=B.frees _ hm rfl
  obtain ⟨m0,hn0,hl⟩:=I.loc
  obtain ⟨u,r,l⟩:=hl j x v hN hσ (hk.elim (fun z=>.inr (.inl z)) fun z=>.inr (.inr z))
  rcases l with ⟨z,_⟩ | ⟨_,c,hc,hcell⟩
  ·rcases hk with q | q
   ·rw [q] at z; cases z
   ·rw [q] at z; cases z
  ·refine ⟨u,r,.inr ⟨?_,c,lQ hc hm,?_⟩⟩
   ·rcases h3 with z | z | z
    ·-- a free name is no local of the block
     exfalso
     have q:(relabel scope X.env).names.lookup x=some .local:=z
     exact (B.slotNoLocal i j x hj h1 q)
    ·exact .inl z
    ·exact .inr z
   ·obtain ⟨o,ho,hd⟩:=hcell
    exact ⟨o,old _ _ ho,hd⟩
 ·obtain ⟨v,o,ho,hd⟩:=I.cell x c (hcl x c e)
  exact ⟨v,o,old _ _ ho,hd⟩
 ·have e:p=(D,oD):=by
   have hp':p∈([]:List (Addr×Obj))++[(D,oD)]:=hp
   simpa using hp'
  subst e
  exact ⟨hoD,I.hok.fresh hD,hDC,nofs D hD,hdD⟩
 ·show (slots ρ σ).length=N'.length
  unfold slots
  rw [List.length_map]
  exact B.len
end
noncomputable def PTs (Y:Cx) (ifs:List Expr) (t:TT):Prop :=
 ∀ (pins:List (Addr×Obj)) (s:Shared) (σ:St) (H:Hp) (Q:Bool→Hp→Prop),Inv Y pins σ H s→t σ H Q →
  wpAny (model Y.prog Y.w) Y.A (forIn ifs true fun c r=>if r=true then do let ok ← isTrue c Y.env (eval c Y.env); pure (ForInStep.yield ok) else pure (ForInStep.yield r)) (TP Y pins σ Q) Y.xe s
noncomputable def yk:TT:=fun _ H Q=>Q true H
theorem bC {Y:Cx}:PTs Y [] yk:=fun _ _ _ H _ I h=>wpAny_tests_nil ⟨H,I,h⟩
theorem gq {Y:Cx} {c:Expr} {t:TT} (h:PT Y c t):PTs Y [c] t:=fun pins s σ H Q I q=>wpAny_tests_one (h pins s σ H Q I q)
noncomputable def iE (J:It) (m:Nat) (g:TG) (tt:TT) (te:TE) (σ':St) (Z:List V→Hp→Prop) (H1:Hp):Prop :=
 ∃ W:Nat→Nat→List V→Hp→Prop,(∃ k,W 0 k [] H1)∧∀ i k acc H,W i k acc H→acc.length≤sizeLine ∧
  ((J.stop i H∧Z acc H)∨(J.go i H∧∀ x H',J.yld i H x H'→g x σ' H' fun σ2 H2=>(σ2.drop m=σ'.drop m∧σ2.length=σ'.length) ∧
    tt σ2 H2 fun b H3=>if b=true then te σ2 H3 fun v H4=>acc.length<sizeLine∧∃ k',k'<k∧W (i+1) k' (acc++[v]) H4 else ∃ k',k'<k∧W (i+1) k' acc H3))
noncomputable def DY (wi:TI) (ρ:List (Option Nat)) (m:Nat) (g:TG) (tt:TT) (te:TE):TE:=fun σ H Q=>wi σ H fun J H1 =>
 iE J m g tt te (slots ρ σ) (fun acc H=>∀ D,H D=none→Q (.ref D) (upd H D (.lst acc))) H1
theorem Bq {σ σ':St} {m:Nat} (h:σ.drop m=σ'.drop m) {i:Nat} (hi:m≤i):σ[i]?=σ'[i]?:=by
 have e:(σ.drop m)[i - m]?=(σ'.drop m)[i - m]?:=by rw [h]
 rw [List.getElem?_drop,List.getElem?_drop] at e
 rwa [show m+(i - m)=i by omega] at e
section
variable {X:Cx} {pins:List (Addr×Obj)} {σ:St} {H2:Hp} {s2:Shared} {scope:Scope} {N':List Str} {ρ:List (Option Nat)} {m:Nat} {elt tg iter:Expr} {ifs:List Expr} {g:TG} {tt:TT} {te:TE} {pos:Pos}
theorem zb (hc:X.calm=true) (B:bI X scope N' ρ m) (hg:∀ C s₀ H₀ ex,PG (blk X scope N' C s₀ H₀ ex) tg g) (ht:∀ C s₀ H₀ ex,PTs (blk X scope N' C s₀ H₀ ex) ifs tt) (he:∀ C s₀ H₀ ex,PE (blk X scope N' C s₀ H₀ ex) elt te)
  {J:It} {fp:List Addr} {it:Addr} {tn:Nat→Heap→Prop} {Z:List V→Hp→Prop} (I:Inv X pins σ H2 s2) (T:nG X.prog X.w X.K tg J fp it tn) (st:tn 0 s2.heap) (hfp:∀ b∈fp,iU X pins H2 b) (hL:iE J m g tt te (slots ρ σ) Z H2)
  {RR:Value→Addr→Result→Shared→Prop} {E:Value→Shared→Prop}
  (fin:∀ (D C:Addr) (H':Hp) (acc:List V) (s':Shared) (mC:Str→Option Value),s'.heap.Ns C mC→Inv X pins σ (upd H' D (.lst acc)) s'→iU X pins (upd H' D (.lst acc)) C→H' D=none→Z acc H'→RR (.ref D) C (.ok .next) s') :
  wpAny (model X.prog X.w) X.A (newList []) (fun acc s₃=>wpAny (model X.prog X.w) X.A (newFunctionEnv scope X.env.globals (clo X.env scope.names []) [] X.env.qual none .none (some X.env)) (fun cenv s₄ =>
   codeAny (model X.prog X.w) X.A (.compStart (.ListComp elt [⟨tg,iter,ifs,0⟩] scope pos) 0 (.ref it) acc { cenv with scope:=relabel scope X.env }) (RR acc cenv.locals) s₄) E s₃) E s2:=by
 refine wpAny_newObj_type (wpAny_newFunctionEnv B.nocell (by intro y hy; simp at hy) (fun h₁ hns₁ hsb₁=>?_) B.kind)
 dsimp only at hns₁ hsb₁ ⊢
 generalize hHp:s2.heap.push { cls:=.type "list",dict:=none,data:=.seq ([]:List Value).toArray }=Hp2 at hns₁ hsb₁ ⊢
 have hCe:Hp2.objs.size=s2.heap.objs.size+1:=by rw [← hHp,Heap.size_push]
 have hDC:s2.heap.objs.size≠Hp2.objs.size:=by rw [hCe]; exact Nat.ne_of_lt (Nat.lt_succ_self _)
 have hCle:s2.heap.objs.size≤Hp2.objs.size:=by rw [hCe]; exact Nat.le_succ _
 have below:∀ b,b<s2.heap.objs.size→b≠Hp2.objs.size∧b≠s2.heap.objs.size:=fun b hb=>⟨by rw [hCe]; exact Nat.ne_of_lt (Nat.lt_succ_of_lt hb),Nat.ne_of_lt hb⟩
 have old:∀ b o,s2.heap.get? b=some o→h₁.get? b=some o:=fun b o e=>hsb₁.extBut b o (below b (Heap.lt_size e)).1 (Heap.get?_push_of_some _ (hHp ▸ Heap.get?_push_of_some _ e))
 have hfs:∀ b∈fp,b<s2.heap.objs.size:=fun b hb=>let ⟨o,e,_⟩:=T.obj 0 _ st b hb; Heap.lt_size e
 generalize hDn:s2.heap.objs.size=D at *
 generalize hCn:Hp2.objs.size=C at *
 have hacc:h₁.get? D=some { cls:=.type "list",data:=.seq ([]:List Value).toArray }:=hsb₁.extBut _ _ hDC (Heap.get?_push_of_some _ (by rw [← hHp,← hDn]; exact Heap.get?_push_size _ rfl))
 have st₁:tn 0 h₁:=T.keep _ _ _ st fun b _ o e=>old b o e
 obtain ⟨W,⟨k0,w0⟩,turn⟩:=hL
 have cellLt:∀ x c,(clo X.env scope.names []).lookup x=some c→c<s2.heap.objs.size:=fun x c e=>by
  have e':X.env.cells.lookup x=some c:=fg (f:=fun y=>X.env.cells.lookup y) (fX scope.names [] fun _ z=>nomatch z) e
  obtain ⟨v,o,ho,_⟩:=I.cell x c e'
  exact Heap.lt_size ho
 have stat:∀ {H':Hp} {o:Obj},(∀ b∈fp,H' b=none)→∀ b∈fp,iU (blk X scope N' C s2 H2 fp) [(D,o)] H' b:=fun {H' o} hn b hb=>by
  obtain ⟨_,f1,f2,_,f4,_⟩:=hfp b hb
  refine ⟨hn b hb,(below b (hfs b hb)).1,fun z=>?_,.inl hb,fun x c e=>f4 x c (fg (f:=fun y=>X.env.cells.lookup y) (fX scope.names [] fun _ z=>nomatch z) e),fun p hp=>?_⟩
  ·rcases List.mem_cons.mp (I.stkSub b z) with e | z
   ·exact f1 e
   ·exact f2 z
  ·have e:p=(D,o):=by
    have hp':p∈([]:List (Addr×Obj))++[(D,o)]:=hp
    simpa using hp'
   subst e
   exact Ne.symm (below b (hfs b hb)).2
 have loop:∀ s₃:Shared,s₃={ s2 with heap:=h₁,toks:=s2.toks+([]:List (Str×Value)).length } →
   codeAny (model X.prog X.w) X.A (.compLoop (.ListComp elt [⟨tg,iter,ifs,0⟩] scope pos) 0 (.ref it) (.ref D) (compEnvC scope (clo X.env scope.names []) C X.env)) (RR (.ref D) C) s₃:=by
  rintro s₃ rfl
  have I₁:Inv (blk X scope N' C s2 H2 fp) [(D,{ cls:=.type "list",data:=.seq ([]:List Value).toArray })] (slots ρ σ) H2 { s2 with heap:=h₁,toks:=s2.toks+([]:List (Str×Value)).length } :=
   zp I B hfp (by rw [hDn]; exact hCle) (by rw [hDn]; exact Nat.le_refl _) hDC (fun b hb=>by rw [hDn]; exact hfs b hb) old hns₁ hacc (fun v z=>by cases z)
  refine sZ (fun n s'=>∃ (i:Nat) (acc:List V) (H':Hp) (its:List Value) (kk:Nat),Inv (blk X scope N' C s2 H2 fp) [(D,{ cls:=.type "list",data:=.seq its.toArray kk })] (slots ρ σ) H' s'∧bq acc its∧tn i s'.heap∧(∀ b∈fp,H' b=none)∧W i n acc H') ?_ k0
   ⟨0,[],H2,[],_,I₁,.nil,st₁,fun b hb=>(hfp b hb).1,w0⟩
  rintro n s3 ⟨i,acc,H3,its,kk,I3,rv,st3,fr3,w3⟩
  obtain ⟨hlen,cs⟩:=turn i n acc H3 w3
  rcases cs with ⟨stop,z⟩ | ⟨go,step⟩
  ·refine thn (T.done (blk X scope N' C s2 H2 fp) rfl rfl rfl hc i _ s3 (slots ρ σ) H3 (fun _ _=>False) I3 (stat fr3) st3 stop) fun r s4 ⟨hr,I4⟩=>?_
   subst hr
   obtain ⟨eD,nD,_,_,_⟩:=I4.pin (D,_) (List.mem_append_right _ (List.mem_singleton.mpr rfl))
   obtain ⟨mC,hnsC,_⟩:=I4.loc
   have hD2:H2 D=none:=I.hok.fresh (by rw [hDn]; exact Nat.le_refl _)
   have u:Un (frs X.stack) fp H2 (upd H3 D (.lst acc)) s2.heap s4.heap :=
    ⟨I4.base.keep,I4.base.slot,fun b o e n hx=>by rw [aV (below b (by rw [← hDn]; exact Heap.lt_size e)).2]; exact I4.base.free b o e n hx,I4.base.there,
     fun b xs e=>by rw [aV (aJ e hD2)]; exact I4.base.tups b xs e,fun b o u e=>by rw [aV (aJ e hD2)]; exact I4.base.frzs b o u e,
     fun b ps e=>by rw [aV (aJ e hD2)]; exact I4.base.tbls b ps e⟩
   have hok:HOk X.prog X.w (upd H3 D (.lst acc)) s4.heap:=fun b o e=>by
    by_cases hb:b=D
    ·subst hb
     rw [ag] at e; cases e
     exact ⟨hlen,its,kk,rv,eD⟩
    ·rw [aV hb] at e
     exact (I4.hok b o e).stay (fun c v _ q=>q) (fun c q=>by rw [aV (aJ q nD)]; exact q) fun c xs q=>by rw [aV (aJ q nD)]; exact q
   have IX:Inv X pins σ (upd H3 D (.lst acc)) s4:=Inv.call' (ch:=fp) I I4.os u hok I4.bare fun b hb=>⟨(hfp b hb).2.2.2.1,(hfp b hb).2.1,(hfp b hb).2.2.2.2.1,(hfp b hb).2.2.2.2.2⟩
   have nC:(upd H3 D (.lst acc)) C=none:=by rw [aV (Ne.symm hDC)]; exact I4.free
   exact fin D C H3 acc s4 mC hnsC IX (I.fpOk (by rw [hDn]; exact hCle) nC) nD z
  ·refine thn (T.item (blk X scope N' C s2 H2 fp) rfl rfl rfl hc i _ s3 (slots ρ σ) H3 (fun _ _=>False) I3 (stat fr3) st3 go) fun r s4 ⟨u,hr,h4⟩=>?_
   subst hr
   refine thn h4 fun _ s5 ⟨x,H5,I5,r5,y5,st5,fr5⟩=>?_
   have I5':=I5.pinned (stat fr5) (T.obj _ _ st5)
   refine thn (hg C s2 H2 fp _ s5 (slots ρ σ) H5 x u _ I5' r5 (step x H5 y5)) fun _ s6 ⟨σ6,H6,I6,⟨d6,l6⟩,q6⟩=>?_
   refine thn (ht C s2 H2 fp _ s6 σ6 H6 _ I6 q6) fun b s7 ⟨H7,I7,q7⟩=>?_
   have le6:∀ (j:Nat) v,(slots ρ σ)[j]?=some (some v)→σ6[j]?=some (some v):=fun j v e=>by
    obtain ⟨k,hk,_⟩:=nX e
    rw [Bq d6 (B.own j k hk)]
    exact e
   have kept:∀ {H8:Hp} {s8:Shared},Inv (blk X scope N' C s2 H2 fp) ([(D,{ cls:=.type "list",data:=.seq its.toArray kk })]++kj fp s5.heap) σ6 H8 s8 →
     (∀ b∈fp,∀ o,s5.heap.get? b=some o→s8.heap.get? b=some o)∧∀ b∈fp,H8 b=none:=fun {H8 s8} I8 =>
    ⟨fun b hb o e=>(I8.pin (b,o) (List.mem_append_right _ (List.mem_append_right _ (el hb e)))).1,fun b hb=>by
     obtain ⟨o,e,d⟩:=T.obj _ _ st5 b hb
     exact (I8.pin (b,o) (List.mem_append_right _ (List.mem_append_right _ (el hb e)))).2.1⟩
   cases b with
   | false =>
    rw [if_neg Bool.false_ne_true] at q7 ⊢
    obtain ⟨k',hk,w7⟩:=q7
    exact ⟨k',hk,i+1,acc,H7,its,kk,I7.unpinned.weak l6.symm le6,rv,T.keep _ _ _ st5 (kept I7).1,(kept I7).2,w7⟩
   | true =>
    rw [if_pos rfl] at q7 ⊢
    refine thn (he C s2 H2 fp _ s7 σ6 H7 _ I7 q7) fun xv s8 ⟨v,H8,I8,r8,q8⟩=>?_
    obtain ⟨hlt,k',hk,w8⟩:=q8
    obtain ⟨eD,nD,neD,nfD,_⟩:=I8.pin (D,_) (List.mem_append_right _ (List.mem_append_left _ (List.mem_singleton.mpr rfl)))
    have hsz:its.toArray.size≤sizeLine:=by rw [List.size_toArray,← rv.length]; exact hlen
    refine wpAny_list_append_plain (hsz:=hsz) ⟨kk,eD⟩ fun h₉ hl₉ hs₉=>?_
    obtain ⟨kk',e9⟩:=hl₉
    have I8':Inv (blk X scope N' C s2 H2 fp) [] σ6 H8 s8:=I8.pins_of fun p hp=>nomatch hp
    have I9:Inv (blk X scope N' C s2 H2 fp) [] σ6 H8 { s8 with heap:=h₉,toks:=s8.toks }:=I8'.turned (it:=D) (fun b o hb e=>hs₉.extBut b o hb e) nD hDC (.inr (Nat.le_of_eq hDn))
     (fun x c e z=>by have q:=cellLt x c e; rw [hDn,z] at q; exact Nat.lt_irrefl _ q) fun p hp=>nomatch (show p∈([]:List (Addr×Obj)) from hp)
    have e9':h₉.get? D=some { cls:=.type "list",data:=.seq (its++[xv]).toArray kk' }:=by rw [e9,List.push_toArray]
    have I9':Inv (blk X scope N' C s2 H2 fp) [(D,{ cls:=.type "list",data:=.seq (its++[xv]).toArray kk' })] (slots ρ σ) H8 { s8 with heap:=h₉,toks:=s8.toks } :=
     (I9.weak l6.symm le6).pins_of fun p hp=>by
      have e:p=(D,_):=List.mem_singleton.mp hp
      subst e
      exact ⟨e9',nD,hDC,nfD,fun v z=>by cases z⟩
    refine ⟨k',hk,i+1,acc++[v],H8,its++[xv],kk',I9',rv.append (.cons r8 .nil),T.keep _ _ _ st5 fun b hb o e=>?_,(kept I8).2,w8⟩
    exact hs₉.extBut b o (below b (hfs b hb)).2 ((kept I8).1 b hb o e)
 exact codeAny_compStart_list (loop _ rfl) (T.self _ 0 _ _ _ st₁ (loop _ rfl))
theorem bH {wi:TI} (B:bI X scope N' ρ m) (hc:X.calm=true) (hi:PI X tg iter wi) (hg:∀ C s₀ H₀ ex,PG (blk X scope N' C s₀ H₀ ex) tg g) (ht:∀ C s₀ H₀ ex,PTs (blk X scope N' C s₀ H₀ ex) ifs tt) (he:∀ C s₀ H₀ ex,PE (blk X scope N' C s₀ H₀ ex) elt te)
  (hs:∀ x,foldedSetIterable iter X.env x=pure x:=by intro _; rfl):PE X (.ListComp elt [⟨tg,iter,ifs,0⟩] scope pos) (DY wi ρ m g tt te):=by
 intro pins s σ H Q I h
 rw [eval_ListComp]
 refine wpAny_comprehension_free (use:=none) rfl hs (ij fun x hx hf=>I.ok.has x.1 (B.frees x hx hf)) B.kind B.names (thn (hi pins s σ H _ I h) fun v s1 h1=>thn h1 fun itv s2 h2=>?_)
 obtain ⟨it,fp,tn,J,H2,e,I2,T,st2,f2,hL⟩:=h2
 subst e
 refine zb (RR:=fun acc C=>compPost (model X.prog X.w) X.A X.xe none (EP X pins σ Q) acc C) hc B hg ht he I2 T st2 f2 hL fun D C H' acc s' mC hns IX fC nD z=>?_
 refine ⟨mC,hns,fun h' hs'=>⟨.ref D,_,IX.turned (t':=s'.toks) (it:=C) (fun b o hb e=>hs'.extBut b o hb e) fC.1 fC.2.1 fC.2.2.2.1 fC.2.2.2.2.1 fC.2.2.2.2.2,rfl,z D nD⟩⟩
theorem dW {wi:TI} {i:Nat} {y:Str} {py spos:Pos} (B:bI X scope N' ρ m) (hN:X.N.Nodup) (hi':X.N[i]?=some y) (hy:Loc X.env.scope y) (hc:X.calm=true) (hi:PI X tg iter wi) (hg:∀ C s₀ H₀ ex,PG (blk X scope N' C s₀ H₀ ex) tg g) (ht:∀ C s₀ H₀ ex,PTs (blk X scope N' C s₀ H₀ ex) ifs tt) (he:∀ C s₀ H₀ ex,PE (blk X scope N' C s₀ H₀ ex) elt te)
  (hsw:swapsWith (.ListComp elt [⟨tg,iter,ifs,0⟩] scope pos) (some (.Name y py)) spos.line X.env=pure true:=by rfl)
  (hs:∀ x,foldedSetIterable iter X.env x=pure x:=by intro _; rfl) (hf:X.fn y=true∨X.env.scope.names.lookup y=some .local:=by first | exact .inl rfl | exact .inr rfl | assumption) :
  PS X (.Assign [.Name y py] (.ListComp elt [⟨tg,iter,ifs,0⟩] scope pos) spos) (EG (DY wi ρ m g tt te) (iJ i)):=by
 intro pins s σ H D I h
 rw [exec_Assign_Name_used _ _ _ _ hsw]
 refine wpAny_bind (wpAny_standAt (wpAny_bind ?_))
 show wpAny _ X.A (do let _ ← comprehension (.ListComp elt [⟨tg,iter,ifs,0⟩] scope pos) scope X.env _ (newList []) false (eval iter X.env) (some (assign (.Name y py) X.env))) _ _ s
 refine wpAny_bind (wpAny_mono (wpAny_comprehension_free (use:=some (assign (.Name y py) X.env)) (Q:=fun _ s'=>SP X pins D .next s') rfl hs (ij fun x hx hf=>I.ok.has x.1 (B.frees x hx hf)) B.kind B.names
  (thn (hi pins s σ H _ I h) fun v s1 h1=>thn h1 fun itv s2 h2=>?_)) (fun _ s' hq=>wpAny_pure (wpAny_pure hq)) fun _ _ e=>e)
 obtain ⟨it,fp,tn,J,H2,e,I2,T,st2,f2,hL⟩:=h2
 subst e
 refine zb (RR:=fun acc C=>compPost (model X.prog X.w) X.A X.xe (some (assign (.Name y py) X.env)) (fun _ s'=>SP X pins D .next s') acc C) hc B hg ht he I2 T st2 f2 hL fun Dl C H' acc s' mC hns IX fC nD z=>?_
 show wpAny _ X.A (assign (.Name y py) X.env (.ref Dl)) _ _ _
 obtain ⟨oC,es,ep,hoC,hdC,hrC⟩:=id hns
 have IX':Inv X (pins++kj [C] s'.heap) σ (upd H' Dl (.lst acc)) s':=IX.pinned (fp:=[C]) (fun b hb=>by rw [List.mem_singleton.mp hb]; exact fC) fun b hb=>by
  rw [List.mem_singleton.mp hb]
  exact ⟨oC,hoC,fun v q=>by rw [hdC] at q; cases q⟩
 refine wpAny_assign_Name (jp IX' hN hi' hy (v:=.ref Dl) rfl (fun s'' I''=>?_) hf)
 have pC:=I''.pin (C,oC) (List.mem_append_right _ (List.mem_append_right _ (el (List.mem_singleton.mpr rfl) hoC)))
 refine ⟨mC,⟨oC,es,ep,pC.1,hdC,hrC⟩,fun h' hs'=>?_⟩
 exact ⟨_,_,I''.unpinned.turned (t':=s''.toks) (it:=C) (fun b o hb e=>hs'.extBut b o hb e) fC.1 fC.2.1 fC.2.2.2.1 fC.2.2.2.2.1 fC.2.2.2.2.2,z Dl nD⟩
end
open PySem PySem.Spec PyProof.Rows
mutual
inductive RdD (K:Frag) (H:Hp):V→PyData→Prop
 | non:RdD K H .non .none
 | bl (b:Bool):RdD K H (.bl b) (.bool b)
 | int (i:Int):RdD K H (.int i) (.int i)
 | str (x:Str):RdD K H (.str x) (.str x)
 | lst {a:Addr} {xs:List V} {ds:List PyData}:SqL K H a xs→gr K H xs ds→RdD K H (.ref a) (.list ds)
 | tup {a:Addr} {xs:List V} {ds:List PyData}:SqT K H a xs→gr K H xs ds→RdD K H (.ref a) (.tuple ds)
inductive gr (K:Frag) (H:Hp):List V→List PyData→Prop
 | nil:gr K H [] []
 | cons {x:V} {xs:List V} {d:PyData} {ds:List PyData}:RdD K H x d→gr K H xs ds→gr K H (x::xs) (d::ds)
end
section
variable {X:Cx} {pins:List (Addr×Obj)} {σ:St} {H:Hp} {s:Shared}
mutual
theorem RdD.reads (I:Inv X pins σ H s):∀ {x:V} {d:PyData} {u:Value},RdD X.K H x d→bu x u→∃ as,Reads s.heap u d as
 | _,_,_,.non,r=>by cases r; exact ⟨_,.none⟩
 | _,_,_,.bl b,r=>by cases r; exact ⟨_,.bool b⟩
 | _,_,_,.int i,r=>by obtain ⟨t,rfl⟩:=r; exact ⟨_,.int i t⟩
 | _,_,_,.str x,r=>by obtain ⟨t,rfl⟩:=r; exact ⟨_,.str x t⟩
 | _,_,_,.lst h q,r=>by
  cases r
  obtain ⟨its,rv,p,_⟩:=I.list h
  obtain ⟨as,ra⟩:=gr.reads I q rv
  obtain ⟨o,ho,hc,n,hd⟩:=p.isList
  exact ⟨_,.list ho hc hd (by simpa using ra)⟩
 | _,_,_,.tup h q,r=>by
  cases r
  obtain ⟨its,rv,p,_⟩:=I.tuple h
  obtain ⟨as,ra⟩:=gr.reads I q rv
  obtain ⟨o,ho,hc,n,hd⟩:=p
  exact ⟨_,.tuple ho hc hd (by simpa using ra)⟩
theorem gr.reads (I:Inv X pins σ H s):∀ {xs:List V} {ds:List PyData} {us:List Value},gr X.K H xs ds→bq xs us→∃ as,ReadsAll s.heap us ds as
 | _,_,_,.nil,.nil=>⟨_,.nil⟩
 | _,_,_,.cons q r,.cons q' r'=>by
  obtain ⟨as,ra⟩:=RdD.reads I q q'
  obtain ⟨bs,rb⟩:=gr.reads I r r'
  exact ⟨_,.cons ra rb⟩
end
end
section
variable {X:Cx}
noncomputable def Hr (K:Frag) (neg:Bool):R2:=fun x y H Q=>∃ d e,RdD K H x d∧RdD K H y e∧SeqAt.shaped d=true∧SeqAt.shaped e=true∧Q (.bl (if neg then !PyData.eqv d e else PyData.eqv d e)) H
theorem uS (hu:X.A.units+64<cLine):OpR X (compareOp .Eq) (Hr X.K false):=by
 intro pins s σ H x y v u Q I rx ry h
 obtain ⟨d,e,hd,he,sd,se,q⟩:=h
 obtain ⟨as,ra⟩:=hd.reads I rx
 obtain ⟨bs,rb⟩:=he.reads I ry
 exact eq_dataH ra rb sd se hu (bh I q rfl)
noncomputable def FI (K:Frag):List V→Hp→VK→Prop:=fun xs H Q=>∃ a d,xs=[.ref a]∧RdD K H (.ref a) d∧d.showable=true∧d.hasDict=false∧d.depth≤60∧d.shown.length≤sizeLine∧Q (.str d.shown) H
theorem oS (hu:X.A.units+64<cLine) (hg:X.A.guards=some []):eX X (.builtin "repr") (FI X.K):=by
 intro pins s σ H xs us Q I r h
 obtain ⟨a,d,rfl,hd,hs,hn,hp,hz,q⟩:=h
 obtain ⟨u,rfl,ru⟩:=eP r
 cases ru
 obtain ⟨as,ra⟩:=hd.reads I rfl
 exact repr_of_reads' ra hs (PyData.noDict_hsm hn) hg (by omega) (fun b o e=>e) (fun h' u tk k=>⟨.str d.shown,H,I.kept k,⟨u,rfl⟩,q⟩) hz
noncomputable def BU (K:Frag):R2:=fun x y H Q=>∃ a b ys,x=.ref a∧y=.ref b∧SqT K H a []∧SqT K H b ys∧Q (.ref b) H
theorem eM:OpR X (binaryOp .Add) (BU X.K):=by
 intro pins s σ H x y v u Q I rx ry h
 obtain ⟨a,b,ys,rfl,rfl,ha,hb,q⟩:=h
 cases rx
 cases ry
 obtain ⟨its,r1,p1,_⟩:=I.tuple ha
 obtain ⟨its2,r2,p2,_⟩:=I.tuple hb
 cases r1
 obtain ⟨⟨cls,dd,data,sl⟩,ho,hc,n,hd⟩:=id p1
 obtain ⟨⟨cls2,dd2,data2,sl2⟩,ho2,hc2,n2,hd2⟩:=id p2
 simp only at hc hd hc2 hd2
 subst hc hd hc2 hd2
 exact concat_meets ⟨_,ho,rfl⟩ ⟨_,ho2,rfl⟩ noFill_tuple_add seq_tuple_add PySem.F.slot_tuple_add PySem.F.entry_tuple_add (PySem.F.args_tuple_add_2 _ _)
  (tuple_addW0 a b _ its2.toArray n n2 dd dd2 sl sl2 rfl) ⟨ho,ho2,⟨.ref b,H,I,rfl,q⟩⟩
theorem EY:OpR X (compareOp .Is) (fun x y H Q=>∃ b c,x=.bl b∧y=.bl c∧Q (.bl (b==c)) H):=by
 intro pins s σ H x y v u Q I rx ry h
 obtain ⟨b,c,rfl,rfl,q⟩:=h
 cases rx
 cases ry
 refine wpAny_pure (bh I q ?_)
 cases b<;>cases c<;>first | rfl | decide
noncomputable def Eu (K:Frag):List V→Hp→VK→Prop:=fun xs H Q=>∃ x T t b,xs=[x,.ty T]∧jE K H x t∧PySem.W.kitOne K t (.type T)=some b∧Q (.bl b) H
theorem bQ:eX X (.builtin "isinstance") (Eu X.K):=by
 intro pins s σ H xs us Q I r h
 obtain ⟨x,T,t,b,rfl,ht,hk,q⟩:=h
 obtain ⟨u,c,rfl,ru,rc⟩:=BM r
 cases (show c=Value.type T from rc)
 exact zo I ru ht hk fun tk=>⟨.bl b,H,I.tok tk,rfl,q⟩
end
noncomputable def Its (z:Str):It:=⟨fun i _=>i<z.cps.size,fun i H x H'=>H'=H∧∃ c,z.cps[i]?=some c∧x=.str ⟨#[c]⟩,fun i _=>z.cps.size≤i⟩
theorem uQ {P:Program} {w:World} {K:Frag} {tg:Expr} (it:Addr) (z:Str) (t:Tok):nG P w K tg (Its z) [it] it (fun i h=>h.IsStrIter it "str_ascii_iterator" z t i) where
 mem:=by simp
 obj:=fun i h st b hb=>by
  have e:b=it:=by simpa using hb
  subst e
  obtain ⟨o,e,c,d⟩:=st
  exact ⟨o,e,fun v z=>by rw [d] at z; cases z⟩
 keep:=fun i h h' st k=>let ⟨o,e,r⟩:=st; ⟨o,k it (by simp) o e,r⟩
 item:=by
  intro X hP hw hK hc i pins s σ H E I hf st hg
  subst hP hw hK
  have hi:i<z.cps.size:=hg
  obtain ⟨f0,f1,f2,f3,f4,f5⟩:=hf it (by simp)
  refine wpAny_pyNext_ascii_item st (c:=z.cps[i]) (by simp [hi]) fun h' st' sb=>?_
  have I1:Inv X pins σ H { s with heap:=h',toks:=s.toks+1 }:=I.turned (t':=s.toks+1) (fun b o hb e=>(sb.2 b hb).trans e) f0 f1 f3 f4 f5
  obtain ⟨o,e,c,d⟩:=id st'
  exact ⟨_,rfl,lW (s:={ s with heap:=h',toks:=s.toks+1 }) e c d (by decide) ⟨.str ⟨#[z.cps[i]]⟩,H,I1,⟨_,rfl⟩,⟨rfl,z.cps[i],by simp [hi],rfl⟩,st',fun b hb=>(hf b hb).1⟩⟩
 done:=by
  intro X hP hw hK hc i pins s σ H E I hf st hg
  subst hP hw hK
  have hi:z.cps.size≤i:=hg
  obtain ⟨f0,f1,f2,f3,f4,f5⟩:=hf it (by simp)
  exact wpAny_pyNext_ascii_end (I.ok.hd hc) st (by simp [hi]) fun h' eb=>⟨rfl,I.turned (t':=s.toks) (fun b o hb e=>eb b o hb e) f0 f1 f3 f4 f5⟩
 self:=fun _ _ _ _ _ st h=>wpAny_pyIter_striter_ascii st h
theorem zC {P:Program} {w:World} {K:Frag} {tg:Expr} (it:Addr) (z:Str) (t:Tok):nG P w K tg (Its z) [it] it (fun i h=>h.IsStrIter it "str_iterator" z t i) where
 mem:=by simp
 obj:=fun i h st b hb=>by
  have e:b=it:=by simpa using hb
  subst e
  obtain ⟨o,e,c,d⟩:=st
  exact ⟨o,e,fun v z=>by rw [d] at z; cases z⟩
 keep:=fun i h h' st k=>let ⟨o,e,r⟩:=st; ⟨o,k it (by simp) o e,r⟩
 item:=by
  intro X hP hw hK hc i pins s σ H E I hf st hg
  subst hP hw hK
  have hi:i<z.cps.size:=hg
  obtain ⟨f0,f1,f2,f3,f4,f5⟩:=hf it (by simp)
  refine wpAny_pyNext_wide_item st (c:=z.cps[i]) (by simp [hi]) fun h' st' sb=>?_
  have I1:Inv X pins σ H { s with heap:=h',toks:=s.toks+1 }:=I.turned (t':=s.toks+1) (fun b o hb e=>(sb.2 b hb).trans e) f0 f1 f3 f4 f5
  obtain ⟨o,e,c,d⟩:=id st'
  exact ⟨_,rfl,lW (s:={ s with heap:=h',toks:=s.toks+1 }) e c d (by decide) ⟨.str ⟨#[z.cps[i]]⟩,H,I1,⟨_,rfl⟩,⟨rfl,z.cps[i],by simp [hi],rfl⟩,st',fun b hb=>(hf b hb).1⟩⟩
 done:=by
  intro X hP hw hK hc i pins s σ H E I hf st hg
  subst hP hw hK
  have hi:z.cps.size≤i:=hg
  obtain ⟨f0,f1,f2,f3,f4,f5⟩:=hf it (by simp)
  exact wpAny_pyNext_wide_end (I.ok.hd hc) st (by simp [hi]) fun h' eb=>⟨rfl,I.turned (t':=s.toks) (fun b o hb e=>eb b o hb e) f0 f1 f3 f4 f5⟩
 self:=fun _ _ _ _ _ st h=>wpAny_pyIter_striter_wide st h
section
variable {X:Cx} {tg:Expr}
noncomputable def Ia (tl:TE):TI:=fun σ H R=>tl σ H fun x H1=>∃ z,x=.str z∧R (Its z) H1
theorem Bj {l:Expr} {tl:TE} (hl:PE X l tl):PI X tg l (Ia tl):=by
 intro pins s σ H R I h
 refine thn (hl pins s σ H _ I h) fun v s1 ⟨x,H1,I1,r1,q1⟩=>?_
 obtain ⟨z,e,q⟩:=q1
 subst e
 obtain ⟨t,rfl⟩:=r1
 have fp:∀ b∈[s1.heap.objs.size],iU X pins H1 b:=fun b hb=>by
  have e:b=s1.heap.objs.size:=by simpa using hb
  subst e
  exact I1.fpOk (Nat.le_refl _) (I1.hok.fresh (Nat.le_refl _))
 cases ha:z.cps.all (·<128)
 ·exact wpAny_pyIter_wide ha ⟨s1.heap.objs.size,[s1.heap.objs.size],_,_,H1,rfl,I1.kept (t':=s1.toks) fun b o e=>Heap.get?_push_of_some _ e,zC _ z t,⟨_,Heap.get?_push_size _ rfl,rfl,rfl⟩,fp,q⟩
 ·exact wpAny_pyIter_ascii ha ⟨s1.heap.objs.size,[s1.heap.objs.size],_,_,H1,rfl,I1.kept (t':=s1.toks) fun b o e=>Heap.get?_push_of_some _ e,uQ _ z t,⟨_,Heap.get?_push_size _ rfl,rfl,rfl⟩,fp,q⟩
theorem gY (hc:X.calm=true):eX X (.builtin "all") (fun xs H Q=>∃ p bs,xs=[.ref p]∧SqL X.K H p (List.map V.bl bs)∧Q (.bl (bs.all id)) H):=by
 intro pins s σ H xs us Q I r h
 obtain ⟨p,bs,rfl,hq,q⟩:=h
 obtain ⟨u,rfl,ru⟩:=eP r
 cases ru
 obtain ⟨its,rv,pl,hz⟩:=I.list hq
 have vb:∀ (i:Nat) v,its[i]?=some v→∃ b,bs[i]?=some b∧v=.bool b:=fun i v e=>by
  have hl:=rv.length
  rw [List.length_map] at hl
  have hi:i<its.length:=(List.getElem?_eq_some_iff.mp e).1
  have hb:bs[i]?=some bs[i]:=List.getElem?_eq_getElem (by omega)
  obtain ⟨u',e',r'⟩:=rv.get (i:=i) (x:=.bl bs[i]) (by rw [List.getElem?_map,hb]; rfl)
  rw [e] at e'
  cases e'
  exact ⟨_,hb,r'⟩
 obtain ⟨ol,hol,hol'⟩:=pl.isList
 refine call_all_walk (wpAny_pyIter_list pl.isList ⟨s.heap.objs.size,_,_,_,_,_,(fun i=>(bs[i]?).getD false),rfl,Walks.list (prog:=X.prog) (w:=X.w) (A:=X.A.in1) (I.ok.hd hc) s.heap.objs.size p (Nat.ne_of_lt (Heap.lt_size hol)) its.toArray,⟨⟨_,Heap.get?_push_size _ rfl,rfl,rfl⟩,⟨ol,Heap.get?_push_of_some _ hol,hol'⟩⟩,?_,fun h' tk k=>?_⟩)
 ·intro i v s' Q' E' hP hQ
  obtain ⟨b,hb,rfl⟩:=vb i v (by simpa using hP)
  have hQ':Q' ((bs[i]?).getD false) s':=hQ
  rw [hb] at hQ'
  exact wpAny_pure hQ'
 ·have e:(List.range its.toArray.size).all (fun i=>(bs[i]?).getD false)=bs.all id:=by
   have hl:its.toArray.size=bs.length:=by rw [List.size_toArray,← rv.length,List.length_map]
   rw [hl,Bool.eq_iff_iff,List.all_eq_true,List.all_eq_true]
   constructor
   ·intro a x hx
    obtain ⟨i,hi,rfl⟩:=List.mem_iff_getElem.mp hx
    have:=a i (List.mem_range.mpr hi)
    rw [List.getElem?_eq_getElem hi] at this
    exact this
   ·intro a i hi
    have hi':=List.mem_range.mp hi
    rw [List.getElem?_eq_getElem hi']
    exact a _ (List.getElem_mem hi')
  rw [e]
  refine ⟨.bl (bs.all id),H,I.kept fun b o hb=>k b o (fun z=>?_) (Heap.get?_push_of_some _ hb),rfl,q⟩
  have z':b=s.heap.objs.size:=by simpa using z
  exact absurd (Heap.lt_size hb) (by rw [z']; exact Nat.lt_irrefl _)
end
open PySem PySem.Spec PyProof.Rows
noncomputable def jz (fs scope:Scope):List (Str×NameKind):=scope.names.map fun (n,k)=>if (k==NameKind.free&&fs.kind==.function&&fs.names.lookup n==some .cell) then (n,NameKind.cell) else (n,k)
noncomputable def Gm (fs:Scope) (N:List Str) (scope:Scope) (N':List Str) (ρ:List (Option Nat)) (m:Nat):Bool :=
 (scope.kind==.function)&&scope.names.all (fun x=>x.2 != .cell)&&scope.names.all (fun x=>x.2 != .local||scope.names.lookup x.1==some .local)
 &&scope.names.all (fun x=>x.2 != .free||fs.names.lookup x.1==some .cell||fs.names.lookup x.1==some .free)&&(ρ.length==N'.length)
 &&(List.range ρ.length).all fun i=>match ρ[i]?,N'[i]? with
   | some (some j),some x=>decide (m≤i)&&N[j]?==some x&&scope.names.any (fun y=>y.1==x&&y.2==.free)&&(jz fs scope).lookup x != some .local
   | some (some _),none=>false
   | _,_=>true
theorem bI.of {X:Cx} {fs scope:Scope} {N N':List Str} {ρ:List (Option Nat)} {m:Nat} (hs:X.env.scope=fs) (hN:X.N=N) (h:Gm fs N scope N' ρ m=true):bI X scope N' ρ m:=by
 unfold Gm at h
 simp only [Bool.and_eq_true] at h
 obtain ⟨⟨⟨⟨⟨h1,h2⟩,h3⟩,h4⟩,h5⟩,h6⟩:=h
 have at6:∀ (i j:Nat),ρ[i]?=some (some j)→∃ x,N'[i]?=some x∧m≤i∧N[j]?=some x∧(x,NameKind.free)∈scope.names∧(jz fs scope).lookup x≠some .local:=fun i j e=>by
  have hi:i<ρ.length:=(List.getElem?_eq_some_iff.mp e).1
  have q:=List.all_eq_true.mp h6 i (List.mem_range.mpr hi)
  rw [e] at q
  cases e2:N'[i]? with
  | none=>rw [e2] at q; cases q
  | some x =>
   rw [e2] at q
   simp only [Bool.and_eq_true,decide_eq_true_eq,beq_iff_eq,bne_iff_ne,List.any_eq_true] at q
   obtain ⟨⟨⟨q1,q2⟩,⟨y,hy,q3,q4⟩⟩,q5⟩:=q
   refine ⟨x,rfl,q1,q2,?_,q5⟩
   obtain ⟨a,b⟩:=y
   simp only at q3 q4
   subst q3 q4
   exact hy
 refine ⟨by simpa using h1,fun x hx=>by simpa using List.all_eq_true.mp h2 x hx,fun x hx hl=>?_,fun x hx hf=>?_,by simpa using h5,fun i j e=>?_,fun i j x e e2=>?_,fun i j x e e2=>?_⟩
 ·have q:=List.all_eq_true.mp h3 x hx
  simpa [hl] using q
 ·have q:=List.all_eq_true.mp h4 x hx
  show X.env.scope.names.lookup x.1=_∨X.env.scope.names.lookup x.1=_
  rw [hs]
  simpa [hf] using q
 ·obtain ⟨_,_,q,_⟩:=at6 i j e; exact q
 ·obtain ⟨y,q1,_,q2,q3,_⟩:=at6 i j e
  rw [e2] at q1; cases q1
  exact ⟨by rw [hN]; exact q2,q3⟩
 ·obtain ⟨y,q1,_,_,_,q4⟩:=at6 i j e
  rw [e2] at q1; cases q1
  have e3:(relabel scope X.env).names=jz fs scope:=by
   unfold relabel jz Env.kindOf
   rw [hs]
  rw [e3]
  exact q4
section
variable {X:Cx} {K:Frag}
theorem iZ (h:X.K=K):IxR X (FT K):=h ▸ bf
theorem cx (h:X.K=K):IxR X (Gi K):=h ▸ aI
theorem ir {pos:Pos} {es:List Expr} {k:Nat} {t:TGs} {n:Nat} (hK:X.K=K) (hc:X.calm=true) (h:PGs X es t)
  (hn:(assignEach es X.env).length=n:=by rfl) (hst:(assignEach es X.env).findIdx? (·.1)=none:=by rfl):PG X (.Tuple es k pos) (Ha K n t):=hK ▸ cZ hc h hn hst
end
section
variable {m:Nat} {g:TG} {tt:TT} {te:TE} {σ':St} {Z:List V→Hp→Prop} {H1:Hp} {K:Frag}
noncomputable def NxT (n:Nat) (Pv:Nat→List V→Hp→Prop) (i:Nat) (acc:List V) (v:V) (H:Hp):Prop:=acc.length<sizeLine∧∃ k',k'<n - i∧(k'=n - (i+1)∧i+1≤n∧(acc++[v]).length≤i+1∧Pv (i+1) (acc++[v]) H)
noncomputable def NxF (n:Nat) (Pv:Nat→List V→Hp→Prop) (i:Nat) (acc:List V) (H:Hp):Prop:=∃ k',k'<n - i∧(k'=n - (i+1)∧i+1≤n∧acc.length≤i+1∧Pv (i+1) acc H)
theorem nxT {n:Nat} {Pv:Nat→List V→Hp→Prop} {i:Nat} {acc:List V} {v:V} {H:Hp} (hn:n≤1000) (hi:i<n) (hl:acc.length≤i) (p:Pv (i+1) (acc++[v]) H):NxT n Pv i acc v H :=
 ⟨bU (by omega),n - (i+1),by omega,rfl,hi,by rw [List.length_append,List.length_singleton]; omega,p⟩
theorem nxF {n:Nat} {Pv:Nat→List V→Hp→Prop} {i:Nat} {acc:List V} {H:Hp} (hi:i<n) (hl:acc.length≤i) (p:Pv (i+1) acc H):NxF n Pv i acc H :=
 ⟨n - (i+1),by omega,rfl,hi,by omega,p⟩
theorem jW {J:It} (n:Nat) (hn:n≤1000) (Pv:Nat→List V→Hp→Prop) (h0:Pv 0 [] H1)
  (hs:∀ i acc H,i<n→acc.length≤i→Pv i acc H→J.go i H∧∀ x H',J.yld i H x H'→g x σ' H' fun σ2 H2=>(σ2.drop m=σ'.drop m∧σ2.length=σ'.length)∧tt σ2 H2 fun b H3=>if b=true then te σ2 H3 fun v H4=>NxT n Pv i acc v H4 else NxF n Pv i acc H3)
  (hd:∀ acc H,Pv n acc H→acc.length≤n→J.stop n H∧Z acc H):iE J m g tt te σ' Z H1:=by
 refine ⟨fun i k acc H=>k=n - i∧i≤n∧acc.length≤i∧Pv i acc H,⟨n,by simp,Nat.zero_le _,Nat.le_refl _,h0⟩,?_⟩
 rintro i k acc H ⟨rfl,hi,la,p⟩
 refine ⟨Nat.le_of_lt (bU (by omega)),?_⟩
 by_cases hlt:i<n
 ·exact .inr (hs i acc H hlt la p)
 ·have e:i=n:=by omega
  subst e
  exact .inl (hd acc H p la)
theorem gj {lo:Int} (n:Nat) (hn:n≤1000) (Pv:Nat→List V→Hp→Prop) (h0:Pv 0 [] H1)
  (hs:∀ i acc H,i<n→acc.length≤i→Pv i acc H→g (.int (lo+i)) σ' H fun σ2 H2=>(σ2.drop m=σ'.drop m∧σ2.length=σ'.length)∧tt σ2 H2 fun b H3=>if b=true then te σ2 H3 fun v H4=>NxT n Pv i acc v H4 else NxF n Pv i acc H3)
  (hd:∀ acc H,Pv n acc H→acc.length≤n→Z acc H):iE (Itr lo n) m g tt te σ' Z H1 :=
 jW n hn Pv h0 (fun i acc H hi la p=>⟨hi,fun x H' y=>by obtain ⟨e,y⟩:=y; subst e y; exact hs i acc _ hi la p⟩) fun acc H p la=>⟨Nat.le_refl _,hd acc H p la⟩
theorem sR {z:Str} (n:Nat) (hz:n=z.cps.size) (hn:n≤1000) (Pv:Nat→List V→Hp→Prop) (h0:Pv 0 [] H1)
  (hs:∀ i acc H c,i<n→acc.length≤i→z.cps[i]?=some c→Pv i acc H→g (.str ⟨#[c]⟩) σ' H fun σ2 H2=>(σ2.drop m=σ'.drop m∧σ2.length=σ'.length)∧tt σ2 H2 fun b H3=>if b=true then te σ2 H3 fun v H4=>NxT n Pv i acc v H4 else NxF n Pv i acc H3)
  (hd:∀ acc H,Pv n acc H→acc.length≤n→Z acc H):iE (Its z) m g tt te σ' Z H1 :=
 jW n hn Pv h0 (fun i acc H hi la p=>⟨show i<z.cps.size by omega,fun x H' y=>by obtain ⟨e,c,hc,y⟩:=y; subst e y; exact hs i acc _ c hi la hc p⟩) fun acc H p la=>⟨show z.cps.size≤n by omega,hd acc H p la⟩
theorem bO {a:Addr} {xs:List V} (n:Nat) (hz:n=xs.length) (hn:n≤1000) (Pv:Nat→List V→Hp→Prop) (h0:Pv 0 [] H1) (hq:∀ i acc H,Pv i acc H→SqT K H a xs)
  (hs:∀ i acc H x,i<n→acc.length≤i→xs[i]?=some x→Pv i acc H→g x σ' H fun σ2 H2=>(σ2.drop m=σ'.drop m∧σ2.length=σ'.length)∧tt σ2 H2 fun b H3=>if b=true then te σ2 H3 fun v H4=>NxT n Pv i acc v H4 else NxF n Pv i acc H3)
  (hd:∀ acc H,Pv n acc H→acc.length≤n→Z acc H):iE (Itt K a) m g tt te σ' Z H1 :=
 jW n hn Pv h0 (fun i acc H hi la p=>by
  have hx:xs[i]?=some (xs[i]'(by omega)):=List.getElem?_eq_getElem (by omega)
  exact ⟨⟨xs,_,hq i acc H p,hx⟩,fun x H' y=>by obtain ⟨e,y⟩:=y; subst e; exact hs i acc _ x hi la (y xs (hq i acc _ p)) p⟩) fun acc H p la=>⟨⟨xs,hq n acc H p,by omega⟩,hd acc H p la⟩
end
theorem bD {σ:St} {H:Hp} {A B:Hp→Prop} (h:A H):yk σ H (fun b H3=>if b=true then A H3 else B H3):=by
 show if true=true then A H else B H
 exact cO h
end L2
namespace PySem
open Sem (wp)
section
variable {prog:Program} {w:World} {A:Around} {E:Value→Shared→Prop} {h:Heap} {g:Array GenState} {d:Drawn} {t:Nat} {os:OsState} {a:Addr} {items:Array Value} {n:Nat} {sl:Array (Option Value)}
theorem nH:typeLookup (.type "tuple") "keys"=pure none:=am_miss_of_fast (by decide +kernel)
theorem kn:typeLookup (.type "tuple") "__getattr__"=pure none:=by rw [typeLookup_type,builtinLookup_eq_fast]; kernel_rfl
theorem kg {tk:Tok} {Q:Fin→Shared→Prop} (hx:h.get? a=some ⟨.type "tuple",none,.seq items n,sl⟩) (hA:A.handled=none)
  (hQ:∀ h' tk' e,Heap.NewAttrErr h h' e (.ref a) "keys"→E (.ref e) ⟨h',g,d,tk',os⟩) :
  wpAny (model prog w) A (Builtin.«object.__getattribute__» ⟨[.ref a,.str "keys" tk],[]⟩) Q E ⟨h,g,d,t,os⟩:=by
 have hT:(⟨h,g,d,t,os⟩:Shared).TypeIs (.ref a) "tuple":=⟨_,hx,rfl⟩
 have f4:=nH
 unfold Builtin.«object.__getattribute__»
 repeat (any_goals (first | assumption | wp_step))
 exact wpAny_raiseAttrError (s:=⟨h,g,d,t,os⟩) hA hQ (attrMsg_fits (by decide +kernel) (by decide))
theorem kW {tk:Tok} {R:Result→Shared→Prop} (hx:h.get? a=some ⟨.type "tuple",none,.seq items n,sl⟩) (hA:A.handled=none)
  (hQ:∀ h' tk' e,Heap.NewAttrErr h h' e (.ref a) "keys"→R (.error (.ref e)) ⟨h',g,d,tk',os⟩) :
  codeAny (model prog w) A (.call (.builtin "tuple.__getattribute__") ⟨[.ref a,.str "keys" tk],[]⟩) R ⟨h,g,d,t,os⟩ :=
 codeAny_call_builtin F.slot_tuple_getattribute.plain F.entry_tuple_ga (F.slot_tuple_getattribute.check _ _ _ _ _ _ _ _ (show (⟨h,g,d,t,os⟩:Shared).TypeIs (.ref a) "tuple" from ⟨_,hx,rfl⟩) (F.args_tuple_getattribute_2 _ _) (kg hx hA hQ))
theorem nT {tk:Tok} {Q:Value→Shared→Prop} (hx:h.get? a=some ⟨.type "tuple",none,.seq items n,sl⟩) (hA:A.handled=none)
  (hQ:∀ h' tk' e,Heap.NewAttrErr h h' e (.ref a) "keys"→E (.ref e) ⟨h',g,d,tk',os⟩):wpAny (model prog w) A (getAttrBy (.ref a) (.str "keys" tk) false) Q E ⟨h,g,d,t,os⟩:=by
 have hT:(⟨h,g,d,t,os⟩:Shared).TypeIs (.ref a) "tuple":=⟨_,hx,rfl⟩
 have f1:=sub_AttributeError
 have f2:=F.slot_tuple_getattribute.lookup
 have f3:=F.slot_tuple_getattribute.bind (.ref a)
 have f5:=kn
 unfold getAttrBy
 repeat (any_goals (first | assumption | wp_step))
 refine kW hx hA fun h' tk' e hx'=>?_
 obtain ⟨t',u',he⟩:=hx'.there
 show wpAny _ _ (getattributeRaised _ _ _ _ _ _ _) _ _ _
 unfold getattributeRaised
 repeat (any_goals (first | assumption | wp_step))
 exact hQ _ _ _ hx'
theorem kO {Q:Option Value→Shared→Prop} (hx:h.get? a=some ⟨.type "tuple",none,.seq items n,sl⟩) (hA:A.handled=none)
  (hQ:∀ h' tk',(∀ b o,h.get? b=some o→h'.get? b=some o)→Q none ⟨h',g,d,tk',os⟩):wpAny (model prog w) A (getAttr? (.ref a) "keys") Q E ⟨h,g,d,t,os⟩:=by
 have f1:=sub_AttributeError
 unfold getAttr? getAttrBy?
 refine wpAny_bind (wpAny_mkText (wpAny_bind (wpAny_attempt (nT hx hA fun h' tk' e hx'=>?_))))
 obtain ⟨t',u',he⟩:=hx'.there
 have hT:(⟨h',g,d,tk',os⟩:Shared).TypeIs (.ref e) "AttributeError":=⟨_,he,rfl⟩
 refine wpAny_bind (wpAny_isInstance hT f1 ?_)
 exact wpAny_pure (hQ h' tk' hx'.keeps)
end
end PySem
namespace L2
open PySem PySem.Spec PyProof.Rows
theorem oF:entryFor table "dict.update.loop"=some Builtin.«dict.update.loop»:=entryFor_of_tree (by kernel_rfl)
theorem iz:plainId "dict.update.loop"=true:=by decide +kernel
theorem wX {κ:Type} [DecidableEq κ] {kvs:List (κ×Value)} {k:κ} {v:Value} (h:k∉kvs.map (·.1)):stored kvs k v=kvs++[(k,v)]:=by
 unfold stored
 rw [if_neg]
 intro q
 obtain ⟨x,hx,e⟩:=List.any_eq_true.mp q
 exact h (List.mem_map.mpr ⟨x,hx,of_decide_eq_true e⟩)
section
variable {prog:Program} {w:World} {A:Around} {R:Result→Shared→Prop} {dd it tp:Addr} {items:List Value} {ps:List (Str×Value)}
noncomputable def ER (h:Heap) (it dd:Addr) (v:Value) (p:Str×Value):Prop:=∃ q t,v=.ref q∧q≠it∧q≠dd∧IsTup h q #[.str p.1 t,p.2]
theorem zy (hh:A.handled=none) (hid:it≠dd) (hti:tp≠it) (htd:tp≠dd) (hlen:items.length=ps.length) (hsz:items.length≤1000) (hnd:(ps.map (·.1)).Nodup) :
  ∀ (k i:Nat) (s:Shared),items.length - i=k→i≤items.length→s.heap.IsTupleIter it tp i→s.heap.IsTuple tp items.toArray→s.heap.DictOf (bB prog w) dd ((ps.take i).map fun p=>(Sum.inr p.1,p.2)) →
  (∀ (j:Nat) v p,items[j]?=some v→ps[j]?=some p→ER s.heap it dd v p) →
  (∀ h' tk,h'.DictOf (bB prog w) dd (ps.map fun p=>(Sum.inr p.1,p.2))→(∀ b o,b≠it→b≠dd→s.heap.get? b=some o→h'.get? b=some o)→R (.ok (.ret .none)) { s with heap:=h',toks:=tk }) →
  codeAny (model prog w) A (.builtin "dict.update.loop" ⟨[.ref dd,.ref it,rawInt i,.none],[]⟩) R s:=by
 intro k
 induction k with
 | zero =>
  intro i s hk hi st tpl hd hp hR
  have hin:i=items.length:=by omega
  subst hin
  refine codeAny_builtin oF ?_
  rw [Around.under_plainId iz _]
  show wpAny _ A.in1 (pyNext (.ref it) >>= _) _ _ s
  refine wpAny_bind (wpAny_pyNext_tuple_end hh st tpl (by simp) fun h' eb=>?_)
  refine wpAny_bind (wpAny_pure (wpAny_pure ?_))
  refine hR h' s.toks ?_ fun b o hb _ e=>eb b o hb e
  rw [hlen,List.take_length] at hd
  exact hd.extBut (fun b o hb e=>eb b o hb e) (Ne.symm hid)
 | succ k ih =>
  intro i s hk hi st tpl hd hp hR
  have hlt:i<items.length:=by omega
  have hv:items[i]?=some items[i]:=List.getElem?_eq_getElem hlt
  have hq:ps[i]?=some (ps[i]'(by omega)):=List.getElem?_eq_getElem (by omega)
  obtain ⟨q,t,ev,hqi,hqd,tq⟩:=hp i _ _ hv hq
  refine codeAny_builtin oF ?_
  rw [Around.under_plainId iz _]
  show wpAny _ A.in1 (pyNext (.ref it) >>= _) _ _ s
  refine wpAny_bind (wpAny_pyNext_tuple_item st tpl (x:=items[i]) (by simpa using hv) fun h1 st1 sb1=>?_)
  rw [ev]
  have tq1:IsTup h1 q #[.str (ps[i]'(by omega)).1 t,(ps[i]'(by omega)).2]:=let ⟨o,e,r⟩:=tq; ⟨o,(sb1.2 q hqi).trans e,r⟩
  obtain ⟨oq,eq,cq,nq,dq⟩:=id tq1
  refine wpAny_bind (wpAny_holding (wpAny_bind (wpAny_tryCatch ?_)))
  unfold Builtin.Dict.pairItems
  refine wpAny_bind (wpAny_typeOf (T := "tuple") ⟨oq,eq,cq⟩ ?_)
  rw [if_pos (by decide)]
  refine wpAny_bind (wpAny_seqItems eq dq (wpAny_pure ?_))
  show wpAny _ _ (holding [_,_] (dictSet dd (.str (ps[i]'(by omega)).1 t) (ps[i]'(by omega)).2)) _ _ _
  have hd1:h1.DictOf (bB prog w) dd ((ps.take i).map fun p=>(Sum.inr p.1,p.2)):=hd.extBut sb1.extBut (Ne.symm hid)
  refine wpAny_holding (wpAny_dictSet_pairs (knd:=bB prog w) (k:=Sum.inr (ps[i]'(by omega)).1) (gW _ _ _ _) hd1 (fun h2 hd2 sb2=>?_) (Nat.le_of_lt (bU (by rw [List.length_map,List.length_take]; omega))))
  have nw:stored ((ps.take i).map fun p=>((Sum.inr p.1:Key),p.2)) (Sum.inr (ps[i]'(by omega)).1) (ps[i]'(by omega)).2=(ps.take (i+1)).map fun p=>(Sum.inr p.1,p.2):=by
   rw [wX,List.take_add_one,hq,List.map_append]
   ·rfl
   ·intro z
    rw [List.map_map] at z
    obtain ⟨p,hp',e⟩:=List.mem_map.mp z
    have e':p.1=(ps[i]'(by omega)).1:=Sum.inr.inj e
    obtain ⟨j,hj,ej⟩:=List.mem_take_iff_getElem.mp hp'
    have hj':j<ps.length:=by omega
    have:(ps.map (·.1))[j]'(by simpa using hj')=(ps.map (·.1))[i]'(by rw [List.length_map]; omega):=by simp only [List.getElem_map]; rw [ej]; exact e'
    have:=(List.getElem_inj hnd).mp this
    omega
  rw [nw] at hd2
  have up:∀ b o,b≠it→b≠dd→s.heap.get? b=some o→h2.get? b=some o:=fun b o hb hb2 e=>(sb2.2 b hb2).trans ((sb1.2 b hb).trans e)
  refine wpAny_pure ⟨plainId_quiet iz _,?_⟩
  have nx:=ih (i+1) { s with heap:=h2,toks:=s.toks+1 } (by omega) hlt (by obtain ⟨o,e,r⟩:=st1; exact ⟨o,(sb2.2 it hid).trans e,r⟩) (by obtain ⟨o,e,r⟩:=tpl; exact ⟨o,up _ _ hti htd e,r⟩) hd2
   (fun j v p ej ep=>by obtain ⟨q,t,e,n1,n2,o,e2,r⟩:=hp j v p ej ep; exact ⟨q,t,e,n1,n2,o,up _ _ n1 n2 e2,r⟩)
   fun h' tk hd' up'=>hR h' tk hd' fun b o hb hb2 e=>up' b o hb hb2 (up b o hb hb2 e)
  exact nx
end
open PySem PySem.Spec PyProof.Rows
section
variable {X:Cx}
noncomputable def AF (K:Frag) (H:Hp) (y:V) (p:Str×V):Prop:=∃ q,y=.ref q∧SqT K H q [.str p.1,p.2]
theorem lG {α β:Type} {F:α→β→Prop}:∀ {l:List α} {m:List β},Paired F l m→∀ (j:Nat) a b,l[j]?=some a→m[j]?=some b→F a b
 | _,_,.nil,_,_,_,h,_=>by simp at h
 | _,_,.cons h t,0,_,_,h1,h2=>by simp at h1 h2; subst h1 h2; exact h
 | _,_,.cons h t,j+1,_,_,h1,h2=>lG t j _ _ (by simpa using h1) (by simpa using h2)
theorem bq.vals_pairs {I:Unit} {X:Cx} {pins:List (Addr×Obj)} {σ:St} {H:Hp} {s:Shared} (J:Inv X pins σ H s):∀ {ys:List V} {ps:List (Str×V)} {its:List Value},Paired (AF X.K H) ys ps→bq ys its →
  ∃ qs:List (Str×Value),Paired (fun (p:Str×V) (q:Str×Value)=>p.1=q.1∧bu p.2 q.2) ps qs∧Paired (fun v (p:Str×Value)=>∃ q t,v=.ref q∧q<s.heap.objs.size∧IsTup s.heap q #[.str p.1 t,p.2]) its qs
 | _,_,_,.nil,.nil=>⟨[],.nil,.nil⟩
 | _,_,_,.cons h t,.cons r rr=>by
  obtain ⟨qs,h1,h2⟩:=bq.vals_pairs (I:=I) J t rr
  obtain ⟨q,e,hq⟩:=h
  subst e
  cases r
  obtain ⟨it2,rv,p,_⟩:=J.tuple hq
  obtain ⟨u1,u2,e2,r1,r2⟩:=BM rv
  subst e2
  obtain ⟨t,e3⟩:=(show ∃ t,u1=Value.str _ t from r1)
  subst e3
  exact ⟨(_,u2)::qs,.cons ⟨rfl,r2⟩ h1,.cons ⟨q,t,rfl,p.lt,p⟩ h2⟩
theorem BH:∀ {ps:List (Str×V)} {qs:List (Str×Value)},Paired (fun (p:Str×V) (q:Str×Value)=>p.1=q.1∧bu p.2 q.2) ps qs→KV (ps.map fun p=>((Sum.inr p.1:Key),p.2)) (qs.map fun p=>(Sum.inr p.1,p.2))
 | _,_,.nil=>.nil
 | _,_,.cons h t=>.cons ⟨by show Sum.inr _=Sum.inr _; rw [h.1],h.2⟩ (BH t)
theorem xZ:∀ {ps:List (Str×V)} {qs:List (Str×Value)},Paired (fun (p:Str×V) (q:Str×Value)=>p.1=q.1∧bu p.2 q.2) ps qs→ps.map (·.1)=qs.map (·.1)
 | _,_,.nil=>rfl
 | _,_,.cons h t=>by rw [List.map_cons,List.map_cons,h.1,xZ t]
noncomputable def ED (K:Frag):List V→Hp→VK→Prop:=fun xs H Q=>∃ p ys ps,xs=[.ref p]∧H p=some (.tup ys)∧ys.length≤1000∧(List.map (fun q:Str×V=>q.1) ps).Nodup∧Paired (AF K H) ys ps ∧
 ∀ l,H l=none→Q (.ref l) (upd H l (.dK (ps.map fun p=>(Sum.inr p.1,p.2))))
theorem wk (hc:X.calm=true):eX X (.type "dict") (ED X.K):=by
 intro pins s σ H xs us Q I r h
 obtain ⟨p,ys,ps,rfl,hp,hl,hnd,hpr,q⟩:=h
 obtain ⟨u,rfl,ru⟩:=eP r
 cases ru
 obtain ⟨hz,its,rv,tp,o2,e2,d2⟩:=(show bZ X.prog X.w H s.heap p (.tup ys) from I.hok p _ hp)
 obtain ⟨qs,k1,k2⟩:=bq.vals_pairs (I:=()) I hpr rv
 obtain ⟨⟨cls,dct,data,sl⟩,ho,hcl,n,hdt⟩:=id tp
 rw [ho] at e2
 cases e2
 simp only at hcl hdt d2
 subst hcl hdt d2
 have hlt:p<s.heap.objs.size:=Heap.lt_size ho
 refine callType_codes (Q₁:=fun obj s₁=>obj=.ref s.heap.objs.size∧s₁={ s with heap:=s.heap.push { cls:=.type "dict",data:=.dict #[] } }) F.kt_called_dict (F.kt_typeCall_dict_1 _) F.entry_dict_init (kt_code_dict_new _ ⟨rfl,rfl⟩) ?_
 rintro obj s₁ ⟨rfl,rfl⟩
 have hnew:(s.heap.push { cls:=.type "dict",data:=.dict #[] }).DictOf (bB X.prog X.w) s.heap.objs.size []:=Heap.DictOf.new s.heap
 refine ⟨hnew.typeIs,F.args_dict_init_2 _ _,?_⟩
 unfold Builtin.«dict.__init__»
 refine wpAny_bind ?_
 unfold Builtin.Dict.selfAndRest
 refine wpAny_bind (wpAny_notOrdered_dict hnew.typeIs ?_)
 show wpAny _ _ (pure (s.heap.objs.size,[Value.ref p])) _ _ _
 refine wpAny_pure ?_
 show wpAny _ _ (Builtin.Dict.updateFrom "dict.__init__" s.heap.objs.size (.ref p) [] .none) _ _ _
 unfold Builtin.Dict.updateFrom
 have ho1:(s.heap.push { cls:=.type "dict",data:=.dict #[] }).get? p=some ⟨.type "tuple",none,.seq its.toArray n,sl⟩:=Heap.get?_push_of_some _ ho
 refine wpAny_bind (wpAny_typeOf (T := "tuple") ⟨_,ho1,rfl⟩ ?_)
 rw [if_pos (by decide)]
 refine wpAny_bind (kO (h:=s.heap.push { cls:=.type "dict",data:=.dict #[] }) (g:=s.gens) (d:=s.drawn) (t:=s.toks) (os:=s.os) ho1 (I.ok.hd hc) fun h1 tk1 kp1=>?_)
 rw [if_pos (show (none:Option Value).isNone=true from rfl)]
 refine wpAny_bind (wpAny_rule (wpAny_bind (wpAny_pyIter_tuple (show h1.IsTuple p its.toArray from ⟨_,kp1 _ _ ho1,rfl,n,rfl⟩) ?_)))
 have old:∀ b o,s.heap.get? b=some o→(h1.push { cls:=.type "tuple_iterator",data:=.fields #[.ref p,.int 0 0] }).get? b=some o:=fun b o e=>Heap.get?_push_of_some _ (kp1 b o (Heap.get?_push_of_some _ e))
 have hnew1:h1.DictOf (bB X.prog X.w) s.heap.objs.size []:=by obtain ⟨o,es,ep,e,rr⟩:=hnew; exact ⟨o,es,ep,kp1 _ _ e,rr⟩
 have hdl:s.heap.objs.size<h1.objs.size:=by obtain ⟨o,es,ep,e,rr⟩:=hnew1; exact Heap.lt_size e
 refine wpAny_pure ⟨plainId_quiet iz _,?_⟩
 refine zy (A:=X.A.in1) (prog:=X.prog) (w:=X.w) (dd:=s.heap.objs.size) (it:=h1.objs.size) (tp:=p) (items:=its) (ps:=qs) (I.ok.hd hc) (Nat.ne_of_gt hdl) (Nat.ne_of_lt (Nat.lt_trans hlt hdl)) (Nat.ne_of_lt hlt) (Paired.length k2) (by rw [← rv.length]; exact hl) (by rw [← xZ k1]; exact hnd)
  its.length 0 ⟨h1.push { cls:=.type "tuple_iterator",data:=.fields #[.ref p,.int 0 0] },s.gens,s.drawn,tk1,s.os⟩ rfl (Nat.zero_le _) ⟨_,Heap.get?_push_size _ rfl,rfl,rfl⟩ ⟨_,old _ _ ho,rfl,n,rfl⟩ (by exact hnew1.push _) (fun j v pr ej ep=>?_) fun h' tk hd' up=>?_
 ·obtain ⟨q',t,e,hlq,o,e3,r3⟩:=lG k2 j v pr ej ep
  exact ⟨q',t,e,Nat.ne_of_lt (Nat.lt_trans hlq hdl),Nat.ne_of_lt hlq,o,old _ _ e3,r3⟩
 ·refine ⟨rfl,.ref s.heap.objs.size,upd H s.heap.objs.size (.dK (ps.map fun p=>(Sum.inr p.1,p.2))),?_,rfl,q _ (I.hok.fresh (Nat.le_refl _))⟩
  refine I.laid (h':=h') (t':=tk) (fun b o e=>up b o (Nat.ne_of_lt (Nat.lt_trans (Heap.lt_size e) hdl)) (Nat.ne_of_lt (Heap.lt_size e)) (old b o e)) (Nat.le_refl _) ?_
  refine ⟨?_,?_,_,BH k1,hd'⟩
  ·rw [List.length_map,Paired.length k1,← Paired.length k2,← rv.length]; exact Nat.le_of_lt (bU hl)
  ·have hbig:mainGlobals<s.heap.objs.size:=(I.mod.glob.keeps I.bk).lt
   exact beq_eq_false_iff_ne.mpr (Nat.ne_of_gt (Nat.lt_trans (by decide) hbig))
noncomputable def Hn:R2:=fun x y H Q=>∃ p kvs z v,x=.ref p∧y=.str z∧H p=some (.dK kvs)∧(kvs.find? fun kv=>decide (kv.1=Sum.inr z)).map (·.2)=some v∧Q v H
theorem yM {k:Key} {v:V}:∀ {kvs:List (Key×V)} {vs:List (Key×Value)},KV kvs vs→(kvs.find? fun kv=>decide (kv.1=k)).map (·.2)=some v→∃ u,valueAt vs k=some u∧bu v u
 | _,_,.nil,h=>by simp at h
 | _,_,.cons (a:=a) (b:=b) r t,h=>by
  unfold valueAt
  rw [List.find?_cons] at h ⊢
  by_cases e:a.1=k
  ·have e':b.1=k:=r.1.symm.trans e
   rw [decide_eq_true e] at h
   rw [decide_eq_true e']
   have h':a.2=v:=by simpa using h
   exact ⟨b.2,rfl,h' ▸ r.2⟩
  ·have e':¬ b.1=k:=fun z=>e (r.1.trans z)
   rw [decide_eq_false e] at h
   rw [decide_eq_false e']
   exact yM t h
theorem cn:IxR X Hn:=by
 intro value slice pins s σ H x y v u Q I rx ry h hs
 obtain ⟨p,kvs,z,w',rfl,rfl,hp,hv,q⟩:=h
 cases rx
 obtain ⟨t,rfl⟩:=ry
 obtain ⟨_,_,vs,rel,dd⟩:=(show bZ X.prog X.w H s.heap p (.dK kvs) from I.hok p _ hp)
 obtain ⟨u',e,ru⟩:=yM rel hv
 have fin:EP X pins σ Q u' { s with toks:=s.toks+1 }:=⟨w',H,I.tok _,ru,q⟩
 exact subscriptTail_builtinR (x:=u') dd.typeIs PySem.F.slot_dict_getitem.lookup (wpAny_getItem_of (Q:=fun r s'=>r=u'∧EP X pins σ Q r s') (knd:=bB X.prog X.w) (k:=Sum.inr z) (gW _ _ _ _) dd.mapOf e ⟨rfl,fin⟩) hs
end
end L2
namespace PySem
open Sem (wp)
section
variable {prog:Program} {w:World} {A:Around} {E:Value→Shared→Prop} {s:Shared}
theorem ng {it t:Addr} {i:Nat} {items:Array Value} {Q:Value→Shared→Prop} (hh:A.handled=none) (hit:s.heap.IsTupleIter it t i) (ht:s.heap.IsTuple t items)
  (hQ:∀ x,items[i]?=some x→∀ h',h'.IsTupleIter it t (i+1)→Heap.SameBut it s.heap h'→Q x { s with heap:=h' })
  (hE:items[i]?=none→∀ h' e,Heap.ExtBut it s.heap h'→(∃ o,h'.get? e=some o∧o.cls=.type "StopIteration")→E (.ref e) { s with heap:=h' }) :
  wpAny (model prog w) A (Builtin.SmallTypes.nextOf (.ref it)) Q E s:=by
 obtain ⟨oi,gi,ci,di⟩:=id hit
 obtain ⟨ot,gt,_,m,dt⟩:=ht
 have sl:=F.slot_tuple_iterator_next
 unfold Builtin.SmallTypes.nextOf
 refine wpAny_bind (wpAny_callSpecial?_slot (name:=Str.ofString "__next__") hit.typeIs sl (wpAny_call_entry sl hit.typeIs F.entry_tuple_iterator_next ?_ (F.args_tuple_iterator_next_1 _)))
 refine wpAny_bind (m:=field (.ref it) 0) (wpAny_field gi di (x:=.ref t) rfl ?_)
 have nn:¬ ((Value.ref t==Value.none)=true):=Bool.false_ne_true
 show wpAny _ _ (if (Value.ref t==Value.none)=true then _ else _) _ _ _
 rw [if_neg nn]
 refine wpAny_bind (m:=field (.ref it) 1) (wpAny_field gi di (x:=.int i 0) rfl (wpAny_bind (m:=seqItems? (.ref t)) (wpAny_seqItems gt dt ?_)))
 cases q:items[i]? with
 | some x =>
  simp only [Int.toNat_natCast,q]
  refine wpAny_bind (wpAny_setField gi di (by simp) (wpAny_pure ⟨x,rfl,wpAny_pure (hQ x q _ ⟨_,Heap.get?_update_self _ gi ?_,?_,?_⟩ (Heap.SameBut.update ..))⟩))
  ·exact Obj.isFreed_of_fields (Obj.data_mapFields di _)
  ·exact (Obj.cls_mapFields ..).trans ci
  ·rw [Obj.data_mapFields di]
   simp [rawInt]
 | none =>
  simp only [Int.toNat_natCast,q]
  refine wpAny_bind (wpAny_rule (wpAny_bind (wpAny_setField gi di (by simp) (wpAny_bind (m:=newExc (.type "StopIteration") []) ?_))))
  simp only [newExc,newTuple]
  refine wpAny_bind (wpAny_newObj_type (wpAny_bind (m:=firstArgMember _ _) (wpAny_of_eq (a:=Value.none) (by first | rfl | (simp only [firstArgMember]; rfl)) (wpAny_newObj_type ?_ (by size_fits)))) (by size_fits))
  simp only [raiseNew]
  refine wpAny_bind (wpAny_handled ?_)
  rw [show A.in1.handled=none from hh]
  exact wpAny_bind (wpAny_pure (wpAny_throw (hE q _ _ (((Heap.SameBut.update ..).extBut.push _).push _) ⟨_,Heap.get?_push_size _ rfl,rfl⟩)))
end
theorem Draws.tup {prog:Program} {w:World} {A:Around} (hh:A.handled=none) (it l:Addr) (hne:l≠it) (items:Array Value) :
  Draws prog w A it [it,l] items.size (fun i v=>items[i]?=some v) (fun i h=>h.IsTupleIter it l i∧h.IsTuple l items) where
 live:=fun _ _ st=>let ⟨o,ho,_⟩:=st.1; ⟨o,ho⟩
 frame:=fun _ _ _ st hk=>⟨st.1.at fun o e=>hk it (by simp) o e,let ⟨o,e,r⟩:=st.2; ⟨o,hk l (by simp) o e,r⟩⟩
 item:=fun i s Q E hi st hQ=>ng hh st.1 st.2 (fun x ex h' st' sb=>hQ x h' s.toks ex ⟨st',st.2.extBut sb.extBut hne⟩ sb) fun e=>by simp at e; omega
 done:=fun s Q E st hE=>ng hh st.1 st.2 (fun x ex=>by simp at ex) fun _=>hE
structure ZA (z TI TO i1 i2:Addr) (f1 f2:List Addr):Prop where
 TIz:TI≠z
 TOz:TO≠z
 i1z:i1≠z
 i2z:i2≠z
 TITO:TI≠TO
 TIi1:TI≠i1
 TIi2:TI≠i2
 TOi1:TO≠i1
 TOi2:TO≠i2
 i12:i1≠i2
 z1:z∉f1
 z2:z∉f2
 t1:TO∉f1
 t2:TO∉f2
 m1:i1∉f2
 m2:i2∉f1
section
variable {prog:Program} {w:World} {A:Around} {E:Value→Shared→Prop} {s:Shared}
 {z TI TO i1 i2:Addr} {f1 f2:List Addr} {n1 n2 k1 k2:Nat} {P1 P2:Nat→Value→Prop} {S1 S2:Nat→Heap→Prop} {a b:Value}
 {z TI TO i1 i2:Addr} {f1 f2:List Addr} {n1 n2 k1 k2:Nat} {P1 P2:Nat→Value→Prop} {S1 S2:Nat→Heap→Prop} {a b:Value}
end
open Sem (wp)
end PySem
namespace L2
open PySem PySem.Spec PyProof.Rows
noncomputable def SqX (k:Bool) (K:Frag) (H:Hp) (a:Addr) (xs:List V):Prop:=match k with | true=>SqT K H a xs | false=>SqL K H a xs
section
variable {X:Cx} {pins:List (Addr×Obj)} {σ:St} {H:Hp} {s:Shared} {a:Addr} {xs ys:List V} {h':Heap}
theorem Rd.ne {u:HO} {c:Addr} (r:Rd H a u) (h:H c=none):a≠c:=fun e=>by
 subst e
 rcases r with r | ⟨o,r⟩<;>(rw [h] at r; cases r)
theorem Gw {o:Obj} {c:Addr} (I:Inv X pins σ H s) (e:X.K.lookup a=some o) (f:iU X pins H c):a≠c:=fun q=>by
 subst q
 have hb:=I.ok.mod.kin a o e
 rcases f.2.2.2.1 with m | m
 ·exact I.ok.noex a o hb m
 ·exact absurd (Nat.lt_of_lt_of_le (Heap.lt_size hb) (Nat.le_trans I.ok.bsz m)) (Nat.lt_irrefl _)
theorem Inv.sq_ne {k:Bool} {c:Addr} (I:Inv X pins σ H s) (h:SqX k X.K H a xs) (f:iU X pins H c):a≠c:=by
 cases k with
 | true=>rcases h with r | ⟨o,_,_,e,_⟩; exact r.ne f.1; exact Gw I e f
 | false=>rcases h with r | ⟨o,_,_,e,_⟩; exact r.ne f.1; exact Gw I e f
theorem Inv.turnedL {t':Nat} {its:List Addr} (I:Inv X pins σ H s) (k:∀ b o,b∉its→s.heap.get? b=some o→h'.get? b=some o) (hf:∀ b∈its,iU X pins H b) :
  Inv X pins σ H { s with heap:=h',toks:=t' }:=by
 have nit:∀ b u,H b=some u→b∉its:=fun b u e z=>by rw [(hf b z).1] at e; cases e
 refine I.step (g':=s.gens) (d':=s.drawn) (ch:=its) (fun b hb=>⟨(hf b hb).2.2.2.1,(hf b hb).2.1,(hf b hb).2.2.2.2.1,(hf b hb).2.2.2.2.2⟩) (fun b o _ _ hc e _=>k b o hc e) (fun b o _ _ hc e _=>⟨o.slots,k b o hc e⟩) (fun _ _ _ _ n=>n)
  (fun b o hc e=>⟨o,k b o hc e⟩) (fun _ _ e=>e) (fun _ _ _ e=>e) (fun b ps e=>⟨#[],by rw [e]; simp⟩) (fun m hm=>?_) (fun b u e=>?_) I.bare
 ·obtain ⟨o,es,ep,ho,r⟩:=hm
  exact ⟨o,es,ep,k _ o (fun z=>(hf _ z).2.1 rfl) ho,r⟩
 ·refine (I.hok b u e).stay (fun c v hc q=>k c v ?_ q) (fun _ q=>q) fun _ _ q=>q
  rcases hc with z | z
  ·rw [z]; exact nit b u e
  ·exact nit c _ z
end
structure ZN (z TI TO i1 i2:Addr):Prop where
 TIz:TI≠z
 TOz:TO≠z
 i1z:i1≠z
 i2z:i2≠z
 TITO:TI≠TO
 TIi1:TI≠i1
 TIi2:TI≠i2
 TOi1:TO≠i1
 TOi2:TO≠i2
 i12:i1≠i2
section
variable {X:Cx}
end
open PySem PySem.Spec PyProof.Rows
section
variable {κ:Type} [DecidableEq κ]
noncomputable def kU (kvs:List (κ×V)) (k:κ):Option V:=(kvs.find? fun kv=>decide (kv.1=k)).map (·.2)
noncomputable def gT (kvs:List (κ×V)) (k:κ) (v:V):List (κ×V) :=
 if (kvs.any fun kv=>decide (kv.1=k))=true then kvs.map (fun kv=>if kv.1=k then (kv.1,v) else kv) else kvs++[(k,v)]
theorem iY {p:κ×V} {r:List (κ×V)} {k:κ} (e:p.1=k):kU (p::r) k=some p.2:=by simp [kU,List.find?_cons,e]
theorem jf {p:κ×V} {r:List (κ×V)} {k:κ} (e:¬ p.1=k):kU (p::r) k=kU r k:=by simp [kU,List.find?_cons,e]
theorem rZ (k:κ):∀ kvs:List (κ×V),(kvs.any fun kv=>decide (kv.1=k))=(kU kvs k).isSome
 | []=>rfl
 | p::r=>by
  rw [List.any_cons]
  by_cases e:p.1=k
  ·simp only [iY e,decide_eq_true e,Bool.true_or,Option.isSome_some]
  ·rw [jf e,decide_eq_false e,Bool.false_or]; exact rZ k r
theorem gw (kvs:List (κ×V)) (k:κ) (v:V):(gT kvs k v).length≤kvs.length+1:=by
 unfold gT
 split
 ·rw [List.length_map]; omega
 ·rw [List.length_append,List.length_cons,List.length_nil]; omega
theorem rq.isSome_eq {o:Option V} {u:Option Value} (r:rq o u):o.isSome=u.isSome:=by
 cases o with
 | none=>cases u with
  | none=>rfl
  | some _=>exact (show False from r).elim
 | some _=>cases u with
  | none=>exact (show False from r).elim
  | some _=>rfl
theorem rq.getD {o:Option V} {u:Option Value} {d:V} {d':Value} (r:rq o u) (rd:bu d d'):bu (o.getD d) (u.getD d'):=by
 cases o with
 | none=>cases u with
  | none=>exact rd
  | some _=>exact (show False from r).elim
 | some _=>cases u with
  | none=>exact (show False from r).elim
  | some _=>exact r
theorem KV.val {kvs:List (κ×V)} {vs:List (κ×Value)} (r:KV kvs vs) (k:κ):rq (kU kvs k) (valueAt vs k):=by
 unfold KV at r
 induction r with
 | nil=>exact True.intro
 | @cons p q ps qs h t ih =>
  obtain ⟨h1,h2⟩:=h
  by_cases e:p.1=k
  ·have e':q.1=k:=h1.symm.trans e
   have b:valueAt (q::qs) k=some q.2:=by simp [valueAt,List.find?_cons,e']
   rw [iY e,b]; exact h2
  ·have e':¬ q.1=k:=fun z=>e (h1.trans z)
   have b:valueAt (q::qs) k=valueAt qs k:=by simp [valueAt,List.find?_cons,e']
   rw [jf e,b]; exact ih
theorem KV.any {kvs:List (κ×V)} {vs:List (κ×Value)} (r:KV kvs vs) (k:κ):(kvs.any fun kv=>decide (kv.1=k))=vs.any fun kv=>decide (kv.1=k):=by
 unfold KV at r
 induction r with
 | nil=>rfl
 | cons h t ih=>rw [List.any_cons,List.any_cons,ih,h.1]
theorem KV.repl {kvs:List (κ×V)} {vs:List (κ×Value)} (r:KV kvs vs) (k:κ) {y:V} {u:Value} (ry:bu y u) :
  KV (kvs.map fun kv=>if kv.1=k then (kv.1,y) else kv) (vs.map fun kv=>if kv.1=k then (kv.1,u) else kv):=by
 unfold KV at r ⊢
 induction r with
 | nil=>exact .nil
 | @cons p q ps qs h t ih =>
  rw [List.map_cons,List.map_cons]
  refine .cons ?_ ih
  obtain ⟨h1,h2⟩:=h
  by_cases e:p.1=k
  ·rw [if_pos e,if_pos (h1.symm.trans e)]; exact ⟨h1,ry⟩
  ·rw [if_neg e,if_neg (fun z=>e (h1.trans z))]; exact ⟨h1,h2⟩
theorem KV.put {kvs:List (κ×V)} {vs:List (κ×Value)} (r:KV kvs vs) (k:κ) {y:V} {u:Value} (ry:bu y u):KV (gT kvs k y) (stored vs k u):=by
 unfold gT stored
 rw [r.any k]
 by_cases e:(vs.any fun kv=>decide (kv.1=k))=true
 ·rw [if_pos e,if_pos e]; exact r.repl k ry
 ·rw [if_neg e,if_neg e]; exact Paired.snoc r ⟨rfl,ry⟩
theorem KV.length {kvs:List (κ×V)} {vs:List (κ×Value)} (r:KV kvs vs):kvs.length=vs.length:=Paired.length r
end
theorem xU {P:Program} {w:World} {k:Key} {u:Value} (r:bu (kV k) u):(bB P w).is k u=true:=by
 cases k with
 | inl i=>obtain ⟨t,e⟩:=(show ∃ t,u=Value.int i t from r); subst e; exact sU P w i t
 | inr x=>obtain ⟨t,e⟩:=(show ∃ t,u=Value.str x t from r); subst e; exact gW P w x t
theorem ow {P:Program} {w:World}:∀ {ks:List Key} {us:List Value},bq (ks.map kV) us→ItemsAre (bB P w) ks us
 | [],_,r=>by rw [List.map_nil] at r; cases r; exact .nil
 | k::ks,_,r=>by
  rw [List.map_cons] at r
  cases r with
  | cons h t=>exact .cons (xU h) (ow t)
noncomputable abbrev KT (H:Hp):List (List Key×V)→List (List Key×Addr×Value)→Prop:=Paired fun p q=>p.1=q.1∧H q.2.1=some (.tup (p.1.map kV))∧bu p.2 q.2.2
theorem KT.val {H:Hp} {kvs:List (List Key×V)} {xs:List (List Key×Addr×Value)} (r:KT H kvs xs) (k:List Key):rq (kU kvs k) ((atKey xs k).map (·.2)):=by
 induction r with
 | nil=>exact True.intro
 | @cons p q ps qs h t ih =>
  obtain ⟨h1,_,h2⟩:=h
  by_cases e:p.1=k
  ·have e':q.1=k:=h1.symm.trans e
   have b:atKey (q::qs) k=some q.2:=by simp [atKey,List.find?_cons,e']
   rw [iY e,b]; exact h2
  ·have e':¬ q.1=k:=fun z=>e (h1.trans z)
   have b:atKey (q::qs) k=atKey qs k:=by simp [atKey,List.find?_cons,e']
   rw [jf e,b]; exact ih
theorem KT.repl {H:Hp} {kvs:List (List Key×V)} {xs:List (List Key×Addr×Value)} (r:KT H kvs xs) (k:List Key) {y:V} {u:Value} (ry:bu y u) :
  KT H (kvs.map fun kv=>if kv.1=k then (kv.1,y) else kv) (xs.map (putAt k u)):=by
 induction r with
 | nil=>exact .nil
 | @cons p q ps qs h t ih =>
  rw [List.map_cons,List.map_cons]
  refine .cons ?_ ih
  obtain ⟨h1,h2,h3⟩:=h
  unfold putAt
  by_cases e:p.1=k
  ·rw [if_pos e,if_pos (h1.symm.trans e)]; exact ⟨h1,h2,ry⟩
  ·rw [if_neg e,if_neg (fun z=>e (h1.trans z))]; exact ⟨h1,h2,h3⟩
theorem KT.put {H:Hp} {kvs:List (List Key×V)} {xs:List (List Key×Addr×Value)} (r:KT H kvs xs) (k:List Key) {b:Addr} {y:V} {u:Value} (hb:H b=some (.tup (k.map kV))) (ry:bu y u) :
  KT H (gT kvs k y) (storedH xs k b u):=by
 have e:(kvs.any fun kv=>decide (kv.1=k))=(atKey xs k).isSome:=by
  rw [rZ,(r.val k).isSome_eq,Option.isSome_map]
 unfold gT storedH
 rw [e]
 by_cases q:(atKey xs k).isSome=true
 ·rw [if_pos q,if_pos q]; exact r.repl k ry
 ·rw [if_neg q,if_neg q]; exact Paired.snoc r ⟨rfl,hb,ry⟩
theorem KT.keeps {H H':Hp} {kvs:List (List Key×V)} {xs:List (List Key×Addr×Value)} (r:KT H kvs xs) (ht:∀ b ys,H b=some (.tup ys)→H' b=some (.tup ys)):KT H' kvs xs :=
 Paired.mapP r fun _ _ z=>⟨z.1,ht _ _ z.2.1,z.2.2⟩
section
variable {P:Program} {w:World} {H:Hp} {h:Heap} {a:Addr}
theorem DO {u:HO} (ok:HOk P w H h) (e:Rd H a u):bZ P w H h a u:=e.ok ok
theorem Bc {kvs:List (Key×V)} (ok:HOk P w H h) (e:Rd H a (.dK kvs)):kvs.length≤sizeLine∧(a==sysModules)=false∧∃ vs,KV kvs vs∧h.DictOf (bB P w) a vs :=
 show bZ P w H h a (.dK kvs) from DO ok e
theorem DP {kvs:List (Key×V)} (ok:HOk P w H h) (e:H a=some (.dK kvs)):kvs.length≤sizeLine∧(a==sysModules)=false∧∃ vs,KV kvs vs∧h.DictOf (bB P w) a vs:=Bc ok (.inl e)
theorem xE {ks:List Key} (ok:HOk P w H h) (e:H a=some (.tup (ks.map kV))):(tupleKind (bB P w)).is h ks a:=by
 obtain ⟨_,its,r,⟨o,h1,h2,n,h3⟩,_⟩:=(show bZ P w H h a (.tup (ks.map kV)) from ok a _ e)
 exact ⟨o,its.toArray,n,h1,h2,h3,by simpa using ow r⟩
theorem Cu {kvs:List (List Key×V)} (ok:HOk P w H h) (e:Rd H a (.dT kvs)):kvs.length≤sizeLine∧(a==sysModules)=false ∧
  ∃ xs,KT H kvs xs∧h.DictOfH (tupleKind (bB P w)) a xs:=by
 obtain ⟨z,y,xs,r,o,es,ep,h1,h2,h3,h4,h5⟩:=(show bZ P w H h a (.dT kvs) from DO ok e)
 refine ⟨z,y,xs,r,o,es,ep,h1,h2,h3,h4,fun x hx=>?_,h5⟩
 have all:∀ {l:List (List Key×V)} {m:List (List Key×Addr×Value)},KT H l m→∀ x∈m,(tupleKind (bB P w)).is h x.1 x.2.1:=by
  intro l m q
  induction q with
  | nil=>intro x hx; exact nomatch hx
  | @cons p q ps qs hq t ih =>
   intro x hx
   rcases List.mem_cons.mp hx with e | hx
   ·subst e
    exact xE ok (by rw [← hq.1]; exact hq.2.1)
   ·exact ih x hx
 exact all r x hx
theorem FV {kvs:List (List Key×V)} (ok:HOk P w H h) (e:H a=some (.dT kvs)):kvs.length≤sizeLine∧(a==sysModules)=false ∧
  ∃ xs,KT H kvs xs∧h.DictOfH (tupleKind (bB P w)) a xs:=Cu ok (.inl e)
end
noncomputable def Ae (H:Hp) (a:Addr) (y:V) (r:Option V):Prop :=
 (∃ kvs k,Rd H a (.dK kvs)∧y=kV k∧r=kU kvs k)∨∃ kvs k b,Rd H a (.dT kvs)∧y=.ref b∧H b=some (.tup (k.map kV))∧r=kU kvs k
noncomputable def zk (H:Hp) (a:Addr) (y v:V) (H':Hp):Prop :=
 (∃ kvs k,H a=some (.dK kvs)∧y=kV k∧kvs.length<sizeLine∧H'=upd H a (.dK (gT kvs k v))) ∨
 ∃ kvs k b,H a=some (.dT kvs)∧y=.ref b∧H b=some (.tup (k.map kV))∧kvs.length<sizeLine∧H'=upd H a (.dT (gT kvs k v))
theorem Ae.k {H:Hp} {a:Addr} {kvs:List (Key×V)} {k:Key} (e:H a=some (.dK kvs)):Ae H a (kV k) (kU kvs k):=.inl ⟨kvs,k,.inl e,rfl,rfl⟩
theorem zk.k {H:Hp} {a:Addr} {kvs:List (Key×V)} {k:Key} {v:V} (e:H a=some (.dK kvs)) (hl:kvs.length<sizeLine):zk H a (kV k) v (upd H a (.dK (gT kvs k v))):=.inl ⟨kvs,k,e,rfl,hl,rfl⟩
section
variable {X:Cx} {pins:List (Addr×Obj)} {σ:St} {H:Hp} {s:Shared} {a:Addr} {y v:V} {u r:Value} {o:Option V} {A:Around} {E:Value→Shared→Prop}
theorem Inv.big (I:Inv X pins σ H s):sysModules<s.heap.objs.size:=by
 have h:mainGlobals<s.heap.objs.size:=(I.mod.glob.keeps I.bk).lt
 exact Nat.lt_trans (by decide) h
theorem qc {h':Heap} {t':Nat} {ob:HO} (I:Inv X pins σ H s) (mu:Mut (H a)) (hs:Heap.SameBut a s.heap h') (he:∃ q,h'.get? a=some q) (new:bZ X.prog X.w (upd H a ob) h' a ob) :
  Inv X pins σ (upd H a ob) { s with heap:=h',toks:=t' } :=
 I.write (x:=a) (e:=a) mu (.inl rfl) (fun b q hb z=>(hs.2 b hb).trans z) he new
theorem Ba {P:Program} {w:World} {H':Hp} {h':Heap} {kvs:List (Key×V)} {vs:List (Key×Value)} (z:kvs.length≤sizeLine) (hd:(a==sysModules)=false) (rel:KV kvs vs) (dd:h'.DictOf (bB P w) a vs) :
  bZ P w H' h' a (.dK kvs):=⟨z,hd,vs,rel,dd⟩
theorem zN {H':Hp} {Q:Unit→Shared→Prop} (hu:A.units+1<cLine) (I:Inv X pins σ H s) (g:zk H a y v H') (ry:bu y u) (rv:bu v r) (h:∀ s',Inv X pins σ H' s'→Q () s') :
  wpAny (model X.prog X.w) A (setItem (.ref a) u r) Q E s:=by
 rcases g with ⟨kvs,k,e,ey,l,eH⟩ | ⟨kvs,k,b,e,ey,eb,l,eH⟩
 ·subst ey eH
  obtain ⟨z,hd,vs,rel,dd⟩:=DP I.hok e
  have hz:vs.length≤sizeLine:=by rw [← rel.length]; exact z
  have hl:(gT kvs k v).length≤sizeLine:=by have:=gw kvs k v; omega
  refine wpAny_setItem_pairs (hsz:=hz) (xU ry) dd fun h' dd' hs=>h _ ?_
  have he:∃ q,h'.get? a=some q:=let ⟨q,_,_,hq,_⟩:=dd'; ⟨q,hq⟩
  exact qc I (by rw [e]; exact True.intro) hs he (Ba hl hd (rel.put k rv) dd')
 ·subst ey eH
  cases (show u=Value.ref b from ry)
  obtain ⟨z,hd,xs,rel,dd⟩:=FV I.hok e
  have hz:xs.length≤sizeLine:=by rw [← Paired.length rel]; exact z
  have hl:(gT kvs k v).length≤sizeLine:=by have:=gw kvs k v; omega
  refine wpAny_setItem_heap (hsz:=hz) (tupleKind_room_in1 hu) (xE I.hok eb) dd fun h' dd' hs=>h _ ?_
  obtain ⟨q,es,ep,hq,h2,h3,h4,_,h5⟩:=dd'
  refine qc I (by rw [e]; exact True.intro) hs ⟨q,hq⟩ ⟨hl,hd,_,(rel.put k eb rv).keeps fun c ys ec=>?_,q,es,ep,hq,h2,h3,h4,h5⟩
  rw [aV (dN ec e (fun z=>nomatch z))]
  exact ec
end
section
variable {X:Cx} {pins:List (Addr×Obj)} {σ:St} {H:Hp} {s:Shared} {a:Addr} {kvs:List (Key×V)} {k:Key} {u:Value} {A:Around} {E:Value→Shared→Prop}
end
noncomputable def Gj (td ty tv:TE):TS:=fun D σ H=>tv σ H fun v H1=>td σ H1 fun x H2=>ty σ H2 fun y H3=>∃ a H4,x=.ref a∧zk H3 a y v H4∧D.nx σ H4
section
variable {X:Cx} {o i e value:Expr} {pos pos' tpos:Pos} {td ty tv:TE}
theorem yX (hu:X.A.units+1<cLine) (ho:PE X o td) (hi:PE X i ty) (hv:PE X value tv) (hs:swapsWith value (some (.Subscript o i pos')) pos.line X.env=pure false) :
  PS X (.Assign [.Subscript o i pos'] value pos) (Gj td ty tv):=by
 intro pins s σ H D I h
 refine wpAny_Assign_Subscript (thn (hv pins s σ H _ I h) fun r s1 ⟨v,H1,I1,rv,q1⟩=>thn (ho pins s1 σ H1 _ I1 q1) fun u s2 ⟨x,H2,I2,rx,q2⟩=>thn (hi pins s2 σ H2 _ I2 q2) fun iv s3 ⟨y,H3,I3,ry,a,H4,ex,g,q3⟩=>?_) hs
 subst ex
 obtain rfl:u=Value.ref a:=rx
 exact zN hu I3 g ry rv fun s4 I4=>⟨σ,H4,I4,q3⟩
end
theorem Cs {P:Program} {w:World} {H:Hp} (h:Heap) (hb:sysModules<h.objs.size):bZ P w H (h.push { cls:=.type "dict",data:=.dict #[] }) h.objs.size (.dK []) :=
 ⟨Nat.zero_le _,beq_eq_false_iff_ne.mpr (Ne.symm (Nat.ne_of_lt hb)),[],.nil,Heap.DictOf.new h⟩
section
variable {X:Cx} {pos:Pos}
end
noncomputable def vp:List (TE×TE)→St→Hp→(List (V×V)→Hp→Prop)→Prop
 | [],_,H,Q=>Q [] H
 | (tk,tv)::r,σ,H,Q=>tk σ H fun x H1=>tv σ H1 fun y H2=>vp r σ H2 fun ps H3=>Q ((x,y)::ps) H3
noncomputable abbrev VV:List (V×V)→List (Value×Value)→Prop:=Paired fun p q=>bu p.1 q.1∧bu p.2 q.2
noncomputable def PPs (X:Cx) (pos:Pos) (keys:List (Option Expr)) (values:List Expr) (trs:List (TE×TE)):Prop :=
 ∀ (pins:List (Addr×Obj)) (s:Shared) (σ:St) (H:Hp) (Q:List (V×V)→Hp→Prop),Inv X pins σ H s→vp trs σ H Q →
  wpAny (model X.prog X.w) X.A (evalPairs (pairTrees keys values X.env pos)) (fun vs s'=>∃ ps H',Inv X pins σ H' s'∧VV ps vs∧Q ps H') X.xe s
theorem CT {X:Cx} {pos:Pos}:PPs X pos [] [] []:=fun pins s σ H Q I h=>pairTrees_nil_walk ⟨[],H,I,.nil,h⟩
theorem fA {X:Cx} {pos:Pos} {k v:Expr} {ks:List (Option Expr)} {vs:List Expr} {tk tv:TE} {trs:List (TE×TE)} (hk:PE X k tk) (hv:PE X v tv) (hr:PPs X pos ks vs trs) :
  PPs X pos (some k::ks) (v::vs) ((tk,tv)::trs):=fun pins s σ H Q I h =>
 pairTrees_cons_walk (thn (hk pins s σ H _ I h) fun u s1 ⟨x,H1,I1,rx,q1⟩=>thn (hv pins s1 σ H1 _ I1 q1) fun w2 s2 ⟨y,H2,I2,ry,q2⟩ =>
  thn (hr pins s2 σ H2 _ I2 q2) fun ws s3 ⟨ps,H3,I3,rel,q3⟩=>⟨(x,y)::ps,H3,I3,.cons ⟨rx,ry⟩ rel,q3⟩)
noncomputable def ka (kvs more:List (Key×V)):List (Key×V):=more.foldl (fun acc kv=>gT acc kv.1 kv.2) kvs
theorem KV.merge:∀ {more:List (Key×V)} {rs:List (Key×Value)} {kvs:List (Key×V)} {vs:List (Key×Value)},KV more rs→KV kvs vs→KV (ka kvs more) (merged vs rs):=by
 intro more rs kvs vs r
 unfold KV at r
 induction r generalizing kvs vs with
 | nil=>intro q; exact q
 | @cons p q ps qs h t ih =>
  intro r0
  have e:KV (gT kvs p.1 p.2) (stored vs q.1 q.2):=by
   have:=r0.put p.1 h.2
   rw [← h.1]; exact this
  exact ih e
theorem iG:∀ (more kvs:List (Key×V)),(ka kvs more).length≤kvs.length+more.length
 | [],kvs=>by show kvs.length≤kvs.length+0; omega
 | p::r,kvs=>by
  have h1:=iG r (gT kvs p.1 p.2)
  have h2:=gw kvs p.1 p.2
  show (ka (gT kvs p.1 p.2) r).length≤_
  rw [List.length_cons]; omega
theorem lK {P:Program} {w:World}:∀ {kvs:List (Key×V)} {ws:List (Value×Value)},VV (kvs.map fun kv=>(kV kv.1,kv.2)) ws→∃ rs,Carries (bB P w) ws rs∧KV kvs rs
 | [],_,r=>by rw [List.map_nil] at r; cases r; exact ⟨[],True.intro,.nil⟩
 | p::kvs,_,r=>by
  rw [List.map_cons] at r
  cases r with
  | @cons a b as bs h t =>
   obtain ⟨rs,c,q⟩:=lK (P:=P) (w:=w) t
   obtain ⟨b1,b2⟩:=b
   exact ⟨(p.1,b2)::rs,⟨xU h.1,rfl,c⟩,.cons ⟨rfl,h.2⟩ q⟩
noncomputable def Hh (trs:List (TE×TE)):TE:=fun σ H Q=>∀ p,H p=none→vp trs σ (upd H p (.dK [])) fun ps H2=>H2 p=some (.dK [])∧∃ kvs:List (Key×V),ps=kvs.map (fun kv=>(kV kv.1,kv.2))∧kvs.length≤15∧Q (.ref p) (upd H2 p (.dK (ka [] kvs)))
theorem Dw {X:Cx} {pos:Pos} {keys:List (Option Expr)} {values:List Expr} {trs:List (TE×TE)} (h:PPs X pos keys values trs) (hall:keys.all (·.isSome)=true) (hl:keys.length=values.length) (h0:keys≠[])
  (h15:keys.length≤15):PE X (.Dict keys values pos) (Hh trs):=by
 intro pins s σ H Q I q
 have hn:=I.hok.fresh (Nat.le_refl s.heap.objs.size)
 have I1:=I.laid (a:=s.heap.objs.size) (o:=.dK []) (h':=s.heap.push { cls:=.type "dict",data:=.dict #[] }) (t':=s.toks) (fun _ _ q=>Heap.get?_push_of_some _ q) (Nat.le_refl _) (Cs s.heap I.big)
 refine wpAny_Dict_walk (knd:=bB X.prog X.w) hall hl h0 h15 (thn (h pins _ σ _ _ I1 (q _ hn)) fun ws s2 ⟨ps,H2,I2,rel,e,kvs,ep,lk,q2⟩=>?_)
 subst ep
 obtain ⟨rs,c,rk⟩:=lK (P:=X.prog) (w:=X.w) rel
 obtain ⟨z,hd,vs0,r0,dd⟩:=DP I2.hok e
 cases r0
 refine ⟨rs,c,dd,fun h' dd' hs=>⟨.ref s.heap.objs.size,_,?_,rfl,q2⟩⟩
 have hz:(ka [] kvs).length≤sizeLine:=by
  have h1:=iG kvs []
  rw [List.length_nil] at h1
  rw [sizeLine_eq]; omega
 have he:∃ q,h'.get? s.heap.objs.size=some q:=let ⟨q,_,_,hq,_⟩:=dd'; ⟨q,hq⟩
 exact qc I2 (by rw [e]; exact True.intro) hs he (Ba hz hd (rk.merge .nil) dd')
structure M1 (X:Cx) (o:Expr) (m:Str) (apos:Pos) (e:Expr) (cpos:Pos):Prop where
 base:attributeBase o m X.env (eval o X.env)=eval o X.env
 few:((backTo cpos (starEach [e] X.env)).all (fun x=>!x.1)&&(backToKw cpos (keywordEach [] X.env)).all (fun x=>x.1.isSome)
 &&decide (([e]:List Expr).length+([]:List Keyword).length+(if ([]:List Keyword).isEmpty then 0 else 1)<30))=true
 line:(apos.endLine==cpos.line)=true
 trees:backTo cpos (starEach [e] X.env)=[(false,eval e X.env)]
structure M2 (X:Cx) (o:Expr) (m:Str) (apos:Pos) (e f:Expr) (cpos:Pos):Prop where
 base:attributeBase o m X.env (eval o X.env)=eval o X.env
 few:((backTo cpos (starEach [e,f] X.env)).all (fun x=>!x.1)&&(backToKw cpos (keywordEach [] X.env)).all (fun x=>x.1.isSome)
 &&decide (([e,f]:List Expr).length+([]:List Keyword).length+(if ([]:List Keyword).isEmpty then 0 else 1)<30))=true
 line:(apos.endLine==cpos.line)=true
 trees:backTo cpos (starEach [e,f] X.env)=[(false,eval e X.env),(false,eval f X.env)]
noncomputable def IsD (H:Hp) (a:Addr):Prop:=(∃ kvs,Rd H a (.dK kvs))∨∃ kvs,Rd H a (.dT kvs)
theorem Fl {X:Cx} {pins:List (Addr×Obj)} {σ:St} {H:Hp} {s:Shared} {a:Addr} (I:Inv X pins σ H s) (d:IsD H a) :
  s.TypeIs (.ref a) "dict"∧(∀ b,Value.ref a=.ref b→∃ ob,s.heap.get? b=some ob∧ob.dict=none)∧(a==sysModules)=false:=by
 rcases d with ⟨kvs,e⟩ | ⟨kvs,e⟩
 ·obtain ⟨_,hd,vs,_,dd⟩:=Bc I.hok e
  refine ⟨dd.typeIs,fun b q=>?_,hd⟩
  cases q
  obtain ⟨ob,_,_,h1,h2,_⟩:=dd
  exact ⟨ob,h1,h2.2.1⟩
 ·obtain ⟨_,hd,xs,_,dd⟩:=Cu I.hok e
  refine ⟨dd.typeIs,fun b q=>?_,hd⟩
  cases q
  obtain ⟨ob,_,_,h1,h2,_⟩:=dd
  exact ⟨ob,h1,h2.2.1⟩
section
variable {X:Cx} {pins:List (Addr×Obj)} {σ:St} {H:Hp} {s:Shared} {a:Addr} {y d:V} {u r:Value} {o:Option V} {A:Around} {E:Value→Shared→Prop}
theorem EE {Q:Value→Shared→Prop} (hu:A.units+1<cLine) (I:Inv X pins σ H s) (g:Ae H a y o) (ry:bu y u) (h:∀ w' s',Inv X pins σ H s'→bu (o.getD .non) w'→Q w' s') :
  wpAny (model X.prog X.w) A (call (.builtin "dict.get") [.ref a,u]) Q E s:=by
 rcases g with ⟨kvs,k,e,ey,l⟩ | ⟨kvs,k,b,e,ey,eb,l⟩
 ·subst ey
  obtain ⟨z,hd,vs,rel,dd⟩:=Bc I.hok e
  refine call_meetsIn PySem.F.slot_dict_get dd.typeIs PySem.F.entry_dict_get (PySem.F.args_dict_get_2 _ _) (meets_dict_get (bB X.prog X.w) a (xU ry) hd) ⟨_,dd.mapOf,h _ _ (I.tok _) ?_⟩
  rw [l]
  exact (rel.val k).getD rfl
 ·subst ey
  cases (show u=Value.ref b from ry)
  obtain ⟨z,hd,xs,rel,dd⟩:=Cu I.hok e
  refine call_meetsIn PySem.F.slot_dict_get dd.typeIs PySem.F.entry_dict_get (PySem.F.args_dict_get_2 _ _) (meetsH_dict_get (tupleKind (bB X.prog X.w)) a b hd) ⟨tupleKind_room_in1 hu,k,xs,xE I.hok eb,dd,h _ _ (I.tok _) ?_⟩
  rw [l]
  exact (rel.val k).getD rfl
end
noncomputable def Er (td ty:TE):TE:=fun σ H Q=>td σ H fun x H1=>∃ a,x=.ref a∧IsD H1 a∧ty σ H1 fun y H2=>∃ o,Ae H2 a y o∧Q (o.getD .non) H2
section
variable {X:Cx} {o e f:Expr} {apos cpos:Pos} {td ty tx:TE}
theorem AX (hu:X.A.units+1<cLine) (ho:PE X o td) (he:PE X e ty) (m:M1 X o "get" apos e cpos):PE X (.Call (.Attribute o "get" apos) [e] [] cpos) (Er td ty):=by
 intro pins s σ H Q I h
 refine wpAny_Call_method m.base m.few m.line PySem.F.plainAttrs_dict PySem.F.slot_dict_get PySem.F.type_dict_get (thn (ho pins s σ H _ I h) fun u s1 ⟨x,H1,I1,rx,a,ex,d,q1⟩=>?_)
 subst ex
 obtain rfl:u=Value.ref a:=rx
 obtain ⟨t1,t2,_⟩:=Fl I1 d
 refine ⟨t1,t2,?_⟩
 rw [m.trees]
 refine Calls.callWith_builtin rfl (Calls.evalArgs_plain (Calls.spliced_cons (thn (he pins s1 σ H1 _ I1 q1) fun iv s2 ⟨y,H2,I2,ry,ov,g,q2⟩=>Calls.spliced_nil ?_)))
 exact EE hu I2 g ry fun w' s3 I3 rw'=>⟨_,H2,I3,rw',q2⟩
end
section
variable {X:Cx} {pins:List (Addr×Obj)} {σ:St} {H:Hp} {s:Shared} {a:Addr} {kvs:List (Key×V)} {A:Around} {E:Value→Shared→Prop}
end
section
variable {X:Cx} {pins:List (Addr×Obj)} {σ:St} {H:Hp} {s:Shared} {a:Addr} {y:V} {u:Value} {A:Around} {E:Value→Shared→Prop}
end
section
variable {X:Cx}
end
section
variable {κ:Type} [DecidableEq κ]
end
open PySem PySem.Spec PyProof.Rows
section
variable {m:Nat} {g:TG} {tt:TT} {te:TE} {σ':St} {Z:List V→Hp→Prop} {H1:Hp} {K:Frag}
theorem fJ {a:Addr} {xs:List V} (n:Nat) (hz:n=xs.length) (hn:n≤1000) (Pv:Nat→List V→Hp→Prop) (h0:Pv 0 [] H1) (hq:∀ i acc H,Pv i acc H→SqL K H a xs)
  (hs:∀ i acc H x,i<n→acc.length≤i→xs[i]?=some x→Pv i acc H→g x σ' H fun σ2 H2=>(σ2.drop m=σ'.drop m∧σ2.length=σ'.length)∧tt σ2 H2 fun b H3=>if b=true then te σ2 H3 fun v H4=>NxT n Pv i acc v H4 else NxF n Pv i acc H3)
  (hd:∀ acc H,Pv n acc H→acc.length≤n→Z acc H):iE (Itl K a) m g tt te σ' Z H1 :=
 jW n hn Pv h0 (fun i acc H hi la p=>by
  have hx:xs[i]?=some (xs[i]'(by omega)):=List.getElem?_eq_getElem (by omega)
  exact ⟨⟨xs,_,hq i acc H p,hx⟩,fun x H' y=>by obtain ⟨e,y⟩:=y; subst e; exact hs i acc _ x hi la (y xs (hq i acc _ p)) p⟩) fun acc H p la=>⟨⟨xs,hq n acc H p,by omega⟩,hd acc H p la⟩
end
section
variable {X:Cx}
end
theorem jA {t u:L2.TS} {D:mX} {σ:St} {H:Hp} (J:St→Hp→Prop) (h1:∀ NX:St→Hp→Prop,(∀ σ H,J σ H→NX σ H)→t { D with nx:=NX } σ H) (h2:∀ σ H,J σ H→u D σ H):GQ t u D σ H:=h1 _ h2
open PySem PySem.Spec PyProof.Rows
section
variable {X:Cx}
structure KD (K:Frag) (w:World) (a:Addr) (kvs:List (Str×Str)):Prop where
 ex:∃ es n,K.lookup a=some ⟨.type "dict",none,.dict es n,#[]⟩∧KeysLit w.params es.toList
 at_:∀ p∈kvs,∃ t,PySem.W.nsIn K a p.1=some (some (.str p.2 t))
end
end L2
namespace PySem
open Sem (wp)
namespace F
theorem no_tuple_reversed:typeLookup (.type "tuple") "__reversed__"=pure none:=by rw [typeLookup_type,builtinLookup_eq_fast]; kernel_rfl
theorem hV:Manifest.owners.lookup (String.ofList ['d','e','s','r','e','v','e','r'].reverse)=some Manifest.sig_reversed:=by kernel_rfl
theorem iT:Slot "reversed" "__init__" "object.__init__" :=
 .of (owner := "object") (n := "__init__") (by rw [typeLookup_type,builtinLookup_eq_fast]; kernel_rfl) (by decide +kernel) (by decide +kernel) (by decide +kernel)
  (by first | exact .inl (by decide +kernel) | exact .inr (by decide +kernel)) (by rw [isSubtype_type]; kernel_rfl)
theorem slot_reversed_next:Slot "reversed" "__next__" "reversed.__next__" :=
 .of (owner := "reversed") (n := "__next__") (by rw [typeLookup_type,builtinLookup_eq_fast]; kernel_rfl) (by decide +kernel) (by decide +kernel) (by decide +kernel)
  (by first | exact .inl (by decide +kernel) | exact .inr (by decide +kernel)) (by rw [isSubtype_type]; kernel_rfl)
theorem slot_reversed_iter:Slot "reversed" "__iter__" "reversed.__iter__" :=
 .of (owner := "reversed") (n := "__iter__") (by rw [typeLookup_type,builtinLookup_eq_fast]; kernel_rfl) (by decide +kernel) (by decide +kernel) (by decide +kernel)
  (by first | exact .inl (by decide +kernel) | exact .inr (by decide +kernel)) (by rw [isSubtype_type]; kernel_rfl)
theorem entry_reversed_next:entryFor table "reversed.__next__"=some Builtin.«reversed.__next__»:=entryFor_of_tree (by kernel_rfl)
theorem args_reversed_next_1 (a:Value):argsOk "reversed.__next__" ⟨[a],[]⟩:=by
 unfold argsOk; rw [signature?_of (id := "reversed.__next__") (n:=['_','_','t','x','e','n','_','_']) (o:=['d','e','s','r','e','v','e','r']) (by kernel_rfl) hV]; kernel_rfl
theorem args_reversed_iter_1 (a:Value):argsOk "reversed.__iter__" ⟨[a],[]⟩:=by
 unfold argsOk; rw [signature?_of (id := "reversed.__iter__") (n:=['_','_','r','e','t','i','_','_']) (o:=['d','e','s','r','e','v','e','r']) (by kernel_rfl) hV]; kernel_rfl
theorem entry_reversed_iter:entryFor table "reversed.__iter__"=some Builtin.«dict_keyiterator.__iter__» :=
 entryFor_alias (id' := "dict_keyiterator.__iter__") (by kernel_rfl) (by first | rfl | decide +kernel | (unfold String.splitOn; simp +decide [String.splitOnAux])) (by decide +kernel) (by kernel_rfl)
theorem called_reversed:TypeCalled "reversed" "reversed.__new__" "object.__init__" :=
 ⟨by decide +kernel,by decide +kernel,⟨_,_,mro_reversed⟩,made_reversed,by decide +kernel,by rw [isSubtype_type]; kernel_rfl,iT⟩
end F
section
variable {prog:Program} {w:World} {A:Around} {E:Value→Shared→Prop} {s:Shared}
noncomputable def qZ (t:Addr) (i:Int):Obj:={ cls:=.type "reversed",data:=.fields #[.ref t,rawInt i] }
theorem iW (t:Addr) (items:Array Value) (hz:¬ (items.size:Int) ≥ 2 ^ 63) :
  Meets (Builtin.«reversed.__new__» ⟨[.type "reversed",.ref t],[]⟩) (fun _ R s=>PyProof.Rows.IsTup s.heap t items ∧
   R (.ok (.ret (.ref s.heap.objs.size))) { s with heap:=s.heap.push (qZ t ((items.size:Int) - 1)),toks:=s.toks+1+1 }) :=
 .of_wp fun prog w A R s h=>by
  obtain ⟨ht,h⟩:=h
  have hT:s.TypeIs (.ref t) "tuple":=ht.typeIs
  unfold Builtin.«reversed.__new__»
  refine wpAny_bind (wpAny_of_eq (newClass_reversed _) ?_)
  try dsimp only
  refine wpAny_bind (wpAny_of_eq (a:=()) (by first | rfl | kernel_rfl) ?_)
  refine wpAny_bind (wpAny_of_eq (a:=()) (by first | rfl | kernel_rfl) ?_)
  try dsimp only
  refine wpAny_bind (wpAny_specialOf hT F.no_tuple_reversed ?_)
  try dsimp only
  refine wpAny_bind ?_
  show wpAny _ _ (isInstance (.ref t) (.type "dict") >>= _) _ _ _
  refine wpAny_bind (wpAny_isInstance hT F.sub_tuple_dict ?_)
  rw [if_neg (by decide)]
  refine wpAny_bind (wpAny_specialOf hT F.slot_tuple_getitem.lookup ?_)
  dsimp only
  rw [if_pos (by decide +kernel)]
  refine wpAny_pure ?_
  rw [if_neg (by decide)]
  refine wpAny_bind (PyProof.Rows.len_tuple ht (by omega) ?_)
  refine wpAny_bind (wpAny_of_eq (a:=some ((items.size:Nat):Int)) rfl ?_)
  dsimp only
  unfold Builtin.SmallTypes.newRecord
  exact wpAny_bind (wpAny_newObj_type (wpAny_pure ⟨_,rfl,h⟩))
theorem iD {t:Addr} {items:Array Value} {Q:Value→Shared→Prop} (ht:PyProof.Rows.IsTup s.heap t items) (hz:¬ (items.size:Int) ≥ 2 ^ 63)
  (h:Q (.ref s.heap.objs.size) { s with heap:=s.heap.push (qZ t ((items.size:Int) - 1)),toks:=s.toks+1+1 }):wpAny (model prog w) A (call (.type "reversed") [.ref t]) Q E s:=by
 refine callType_new F.called_reversed (by decide) (F.typeCall_reversed_1 _) (F.newCall_reversed_1 _) (fun obj=>F.args_object_init_2 obj _) F.entry_reversed_new (iW t items hz) ⟨ht,?_⟩
 exact ⟨⟨_,Heap.get?_push_size _ rfl,rfl⟩,h⟩
noncomputable def Heap.IsRvt (h:Heap) (a t:Addr) (i:Int):Prop:=∃ o,h.get? a=some o∧o.cls=.type "reversed"∧o.data=.fields #[.ref t,rawInt i]
theorem Heap.IsRvt.typeIs {a l:Addr} {i:Int} (x:s.heap.IsRvt a l i):s.TypeIs (.ref a) "reversed":=let ⟨o,ho,hc,_⟩:=x; ⟨o,ho,hc⟩
theorem Heap.IsRvt.at {h h':Heap} {a l:Addr} {i:Int} (x:h.IsRvt a l i) (e:∀ o,h.get? a=some o→h'.get? a=some o):h'.IsRvt a l i:=let ⟨o,ho,r⟩:=x; ⟨o,e _ ho,r⟩
theorem kK {it t:Addr} {i:Nat} {items:Array Value} {x:Value} {Q:Option Value→Shared→Prop} (hit:s.heap.IsRvt it t (i:Int)) (ht:PyProof.Rows.IsTup s.heap t items) (hb:(i:Int)<2 ^ 63) (hx:items[i]?=some x)
  (hQ:∀ h' tk,h'.IsRvt it t ((i:Int) - 1)→Heap.SameBut it s.heap h'→Q (some x) { s with heap:=h',toks:=tk }):wpAny (model prog w) A (pyNext (.ref it)) Q E s:=by
 obtain ⟨o,ho,hc,hd⟩:=id hit
 have hT:s.TypeIs (.ref t) "tuple":=ht.typeIs
 unfold pyNext
 refine wpAny_bind (wpAny_attempt (wpAny_callSpecial?_slot (name:=Str.ofString "__next__") hit.typeIs F.slot_reversed_next
  (wpAny_call_entry F.slot_reversed_next hit.typeIs F.entry_reversed_next ?_ (F.args_reversed_next_1 _))))
 unfold Builtin.«reversed.__next__»
 refine wpAny_bind (wpAny_of_eq (a:=(Value.ref it,[])) rfl ?_)
 try dsimp only
 refine wpAny_bind (wpAny_field ho hd (x:=.ref t) rfl ?_)
 refine wpAny_bind (wpAny_field ho hd (x:=rawInt (i:Int)) rfl ?_)
 show wpAny _ _ (if (i:Int)<0 then _ else _) _ _ s
 rw [if_neg (by omega)]
 refine wpAny_bind (wpAny_specialOf hT F.slot_tuple_getitem.lookup ?_)
 rw [if_neg (by simp)]
 refine wpAny_bind (wpAny_mkInt ?_)
 have hi:i<items.size:=(Array.getElem?_eq_some_iff.mp hx).1
 refine wpAny_bind (wpAny_attempt (PyProof.Rows.getItem_tuple ht (by omega) hb (j:=i) (by simp [seqIndex?]; omega) hx ?_))
 dsimp only
 refine wpAny_bind (wpAny_field ho hd (x:=rawInt (i:Int)) rfl ?_)
 show wpAny _ _ (setField (.ref it) 1 (rawInt ((i:Int) - 1)) >>= _) _ _ _
 refine wpAny_bind (wpAny_setField ho hd (by simp) ?_)
 refine wpAny_pure ⟨x,rfl,wpAny_pure (hQ _ _ ?_ (Heap.SameBut.update ..))⟩
 exact ⟨_,Heap.get?_update_self _ ho (Obj.isFreed_of_fields (Obj.data_mapFields hd _)),(Obj.cls_mapFields ..).trans hc,by
  rw [Obj.data_mapFields hd]; simp⟩
theorem ma {it t:Addr} {Q:Option Value→Shared→Prop} (hh:A.handled=none) (hit:s.heap.IsRvt it t (-1))
  (hQ:∀ h',Heap.ExtBut it s.heap h'→Q none { s with heap:=h' }):wpAny (model prog w) A (pyNext (.ref it)) Q E s:=by
 obtain ⟨o,ho,hc,hd⟩:=id hit
 unfold pyNext
 refine wpAny_bind (wpAny_attempt (wpAny_callSpecial?_slot (name:=Str.ofString "__next__") hit.typeIs F.slot_reversed_next
  (wpAny_call_entry F.slot_reversed_next hit.typeIs F.entry_reversed_next ?_ (F.args_reversed_next_1 _))))
 unfold Builtin.«reversed.__next__»
 refine wpAny_bind (wpAny_of_eq (a:=(Value.ref it,[])) rfl ?_)
 try dsimp only
 refine wpAny_bind (wpAny_field ho hd (x:=.ref t) rfl ?_)
 refine wpAny_bind (wpAny_field ho hd (x:=rawInt (-1)) rfl ?_)
 show wpAny _ _ (if (-1:Int)<0 then _ else _) _ _ s
 rw [if_pos (by decide)]
 refine wpAny_bind (wpAny_rule ?_)
 refine wpAny_bind ?_
 show wpAny _ _ (setField (.ref it) 1 (rawInt (-1)) >>= fun _=>setField (.ref it) 0 .none) _ _ _
 refine wpAny_bind (wpAny_setField ho hd (by simp) ?_)
 have ho2:=Heap.get?_update_self (Obj.mapFields fun f=>f.set! 1 (rawInt (-1))) ho (Obj.isFreed_of_fields (Obj.data_mapFields hd _))
 refine wpAny_setField ho2 (Obj.data_mapFields hd _) (by simp) ?_
 have eb:Heap.ExtBut it s.heap ((s.heap.update it (Obj.mapFields fun x=>x.setIfInBounds 1 (rawInt (-1)))).update it (Obj.mapFields fun x=>x.setIfInBounds 0 Value.none)):=fun b o hb e=>(Heap.get?_update_other _ _ (Ne.symm hb)).trans ((Heap.get?_update_other _ _ (Ne.symm hb)).trans e)
 refine wpAny_bind ?_
 show wpAny _ _ (newExc (.type "StopIteration") [] >>= _) _ _ _
 refine wpAny_bind ?_
 simp only [newExc,newTuple]
 refine wpAny_bind (wpAny_newObj_type ?_ (by size_fits))
 refine wpAny_bind (m:=firstArgMember _ _) (wpAny_of_eq (a:=Value.none) (by first | rfl | (simp only [firstArgMember]; rfl)) ?_)
 refine wpAny_newObj_type ?_ (by size_fits)
 simp only [raiseNew]
 refine wpAny_bind (wpAny_handled ?_)
 first | rw [show A.in1.handled=none from hh] | rw [hh]
 refine wpAny_bind (wpAny_pure (wpAny_throw ?_))
 refine wpAny_bind (wpAny_isInstance (T := "StopIteration") (b:=true) ⟨_,Heap.get?_push_size _ rfl,rfl⟩ isSubtype_stop ?_)
 exact wpAny_pure (hQ _ ((eb.push _).push _))
theorem mz {it t:Addr} {i:Int} {Q:Value→Shared→Prop} (hit:s.heap.IsRvt it t i) (h:Q (.ref it) s):wpAny (model prog w) A (pyIter (.ref it)) Q E s:=by
 refine wpAny_pyIter_slot hit.typeIs F.slot_reversed_iter (wpAny_call_entry F.slot_reversed_iter hit.typeIs F.entry_reversed_iter ?_ (F.args_reversed_iter_1 _))
 show wpAny _ _ (ret (.ref it)) _ _ s
 exact wpAny_pure ⟨_,rfl, "reversed",_,hit.typeIs,F.slot_reversed_next.lookup,h⟩
end
open Sem (wp)
namespace F
end F
section
variable {prog:Program} {w:World} {A:Around} {E:Value→Shared→Prop} {s:Shared}
end
section
variable {prog:Program} {w:World} {A:Around} {s:Shared} {R:Result→Shared→Prop}
variable {I:Addr} {fp wr:List Addr} {n:Nat} {P:Nat→Value→Prop} {St:Nat→Heap→Prop}
end
section
variable {prog:Program} {w:World} {A:Around} {E:Value→Shared→Prop} {s:Shared}
variable {I:Addr} {fp wr:List Addr} {n:Nat} {P:Nat→Value→Prop} {St:Nat→Heap→Prop}
end
end PySem
namespace L2
open PySem PySem.Spec PyProof.Rows
theorem iH:bootBuiltins "reversed"=some (.type "reversed"):=by decide +kernel
section
variable {X:Cx}
end
open PySem PySem.Spec PyProof.Rows
noncomputable def Itv (K:Frag) (a:Addr) (n:Nat):It :=
 ⟨fun i H=>i<n∧∃ xs,SqL K H a xs∧xs.length=n,fun i H x H'=>H'=H∧∀ xs,SqL K H a xs→xs[n - 1 - i]?=some x,fun i _=>i=n⟩
theorem Bg {P:Program} {w:World} {K:Frag} {tg:Expr} (a it:Addr) (n:Nat):nG P w K tg (Itv K a n) [it] it (fun i h=>h.IsRevIter it a ((n:Int) - 1 - (i:Int))) where
 mem:=by simp
 obj:=fun i h st b hb=>by
  have e:b=it:=by simpa using hb
  subst e
  obtain ⟨o,e,c,d⟩:=st
  exact ⟨o,e,fun v z=>by rw [d] at z; cases z⟩
 keep:=fun i h h' st k=>st.at fun o e=>k it (by simp) o e
 item:=by
  intro X hP hw hK hc i pins s σ H E I hf st hg
  subst hP hw hK
  obtain ⟨hi,xs,hq,hn⟩:=hg
  obtain ⟨its,rv,p,hz⟩:=I.list hq
  have hx:xs[n - 1 - i]?=some (xs[n - 1 - i]'(by omega)):=List.getElem?_eq_getElem (by omega)
  obtain ⟨u,hu,ru⟩:=rv.get hx
  obtain ⟨f0,f1,f2,f3,f4,f5⟩:=hf it (by simp)
  have e:(n:Int) - 1 - (i:Int)=((n - 1 - i:Nat):Int):=by omega
  have st1:=st
  rw [e] at st1
  refine wpAny_pyNext_rev_item st1 p.isList (x:=u) (by simpa using hu) fun h' st' sb=>?_
  have e2:((n - 1 - i:Nat):Int) - 1=(n:Int) - 1 - ((i+1:Nat):Int):=by omega
  rw [e2] at st'
  have I1:Inv X pins σ H { s with heap:=h' }:=I.turned (t':=s.toks) (fun b o hb e=>(sb.2 b hb).trans e) f0 f1 f3 f4 f5
  obtain ⟨o,eo,c,d⟩:=id st'
  exact ⟨u,rfl,lW (s:={ s with heap:=h' }) eo c d (by decide) ⟨_,H,I1,ru,⟨rfl,fun ys hy=>by rw [I.list_inj hy hq]; exact hx⟩,st',fun b hb=>(hf b hb).1⟩⟩
 done:=by
  intro X hP hw hK hc i pins s σ H E I hf st hg
  subst hP hw hK
  obtain ⟨f0,f1,f2,f3,f4,f5⟩:=hf it (by simp)
  have hg2:i=n:=hg
  have e:(n:Int) - 1 - (i:Int)=-1:=by omega
  have st1:=st
  rw [e] at st1
  exact wpAny_pyNext_rev_end (I.ok.hd hc) st1 fun h' eb=>⟨rfl,I.turned (t':=s.toks) (fun b o hb e=>eb b o hb e) f0 f1 f3 f4 f5⟩
 self:=fun _ _ _ _ _ st h=>wpAny_pyIter_revIter st h
section
variable {X:Cx} {tg:Expr}
noncomputable def Hu (K:Frag) (te:TE):TI:=fun σ H R=>te σ H fun x H1=>∃ a xs,x=.ref a∧SqL K H1 a xs∧R (Itv K a xs.length) H1
theorem Fw {e:Expr} {te:TE} {p pos:Pos} (hg:Gl X "reversed") (hm:X.mg "reversed"=none) (he:PE X e te)
  (hs:starEach [e] X.env=(false,eval e X.env)::starEach [] X.env:=by exact ac rfl):PI X tg (.Call (.Name "reversed" p) [e] [] pos) (Hu X.K te):=by
 intro pins s σ H R I h
 refine wpAny_Call_Name_kw (fT I hg hm iH ?_)
 refine PyProof.Rows.callWith_type1 ?_ hs rfl
 rw [hs]
 show wpAny _ _ (spliced ((false,eval e X.env)::[])) _ _ s
 refine Calls.spliced_cons (thn (he pins s σ H _ I h) fun u s1 ⟨x,H1,I1,r1,q1⟩=>?_)
 obtain ⟨a,xs,rfl,hq,q⟩:=q1
 cases r1
 refine Calls.spliced_nil ?_
 obtain ⟨its,r',pl,hz⟩:=I1.list hq
 have hlen:=r'.length
 refine call_reversed_list pl.isList ?_
 have hit:(s1.heap.push (revObj a ((its.toArray.size:Int) - 1))).IsRevIter s1.heap.objs.size a ((its.toArray.size:Int) - 1):=⟨_,Heap.get?_push_size _ rfl,rfl,rfl⟩
 refine wpAny_pyIter_revIter (s:={ s1 with heap:=s1.heap.push (revObj a ((its.toArray.size:Int) - 1)) }) hit ?_
 refine ⟨s1.heap.objs.size,[s1.heap.objs.size],_,_,H1,rfl,I1.kept (t':=s1.toks) fun b o e=>Heap.get?_push_of_some _ e,Bg a _ xs.length,?_,fun b hb=>?_,q⟩
 ·have z:(xs.length:Int) - 1 - ((0:Nat):Int)=(its.toArray.size:Int) - 1:=by simp only [List.size_toArray]; omega
  show Heap.IsRevIter _ _ _ ((xs.length:Int) - 1 - ((0:Nat):Int))
  rw [z]
  exact hit
 ·have e:b=s1.heap.objs.size:=by simpa using hb
  subst e
  exact I1.fpOk (Nat.le_refl _) (I1.hok.fresh (Nat.le_refl _))
end
theorem Dn {K:Frag} {a:Addr} {xs:List V} {g:TG} {tb:TS} {D:mX} {σ:St} {H:Hp} (Pv:Nat→St→Hp→Prop) (h0:Pv 0 σ H) (hl:∀ i σ H,i≤xs.length→Pv i σ H→SqL K H a xs)
  (hs:∀ i x σ H,xs.reverse[i]?=some x→Pv i σ H→g x σ H fun σ2 H2=>tb { D with nx:=Pv (i+1),ct:=Pv (i+1),bk:=D.nx } σ2 H2) (hd:∀ σ H,Pv xs.length σ H→D.nx σ H) :
  ∃ W:Nat→Nat→St→Hp→Prop,(∃ m,W 0 m σ H)∧∀ i m σ H,W i m σ H →
   ((Itv K a xs.length).stop i H∧D.nx σ H)∨((Itv K a xs.length).go i H∧∃ N:St→Hp→Prop,(∀ σ' H',N σ' H'→∃ m',m'<m∧W (i+1) m' σ' H')∧∀ x H',(Itv K a xs.length).yld i H x H'→g x σ H' fun σ2 H2=>tb { D with nx:=N,ct:=N,bk:=D.nx } σ2 H2):=by
 refine ⟨fun i m σ H=>m=xs.length - i∧i≤xs.length∧Pv i σ H,⟨xs.length,by simp,Nat.zero_le _,h0⟩,?_⟩
 rintro i m σ H ⟨rfl,hi,p⟩
 have q:=hl i σ H hi p
 by_cases hlt:i<xs.length
 ·refine .inr ⟨⟨hlt,xs,q,rfl⟩,Pv (i+1),fun σ' H' p'=>⟨xs.length - (i+1),by omega,rfl,hlt,p'⟩,fun x H' y=>?_⟩
  obtain ⟨e,y⟩:=y
  subst e
  exact hs i x σ _ (by rw [List.getElem?_reverse hlt]; exact y xs q) p
 ·have e:i=xs.length:=by omega
  subst e
  exact .inl ⟨rfl,hd σ H p⟩
end L2
namespace PySem
section
variable {prog:Program} {w:World} {A:Around} {R:Result→Shared→Prop} {I:Addr} {fp wr:List Addr} {G:Array GenState→Array GenState→Prop} {n:Nat} {P:Nat→Value→Prop} {St:Nat→Shared→Prop}
theorem oy {prog:Program} {w:World} {S:Addr} {f:Str→Bool} {n:Nat} {h h':Heap} (x:h.SetOf (strKind prog w) S f n) (k:∀ o,h.get? S=some o→h'.get? S=some o):h'.SetOf (strKind prog w) S f n :=
 let ⟨o,es,ep,t,ho,r⟩:=x; ⟨o,es,ep,t,k _ ho,r⟩
theorem zS {ts:List Str} {i:Nat} {z:Str} (nd:ts.Nodup) (h:ts[i]?=some z):(ts.take i).any (·==z)=false:=by
 rw [Bool.eq_false_iff]
 intro c
 obtain ⟨y,hy,e⟩:=List.any_eq_true.mp c
 have e':y=z:=eq_of_beq e
 subst e'
 obtain ⟨hlt,ez⟩:=List.getElem?_eq_some_iff.mp h
 have hd:=List.drop_eq_getElem_cons hlt
 rw [ez] at hd
 rw [← List.take_append_drop i ts,hd] at nd
 exact (List.nodup_append.mp nd).2.2 y hy y List.mem_cons_self rfl
theorem lO (W:WalksS prog w A.in1 I fp wr G n P St) (S:Addr) (hSf:S∉fp) (ts:List Str) (hn:n=ts.length) (nd:ts.Nodup) (hval:∀ i v,P i v→∃ z t,ts[i]?=some z∧v=.str z t) (hb:n+1<scanBound) :
  ∀ (k i:Nat) (s:Shared),n - i=k→i≤n→St i s→s.heap.SetOf (strKind prog w) S (fun z=>(ts.take i).any (·==z)) i →
   (∀ s',Moved (S::wr) G s s'→s'.heap.SetOf (strKind prog w) S (fun z=>ts.any (·==z)) n→R (.ok (.ret .none)) s')→codeAny (model prog w) A (.builtin "set.update.loop" ⟨[.ref S,.ref I],[]⟩) R s:=by
 have hSw:S∉wr:=fun h=>hSf (W.sub _ h)
 have up:∀ b∈wr,b∈S::wr:=fun b h=>List.mem_cons_of_mem _ h
 intro k
 induction k with
 | zero =>
  intro i s hk hi hst hS hR
  obtain rfl:i=n:=by omega
  refine codeAny_builtin PyProof.Rows.F.entry_set_update_loop ?_
  rw [Around.under_plainId PyProof.Rows.F.plain_set_update_loop]
  show wpAny _ A.in1 (pyNext (.ref I) >>= _) _ _ _
  refine wpAny_bind (W.done s _ _ hst fun s' hm=>wpAny_pure (hR s' (hm.mono up) ?_))
  have e:ts.take i=ts:=by rw [hn,List.take_length]
  rw [e] at hS
  exact oy hS fun o ho=>hm.heap S o hSw ho
 | succ k ih =>
  intro i s hk hi hst hS hR
  refine codeAny_builtin PyProof.Rows.F.entry_set_update_loop ?_
  rw [Around.under_plainId PyProof.Rows.F.plain_set_update_loop]
  show wpAny _ A.in1 (pyNext (.ref I) >>= _) _ _ _
  refine wpAny_bind (W.item i s _ _ (by omega) hst fun v s' hP hst' hm=>?_)
  obtain ⟨z,t,hz,rfl⟩:=hval i v hP
  have hS1:=oy hS (h':=s'.heap) fun o ho=>hm.heap S o hSw ho
  show wpAny _ A.in1 (holding [Value.str z t] (setAdd S (.str z t)) >>= _) _ _ s'
  refine wpAny_bind (wpAny_holding ?_)
  unfold setAdd
  refine wpAny_holding (wpAny_bind ((strKind prog w).pyHash (k:=z) (strKind_is _ _ _ _) ?_))
  refine wpAny_setAddHashed_of (knd:=strKind prog w) (s:={ s' with toks:=s'.toks+1 }) (strKind_is _ _ _ _) rfl hS1 (by omega) fun h' hsb hS2=>?_
  have hno:=zS nd hz
  have hS3:h'.SetOf (strKind prog w) S (fun y=>(ts.take (i+1)).any (·==y)) (i+1):=by
   refine PyProof.Rows.SetOf_congr hS2 (fun y=>?_) (by rw [hno]; rfl)
   rw [List.take_add_one,hz,List.any_append]
   simp [Bool.beq_eq_decide_eq,eq_comm]
  refine wpAny_pure ⟨plainId_quiet PyProof.Rows.F.plain_set_update_loop _,ih (i+1) _ (by omega) (by omega) (W.frame _ s' _ _ hst' (Nat.le_succ _) fun b hb o e=>?_) hS3 fun s2 hm2 hS4=>?_⟩
  ·rw [hsb.2 b (fun h=>hSf (h ▸ hb))]
   exact e
  ·refine hR s2 (Moved.trans W.gtrans ((hm.mono up).then_heap (Nat.le_succ _) fun b o hb e=>?_) hm2) hS4
   rw [hsb.2 b (fun h=>hb (by rw [h]; exact List.mem_cons_self))]
   exact e
end
end PySem
namespace PySem
section
variable {prog:Program} {w:World} {A:Around} {E:Value→Shared→Prop} {s:Shared}
noncomputable abbrev ui (led:Bool):Obj:={ cls:=.type "set",dict:=none,data:=.set #[] 0 (.fresh 0 0 led) }
theorem lE {l:Addr} {items:Array Value} {ts:List Str} {Q:Value→Shared→Prop} (hh:A.handled=none) (hl:s.heap.IsList l items) (hi:items.size=ts.length) (hv:∀ (i:Nat) (v:Value),items[i]?=some v→∃ z t,ts[i]?=some z∧v=Value.str z t) (nd:ts.Nodup) (hb:items.size+1<scanBound)
  (h:∀ (h':Heap) (tk:Nat),h'.SetOf (strKind prog w) s.heap.objs.size (fun z=>ts.any (·==z)) items.size→(∀ b o,b<s.heap.objs.size→s.heap.get? b=some o→h'.get? b=some o)→Q (.ref s.heap.objs.size) { s with heap:=h',toks:=tk }) :
  wpAny (model prog w) A (call (.type "set") [.ref l]) Q E s:=by
 obtain ⟨c,tl,hmro⟩:=F.called_set.mro; have hmade:=F.called_set.made; have hsub:=F.called_set.sub
 refine wpAny_call (codeAny_of_tree ?_); show wpAny _ _ (callAny (.type "set") _) _ _ _
 refine wpAny_pure ⟨Code.quiet_builtin _ (by decide +kernel),codeAny_builtin F.entry_type_call ?_⟩; rw [Around.under_plain (weight_type_call_type "set" [.ref l] []) rfl]
 have h1:=F.called_set.notType; have h2:=F.called_set.canCreate; have hct:=F.typeCall_set_1 (.ref l)
 repeat (any_goals (first | assumption | wp_step)) -- the type's own road
 refine codeAny_mono (code_set_new_1 (.ref l) (E:=E) (Q₁:=fun obj s₁=>∃ led:Bool,obj=.ref s.heap.objs.size∧s₁={ s with heap:=s.heap.push (ui led) }) fun led=>⟨led,rfl,rfl⟩) fun r s₁ hr=>?_
 match r,hr with
 | .error e,hr=>exact hr
 | .ok (.ret obj),hr =>
  obtain ⟨led,rfl,rfl⟩:=hr
  have hS:(s.heap.push (ui led)).get? s.heap.objs.size=some (ui led):=Heap.get?_push_size _ rfl
  have hT:Shared.TypeIs { s with heap:=s.heap.push (ui led) } (.ref s.heap.objs.size) "set":=⟨_,hS,rfl⟩
  have hli:=F.called_set.init.lookup; have hbi:=F.called_set.init.bind (.ref s.heap.objs.size)
  repeat (any_goals (first | assumption | wp_step)) -- to its init
  refine codeAny_mono (codeAny_call_builtin (R:=wants (fun r s₂=>r=.none∧∃ h' tk,s₂={ s with heap:=h',toks:=tk }∧h'.SetOf (strKind prog w) s.heap.objs.size (fun z=>ts.any (·==z)) items.size∧(∀ b o,b<s.heap.objs.size→s.heap.get? b=some o→h'.get? b=some o)) E) F.called_set.init.plain F.entry_set_init (check_set_init_1 hT ?_)) fun r₂ s₂ hr₂=>?_
  ·obtain ⟨⟨ocls,odict,odata,oslots⟩,hol,hcl,nl,hdl⟩:=hl
   simp only at hcl hdl; subst hcl; subst hdl
   have hol':(s.heap.push (ui led)).get? l=some { cls:=.type "list",dict:=odict,data:=.seq items nl,slots:=oslots }:=Heap.get?_push_of_some _ hol
   have hsls:=F.sub_list_set; have hslf:=F.sub_list_frozenset; have hne:(Value.type "list"==Value.type "dict")=false:=by decide
   have hl1:(s.heap.push (ui led)).IsList l items:=⟨_,hol',rfl,nl,rfl⟩
   unfold Builtin.«set.__init__» noKeywords Builtin.Frozenset.updateFrom; generalize hPI:pyIter=PI; wp_walk; subst hPI
   refine wpAny_pyIter_list hl1 (wpAny_bind (wpAny_runValue ?_))
   have hlS:l<s.heap.objs.size:=Heap.lt_size hol
   have hneI:l≠(s.heap.push (ui led)).objs.size:=by rw [Heap.size_push]; exact Nat.ne_of_lt (Nat.lt_succ_of_lt hlS)
   have hSf:s.heap.objs.size∉[(s.heap.push (ui led)).objs.size,l]:=by rw [Heap.size_push]; simp only [List.mem_cons,List.mem_singleton,List.not_mem_nil,or_false,not_or]; exact ⟨Nat.ne_of_lt (Nat.lt_succ_self _),Nat.ne_of_gt hlS⟩
   refine lO ((Walks.list (A:=A.in1.in1.in1) (by simp [hh]) _ l hneI items).toS) s.heap.objs.size hSf ts hi nd hv hb (items.size - 0) 0 _ (by omega) (Nat.zero_le _) ⟨⟨_,Heap.get?_push_size _ rfl,rfl,rfl⟩,hl1.push _⟩ ?zA ?zB
   case zA=>exact PyProof.Rows.SetOf_congr ((PyProof.Rows.setObjOf_fresh (knd:=strKind prog w) led).setOf (Heap.get?_push_of_some _ hS) (by unfold scanBound; omega)) (fun _=>rfl) rfl
   case zB =>
    rintro ⟨h',g',d',tk',os'⟩ hm hS'
    obtain rfl:g'=s.gens:=hm.gens
    obtain rfl:d'=s.drawn:=hm.drawn
    obtain rfl:os'=s.os:=hm.os
    show wpAny _ _ _ _ _ _
    refine wpAny_pure ?_; show wpAny _ _ (ret Value.none) _ _ _
    refine wpAny_pure ⟨rfl,h',tk',rfl,hS',fun b o hb e=>hm.heap b o ?_ (Heap.get?_push_of_some _ (Heap.get?_push_of_some _ e))⟩
    simp only [List.mem_cons,List.mem_singleton,List.not_mem_nil,or_false,not_or]
    exact ⟨Nat.ne_of_lt hb,by rw [Heap.size_push]; exact Nat.ne_of_lt (Nat.lt_succ_of_lt hb)⟩
  ·match r₂,hr₂ with
   | .error e,hr₂=>exact hr₂
   | .ok (.ret r),hr₂ =>
    obtain ⟨rfl,h',tk,rfl,hS',hk'⟩:=hr₂
    repeat (any_goals (first | assumption | wp_step)) -- and back
    exact h _ _ hS' hk'
end
end PySem
namespace L2
open PySem PySem.Spec PyProof.Rows
theorem AT:bootBuiltins "set"=some (.type "set"):=by decide +kernel
theorem mv:∀ {ts:List Str} {vs:List Value},bq (ts.map V.str) vs→∀ (i:Nat) (v:Value),vs[i]?=some v→∃ z t,ts[i]?=some z∧v=Value.str z t
 | [],_,.nil,i,v,h=>by simp at h
 | z::r,_,.cons h1 h2,0,v,h=>by
  obtain ⟨t,rfl⟩:=h1
  exact ⟨z,t,rfl,by simpa using h.symm⟩
 | z::r,_,.cons h1 h2,i+1,v,h=>by
  obtain ⟨y,t,e1,e2⟩:=mv h2 i v (by simpa using h)
  exact ⟨y,t,by simpa using e1,e2⟩
section
variable {X:Cx}
noncomputable def CF (K:Frag) (te:TE):TE:=fun σ H Q=>te σ H fun x H1=>∃ a,∃ ts:List Str,x=.ref a∧SqL K H1 a (ts.map V.str)∧ts.Nodup∧ts.length≤1000∧Q (.int ts.length) H1
theorem oK {e:Expr} {te:TE} {p1 p2 p3 p4:Pos} (hc:X.calm=true) (hgl:Gl X "len") (hml:X.mg "len"=none) (hgs:Gl X "set") (hms:X.mg "set"=none) (he:PE X e te)
  (hs1:starEach [.Call (.Name "set" p2) [e] [] p3] X.env=(false,eval (.Call (.Name "set" p2) [e] [] p3) X.env)::starEach [] X.env:=by exact ac rfl) (hs2:starEach [e] X.env=(false,eval e X.env)::starEach [] X.env:=by exact ac rfl) :
  PE X (.Call (.Name "len" p1) [.Call (.Name "set" p2) [e] [] p3] [] p4) (CF X.K te):=by
 intro pins s σ H Q I h
 refine wpAny_Call_Name_kw (fT I hgl hml boot_len ?_)
 refine PyProof.Rows.callWith_builtin1 ?_ hs1 (aj rfl)
 rw [hs1]
 show wpAny _ _ (spliced ((false,eval (.Call (.Name "set" p2) [e] [] p3) X.env)::[])) _ _ s
 refine Calls.spliced_cons ?_
 refine wpAny_Call_Name_kw (fT I hgs hms AT ?_)
 refine PyProof.Rows.callWith_type1 ?_ hs2 rfl
 rw [hs2]
 show wpAny _ _ (spliced ((false,eval e X.env)::[])) _ _ s
 refine Calls.spliced_cons (thn (he pins s σ H _ I h) fun u s1 ⟨x,H1,I1,r1,q1⟩=>?_)
 obtain ⟨a,ts,rfl,hq,nd,hl,q⟩:=q1
 cases r1
 refine Calls.spliced_nil ?_
 obtain ⟨its,r',pl,hz⟩:=I1.list hq
 have hlen:=r'.length
 rw [List.length_map] at hlen
 have hsz:its.toArray.size=ts.length:=by rw [List.size_toArray]; exact hlen.symm
 refine lE (I1.ok.hd hc) pl.isList hsz (fun i v hv=>mv r' i v (by simpa using hv)) nd (by rw [hsz]; unfold scanBound; omega) fun h' tk hS hk=>?_
 refine Calls.spliced_nil ?_
 obtain ⟨o,es,ep,t,ho,hex,hd,_,_,_,hf,hn⟩:=hS
 refine call_len_set (s:={ s1 with heap:=h',toks:=tk }) ho hex hd hf (by rw [hn,hsz]; omega) ?_
 refine ⟨.int ts.length,H1,I1.kept (t':=tk+1+1) fun b o e=>hk b o (Heap.lt_size e) e,⟨tk+1,?_⟩,q⟩
 show Value.int _ _=Value.int _ _
 rw [hn,hsz]
end
end L2
namespace PySem
open Sem (wp)
open AutoSeq1 (wpAny_loadPart')
theorem ig (l:Addr) (items:Array Value) (n:Nat) (dct:Option Addr) (sl:Array (Option Value)) :
  Meets (Builtin.«enumerate.__new__» ⟨[.type "enumerate",.ref l],[]⟩) (fun _ R s=>s.heap.get? l=some { cls:=.type "tuple",dict:=dct,data:=.seq items n,slots:=sl } ∧
   R (.ok (.ret (.ref (s.heap.push { cls:=.type "tuple_iterator",data:=.fields #[.ref l,.int 0 0] }).objs.size)))
    { s with heap:=(s.heap.push { cls:=.type "tuple_iterator",data:=.fields #[.ref l,.int 0 0] }).push { cls:=.type "enumerate",data:=.fields #[.none,.bool false,.ref s.heap.objs.size,rawInt 0,.none,.none] } }) :=
 .of_wp fun prog w A R s h=>by
  obtain ⟨hp,g,d,tk,os⟩:=s; obtain ⟨hl,h⟩:=h
  have hsub:=sub_enumerate
  have hL:Heap.IsTuple (Shared.heap ⟨hp,g,d,tk,os⟩) l items:=⟨_,hl,rfl,n,rfl⟩
  wp_walk using wpAny_loadPart' hl
  refine wpAny_stack_any fun st=>wpAny_pure ?_
  split
  ·rename_i c _ _ _ _ _
   cases (c==Value.type "enumerate")
   ·wp_walk using wpAny_loadPart' hl,wpAny_pyIter_tuple hL
    exact ⟨_,rfl,h⟩
   ·wp_walk using wpAny_loadPart' hl,wpAny_pyIter_tuple hL
    exact ⟨_,rfl,h⟩
  ·wp_walk using wpAny_loadPart' hl,wpAny_pyIter_tuple hL
   exact ⟨_,rfl,h⟩
theorem iP {prog:Program} {w:World} {A:Around} {E:Value→Shared→Prop} {s:Shared} {l:Addr} {items:Array Value} {Q:Value→Shared→Prop} (hL:s.heap.IsTuple l items)
  (h:∀ h',IsEnum h' (s.heap.objs.size+1) s.heap.objs.size 0 .none→h'.IsTupleIter s.heap.objs.size l 0→h'.objs.size=s.heap.objs.size+2 →
   (∀ b o,s.heap.get? b=some o→h'.get? b=some o)→Q (.ref (s.heap.objs.size+1)) { s with heap:=h' }) :
  wpAny (model prog w) A (call (.type "enumerate") [.ref l]) Q E s:=by
 obtain ⟨⟨c,dct,dt,sl⟩,hl,hc,n,hd⟩:=hL
 replace hc:c=.type "tuple":=hc
 replace hd:dt=.seq items n:=hd
 subst hc hd
 refine callType_new F.called_enumerate (by decide) (F.typeCall_enumerate_1 _) (F.newCall_enumerate_1 _) (fun obj=>F.args_object_init_2 obj _) F.entry_enumerate_new
  (ig l items n dct sl) ⟨hl,?_⟩
 have hz:(s.heap.push { cls:=.type "tuple_iterator",data:=.fields #[.ref l,.int 0 0] }).objs.size=s.heap.objs.size+1:=Heap.size_push ..
 show _∧_
 rw [hz]
 have he:IsEnum ((s.heap.push { cls:=.type "tuple_iterator",data:=.fields #[.ref l,.int 0 0] }).push
   { cls:=.type "enumerate",data:=.fields #[.none,.bool false,.ref s.heap.objs.size,rawInt 0,.none,.none] }) (s.heap.objs.size+1) s.heap.objs.size 0 .none:=by
  have:=Heap.get?_push_size (s.heap.push { cls:=.type "tuple_iterator",data:=.fields #[.ref l,.int 0 0] })
   (o:={ cls:=.type "enumerate",data:=.fields #[.none,.bool false,.ref s.heap.objs.size,rawInt 0,.none,.none] }) rfl
  rw [hz] at this; exact this
 refine ⟨⟨_,he,rfl⟩,h _ he ⟨_,Heap.get?_push_of_some _ (Heap.get?_push_size _ rfl),rfl,rfl⟩ (by rw [Heap.size_push,hz]) fun b o x=>Heap.get?_push_of_some _ (Heap.get?_push_of_some _ x)⟩
end PySem
namespace L2
open PySem PySem.Spec PyProof.Rows
theorem lN:bootBuiltins "enumerate"=some (.type "enumerate"):=by decide +kernel
noncomputable def Bv (K:Frag) (a:Addr):It :=
 ⟨fun i H=>∃ xs x,SqT K H a xs∧xs[i]?=some x,
  fun i H v H'=>∃ p x,H p=none∧v=.ref p∧H'=upd H p (.tup [.int (i:Int),x])∧∀ xs,SqT K H a xs→xs[i]?=some x,
  fun i H=>∃ xs,SqT K H a xs∧xs.length=i⟩
theorem wW {P:Program} {w:World} {K:Frag} {elts:List Expr} {x1} {pos:Pos} {e it:Addr} (hne:e≠it) (a:Addr) :
  nG P w K (.Tuple elts x1 pos) (Bv K a) [e,it] e (fun i h=>(∃ old,IsEnum h e it ((i:Nat):Int) old)∧h.IsTupleIter it a i) where
 mem:=by simp
 obj:=fun i h st c hc=>by
  obtain ⟨⟨old,he⟩,o,eo,_,d⟩:=st
  simp at hc
  rcases hc with rfl | rfl
  ·exact ⟨_,he,fun v z=>by have z':Data.fields _=Data.cell v:=z; cases z'⟩
  ·exact ⟨o,eo,fun v z=>by rw [d] at z; cases z⟩
 keep:=fun i h h' st k=>by
  obtain ⟨⟨old,he⟩,hit⟩:=st
  exact ⟨⟨old,k e (by simp) _ he⟩,hit.at fun o eo=>k it (by simp) o eo⟩
 item:=by
  intro X hP hw hK hc i pins s σ H E I hf st hg
  subst hP hw hK
  obtain ⟨xs,x,hq,ex⟩:=hg
  obtain ⟨⟨old,he⟩,hit⟩:=st
  obtain ⟨its,r1,p1,_⟩:=I.tuple hq
  obtain ⟨ux,hux,rx⟩:=r1.get ex
  have fe:=hf e (by simp)
  have fi:=hf it (by simp)
  have hh:X.A.in1.handled=none:=I.ok.hd hc
  have l1:i<its.toArray.size:=by simpa using (List.getElem?_eq_some_iff.mp hux).1
  have ai:a≠it:=I.sq_ne (k:=true) hq fi
  have ae:a≠e:=I.sq_ne (k:=true) hq fe
  refine wpAny_pyNext_enum_itemD (Draws.tup hh it a ai its.toArray) he ⟨hit,p1⟩ l1 hne (by simp [hne,ae.symm]) fun gx h' tk px a1 a2 a3 a4 a5=>?_
  have egx:gx=ux:=by
   have px':its[i]?=some gx:=by simpa using px
   rw [hux] at px'
   exact (Option.some.inj px').symm
  subst egx
  refine ⟨_,rfl,wpAny_letOwnedTupleGo_enum (s:={ s with heap:=h',toks:=tk+1 }) a1 fun h2 b1 b2=>?_⟩
  have b2':Heap.SameBut e h' h2:=b2
  have lt:∀ {c:Addr} {o:Obj},s.heap.get? c=some o→c≠s.heap.objs.size:=fun e=>Nat.ne_of_lt (Heap.lt_size e)
  have fr:H s.heap.objs.size=none:=I.hok.fresh (Nat.le_refl _)
  have I1:Inv X pins σ (upd H s.heap.objs.size (.tup [.int (i:Int),x])) { s with heap:=s.heap.push { cls:=.type "tuple",data:=.seq #[.int i tk,gx] },toks:=tk+1 }:=by
   refine I.laid (t':=tk+1) (fun b u e=>Heap.get?_push_of_some _ e) (Nat.le_refl _) ⟨by simp [sizeLine],[.int i tk,gx],.cons ⟨_,rfl⟩ (.cons rx .nil),⟨_,Heap.get?_push_size _ rfl,rfl,_,rfl⟩,_,Heap.get?_push_size _ rfl,rfl⟩
  have nl:∀ c∈[e,it],c≠s.heap.objs.size:=fun c hc=>by
   simp at hc
   rcases hc with rfl | rfl
   ·exact lt he
   ·obtain ⟨o,eo,_⟩:=hit; exact lt eo
  have hf':∀ c∈[e,it],iU X pins (upd H s.heap.objs.size (.tup [.int (i:Int),x])) c:=fun c hc=>⟨by rw [aV (nl c hc)]; exact (hf c hc).1,(hf c hc).2⟩
  have I2:Inv X pins σ (upd H s.heap.objs.size (.tup [.int (i:Int),x])) { s with heap:=h2,toks:=tk+1 }:=by
   refine Inv.turnedL (s:={ s with heap:=s.heap.push { cls:=.type "tuple",data:=.seq #[.int i tk,gx] },toks:=tk+1 }) (t':=tk+1) (its:=[e,it]) I1 (fun c o hc eo=>?_) hf'
   simp at hc
   refine b2'.extBut _ _ hc.1 ?_
   rcases Heap.get?_push_cases eo with ⟨q,q'⟩ | q
   ·rw [q,q']
    exact a3
   ·exact a5 c o hc.1 hc.2 q
  refine ⟨.ref s.heap.objs.size,_,I2,rfl,⟨_,x,fr,rfl,rfl,fun zs hz'=>by rw [I.tuple_inj hz' hq]; exact ex⟩,⟨⟨_,b1⟩,a2.1.at fun o eo=>b2'.extBut _ _ (Ne.symm hne) eo⟩,fun c hc=>(hf' c hc).1⟩
 done:=by
  intro X hP hw hK hc i pins s σ H E I hf st hg
  subst hP hw hK
  obtain ⟨xs,hq,hx⟩:=hg
  obtain ⟨⟨old,he⟩,hit⟩:=st
  obtain ⟨its,r1,p1,_⟩:=I.tuple hq
  have hl:=r1.length
  have fi:=hf it (by simp)
  have hh:X.A.in1.handled=none:=I.ok.hd hc
  obtain ⟨f0,f1,f2,f3,f4,f5⟩:=id fi
  have hs:its.toArray.size=i:=by simp; omega
  exact wpAny_pyNext_enum_endD (Draws.tup hh it a (I.sq_ne (k:=true) hq fi) its.toArray) he ⟨by rw [hs]; exact hit,p1⟩ fun h' eb=>⟨rfl,I.turned (t':=s.toks) (fun b o hb e=>eb b o hb e) f0 f1 f3 f4 f5⟩
 self:=fun _ _ _ _ _ st h=>wpAny_pyIter_enum st.1.choose_spec h
section
variable {X:Cx}
noncomputable def FB (K:Frag) (te:TE):TI:=fun σ H R=>te σ H fun x H1=>∃ a,x=.ref a∧(∃ xs,SqT K H1 a xs)∧R (Bv K a) H1
theorem lM {elts:List Expr} {x1} {tp:Pos} {e:Expr} {te:TE} {p pos:Pos} (hg:Gl X "enumerate") (hm:X.mg "enumerate"=none) (he:PE X e te)
  (hs:starEach [e] X.env=(false,eval e X.env)::starEach [] X.env:=by exact ac rfl):PI X (.Tuple elts x1 tp) (.Call (.Name "enumerate" p) [e] [] pos) (FB X.K te):=by
 intro pins s σ H R I h
 refine wpAny_Call_Name_kw (fT I hg hm lN ?_)
 refine PyProof.Rows.callWith_type1 ?_ hs rfl
 rw [hs]
 show wpAny _ _ (spliced ((false,eval e X.env)::[])) _ _ s
 refine Calls.spliced_cons (thn (he pins s σ H _ I h) fun u s1 ⟨x,H1,I1,r1,q1⟩=>?_)
 obtain ⟨a,rfl,⟨xs,hq⟩,q⟩:=q1
 cases r1
 refine Calls.spliced_nil ?_
 obtain ⟨its,r',pl,hz⟩:=I1.tuple hq
 refine iP pl fun h' a1 a2 a3 a4=>?_
 refine wpAny_pyIter_enum (s:={ s1 with heap:=h' }) a1 ?_
 refine ⟨s1.heap.objs.size+1,[s1.heap.objs.size+1,s1.heap.objs.size],_,_,H1,rfl,I1.kept (t':=s1.toks) fun b o e=>a4 b o e,wW (show (s1.heap.objs.size+1:Nat)≠s1.heap.objs.size by omega) a,⟨⟨_,a1⟩,a2⟩,fun b hb=>?_,q⟩
 have le:s1.heap.objs.size≤b:=by
  simp only [List.mem_cons,List.not_mem_nil,or_false] at hb
  rcases hb with rfl | rfl
  ·exact Nat.le_add_right _ _
  ·exact Nat.le_refl _
 exact I1.fpOk le (I1.hok.fresh le)
end
theorem jY {K:Frag} {a:Addr} {xs:List V} {g:TG} {tb:TS} {D:mX} {σ:St} {H:Hp} (Pv:Nat→St→Hp→Prop) (h0:Pv 0 σ H) (hl:∀ i σ H,i≤xs.length→Pv i σ H→SqT K H a xs)
  (hs:∀ (i:Nat) x σ H p,xs[i]?=some x→Pv i σ H→H p=none→g (.ref p) σ (upd H p (.tup [.int (i:Int),x])) fun σ2 H2=>tb { D with nx:=Pv (i+1),ct:=Pv (i+1),bk:=D.nx } σ2 H2) (hd:∀ σ H,Pv xs.length σ H→D.nx σ H) :
  ∃ W:Nat→Nat→St→Hp→Prop,(∃ m,W 0 m σ H)∧∀ i m σ H,W i m σ H →
   ((Bv K a).stop i H∧D.nx σ H)∨((Bv K a).go i H∧∃ N:St→Hp→Prop,(∀ σ' H',N σ' H'→∃ m',m'<m∧W (i+1) m' σ' H')∧∀ x H',(Bv K a).yld i H x H'→g x σ H' fun σ2 H2=>tb { D with nx:=N,ct:=N,bk:=D.nx } σ2 H2):=by
 refine ⟨fun i m σ H=>m=xs.length - i∧i≤xs.length∧Pv i σ H,⟨xs.length,by simp,Nat.zero_le _,h0⟩,?_⟩
 rintro i m σ H ⟨rfl,hi,p⟩
 have q:=hl i σ H hi p
 by_cases hlt:i<xs.length
 ·refine .inr ⟨⟨xs,xs[i],q,by simp [hlt]⟩,Pv (i+1),fun σ' H' p'=>⟨xs.length - (i+1),by omega,rfl,hlt,p'⟩,fun x H' y=>?_⟩
  obtain ⟨pp,xx,h1,rfl,rfl,y⟩:=y
  exact hs i xx σ H pp (y xs q) p h1
 ·have e:i=xs.length:=by omega
  subst e
  exact .inl ⟨⟨xs,q,rfl⟩,hd σ H p⟩
open PySem PySem.Spec PyProof.Rows
noncomputable def Itw (K:Frag) (a:Addr) (n:Nat):It :=
 ⟨fun i H=>i<n∧∃ xs,SqT K H a xs∧xs.length=n,fun i H x H'=>H'=H∧∀ xs,SqT K H a xs→xs[n - 1 - i]?=some x,fun i _=>i=n⟩
theorem zU {P:Program} {w:World} {K:Frag} {tg:Expr} (a it:Addr) (n:Nat):nG P w K tg (Itw K a n) [it] it (fun i h=>h.IsRvt it a ((n:Int) - 1 - (i:Int))) where
 mem:=by simp
 obj:=fun i h st b hb=>by
  have e:b=it:=by simpa using hb
  subst e
  obtain ⟨o,e,c,d⟩:=st
  exact ⟨o,e,fun v z=>by rw [d] at z; cases z⟩
 keep:=fun i h h' st k=>st.at fun o e=>k it (by simp) o e
 item:=by
  intro X hP hw hK hc i pins s σ H E I hf st hg
  subst hP hw hK
  obtain ⟨hi,xs,hq,hn⟩:=hg
  obtain ⟨its,rv,p,hz⟩:=I.tuple hq
  have hszl:sizeLine=16777216:=sizeLine_eq
  have hx:xs[n - 1 - i]?=some (xs[n - 1 - i]'(by omega)):=List.getElem?_eq_getElem (by omega)
  obtain ⟨u,hu,ru⟩:=rv.get hx
  obtain ⟨f0,f1,f2,f3,f4,f5⟩:=hf it (by simp)
  have e:(n:Int) - 1 - (i:Int)=((n - 1 - i:Nat):Int):=by omega
  have st1:=st
  rw [e] at st1
  refine kK st1 p (by omega) (x:=u) (by simpa using hu) fun h' tk st' sb=>?_
  have e2:((n - 1 - i:Nat):Int) - 1=(n:Int) - 1 - ((i+1:Nat):Int):=by omega
  rw [e2] at st'
  have I1:Inv X pins σ H { s with heap:=h',toks:=tk }:=I.turned (t':=tk) (fun b o hb e=>(sb.2 b hb).trans e) f0 f1 f3 f4 f5
  obtain ⟨o,eo,c,d⟩:=id st'
  exact ⟨u,rfl,lW (s:={ s with heap:=h',toks:=tk }) eo c d (by decide) ⟨_,H,I1,ru,⟨rfl,fun ys hy=>by rw [I.tuple_inj hy hq]; exact hx⟩,st',fun b hb=>(hf b hb).1⟩⟩
 done:=by
  intro X hP hw hK hc i pins s σ H E I hf st hg
  subst hP hw hK
  obtain ⟨f0,f1,f2,f3,f4,f5⟩:=hf it (by simp)
  have hg2:i=n:=hg
  have e:(n:Int) - 1 - (i:Int)=-1:=by omega
  have st1:=st
  rw [e] at st1
  exact ma (I.ok.hd hc) st1 fun h' eb=>⟨rfl,I.turned (t':=s.toks) (fun b o hb e=>eb b o hb e) f0 f1 f3 f4 f5⟩
 self:=fun _ _ _ _ _ st h=>mz st h
section
variable {X:Cx} {tg:Expr}
noncomputable def Gx (K:Frag) (te:TE):TI:=fun σ H R=>te σ H fun x H1=>∃ a xs,x=.ref a∧SqT K H1 a xs∧R (Itw K a xs.length) H1
theorem yq {e:Expr} {te:TE} {p pos:Pos} (hg:Gl X "reversed") (hm:X.mg "reversed"=none) (he:PE X e te)
  (hs:starEach [e] X.env=(false,eval e X.env)::starEach [] X.env:=by exact ac rfl):PI X tg (.Call (.Name "reversed" p) [e] [] pos) (Gx X.K te):=by
 intro pins s σ H R I h
 refine wpAny_Call_Name_kw (fT I hg hm iH ?_)
 refine PyProof.Rows.callWith_type1 ?_ hs rfl
 rw [hs]
 show wpAny _ _ (spliced ((false,eval e X.env)::[])) _ _ s
 refine Calls.spliced_cons (thn (he pins s σ H _ I h) fun u s1 ⟨x,H1,I1,r1,q1⟩=>?_)
 obtain ⟨a,xs,rfl,hq,q⟩:=q1
 cases r1
 refine Calls.spliced_nil ?_
 obtain ⟨its,r',pl,hz⟩:=I1.tuple hq
 have hlen:=r'.length
 have hszl:sizeLine=16777216:=sizeLine_eq
 have hz2:its.toArray.size≤sizeLine:=by simp only [List.size_toArray]; omega
 refine iD pl (by omega) ?_
 have hit:(s1.heap.push (qZ a ((its.toArray.size:Int) - 1))).IsRvt s1.heap.objs.size a ((its.toArray.size:Int) - 1):=⟨_,Heap.get?_push_size _ rfl,rfl,rfl⟩
 refine mz (s:={ s1 with heap:=s1.heap.push (qZ a ((its.toArray.size:Int) - 1)),toks:=s1.toks+1+1 }) hit ?_
 refine ⟨s1.heap.objs.size,[s1.heap.objs.size],_,_,H1,rfl,I1.kept (t':=s1.toks+1+1) fun b o e=>Heap.get?_push_of_some _ e,zU a _ xs.length,?_,fun b hb=>?_,q⟩
 ·have z:(xs.length:Int) - 1 - ((0:Nat):Int)=(its.toArray.size:Int) - 1:=by simp only [List.size_toArray]; omega
  show Heap.IsRvt _ _ _ ((xs.length:Int) - 1 - ((0:Nat):Int))
  rw [z]
  exact hit
 ·have e:b=s1.heap.objs.size:=by simpa using hb
  subst e
  exact I1.fpOk (Nat.le_refl _) (I1.hok.fresh (Nat.le_refl _))
end
section
variable {m:Nat} {g:TG} {tt:TT} {te:TE} {σ':St} {Z:List V→Hp→Prop} {H1:Hp} {K:Frag}
theorem oj {a:Addr} {xs:List V} (n:Nat) (hz:n=xs.length) (hn:n≤1000) (Pv:Nat→List V→Hp→Prop) (h0:Pv 0 [] H1) (hq:∀ i acc H,Pv i acc H→SqT K H a xs)
  (hs:∀ i acc H x,i<n→acc.length≤i→xs.reverse[i]?=some x→Pv i acc H→g x σ' H fun σ2 H2=>(σ2.drop m=σ'.drop m∧σ2.length=σ'.length)∧tt σ2 H2 fun b H3=>if b=true then te σ2 H3 fun v H4=>NxT n Pv i acc v H4 else NxF n Pv i acc H3)
  (hd:∀ acc H,Pv n acc H→acc.length≤n→Z acc H):iE (Itw K a xs.length) m g tt te σ' Z H1 :=
 jW n hn Pv h0 (fun i acc H hi la p=>⟨⟨by omega,xs,hq i acc H p,rfl⟩,fun x H' y=>by
  obtain ⟨e,y⟩:=y
  subst e
  exact hs i acc _ x hi la (by rw [List.getElem?_reverse (by omega)]; exact y xs (hq i acc _ p)) p⟩) fun acc H p la=>⟨hz,hd acc H p la⟩
end
end L2
namespace K6
open PySem L2
noncomputable def Tk (H H':Hp):Prop:=∀ b xs,H b=some (.tup xs)→H' b=some (.tup xs)
theorem Tk.trans {H H1 H2:Hp} (a:Tk H H1) (b:Tk H1 H2):Tk H H2:=fun c xs h=>b c xs (a c xs h)
theorem av {H H':Hp} (g:aZ H H'):Tk H H':=fun b xs h=>g b _ h
theorem ao {H:Hp} {p:Addr} (h:H p=none) (o:HO):aZ H (upd H p o):=fun b u q=>by rw [aV (aJ q h)]; exact q
theorem bd {H:Hp} {p:Addr} (h:H p=none) (o:HO):Tk H (upd H p o):=av (ao h o)
theorem cQ {H:Hp} {p:Addr} {xs:List V} (h:H p=some (.lst xs)) (o:HO):Tk H (upd H p o):=fun b ys e=>by rw [aV (dN e h (fun z=>by cases z))]; exact e
noncomputable def Ext (tp:Addr) (H H':Hp):Prop:=∀ b o,b≠tp→H b=some o→H' b=some o
theorem Ext.refl (tp:Addr) (H:Hp):Ext tp H H:=fun _ _ _ h=>h
theorem Ext.trans {tp:Addr} {H H1 H2:Hp} (a:Ext tp H H1) (b:Ext tp H1 H2):Ext tp H H2:=fun c o n h=>b c o n (a c o n h)
theorem aZ.ext {tp:Addr} {H H':Hp} (a:aZ H H'):Ext tp H H':=fun c o _ h=>a c o h
theorem Ext.upd {tp:Addr} {H:Hp} {o:HO}:Ext tp H (L2.upd H tp o):=fun b u n h=>by rw [aV n]; exact h
theorem qK {H H':Hp} {t:Addr} {ys:List V} (g:Ext t H H') (h:H t=some (.lst ys)):Tk H H':=fun b xs e=>g b _ (dN e h (fun z=>by cases z)) e
noncomputable def TT (K:Frag) (H:Hp) (a:Addr) (xs:List V):Prop:=H a=some (.tup xs)∨False
theorem TT.mono {K:Frag} {H H':Hp} (t:Tk H H') {a:Addr} {xs:List V} (h:TT K H a xs):TT K H' a xs:=h.imp (t _ _) id
theorem TT.sq {K:Frag} {H:Hp} {a:Addr} {xs:List V} (h:TT K H a xs):SqT K H a xs:=h.elim SqT.of False.elim
theorem TT.hp {K:Frag} {H:Hp} {a:Addr} {xs:List V} (h:TT K H a xs):H a=some (.tup xs):=h.elim id False.elim
mutual
inductive DT (K:Frag) (H:Hp):V→PyData→Prop
 | int (i:Int):DT K H (.int i) (.int i)
 | str (x:Str):DT K H (.str x) (.str x)
 | tup {a:Addr} {xs:List V} {ds:List PyData}:TT K H a xs→DTs K H xs ds→DT K H (.ref a) (.tuple ds)
inductive DTs (K:Frag) (H:Hp):List V→List PyData→Prop
 | nil:DTs K H [] []
 | cons {x:V} {xs:List V} {d:PyData} {ds:List PyData}:DT K H x d→DTs K H xs ds→DTs K H (x::xs) (d::ds)
end
mutual
theorem DT.mono {K:Frag} {H H':Hp} (e:Tk H H'):∀ {v:V} {d:PyData},DT K H v d→DT K H' v d
 | _,_,.int i=>.int i
 | _,_,.str x=>.str x
 | _,_,.tup h r=>.tup (h.mono e) (DTs.mono e r)
theorem DTs.mono {K:Frag} {H H':Hp} (e:Tk H H'):∀ {v:List V} {d:List PyData},DTs K H v d→DTs K H' v d
 | _,_,.nil=>.nil
 | _,_,.cons h r=>.cons (DT.mono e h) (DTs.mono e r)
end
mutual
theorem DT.rd {K:Frag} {H:Hp}:∀ {v:V} {d:PyData},DT K H v d→RdD K H v d
 | _,_,.int i=>.int i
 | _,_,.str x=>.str x
 | _,_,.tup h r=>.tup h.sq (DTs.rd r)
theorem DTs.rd {K:Frag} {H:Hp}:∀ {v:List V} {d:List PyData},DTs K H v d→gr K H v d
 | _,_,.nil=>.nil
 | _,_,.cons h r=>.cons (DT.rd h) (DTs.rd r)
end
theorem DTs.len {K:Frag} {H:Hp}:∀ {v:List V} {d:List PyData},DTs K H v d→v.length=d.length
 | _,_,.nil=>rfl
 | _,_,.cons h r=>by rw [List.length_cons,List.length_cons,DTs.len r]
theorem DTs.snoc {K:Frag} {H:Hp} {x:V} {d:PyData} (q:DT K H x d):∀ {v:List V} {ds:List PyData},DTs K H v ds→DTs K H (v++[x]) (ds++[d])
 | _,_,.nil=>.cons q .nil
 | _,_,.cons h r=>.cons h (DTs.snoc q r)
theorem DTs.append {K:Frag} {H:Hp}:∀ {v v':List V} {ds ds':List PyData},DTs K H v ds→DTs K H v' ds'→DTs K H (v++v') (ds++ds')
 | _,_,_,_,.nil,q=>q
 | _,_,_,_,.cons h r,q=>.cons h (DTs.append r q)
theorem DTs.take {K:Frag} {H:Hp}:∀ (i:Nat) {v:List V} {ds:List PyData},DTs K H v ds→DTs K H (v.take i) (ds.take i)
 | 0,_,_,_=>by rw [List.take_zero,List.take_zero]; exact .nil
 | i+1,_,_,.nil=>.nil
 | i+1,_,_,.cons h r=>.cons h (DTs.take i r)
theorem DTs.drop {K:Frag} {H:Hp}:∀ (i:Nat) {v:List V} {ds:List PyData},DTs K H v ds→DTs K H (v.drop i) (ds.drop i)
 | 0,_,_,q=>q
 | i+1,_,_,.nil=>.nil
 | i+1,_,_,.cons h r=>DTs.drop i r
theorem DTs.get {K:Frag} {H:Hp}:∀ {v:List V} {d:List PyData},DTs K H v d→∀ (i:Nat) (x:V),v[i]?=some x→∃ e,d[i]?=some e∧DT K H x e
 | _,_,.nil,i,x,h=>by simp at h
 | _,_,.cons h r,0,x,q=>by simp at q; subst q; exact ⟨_,rfl,h⟩
 | _,_,.cons h r,i+1,x,q=>by
  obtain ⟨e,e1,e2⟩:=DTs.get r i x (by simpa using q)
  exact ⟨e,by simpa using e1,e2⟩
noncomputable def top (i:Nat):Stmt:=PySem.Challenge.pw_everyfork_k04_right_programs.main.body.getD i (.Pass ⟨0,0,0,0⟩)
noncomputable abbrev iX:Stmt:=top 7
noncomputable abbrev fM:Stmt:=top 8
noncomputable abbrev dm:Stmt:=top 9
noncomputable abbrev iq:Stmt:=top 10
noncomputable abbrev io:Stmt:=top 11
noncomputable abbrev ib:Stmt:=top 12
noncomputable abbrev dF:Stmt:=top 13
noncomputable abbrev fS:Stmt:=top 14
noncomputable abbrev lm:Stmt:=top 15
noncomputable abbrev gO:Stmt:=top 25
noncomputable abbrev eu:Stmt:=top 26
noncomputable abbrev hX:Stmt:=top 27
noncomputable abbrev iQ:Stmt:=top 28
noncomputable abbrev gU:Stmt:=top 29
noncomputable abbrev fL:Stmt:=top 30
noncomputable abbrev fc:Stmt:=top 31
noncomputable abbrev ix:Stmt:=top 32
noncomputable abbrev iy:Stmt:=top 33
noncomputable abbrev df:Stmt:=top 34
noncomputable abbrev fh:Stmt:=top 35
noncomputable abbrev cW:Stmt:=top 36
noncomputable abbrev dG:Stmt:=top 46
noncomputable abbrev dl:Stmt:=top 47
noncomputable abbrev gK:Stmt:=top 48
noncomputable abbrev ff:Stmt:=top 49
noncomputable abbrev ip:Stmt:=top 50
noncomputable abbrev eR:Stmt:=top 51
noncomputable abbrev eY:Stmt:=top 52
noncomputable abbrev eZ:Stmt:=top 53
noncomputable abbrev dH:Stmt:=top 54
noncomputable abbrev fF:Stmt:=top 55
noncomputable abbrev iA:Stmt:=top 56
noncomputable abbrev bV:Stmt:=top 57
noncomputable abbrev dQ:Stmt:=top 58
noncomputable abbrev lJ:Stmt:=top 60
noncomputable abbrev mV:Stmt:=top 61
noncomputable abbrev aX:Stmt:=top 62
noncomputable abbrev dM:Stmt:=top 63
noncomputable abbrev jO:Stmt:=top 64
noncomputable abbrev iw:Stmt:=top 65
noncomputable abbrev iu:Stmt:=top 66
noncomputable abbrev eI:Stmt:=top 67
noncomputable abbrev lu:Stmt:=top 68
noncomputable abbrev jw:Stmt:=top 69
noncomputable abbrev jH:Stmt:=top 70
noncomputable abbrev gR:Stmt:=top 71
noncomputable abbrev dE:Stmt:=top 72
noncomputable abbrev jQ:Stmt:=top 73
noncomputable abbrev cA:Stmt:=top 74
noncomputable abbrev qv:Stmt:=top 75
noncomputable abbrev gH:Stmt:=top 76
noncomputable abbrev yo:Stmt:=top 77
theorem dS:bootBuiltins "isinstance"=some (.builtin "isinstance"):=by decide +kernel
theorem Ec:bootBuiltins "int"=some (.type "int"):=by decide +kernel
theorem EV:bootBuiltins "bool"=some (.type "bool"):=by decide +kernel
theorem mi:bootBuiltins "str"=some (.type "str"):=by decide +kernel
theorem cb:bootBuiltins "tuple"=some (.type "tuple"):=by decide +kernel
theorem wm:bootBuiltins "list"=some (.type "list"):=by decide +kernel
theorem EU:bootBuiltins "dict"=some (.type "dict"):=by decide +kernel
theorem tI:bootBuiltins "all"=some (.builtin "all"):=by decide +kernel
theorem Gp:bootBuiltins "ord"=some (.builtin "ord"):=by decide +kernel
theorem cv:bootBuiltins "len"=some (.builtin "len"):=by decide +kernel
theorem rj:bootBuiltins "repr"=some (.builtin "repr"):=by decide +kernel
noncomputable def PL:List Str:=["num", "text", "row"]
structure G0 (mg:Str→Option Value):Prop where
 isi:mg "isinstance"=none
 int:mg "int"=none
 bool:mg "bool"=none
 str:mg "str"=none
 tuple:mg "tuple"=none
 list:mg "list"=none
 dict:mg "dict"=none
 all:mg "all"=none
 ord:mg "ord"=none
 len:mg "len"=none
 repr:mg "repr"=none
 range:mg "range"=none
structure Cal (P:Program) (w:World) (K:Frag) (mg:Str→Option Value) (base:Heap) (k:Nat) (x:Str) (ps:List Str) (sp:Sp):Prop where
 ex:∃ g gd,bj P w K mg base CX0 k g gd ps sp∧dU K gd ps []∧keepIn K (.ref g)=true∧mg x=some (.ref g)
open PySem L2
noncomputable abbrev Fld:=Str×Str
noncomputable abbrev Rec:=Str×List Fld
noncomputable def cy (H:Hp) (v:V) (p:Fld):Prop:=∃ a,v=.ref a∧H a=some (.tup [.str p.1,.str p.2])
noncomputable def cV (H:Hp) (v:V) (fs:List Fld):Prop:=∃ a xs,v=.ref a∧H a=some (.tup xs)∧Paired (cy H) xs fs
noncomputable def cC (H:Hp) (v:V) (r:Rec):Prop:=∃ a y,v=.ref a∧H a=some (.tup [.str r.1,y])∧cV H y r.2
noncomputable def dR (H:Hp) (v:V) (R:List Rec):Prop:=∃ a xs,v=.ref a∧H a=some (.tup xs)∧Paired (cC H) xs R
noncomputable def da (H:Hp) (v:V) (R:List Rec):Prop:=∃ a y z,v=.ref a∧H a=some (.tup [y,z])∧dR H y R
theorem cy.mono {H H':Hp} (t:Tk H H') {v:V} {p:Fld} (h:cy H v p):cy H' v p:=let ⟨a,e,q⟩:=h; ⟨a,e,t _ _ q⟩
theorem cV.mono {H H':Hp} (t:Tk H H') {v:V} {p:List Fld} (h:cV H v p):cV H' v p:=let ⟨a,xs,e,q,r⟩:=h; ⟨a,xs,e,t _ _ q,Paired.mapP r fun _ _ z=>z.mono t⟩
theorem cC.mono {H H':Hp} (t:Tk H H') {v:V} {p:Rec} (h:cC H v p):cC H' v p:=let ⟨a,y,e,q,r⟩:=h; ⟨a,y,e,t _ _ q,r.mono t⟩
theorem dR.mono {H H':Hp} (t:Tk H H') {v:V} {p:List Rec} (h:dR H v p):dR H' v p:=let ⟨a,xs,e,q,r⟩:=h; ⟨a,xs,e,t _ _ q,Paired.mapP r fun _ _ z=>z.mono t⟩
theorem da.mono {H H':Hp} (t:Tk H H') {v:V} {p:List Rec} (h:da H v p):da H' v p:=let ⟨a,y,z,e,q,r⟩:=h; ⟨a,y,z,e,t _ _ q,r.mono t⟩
theorem aY {α β:Type} {F:α→β→Prop}:∀ {l:List α} {m:List β},Paired F l m→∀ (j:Nat) a,l[j]?=some a→∃ b,m[j]?=some b∧F a b
 | _,_,.nil,_,_,h=>by simp at h
 | _,_,.cons h t,0,_,h1=>by simp at h1; subst h1; exact ⟨_,rfl,h⟩
 | _,_,.cons h t,j+1,_,h1=>by
  obtain ⟨b,e,q⟩:=aY t j _ (by simpa using h1)
  exact ⟨b,by simpa using e,q⟩
noncomputable def look (R:List Rec) (k:Str):List Fld:=((R.find? fun r=>decide (r.1=k)).map (·.2)).getD []
theorem zI {R:List Rec} {i:Nat} {r:Rec} {k:Str} (h:R[i]?=some r):look (R.drop i) k=if r.1=k then r.2 else look (R.drop (i+1)) k:=by
 obtain ⟨hi,e⟩:=List.getElem?_eq_some_iff.mp h
 rw [List.drop_eq_getElem_cons hi,e]
 unfold look
 rw [List.find?_cons]
 by_cases q:r.1=k
 ·rw [if_pos q,decide_eq_true q]; rfl
 ·rw [if_neg q,decide_eq_false q]
noncomputable def me (R:List Rec):Nat→Str→Prop
 | 0,_=>False
 | n+1,k=>(k∈PL)∨(k∉PL∧k∈R.map (·.1)∧(1≤(look R k).length∧(look R k).length≤3)∧∀ p∈look R k,me R n p.2)
theorem Cn:(PL.map V.str).all gy=true:=by decide
theorem eqS {k x:Str} (c:decide (V.str k=V.str x)=true):k=x:=V.str.inj (of_decide_eq_true c)
theorem neS {k x:Str} (c:¬ decide (V.str k=V.str x)=true):¬ k=x:=fun e=>c (decide_eq_true (congrArg V.str e))
theorem at0 {α:Type} (x:α) (ys:List α):atI (x::ys) 0=some x:=lh (j:=0) (show (x::ys)[0]?=some x from rfl)
theorem Fd {α:Type} {xs:List α} {j:Nat} {v:α} (h:xs[j]?=some v):atI xs (0+(j:Int))=some v:=by rw [Int.zero_add]; exact lh h
end K6
namespace L2
open PySem PySem.Spec PyProof.Rows
section
variable {X:Cx}
noncomputable def GY (K:Frag) (neg:Bool):R2:=fun x y H Q=>∃ a b xs,x=.ref a∧y=.ref b∧SqL K H a xs∧SqL K H b []∧Q (.bl (if neg then !xs.isEmpty else xs.isEmpty)) H
theorem rT (hu:X.A.units<cLine):OpR X (compareOp .Eq) (GY X.K false):=by
 intro pins s σ H x y v u Q I rx ry h
 obtain ⟨a,b,xs,rfl,rfl,ha,hb,q⟩:=h
 cases rx
 cases ry
 obtain ⟨i1,r1,p1,_⟩:=I.list ha
 obtain ⟨i2,r2,p2,_⟩:=I.list hb
 cases r2
 cases r1 with
 | nil=>exact SeqAt.eq_listAt (e:=fun _=>true) p1.isList p2.isList rfl hu (fun j h1 h2=>absurd h1 (by simp)) (bh I q rfl)
 | cons r rr=>exact SeqAt.eq_list_lengthsAt p1.isList p2.isList (by simp) hu (bh I q rfl)
theorem fE (hu:X.A.units<cLine):OpR X (compareOp .NotEq) (GY X.K true):=by
 intro pins s σ H x y v u Q I rx ry h
 obtain ⟨a,b,xs,rfl,rfl,ha,hb,q⟩:=h
 cases rx
 cases ry
 obtain ⟨i1,r1,p1,_⟩:=I.list ha
 obtain ⟨i2,r2,p2,_⟩:=I.list hb
 cases r2
 cases r1 with
 | nil=>exact SeqAt.RcNeAt.lists (e:=fun _=>true) p1.isList p2.isList rfl hu (fun j h1 h2=>absurd h1 (by simp)) _ _ _ _ (bh I q rfl)
 | cons r rr=>exact SeqAt.RcNeAt.lists_lengths p1.isList p2.isList (by simp) hu _ _ _ _ (bh I q rfl)
end
end L2
namespace K6
open PySem L2
theorem yV {R:List Rec} {k:Str} (h:k∈R.map (·.1)):∃ rest,(R.filter fun r=>decide (r.1=k)).map (·.2)=look R k::rest:=by
 induction R with
 | nil=>simp at h
 | cons r rs ih =>
  by_cases e:r.1=k
  ·refine ⟨(rs.filter fun r=>decide (r.1=k)).map (·.2),?_⟩
   rw [List.filter_cons,if_pos (decide_eq_true e),List.map_cons]
   unfold look
   rw [List.find?_cons,decide_eq_true e]
   rfl
  ·have h':k∈rs.map (·.1):=by
    rcases List.mem_cons.mp h with z | z
    ·exact absurd z.symm e
    ·exact z
   obtain ⟨rest,q⟩:=ih h'
   refine ⟨rest,?_⟩
   rw [List.filter_cons,if_neg (by simp [e]),q]
   unfold look
   rw [List.find?_cons,decide_eq_false e]
noncomputable def Tp (H:Hp) (tp:Addr):Prop:=∃ sc k r ns,H tp=some (.lst [.ref sc,.int k,.int r])∧H sc=some (.lst (List.map V.int ns))
theorem Tp.same {H H':Hp} {tp:Addr} (t:Tp H tp) (g:aZ H H'):Tp H' tp:=by
 obtain ⟨sc,k,r,ns,h1,h2⟩:=t
 exact ⟨sc,k,r,ns,g _ _ h1,g _ _ h2⟩
theorem Tp.ne {H:Hp} {tp:Addr} (t:Tp H tp) {b:Addr} {xs:List V} (h:H b=some (.tup xs)):b≠tp:=by
 obtain ⟨sc,k,r,ns,h1,h2⟩:=t
 exact dN h h1 (fun z=>by cases z)
noncomputable def TS (tp:Addr) (H H':Hp):Prop:=∀ sc k r,H tp=some (.lst [.ref sc,.int k,.int r])→∃ k' r',H' tp=some (.lst [.ref sc,.int k',.int r'])
theorem TS.refl (tp:Addr) (H:Hp):TS tp H H:=fun _ k r h=>⟨k,r,h⟩
theorem TS.trans {tp:Addr} {H H1 H2:Hp} (a:TS tp H H1) (b:TS tp H1 H2):TS tp H H2:=fun sc k r h=>by
 obtain ⟨k',r',e⟩:=a sc k r h
 exact b sc k' r' e
theorem aZ.ts {tp:Addr} {H H':Hp} (g:aZ H H'):TS tp H H':=fun sc k r h=>⟨k,r,g _ _ h⟩
section
variable {P:Program} {w:World} {K:Frag} {mg:Str→Option Value} {base:Heap} {f g:Addr} {fd gd:FuncData}
noncomputable def Bu (K:Frag):Sp:=fun vs H Q _=>∃ a ns,vs=[.ref a]∧SqL K H a (List.map V.int ns)∧∀ t H',aZ H H'→Tp H' t→Q (.ref t) H'
theorem EI:aO ["_law_script"] ["_law_script"] (defScope lJ):=⟨rfl,rfl,rfl,by decide +kernel,rfl,by decide +kernel,by decide +kernel⟩
theorem AW (ns:List Int) (lo hi:Option Int):∃ ms:List Int,iM (ns.map V.int) lo hi=ms.map V.int:=by
 unfold iM
 rw [List.length_map,← List.map_drop,← List.map_take]
 exact ⟨_,rfl⟩
theorem Dd (T:G0 mg) (F:Fun K "_law_tape" "_law_tape" lJ f fd):bj P w K mg base CX0 1 f fd ["_law_script"] (Bu K):=by
 refine F.ok EI (fun vs H Q E h=>?_) (fun cdv A outer s H vs Q E hr h=>?_)
 ·obtain ⟨a,ns,rfl,_⟩:=h
  rfl
 obtain ⟨a,ns,rfl,hS,q⟩:=h
 refine ⟨_,ap (ay (bo (ad (dI jr (pv 0) eS (eO ak)) (ad ak (ad ak ah))))),?_⟩
 obtain ⟨ms,em⟩:=AW ns none (some 63)
 refine ⟨_,rfl,_,rfl,a,_,rfl,hS,fun p hp=>?_⟩
 refine ⟨(by show 3≤sizeLine; decide),fun t ht=>?_⟩
 refine q t _ ((ao hp _).trans (ao ht _)) ⟨p,0,0,ms,ag,?_⟩
 rw [aV (fun z=>by rw [← z,ag] at ht; cases ht),ag,em]
theorem dg {α:Type} {xs:List α} {i:Int} (h0:0≤i) (h1:i<xs.length):∃ v,v∈xs∧xs[i.toNat]?=some v∧atI xs i=some v:=by
 have hi:i.toNat<xs.length:=by omega
 have e:xs[i.toNat]?=some xs[i.toNat]:=List.getElem?_eq_getElem hi
 refine ⟨_,List.getElem_mem hi,e,?_⟩
 have q:=lh e
 rwa [show ((i.toNat:Nat):Int)=i by omega] at q
theorem oQ (a:Int):-(2 ^ 64)<a % 2147483629∧a % 2147483629<2 ^ 64:=by
 have h1:=Int.emod_nonneg a (show (2147483629:Int)≠0 by decide)
 have h2:=Int.emod_lt_of_pos a (show (0:Int)<2147483629 by decide)
 constructor<;>omega
theorem wq:Hg 10 18:=⟨by decide,by decide,by decide⟩
theorem mf {i j:Int} (h1:-(2 ^ 64)<j) (h2:j<2 ^ 64):CY i j:=.inr ⟨h1,h2⟩
noncomputable def bY:Sp:=fun vs H Q _=>∃ tp many,vs=[.ref tp,.int many]∧Tp H tp∧0<many∧many≤1000∧∀ (v:Int) (H':Hp),0≤v→v<many→Ext tp H H'→Tp H' tp→TS tp H H'→Q (.int v) H'
theorem kl:aO ["_law_tape_here", "_law_many", "_law_cell", "_law_mixed", "_law_found"] ["_law_tape_here", "_law_many"] (defScope mV):=⟨rfl,rfl,rfl,by decide +kernel,rfl,by decide +kernel,by decide +kernel⟩
theorem zZ (T:G0 mg) (F:Fun K "_law_draw" "_law_draw" mV f fd):bj P w K mg base CX0 1 f fd ["_law_tape_here", "_law_many"] bY:=by
 refine F.ok kl (fun vs H Q E h=>?_) (fun cdv A outer s H vs Q E hr h=>?_)
 ·obtain ⟨tp,many,rfl,_⟩:=h
  rfl
 obtain ⟨tp,many,rfl,ht,hm0,hm1,q⟩:=h
 obtain ⟨sc,k,r,ns,h1,h2⟩:=ht
 have hne:sc≠tp:=dN h2 h1 (fun z=>by injection z with z; cases ns<;>cases z)
 refine ⟨_,am (gn (ba eK (aA bf (pv 0) ak (fun _ _=>rfl)) ak) (qm (pv 0) ak jo))
  (am (aR (az bg (aA bf (pv 0) ak (fun _ _=>rfl)) ak (aG _))
   (am (aM (i:=2) kl.nd rfl (Or.inl rfl) ak)
    (am (aR (az gu (aK aU rfl T.len cv (ad (aA bf (pv 0) ak (fun _ _=>rfl)) ah)) ak (aG _))
     (ap (aM (i:=2) kl.nd rfl (Or.inl rfl) (aA bf (aA bf (pv 0) ak (fun _ _=>rfl)) (ba fW (aA bf (pv 0) ak (fun _ _=>rfl)) (aK aU rfl T.len cv (ad (aA bf (pv 0) ak (fun _ _=>rfl)) ah))) (fun _ _=>rfl)))) aF)
    (am (aR (az oV (pv 2) (ba qL ak ak) (aG _))
     (am (aM (i:=3) kl.nd rfl (Or.inl rfl) (ba fW (ba eK (ba eK (ba mh (ba fW (pv 2) ak) ak) (ba mh (aA bf (pv 0) ak (fun _ _=>rfl)) ak)) ak) ak))
      (am (aM (i:=3) kl.nd rfl (Or.inl rfl) (ba fW (ba mh (pv 3) (ba eK (pv 3) ak)) ak))
       (ap (ay (ba fW (ba fW (ba mh (pv 3) ak) ak) (pv 1)))))) aF)
    (ap (gn (ba bM (pv 2) (ba qL ak ak)) (qm (pv 0) ak jo))))))
   aF)
  (am (aM (i:=4) kl.nd rfl (Or.inl rfl) (ba fW (aA bf (pv 0) ak (fun _ _=>rfl)) (pv 1)))
  (am (gn (ba Dp (aA bf (pv 0) ak (fun _ _=>rfl)) (pv 1)) (qm (pv 0) ak jo))
  (ap (ay (pv 4)))))),?_⟩
 have X1:Ext tp H (upd H tp (.lst [.ref sc,.int (k+1),.int r])):=Ext.upd
 have e1:(upd H tp (.lst [.ref sc,.int (k+1),.int r])) tp=some (.lst [.ref sc,.int (k+1),.int r]):=ag
 have e2:(upd H tp (.lst [.ref sc,.int (k+1),.int r])) sc=some (.lst (List.map V.int ns)):=X1 _ _ hne h2
 refine ⟨_,rfl,tp,_,_,_,rfl,rfl,SqL.of h1,rfl,_,_,rfl,rfl,_,rfl,tp,_,_,_,rfl,rfl,h1,rfl,?_⟩
 refine ⟨_,rfl,tp,_,_,_,rfl,rfl,SqL.of e1,rfl,rfl,_,rfl,?_⟩
 have fin:∀ {k' r' v:Int} {H':Hp},H' tp=some (.lst [.ref sc,.int k',.int r'])→Ext tp H H'→0≤v→v<many→Q (.int v) H':=fun {k' r' v H'} a b c d=>q v H' c d b ⟨sc,k',r',ns,a,b _ _ hne h2⟩ (fun sc2 k2 r2 e=>by rw [h1] at e; cases e; exact ⟨_,_,a⟩)
 -- the tail: from any state with the tape
 refine aE (fun c=>?_) (fun c=>?_)
 ·refine ⟨_,rfl,tp,_,_,_,rfl,rfl,SqL.of e1,rfl,sc,_,rfl,.inl (SqL.of e2),_,_,rfl,rfl,_,rfl,?_⟩
  refine aE (fun c2=>?_) (fun c2=>?_)
  ·have hl:0<ns.length:=by simpa using of_decide_eq_true c2
   have hb:=Int.emod_lt_of_pos (k+1) (show (0:Int)<ns.length by omega)
   have ha:=Int.emod_nonneg (k+1) (show (ns.length:Int)≠0 by omega)
   obtain ⟨v,hv,_,hat⟩:=dg (xs:=List.map V.int ns) (i:=(k+1) % ((List.map V.int ns).length:Nat)) (by rw [List.length_map]; exact ha) (by rw [List.length_map]; exact hb)
   obtain ⟨cell,_,rfl⟩:=List.mem_map.mp hv
   refine ⟨_,rfl,tp,_,_,_,rfl,rfl,SqL.of e1,rfl,_,rfl,tp,_,_,_,rfl,rfl,SqL.of e1,rfl,_,rfl,tp,_,_,_,rfl,rfl,SqL.of e1,rfl,sc,_,rfl,.inl (SqL.of e2),_,_,rfl,rfl,?_,?_⟩
   ·show (0:Int)<((List.map V.int ns).length:Nat)
    rw [List.length_map]; omega
   refine ⟨sc,_,_,_,rfl,rfl,SqL.of e2,hat,?_⟩
   refine ⟨_,rfl,_,_,rfl,rfl,wq,_,_,rfl,rfl,_,rfl,?_⟩
   refine aE (fun c3=>?_) (fun c3=>?_)
   ·refine ⟨_,rfl,_,_,rfl,rfl,(by show (0:Int)<2147483647; decide),_,_,rfl,rfl,mf (by decide) (by decide),_,rfl,tp,_,_,_,rfl,rfl,SqL.of e1,rfl,_,_,rfl,rfl,mf (by decide) (by decide),_,_,rfl,rfl,_,_,rfl,rfl,_,_,rfl,rfl,(by show (0:Int)<2147483629; decide),?_⟩
    refine ⟨_,rfl,_,rfl,_,_,rfl,rfl,_,_,rfl,rfl,?_,_,_,rfl,rfl,(by show (0:Int)<2147483587; decide),_,rfl,_,_,rfl,rfl,mf (by decide) (by decide),_,_,rfl,rfl,(by show (0:Int)<2147483563; decide),_,rfl,_,_,rfl,rfl,hm0,?_⟩
    ·exact .inl (oQ _)
    ·exact fin e1 X1 (Int.emod_nonneg _ (by omega)) (Int.emod_lt_of_pos _ hm0)
   ·refine ⟨_,rfl,_,_,rfl,rfl,wq,_,_,rfl,rfl,_,rfl,tp,_,_,_,rfl,rfl,e1,rfl,?_⟩
    have e3:(upd (upd H tp (.lst [.ref sc,.int (k+1),.int r])) tp (.lst [.ref sc,.int (k+1),.int (cell - 10 ^ 18)])) tp=some (.lst [.ref sc,.int (k+1),.int (cell - 10 ^ 18)]):=ag
    refine ⟨_,rfl,tp,_,_,_,rfl,rfl,SqL.of e3,rfl,_,rfl,_,_,rfl,rfl,hm0,_,rfl,tp,_,_,_,rfl,rfl,SqL.of e3,rfl,_,rfl,_,_,rfl,rfl,⟨hm0,by omega⟩,_,rfl,tp,_,_,_,rfl,rfl,e3,rfl,_,rfl,?_⟩
    exact fin ag ((X1.trans Ext.upd).trans Ext.upd) (Int.emod_nonneg _ (by omega)) (Int.emod_lt_of_pos _ hm0)
  ·refine ⟨_,rfl,_,_,rfl,rfl,wq,_,_,rfl,rfl,_,rfl,?_⟩
   refine aE (fun c3=>?_) (fun c3=>absurd (show decide ((0:Int)<10 ^ (18:Int).toNat)=true by decide) c3)
   ·refine ⟨_,rfl,_,_,rfl,rfl,(by show (0:Int)<2147483647; decide),_,_,rfl,rfl,mf (by decide) (by decide),_,rfl,tp,_,_,_,rfl,rfl,SqL.of e1,rfl,_,_,rfl,rfl,mf (by decide) (by decide),_,_,rfl,rfl,_,_,rfl,rfl,_,_,rfl,rfl,(by show (0:Int)<2147483629; decide),?_⟩
    refine ⟨_,rfl,_,rfl,_,_,rfl,rfl,_,_,rfl,rfl,?_,_,_,rfl,rfl,(by show (0:Int)<2147483587; decide),_,rfl,_,_,rfl,rfl,mf (by decide) (by decide),_,_,rfl,rfl,(by show (0:Int)<2147483563; decide),_,rfl,_,_,rfl,rfl,hm0,?_⟩
    ·exact .inl (oQ _)
    ·exact fin e1 X1 (Int.emod_nonneg _ (by omega)) (Int.emod_lt_of_pos _ hm0)
 ·have e3:=e1
  refine ⟨_,rfl,tp,_,_,_,rfl,rfl,SqL.of e3,rfl,_,rfl,_,_,rfl,rfl,hm0,_,rfl,tp,_,_,_,rfl,rfl,SqL.of e3,rfl,_,rfl,_,_,rfl,rfl,⟨hm0,by omega⟩,_,rfl,tp,_,_,_,rfl,rfl,e3,rfl,_,rfl,?_⟩
  exact fin ag (X1.trans Ext.upd) (Int.emod_nonneg _ (by omega)) (Int.emod_lt_of_pos _ hm0)
end
open PySem L2
structure Go (tp:Addr) (H H':Hp):Prop where
 x:Ext tp H H'
 t:Tp H' tp
 y:TS tp H H'
theorem Go.trans {tp:Addr} {H H1 H2:Hp} (a:Go tp H H1) (b:Go tp H1 H2):Go tp H H2:=⟨a.x.trans b.x,b.t,a.y.trans b.y⟩
theorem Go.refl {tp:Addr} {H:Hp} (t:Tp H tp):Go tp H H:=⟨Ext.refl _ _,t,TS.refl _ _⟩
theorem Go.same {tp:Addr} {H H':Hp} (t:Tp H tp) (g:aZ H H'):Go tp H H':=⟨aZ.ext g,t.same g,aZ.ts g⟩
theorem Go.new {tp p:Addr} {H H1:Hp} (a:Go tp H H1) (h:H1 p=none) (o:HO):Go tp H (upd H1 p o):=a.trans (Go.same a.t (ao h o))
theorem Tp.nt {H:Hp} {tp p:Addr} (t:Tp H tp) (h:H p=none):p≠tp:=by obtain ⟨_,_,_,_,e,_⟩:=t; exact (aJ e h).symm
theorem Go.free {tp p:Addr} {H H1:Hp} (a:Go tp H H1) (t:Tp H tp) (h:H1 p=none):H p=none:=by
 cases e:H p with
 | none=>rfl
 | some o =>
  have:=a.x p o (a.t.nt h) e
  rw [h] at this; cases this
noncomputable def cX:List Str:=["a", "ab", "abc", "b", "ba", "let", "end", "var", "add", "abcdefgh", "record", "x"]
noncomputable def pk (v s:Nat) (m:Nat):Str:=cX.getD ((v+s*m) % 12) ""
theorem Bb:∀ v:Fin 12,∀ s∈([1,5,7,11]:List Nat),((List.range 5).map (pk v.val s)).Nodup:=by decide +kernel
theorem Da {v s n:Nat} (hv:v<12) (hs:s∈([1,5,7,11]:List Nat)) (hn:n≤5):((List.range n).map (pk v s)).Nodup:=by
 have h:=Bb ⟨v,hv⟩ s hs
 have e:(List.range n).map (pk v s)=((List.range 5).map (pk v s)).take n:=by
  rw [← List.map_take,List.take_range,Nat.min_eq_left hn]
 rw [e]
 exact h.sublist (List.take_sublist _ _)
section
variable {P:Program} {w:World} {K:Frag} {mg:Str→Option Value} {base:Heap} {f g:Addr} {fd gd:FuncData}
noncomputable abbrev dP:List Str:=["_law_tape_here", "_law_many"]
noncomputable abbrev nN:List Str:=["_law_tape_here", "_law_many", "_law_pool", "_law_start", "_law_step"]
noncomputable abbrev nNb:List Str:=["_law_k", "_law_pool", "_law_start", "_law_step"]
theorem lD:aO nN dP (defScope aX):=⟨rfl,rfl,rfl,by decide +kernel,rfl,by decide +kernel,by decide +kernel⟩
theorem HC:nNb.Nodup:=by decide +kernel
noncomputable def ju:Sp:=fun vs H Q _=>∃ tp many,vs=[.ref tp,.int many]∧Tp H tp∧0≤many∧many≤5∧∀ r (l:List Str) H',Go tp H H'→H r=none→H' r=some (.lst (l.map V.str))→l.length=many.toNat→(∀ z∈l,z∈cX)→l.Nodup→Q (.ref r) H'
theorem Aq (T:G0 mg) (F:Fun K "_law_names" "_law_names" aX f fd) (D:Cal P w K mg base 1 "_law_draw" dP bY):bj P w K mg base CX0 2 f fd dP ju:=by
 obtain ⟨g,gd,Gd,bG,kG,mG⟩:=D.ex
 refine F.ok lD (fun vs H Q E h=>?_) (fun cdv A outer s H vs Q E hr h=>?_)
 ·obtain ⟨tp,many,rfl,_⟩:=h
  rfl
 obtain ⟨tp,many,rfl,ht,hm0,hm1,q⟩:=h
 refine ⟨_,@am (cP CX0 P w K mg base nN "_law_names" (defScope aX) f cdv A outer s H E).nox _ _ _ _ (@aM (cP CX0 P w K mg base nN "_law_names" (defScope aX) f cdv A outer s H E).nox _ 2 _ _ _ _ lD.nd rfl (Or.inr rfl) (@bo (cP CX0 P w K mg base nN "_law_names" (defScope aX) f cdv A outer s H E).nox _ _ _ (@ad (cP CX0 P w K mg base nN "_law_names" (defScope aX) f cdv A outer s H E).nox _ _ _ _ (@au (cP CX0 P w K mg base nN "_law_names" (defScope aX) f cdv A outer s H E).nox _ _ _) (@ad (cP CX0 P w K mg base nN "_law_names" (defScope aX) f cdv A outer s H E).nox _ _ _ _ (@au (cP CX0 P w K mg base nN "_law_names" (defScope aX) f cdv A outer s H E).nox _ _ _) (@ad (cP CX0 P w K mg base nN "_law_names" (defScope aX) f cdv A outer s H E).nox _ _ _ _ (@au (cP CX0 P w K mg base nN "_law_names" (defScope aX) f cdv A outer s H E).nox _ _ _) (@ad (cP CX0 P w K mg base nN "_law_names" (defScope aX) f cdv A outer s H E).nox _ _ _ _ (@au (cP CX0 P w K mg base nN "_law_names" (defScope aX) f cdv A outer s H E).nox _ _ _) (@ad (cP CX0 P w K mg base nN "_law_names" (defScope aX) f cdv A outer s H E).nox _ _ _ _ (@au (cP CX0 P w K mg base nN "_law_names" (defScope aX) f cdv A outer s H E).nox _ _ _) (@ad (cP CX0 P w K mg base nN "_law_names" (defScope aX) f cdv A outer s H E).nox _ _ _ _ (@au (cP CX0 P w K mg base nN "_law_names" (defScope aX) f cdv A outer s H E).nox _ _ _) (@ad (cP CX0 P w K mg base nN "_law_names" (defScope aX) f cdv A outer s H E).nox _ _ _ _ (@au (cP CX0 P w K mg base nN "_law_names" (defScope aX) f cdv A outer s H E).nox _ _ _) (@ad (cP CX0 P w K mg base nN "_law_names" (defScope aX) f cdv A outer s H E).nox _ _ _ _ (@au (cP CX0 P w K mg base nN "_law_names" (defScope aX) f cdv A outer s H E).nox _ _ _) (@ad (cP CX0 P w K mg base nN "_law_names" (defScope aX) f cdv A outer s H E).nox _ _ _ _ (@au (cP CX0 P w K mg base nN "_law_names" (defScope aX) f cdv A outer s H E).nox _ _ _) (@ad (cP CX0 P w K mg base nN "_law_names" (defScope aX) f cdv A outer s H E).nox _ _ _ _ (@au (cP CX0 P w K mg base nN "_law_names" (defScope aX) f cdv A outer s H E).nox _ _ _) (@ad (cP CX0 P w K mg base nN "_law_names" (defScope aX) f cdv A outer s H E).nox _ _ _ _ (@au (cP CX0 P w K mg base nN "_law_names" (defScope aX) f cdv A outer s H E).nox _ _ _) (@ad (cP CX0 P w K mg base nN "_law_names" (defScope aX) f cdv A outer s H E).nox _ _ _ _ (@au (cP CX0 P w K mg base nN "_law_names" (defScope aX) f cdv A outer s H E).nox _ _ _) (@ah (cP CX0 P w K mg base nN "_law_names" (defScope aX) f cdv A outer s H E).nox) rfl) rfl) rfl) rfl) rfl) rfl) rfl) rfl) rfl) rfl) rfl) rfl)) rfl (.inl rfl))
  (am (aM (i:=3) lD.nd rfl (Or.inr rfl) (aq Gd hr rfl mG kG bG .nil aC (ad (pv 0) (ad ak ah))))
  (am (aM (i:=4) lD.nd rfl (Or.inr rfl) (aA bf (bo (ad ak (ad ak (ad ak (ad ak ah))))) (aq Gd hr rfl mG kG bG .nil aC (ad (pv 0) (ad ak ah))) (fun _ _=>rfl)))
  (ap (ay (bH (N':=nNb) (ρ:=[none,some 2,some 3,some 4]) (m:=1) (bI.of (fs:=defScope aX) (N:=nN) rfl rfl (by decide +kernel)) rfl (dB rfl T.range (ad (pv 1) ah))
   (fun _ _ _ _=>aH (i:=0) HC rfl (Or.inl rfl)) (fun _ _ _ _=>bC) (fun _ _ _ _=>aA (iZ (K:=K) rfl) (pv 1) (ba fW (ba eK (pv 2) (ba mh (pv 3) (pv 0))) ak) (fun _ _=>rfl))))))),?_⟩
 refine ⟨(by show 12≤sizeLine; decide),fun p hp=>?_⟩
 have G1:Go tp H (upd H p (.lst (cX.map V.str))):=(Go.refl ht).new hp _
 have e1:(upd H p (.lst (cX.map V.str))) p=some (.lst (cX.map V.str)):=ag
 have hpt:p≠tp:=ht.nt hp
 refine ⟨_,rfl,tp,12,rfl,G1.t,by decide,by decide,fun v2 H2 a0 a1 x2 t2 y2=>?_⟩
 have G2:=G1.trans ⟨x2,t2,y2⟩
 have e2:=x2 _ _ hpt e1
 refine ⟨(by show 4≤sizeLine; decide),fun p3 hp3=>?_⟩
 have G3:=G2.new hp3 (.lst [.int 1,.int 5,.int 7,.int 11])
 refine ⟨_,rfl,tp,4,rfl,G3.t,by decide,by decide,fun v4 H4 b0 b1 x4 t4 y4=>?_⟩
 have G4:=G3.trans ⟨x4,t4,y4⟩
 have e4:=x4 _ _ hpt (ao hp3 (.lst [.int 1,.int 5,.int 7,.int 11]) _ _ e2)
 obtain ⟨st,hst,_,hat⟩:=dg (xs:=[V.int 1,V.int 5,V.int 7,V.int 11]) (i:=v4) b0 b1
 have stp:∃ si:Int,st=.int si∧0≤si∧si≤11∧si.toNat∈([1,5,7,11]:List Nat):=by
  rcases List.mem_cons.mp hst with e | hst
  ·exact ⟨1,e,by decide,by decide,by decide⟩
  rcases List.mem_cons.mp hst with e | hst
  ·exact ⟨5,e,by decide,by decide,by decide⟩
  rcases List.mem_cons.mp hst with e | hst
  ·exact ⟨7,e,by decide,by decide,by decide⟩
  ·exact ⟨11,List.mem_singleton.mp hst,by decide,by decide,by decide⟩
 obtain ⟨si,rfl,s0,s1,s2⟩:=stp
 refine ⟨p3,_,_,_,rfl,rfl,SqL.of (x4 _ _ (G2.t.nt hp3) ag),hat,?_⟩
 refine ⟨_,rfl,many,rfl,by omega,by omega,gj many.toNat (by omega) (fun j acc H'=>H'=H4∧∃ l:List Str,acc=l.map V.str∧l.length=j∧l=(List.range j).map (pk v2.toNat si.toNat)∧∀ z∈l,z∈cX) ⟨rfl,[],rfl,rfl,rfl,fun _ z=>nomatch z⟩ (fun j acc H' hj la z=>?_) (fun acc H' z la Dk hDk=>?_)⟩
 ·obtain ⟨rfl,l,rfl,hl,hlk,hpl⟩:=z
  refine ⟨⟨rfl,rfl⟩,bD ?_⟩
  have m0:=Int.emod_nonneg (v2+si*(0+(j:Int))) (show (12:Int)≠0 by decide)
  have m1:=Int.emod_lt_of_pos (v2+si*(0+(j:Int))) (show (0:Int)<12 by decide)
  obtain ⟨u,hu,hnat,hat2⟩:=dg (xs:=cX.map V.str) (i:=(v2+si*(0+(j:Int))) % 12) m0 m1
  obtain ⟨zz,hzz,rfl⟩:=List.mem_map.mp hu
  refine ⟨_,rfl,_,rfl,_,rfl,_,rfl,_,_,rfl,rfl,?_,_,_,rfl,rfl,_,_,rfl,rfl,(by show (0:Int)<12; decide),p,_,_,_,rfl,rfl,SqL.of e4,hat2,nxT (by omega) hj la ⟨rfl,l++[zz],by simp,by simp [hl],?_,fun y hy=>?_⟩⟩
  ·exact mf (by omega) (by omega)
  ·rw [List.range_succ,List.map_append,← hlk]
   congr 1
   show [zz]=[pk v2.toNat si.toNat j]
   have ei:((v2+si*(0+(j:Int))) % 12).toNat=(v2.toNat+si.toNat*j) % 12:=by
    have e1:((v2.toNat+si.toNat*j:Nat):Int)=v2+si*(0+(j:Int)):=by
     rw [Int.natCast_add,Int.natCast_mul,Int.toNat_of_nonneg a0,Int.toNat_of_nonneg s0,Int.zero_add]
    rw [← e1]
    omega
   rw [ei,List.getElem?_map] at hnat
   obtain ⟨y,hy,hyz⟩:=Option.map_eq_some_iff.mp hnat
   cases hyz
   unfold pk
   rw [List.getD_eq_getElem?_getD,hy]
   rfl
  ·rcases List.mem_append.mp hy with hy | hy
   ·exact hpl y hy
   ·rw [List.mem_singleton.mp hy]; exact hzz
 ·obtain ⟨rfl,l,rfl,hl,hlk,hpl⟩:=z
  exact q Dk l _ (G4.new hDk _) (G4.free ht hDk) ag hl hpl (by rw [hlk]; exact Da (by omega) s2 (by omega))
end
open PySem L2
theorem Go.upd {tp p:Addr} {H H1:Hp} (a:Go tp H H1) (t:Tp H tp) (h:H p=none) (o:HO):Go tp H (L2.upd H1 p o):=by
 obtain ⟨sc,k,r,ns,h1,h2⟩:=id t
 have pt:tp≠p:=aJ h1 h
 have ps:sc≠p:=aJ h2 h
 have st:sc≠tp:=dN h2 h1 (fun z=>by injection z with z; cases ns<;>cases z)
 obtain ⟨k',r',e⟩:=a.y sc k r h1
 refine ⟨fun b u n q=>?_,⟨sc,k',r',ns,by rw [aV pt]; exact e,by rw [aV ps]; exact a.x _ _ st h2⟩,fun sc2 k2 r2 q=>?_⟩
 ·rw [aV (aJ q h)]
  exact a.x _ _ n q
 ·obtain ⟨k3,r3,e3⟩:=a.y sc2 k2 r2 q
  exact ⟨k3,r3,by rw [aV pt]; exact e3⟩
noncomputable def cG (R:List Rec):Prop:=∀ (i:Nat) r,R[i]?=some r→r.1∈cX∧((1≤r.2.length∧r.2.length≤3)∧(r.2.map (·.1)).Nodup∧(∀ p∈r.2,p.1∈cX)∧∀ p∈r.2.drop 1,p.2∈PL)∧∀ p∈r.2,p.2∈PL∨∃ (j:Nat) (r':Rec),j<i∧R[j]?=some r'∧r'.1=p.2
theorem Cj {l:List Str} {v x:Str} (h:x∈(l.set 0 v).drop 1):x∈l:=by
 cases l with
 | nil=>simp at h
 | cons a b=>simp at h; exact List.mem_cons_of_mem _ h
theorem Bo {l r:List Str} {p:Str×Str} (h:p∈(l.zip r).drop 1):p.2∈r.drop 1:=by
 cases l with
 | nil=>simp at h
 | cons a l =>
  cases r with
  | nil=>simp at h
  | cons b r =>
   simp only [List.zip_cons_cons,List.drop_succ_cons,List.drop_zero] at h ⊢
   exact (List.of_mem_zip h).2
theorem BR:∀ {l r:List Str},l.Nodup→((l.zip r).map (·.1)).Nodup
 | [],_,_=>by simp
 | _::_,[],_=>by simp
 | a::l,b::r,h=>by
  rw [List.zip_cons_cons,List.map_cons,List.nodup_cons]
  rw [List.nodup_cons] at h
  refine ⟨fun z=>h.1 ?_,BR h.2⟩
  obtain ⟨p,hp,e⟩:=List.mem_map.mp z
  have e':p.1=a:=e
  rw [← e']
  exact (List.of_mem_zip hp).1
theorem yG:∀ z∈cX,z∉PL:=by decide +kernel
theorem me.mono {R:List Rec}:∀ {n m:Nat} {k:Str},n≤m→me R n k→me R m k
 | 0,_,_,_,h=>h.elim
 | n+1,0,_,h,_=>by omega
 | n+1,m+1,k,h,d=>by
  rcases d with a | ⟨a,b,c,d⟩
  ·exact .inl a
  ·exact .inr ⟨a,b,c,fun p hp=>me.mono (by omega) (d p hp)⟩
theorem CS {R:List Rec} {i:Nat} {r:Rec} (h:R[i]?=some r):∃ j r',j≤i∧R[j]?=some r'∧r'.1=r.1∧look R r.1=r'.2:=by
 induction R generalizing i with
 | nil=>simp at h
 | cons a rs ih =>
  by_cases e:a.1=r.1
  ·refine ⟨0,a,Nat.zero_le _,rfl,e,?_⟩
   unfold look
   rw [List.find?_cons,decide_eq_true e]
   rfl
  ·cases i with
   | zero =>
    simp at h
    exact absurd (congrArg (·.1) h) e
   | succ i =>
    obtain ⟨j,r',h1,h2,h3,h4⟩:=ih (i:=i) (by simpa using h)
    refine ⟨j+1,r',by omega,by simpa using h2,h3,?_⟩
    rw [← h4]
    unfold look
    rw [List.find?_cons,decide_eq_false e]
theorem cG.deep {R:List Rec} (g:cG R):∀ (i:Nat) {r:Rec},R[i]?=some r→me R (i+2) r.1:=by
 intro i
 induction i using Nat.strongRecOn with
 | ind i ih =>
  intro r h
  obtain ⟨j,r',h1,h2,h3,h4⟩:=CS h
  obtain ⟨a,b,c⟩:=g j r' h2
  refine .inr ⟨yG _ (g i r h).1,List.mem_map.mpr ⟨r,List.mem_of_getElem? h,rfl⟩,by rw [h4]; exact b.1,fun p hp=>?_⟩
  rw [h4] at hp
  rcases c p hp with z | ⟨j',r2,l,e1,e2⟩
  ·exact .inl z
  ·rw [← e2]
   exact (ih j' (by omega) e1).mono (by omega)
theorem cG.snoc {R:List Rec} (g:cG R) {r:Rec} (h:r.1∈cX∧((1≤r.2.length∧r.2.length≤3)∧(r.2.map (·.1)).Nodup∧(∀ p∈r.2,p.1∈cX)∧∀ p∈r.2.drop 1,p.2∈PL)∧∀ p∈r.2,p.2∈PL∨∃ (j:Nat) (r':Rec),j<R.length∧R[j]?=some r'∧r'.1=p.2):cG (R++[r]):=by
 intro i s hs
 by_cases hi:i<R.length
 ·rw [List.getElem?_append_left hi] at hs
  obtain ⟨a,b,c⟩:=g i s hs
  refine ⟨a,b,fun p hp=>?_⟩
  rcases c p hp with z | ⟨j,r',l,e1,e2⟩
  ·exact .inl z
  ·exact .inr ⟨j,r',l,by rw [List.getElem?_append_left (by omega)]; exact e1,e2⟩
 ·have:i=R.length:=by
   have:=(List.getElem?_eq_some_iff.mp hs).1
   simp at this
   omega
  subst this
  rw [List.getElem?_append_right (Nat.le_refl _),Nat.sub_self] at hs
  simp at hs
  subst hs
  obtain ⟨a,b,c⟩:=h
  refine ⟨a,b,fun p hp=>?_⟩
  rcases c p hp with z | ⟨j,r',l,e1,e2⟩
  ·exact .inl z
  ·exact .inr ⟨j,r',l,by rw [List.getElem?_append_left l]; exact e1,e2⟩
section
variable {P:Program} {w:World} {K:Frag} {mg:Str→Option Value} {base:Heap} {f g:Addr} {fd gd:FuncData}
noncomputable abbrev Ey:List Str:=["_law_tape_here", "_law_records_here", "_law_name", "_law_kinds", "_law_fields"]
noncomputable abbrev nC1:List Str:=["_law_k", "_law_tape_here"]
noncomputable abbrev nC2:List Str:=["_law_k", "_law_fields", "_law_kinds"]
theorem lY:aO Ey ["_law_tape_here"] (defScope dM):=⟨rfl,rfl,rfl,by decide +kernel,rfl,by decide +kernel,by decide +kernel⟩
theorem HL:nC1.Nodup:=by decide +kernel
theorem HI:nC2.Nodup:=by decide +kernel
noncomputable def BL:Sp:=fun vs H Q _=>∃ tp,vs=[.ref tp]∧Tp H tp∧∀ v R H',Go tp H H'→dR H' v R→R.length≤3→cG R→(R.map (·.1)).Nodup→Q v H'
theorem Dt (T:G0 mg) (F:Fun K "_law_records" "_law_records" dM f fd) (D:Cal P w K mg base 1 "_law_draw" dP bY) (DN:Cal P w K mg base 2 "_law_names" dP ju):bj P w K mg base CX0 3 f fd ["_law_tape_here"] BL:=by
 obtain ⟨g,gd,Gd,bG,kG,mG⟩:=D.ex
 obtain ⟨g2,gd2,GN,bN,kN,mN⟩:=DN.ex
 refine F.ok lY (fun vs H Q E h=>?_) (fun cdv A outer s H vs Q E hr h=>?_)
 ·obtain ⟨tp,rfl,_⟩:=h
  rfl
 obtain ⟨tp,rfl,ht,q⟩:=h
 refine ⟨_,am (aM (i:=1) lY.nd rfl (Or.inl rfl) (bo ah))
  (am (cg PassesOwn.never rfl (dD (aq GN hr rfl mN kN bN .nil aC (ad (pv 0) (ad (aA bf (bo (ad ak (ad ak (ad ak (ad ak ah))))) (aq Gd (hr.mono (by omega)) rfl mG kG bG .nil aC (ad (pv 0) (ad ak ah))) (fun _ _=>rfl)) ah)))) (aH (i:=2) lY.nd rfl (Or.inl rfl))
   (am (aM (i:=3) lY.nd rfl (Or.inr rfl) (bH (N':=nC1) (ρ:=[none,some 0]) (m:=1) (bI.of (fs:=defScope dM) (N:=Ey) rfl rfl (by decide +kernel)) rfl (dB rfl T.range (ad (ba eK ak (aq Gd (hr.mono (by omega)) rfl mG kG bG .nil aC (ad (pv 0) (ad ak ah)))) ah))
     (fun _ _ _ _=>aH (i:=0) HL rfl (Or.inl rfl)) (fun _ _ _ _=>bC) (fun _ _ _ _=>aA (iZ (K:=K) rfl) (bo (ad au (ad au (ad au ah)))) (aq Gd (hr.mono (by omega)) rfl mG kG bG .nil aC (ad (pv 1) (ad ak ah))) (fun _ _=>rfl))))
   (am (aR (PW.pt (gl (az (fE hr.units0) (pv 1) (bo ah) (aG _)) (eW (az gu (aq Gd (hr.mono (by omega)) rfl mG kG bG .nil aC (ad (pv 0) (ad ak ah))) ak (aG _)))))
     (ap (gn (aA aI (aA bf (pv 1) (aq Gd (hr.mono (by omega)) rfl mG kG bG .nil aC (ad (pv 0) (ad (aK aU rfl T.len cv (ad (pv 1) ah)) ah))) (fun _ _=>rfl)) ak (fun _ _=>rfl)) (qm (pv 3) ak jo))) aF)
   (am (aM (i:=4) lY.nd rfl (Or.inr rfl) (aq GN hr rfl mN kN bN .nil aC (ad (pv 0) (ad (aK aU rfl T.len cv (ad (pv 3) ah)) ah))))
   (ap (cM (fG PySem.F.plainAttrs_list PySem.F.slot_list_append PySem.F.type_list_append dY (pv 1) (ad (aT (ad (pv 2) (ad (bK bF rfl T.tuple cb (ad
     (bH (N':=nC2) (ρ:=[none,some 4,some 3]) (m:=1) (bI.of (fs:=defScope dM) (N:=Ey) rfl rfl (by decide +kernel)) rfl (dB rfl T.range (ad (aK aU rfl T.len cv (ad (pv 3) ah)) ah))
      (fun _ _ _ _=>aH (i:=0) HI rfl (Or.inl rfl)) (fun _ _ _ _=>bC) (fun _ _ _ _=>aT (ad (aA (iZ (K:=K) rfl) (pv 1) (pv 0) (fun _ _=>rfl)) (ad (aA (iZ (K:=K) rfl) (pv 2) (pv 0) (fun _ _=>rfl)) ah)))) ah)) ah))) ah))))))))
  (ap (ay (bK bF rfl T.tuple cb (ad (pv 1) ah))))),?_⟩
 refine ⟨(by show 0≤sizeLine; decide),fun rl hrl=>?_⟩
 have G1:Go tp H (L2.upd H rl (.lst [])):=(Go.refl ht).new hrl _
 have hrt:rl≠tp:=ht.nt hrl
 refine ⟨_,rfl,(by show 4≤sizeLine; decide),fun p3 hp3=>?_⟩
 have G3:=G1.new hp3 (.lst [.int 0,.int 1,.int 2,.int 3])
 refine ⟨_,rfl,tp,4,rfl,G3.t,by decide,by decide,fun v4 H4 b0 b1 x4 t4 y4=>?_⟩
 have G4:=G3.trans ⟨x4,t4,y4⟩
 obtain ⟨st,hst,_,hat⟩:=dg (xs:=[V.int 0,V.int 1,V.int 2,V.int 3]) (i:=v4) b0 b1
 have stp:∃ si:Int,st=.int si∧0≤si∧si≤3:=by
  rcases List.mem_cons.mp hst with e | hst
  ·exact ⟨0,e,by decide,by decide⟩
  rcases List.mem_cons.mp hst with e | hst
  ·exact ⟨1,e,by decide,by decide⟩
  rcases List.mem_cons.mp hst with e | hst
  ·exact ⟨2,e,by decide,by decide⟩
  ·exact ⟨3,List.mem_singleton.mp hst,by decide,by decide⟩
 obtain ⟨si,rfl,s0,s1⟩:=stp
 have rl4:H4 rl=some (.lst []):=x4 _ _ hrt (ao hp3 _ _ _ ag)
 refine ⟨p3,_,_,_,rfl,rfl,SqL.of (x4 _ _ (G1.t.nt hp3) ag),hat,tp,si,rfl,t4,s0,by omega,fun an l H5 g5 an0 han hl hpl hnd=>?_⟩
 have G5:=G4.trans g5
 have anH:H an=none:=G4.free ht an0
 have hra:rl≠an:=aJ rl4 an0
 have rl5:H5 rl=some (.lst []):=g5.x _ _ hrt rl4
 have hat':an≠tp:=t4.nt an0
 refine ⟨an,rfl,⟨_,SqL.of han⟩,gZ (xs:=l.map V.str) (fun i σ H'=>∃ m2 m3 m4 xs R,σ=[some (.ref tp),some (.ref rl),m2,m3,m4]∧Go tp H H'∧H' an=some (.lst (l.map V.str))∧H' rl=some (.lst xs)∧Paired (cC H') xs R∧R.length=i∧R.map (·.1)=l.take i∧cG R) ⟨none,none,none,[],[],rfl,G5,han,rl5,.nil,rfl,by simp,fun i r e=>by simp at e⟩ (fun i σ H' _ p=>?_) (fun i x σ H' hx p=>?_) (fun σ H' p=>?_)⟩
 ·obtain ⟨_,_,_,_,_,_,_,e,_⟩:=p
  exact SqL.of e
 ·obtain ⟨m2,m3,m4,xs,R,rfl,GA,hnA,hlA,pA,lA,nA,gA⟩:=p
  rw [List.getElem?_map] at hx
  obtain ⟨nm,hnm,rfl⟩:=Option.map_eq_some_iff.mp hx
  have hi3:i<3:=by
   have:=(List.getElem?_eq_some_iff.mp hnm).1
   omega
  refine ⟨_,rfl,tp,3,rfl,GA.t,by decide,by decide,fun v8 H8 d0 d1 x8 t8 y8=>?_⟩
  have G8:Go tp H' H8:=⟨x8,t8,y8⟩
  refine ⟨_,_,rfl,rfl,_,rfl,by omega,by omega,gj (1+v8).toNat (by omega) (fun j acc H9=>Go tp H' H9∧∃ ks:List Str,acc=ks.map V.str∧ks.length=j∧∀ x∈ks,x∈PL) ⟨G8,[],rfl,rfl,fun _ z=>nomatch z⟩ (fun j acc H9 hj la z=>?_) (fun acc H9 z la Dk hDk=>?_)⟩
  ·obtain ⟨G9,ks,rfl,hks,hpl9⟩:=z
   refine ⟨⟨rfl,rfl⟩,bD ?_⟩
   refine ⟨(by show 3≤sizeLine; decide),fun p hp=>⟨_,rfl,tp,3,rfl,(G9.new hp _).t,by decide,by decide,fun v10 H10 e0 e1 x10 t10 y10=>?_⟩⟩
   obtain ⟨u,hu,_,hat2⟩:=dg (xs:=PL.map V.str) (i:=v10) e0 e1
   obtain ⟨z,hz,rfl⟩:=List.mem_map.mp hu
   refine ⟨p,_,_,_,rfl,rfl,SqL.of (x10 _ _ (G9.t.nt hp) ag),hat2,nxT (by omega) hj la ⟨(G9.new hp _).trans ⟨x10,t10,y10⟩,ks++[z],by simp,by simp [hks],fun y hy=>?_⟩⟩
   rcases List.mem_append.mp hy with hy | hy
   ·exact hpl9 y hy
   ·rw [List.mem_singleton.mp hy]; exact hz
  ·obtain ⟨G9,ks,rfl,hks,hpl9⟩:=z
   have GB:=G9.new hDk (.lst (ks.map V.str))
   have eB:(L2.upd H9 Dk (.lst (ks.map V.str))) Dk=some (.lst (ks.map V.str)):=ag
   have hDt:Dk≠tp:=G9.t.nt hDk
   have hDn:H' Dk=none:=G9.free GA.t hDk
   dsimp only [iJ]
   refine jA (fun σ H14=>∃ (ks':List Str),σ=[some (.ref tp),some (.ref rl),some (.str nm),some (.ref Dk),m4]∧Go tp H' H14∧H14 Dk=some (.lst (ks'.map V.str))∧1≤ks'.length∧ks'.length≤3∧(∀ x∈ks'.drop 1,x∈PL)∧∀ x∈ks',x∈PL∨∃ (j:Nat) (r':Rec),j<R.length∧R[j]?=some r'∧r'.1=x) (fun NX hNX=>?_) (fun σ H14 jj=>?_)
   ·have plainJ:∀ {Hx:Hp},Go tp H' Hx→Hx Dk=some (.lst (ks.map V.str))→NX [some (.ref tp),some (.ref rl),some (.str nm),some (.ref Dk),m4] Hx:=fun {Hx} a c=>hNX _ _ ⟨ks,rfl,a,c,by omega,by omega,fun x hx=>hpl9 x (List.mem_of_mem_drop hx),fun x hx=>.inl (hpl9 x hx)⟩
    refine ⟨_,rfl,(by show 0≤sizeLine; decide),fun pe hpe=>?_⟩
    have GC:=GB.new hpe (.lst [])
    have eC:=ao hpe (.lst []) _ _ eB
    have eL:=GC.x _ _ hrt hlA
    refine ⟨rl,pe,xs,rfl,rfl,SqL.of eL,SqL.of ag,_,rfl,?_⟩
    refine aE (fun c1=>?_) (fun c1=>plainJ GC eC)
    have lx:0<xs.length:=by
     cases xs with
     | nil=>exact absurd c1 (by decide)
     | cons _ _=>simp
    have lxR:=Paired.length pA
    refine ⟨_,rfl,tp,3,rfl,GC.t,by decide,by decide,fun v11 H11 _ _ x11 t11 y11=>⟨_,_,rfl,rfl,_,rfl,?_⟩⟩
    have GE:=GC.trans ⟨x11,t11,y11⟩
    have e11:=x11 _ _ hDt eC
    refine aE (fun c2=>?_) (fun c2=>plainJ GE e11)
    refine ⟨_,rfl,_,rfl,_,rfl,rl,xs,rfl,.inl (SqL.of (GE.x _ _ hrt hlA)),tp,_,rfl,t11,by omega,by omega,fun v12 H12 f0 f1 x12 t12 y12=>?_⟩
    have GF:=GE.trans ⟨x12,t12,y12⟩
    obtain ⟨u,hu,hat3,hat4⟩:=dg (xs:=xs) (i:=v12) f0 f1
    obtain ⟨rc,hrc,cc,yy,rfl,hcc,_⟩:=aY pA _ u hat3
    have e12:=x12 _ _ hDt e11
    have hcc':=GF.x _ _ (GA.t.ne hcc) hcc
    refine ⟨rl,_,_,_,rfl,rfl,SqL.of (GF.x _ _ hrt hlA),hat4,cc,_,_,_,rfl,rfl,SqT.of hcc',rfl,_,rfl,Dk,_,_,0,rfl,rfl,e12,?_,?_⟩
    ·unfold ixN
     rw [if_pos (by decide),List.length_map,if_pos (by omega)]
     rfl
    ·refine hNX _ _ ⟨ks.set 0 rc.1,rfl,GF.upd GA.t hDn _,?_,by simp; omega,by simp; omega,fun x hx=>hpl9 x (Cj hx),fun x hx=>?_⟩
     ·rw [ag,List.map_set]
     ·rcases List.mem_or_eq_of_mem_set hx with hx | rfl
      ·exact .inl (hpl9 x hx)
      ·exact .inr ⟨v12.toNat,rc,by omega,hrc,rfl⟩
   ·obtain ⟨ks',rfl,GJ,eJ,l1,l3,hkd,hkk⟩:=jj
    refine ⟨_,rfl,_,rfl,Dk,_,rfl,.inl (SqL.of eJ),tp,_,rfl,GJ.t,by omega,by rw [List.length_map]; omega,fun fl lf H15 g15 fl0 hfl hlf hplf hndf=>?_⟩
    have hlf':lf.length=ks'.length:=by rw [hlf,List.length_map,Int.toNat_natCast]
    have GK:=GJ.trans g15
    have eD:=g15.x _ _ hDt eJ
    have eL:=GK.x _ _ hrt hlA
    have eN:=GK.x _ _ hat' hnA
    have hzl:(lf.zip ks').length=ks'.length:=by rw [List.length_zip]; omega
    refine ⟨_,rfl,.inl ⟨rfl,_,SqL.of eL⟩,_,rfl,_,rfl,Dk,_,rfl,.inl (SqL.of eD),_,rfl,by rw [List.length_map]; omega,by rw [List.length_map]; omega,gj (((ks'.map V.str).length:Nat):Int).toNat (by rw [List.length_map]; omega) (fun j acc H'=>aZ H15 H'∧Paired (cy H') acc ((lf.zip ks').take j)) ⟨aZ.refl _,.nil⟩ (fun j acc H17 hj la z=>?_) (fun acc H17 z la D2 hD2=>?_)⟩
    ·obtain ⟨g17,pa⟩:=z
     have hj':j<ks'.length:=by
      rw [List.length_map] at hj
      simpa using hj
     have hk:ks'[j]?=some ks'[j]:=List.getElem?_eq_getElem hj'
     have hf:lf[j]?=some (lf[j]'(by omega)):=List.getElem?_eq_getElem (by omega)
     refine ⟨⟨rfl,rfl⟩,bD ?_⟩
     refine ⟨_,rfl,_,rfl,fl,_,_,_,rfl,rfl,SqL.of (g17 _ _ hfl),Fd (by rw [List.getElem?_map,hf]; rfl),_,rfl,_,rfl,Dk,_,_,_,rfl,rfl,SqL.of (g17 _ _ eD),Fd (by rw [List.getElem?_map,hk]; rfl),(by show 2≤sizeLine; decide),fun p hp=>nxT (by rw [List.length_map]; omega) hj la ⟨g17.trans (ao hp _),?_⟩⟩
     have ez:(lf.zip ks')[j]?=some (lf[j]'(by omega),ks'[j]):=by
      rw [List.getElem?_zip_eq_some]
      exact ⟨hf,hk⟩
     rw [List.take_add_one,ez]
     exact Paired.snoc (Paired.mapP pa fun _ _ z=>z.mono (bd hp _)) ⟨p,rfl,ag⟩
    ·obtain ⟨g17,pa⟩:=z
     have pa':Paired (cy H17) acc (lf.zip ks'):=by
      rw [List.length_map,Int.toNat_natCast,← hzl,List.take_length] at pa
      exact pa
     have gD2:=ao hD2 (.lst acc)
     refine ⟨D2,acc,rfl,.inl ⟨SqL.of ag,fun tq htq=>⟨(by show 2≤sizeLine; decide),fun tr htr=>?_⟩⟩⟩
     have g18:=ao htq (.tup acc)
     have g19:=ao htr (.tup [.str nm,.ref tq])
     have gAll:=((g17.trans gD2).trans g18).trans g19
     have eL2:=gAll _ _ eL
     refine ⟨rl,xs,_,rfl,rfl,eL2,bU (by rw [Paired.length pA,lA]; omega),?_⟩
     have kL:=cQ eL2 (.lst (xs++[.ref tr]))
     have k19:=(av g19).trans kL
     have GZ:=(GA.trans GK).trans (Go.same GK.t gAll)
     have kA:Tk H' (L2.upd _ rl (.lst (xs++[.ref tr]))):=fun b ys e=>kL _ _ (gAll _ _ (GK.x _ _ (GA.t.ne e) e))
     refine ⟨_,_,_,xs++[.ref tr],R++[(nm,lf.zip ks')],rfl,GZ.upd ht hrl _,?_,ag,?_,by simp [lA],by rw [List.map_append,nA,List.take_add_one,hnm]; rfl,?_⟩
     ·rw [aV hra.symm]
      exact gAll _ _ eN
     ·refine Paired.snoc (Paired.mapP pA fun _ _ z=>z.mono kA) ⟨tr,.ref tq,rfl,kL _ _ ag,tq,acc,rfl,k19 _ _ ag,?_⟩
      exact Paired.mapP pa' fun _ _ z=>z.mono ((av (gD2.trans g18)).trans k19)
     ·refine gA.snoc ⟨hpl nm (List.mem_of_getElem? hnm),⟨⟨by show 1≤(lf.zip ks').length; omega,by show (lf.zip ks').length≤3; omega⟩,BR hndf,fun p hp=>hplf _ (List.of_mem_zip hp).1,fun p hp=>hkd _ (Bo hp)⟩,fun p hp=>?_⟩
      exact hkk _ (List.of_mem_zip hp).2
 ·obtain ⟨m2,m3,m4,xs,R,rfl,GA,hnA,hlA,pA,lA,nA,gA⟩:=p
  refine ⟨_,rfl,rl,xs,rfl,.inl ⟨SqL.of hlA,fun p hp=>?_⟩⟩
  refine q (.ref p) R _ (GA.new hp _) ⟨p,xs,rfl,ag,Paired.mapP pA fun _ _ z=>z.mono (bd hp _)⟩ ?_ gA ?_
  ·rw [lA,List.length_map,hl]
   omega
  ·rw [nA,List.length_map,List.take_length]
   exact hnd
end
open PySem L2
noncomputable def TXT:List Str:=["", "a", "b a", "~ !", "ab&"]
end K6
namespace HT
open PySem PySem.Spec PyProof.Rows
section
variable {prog:Program} {w:World} {A:Around} {E:Value→Shared→Prop} {s:Shared}
theorem getItem_tuple_whole {t sl:Addr} {items:Array Value} {vl vu:Value} {lo hi:Option Int} {Q:Value→Shared→Prop} (ht:IsTup s.heap t items) (hs:s.heap.IsSliceOf sl vl vu .none) (pl:IsPart vl lo) (pu:IsPart vu hi)
  (hw:sIx items.size 0 lo=0∧sIx items.size items.size hi=items.size) (h:Q (.ref t) s):wpAny (model prog w) A (getItem (.ref t) (.ref sl)) Q E s:=by
 obtain ⟨os,hos,hcs,hds⟩:=id hs
 have hTs:s.TypeIs (.ref sl) "slice":=⟨os,hos,hcs⟩
 unfold getItem
 try with_reducible refine wpAny_holding ?_
 first | refine wpAny_bind (wpAny_pure ?_) | skip
 refine wpAny_bind (wpAny_sequenceKey ht.typeIs (by decide) ?_)
 refine wpAny_bind (wpAny_callSpecial?_slot (name:=Str.ofString "__getitem__") ht.typeIs PyProof.Rows.slot_tuple_getitem
  (wpAny_call_entry PyProof.Rows.slot_tuple_getitem ht.typeIs entry_tuple_getitem ?_ (args_tuple_getitem _ _)))
 show wpAny _ _ (Builtin.Tuple.tupleItemsOf (.ref t) >>= _) _ _ s
 refine wpAny_bind (tupleItemsOf_ ht ?_)
 refine wpAny_bind (wpAny_typeOf hTs ?_)
 rw [if_pos (by decide)]
 refine wpAny_bind (fD hs pl pu ?_)
 have hyes:(((sIx items.size 0 lo:Nat):Int)==0&&(1:Int)==1&&(sIx items.size items.size hi - sIx items.size 0 lo)==items.size)=true:=by
  rw [hw.1,hw.2]
  simp
 show wpAny _ _ (if (((sIx items.size 0 lo:Nat):Int)==0&&(1:Int)==1&&(sIx items.size items.size hi - sIx items.size 0 lo)==items.size)=true then _ else _) _ _ s
 rw [if_pos hyes]
 refine wpAny_bind ?_
 unfold Builtin.Tuple.tupleIsExact
 refine wpAny_bind (wpAny_typeOf ht.typeIs (wpAny_pure ?_))
 rw [if_pos (by decide)]
 refine wpAny_bind (wpAny_rule ?_)
 exact wpAny_pure ⟨_,rfl,wpAny_pure h⟩
end
end HT
namespace L2
open PySem PySem.Spec PyProof.Rows
section
variable {X:Cx}
noncomputable def FA (K:Frag):V→Option Int→Option Int→Hp→VK→Prop:=fun x lo hi H Q=>∃ a xs,x=.ref a∧SqT K H a xs∧(HT.sIx xs.length 0 lo=0∧HT.sIx xs.length xs.length hi=xs.length)∧Q (.ref a) H
theorem qt:SlR X (FA X.K):=by
 intro pins s σ H x v vl vu lo hi sl Q I rx hs pl pu h
 obtain ⟨a,xs,rfl,hx,hw,q⟩:=h
 cases rx
 obtain ⟨its,r,ht,hz⟩:=I.tuple hx
 have hlen:its.toArray.size=xs.length:=by rw [List.size_toArray]; exact r.length.symm
 refine ⟨"tuple",_,PyProof.Rows.slot_tuple_getitem.lookup,ht.typeIs,?_⟩
 exact HT.getItem_tuple_whole ht hs pl pu (by rw [hlen]; exact hw) ⟨.ref a,H,I,rfl,q⟩
noncomputable def EW (K:Frag):List V→Hp→VK→Prop:=fun xs H Q=>∃ x d,xs=[x]∧RdD K H x d∧d.showable=true∧d.hasDict=false∧d.depth≤60∧d.shown.length≤sizeLine∧Q (.str d.shown) H
theorem fN (hu:X.A.units+64<cLine) (hg:X.A.guards=some []):eX X (.builtin "repr") (EW X.K):=by
 intro pins s σ H xs us Q I r h
 obtain ⟨x,d,rfl,hd,hs,hn,hp,hz,q⟩:=h
 cases hd with
 | non =>
  obtain ⟨u,rfl,ru⟩:=eP r
  cases ru
  exact PySem.P.repr_of_none ⟨.str (PyData.shown .none),H,I.tok _,⟨s.toks,by simp only [PyData.shown]⟩,q⟩
 | bl b =>
  obtain ⟨u,rfl,ru⟩:=eP r
  cases ru
  exact PySem.P.repr_of_bool ⟨.str (PyData.shown (.bool b)),H,I.tok _,⟨s.toks,by simp only [PyData.shown]⟩,q⟩
 | int i =>
  obtain ⟨u,rfl,ru⟩:=eP r
  obtain ⟨t,rfl⟩:=ru
  exact PySem.P.repr_of_int (by simpa [PyData.showable] using hs) ⟨.str (PyData.shown (.int i)),H,I.tok _,⟨s.toks,by simp only [PyData.shown]⟩,q⟩
 | str z =>
  obtain ⟨u,rfl,ru⟩:=eP r
  obtain ⟨t,rfl⟩:=ru
  exact PySem.P.repr_of_str ⟨.str (PyData.shown (.str z)),H,I.tok _,⟨s.toks,by simp only [PyData.shown]⟩,q⟩ (by simpa only [PyData.shown] using hz)
 | lst h ra=>exact oS hu hg pins s σ H _ us Q I r ⟨_,_,rfl,.lst h ra,hs,hn,hp,hz,q⟩
 | tup h ra=>exact oS hu hg pins s σ H _ us Q I r ⟨_,_,rfl,.tup h ra,hs,hn,hp,hz,q⟩
theorem iR {K:Frag} {H:Hp} {a b:Addr} {xs ys:List V} {Q:VK} (ha:H a=some (.tup xs)) (hb:H b=some (.tup ys)) (hl:xs.length+ys.length≤1000)
  (q:∀ p H',aZ H H'→H' p=some (.tup (xs++ys))→Q (.ref p) H'):DA K (.ref a) (.ref b) H Q∨BU K (.ref a) (.ref b) H Q:=by
 cases xs with
 | nil=>exact .inr ⟨a,b,ys,rfl,rfl,SqT.of ha,SqT.of hb,q b H (aZ.refl _) hb⟩
 | cons x r =>
  refine .inl ⟨a,b,_,_,rfl,rfl,SqT.of ha,SqT.of hb,by simp,Nat.le_of_lt (bU hl),fun e=>?_,fun e p hp=>?_⟩
  ·subst e
   exact q a H (aZ.refl _) (by rw [List.append_nil]; exact ha)
  ·exact q p _ (fun c o e=>by rw [aV (aJ e hp)]; exact e) ag
end
end L2
namespace K6
open PySem L2
mutual
noncomputable def W:PyData→Nat
 | .list xs=>WS xs+3
 | .tuple xs=>WS xs+3
 | .none=>4
 | .bool _=>5
 | .int i=>(PyData.shown (.int i)).length
 | .str x=>(PyData.shown (.str x)).length
 | .dict _=>0
noncomputable def WS:List PyData→Nat
 | []=>0
 | x::xs=>W x+2+WS xs
end
theorem lH (t:Str) (r:List Str):piled (t::r)=t.length+2+piled r:=by simp [piled]
theorem uh (ts:List Str):(tupleText ts).length≤piled ts+3:=by
 unfold tupleText
 rw [strLen_append,strLen_append]
 have e1:(("(":Str)).length=1:=by decide
 have e2:(Str.ofString (if ts.length==1 then ",)" else ")")).length≤2:=by split<;>decide
 have e3:(Str.join ", " ts).length≤piled ts:=by
  cases ts with
  | nil=>exact Nat.le_trans (show (Str.join ", " []).length≤0 by decide) (Nat.zero_le _)
  | cons x r =>
   have:=join_length_add (x::r) (by simp)
   omega
 rw [e1]
 have e2':=e2
 omega
theorem lP:∀ (ts:List Str) (k:Nat) (acc:Str),(textFrom k acc ts).length≤acc.length+piled ts
 | [],_,acc=>by simp [textFrom,piled]
 | t::r,k,acc=>by
  have h2:=lP r (k+1) (acc++(if k > 0 then ", " else "":String)++t)
  have e:(Str.ofString (if k > 0 then ", " else "")).length≤2:=by split<;>decide
  rw [strLen_append,strLen_append] at h2
  unfold textFrom
  rw [lH]
  omega
theorem xL (ts:List Str):(listText ts).length≤piled ts+3:=by
 unfold listText
 rw [strLen_append]
 have:=lP ts 0 "["
 have e1:(("[":Str)).length=1:=by decide
 have e2:(("]":Str)).length=1:=by decide
 have e1':=e1
 have e2':=e2
 omega
mutual
theorem uq:∀ d:PyData,d.hasDict=false→d.shown.length≤W d
 | .none,_=>by simp only [W,PyData.shown]; decide
 | .bool b,_=>by cases b<;>simp only [W,PyData.shown]<;>decide
 | .int i,_=>by simp only [W]; exact Nat.le_refl _
 | .str x,_=>by simp only [W]; exact Nat.le_refl _
 | .list xs,h=>by
  have:=hW xs (by simpa [PyData.hasDict] using h)
  simp only [W,PyData.shown]
  exact Nat.le_trans (xL _) (by omega)
 | .tuple xs,h=>by
  have:=hW xs (by simpa [PyData.hasDict] using h)
  simp only [W,PyData.shown]
  exact Nat.le_trans (uh _) (by omega)
 | .dict _,h=>by simp [PyData.hasDict] at h
theorem hW:∀ ds:List PyData,PyData.hasDictAll ds=false→piled (PyData.shownAll ds)≤WS ds
 | [],_=>by simp [PyData.shownAll,piled]
 | x::xs,h=>by
  have h':x.hasDict=false∧PyData.hasDictAll xs=false:=by simpa [PyData.hasDictAll] using h
  have h1:=uq x h'.1
  have h2:=hW xs h'.2
  simp only [PyData.shownAll,lH,WS]
  omega
end
structure bA (m b:Nat) (d:PyData):Prop where
 sh:d.showable=true
 nd:d.hasDict=false
 dp:d.depth≤m
 sz:W d≤b
structure br (m b:Nat) (ds:List PyData):Prop where
 sh:PyData.showableAll ds=true
 nd:PyData.hasDictAll ds=false
 dp:PyData.depthAll ds≤m
 sz:WS ds≤b
theorem bA.mono {m b m' b':Nat} {d:PyData} (h:bA m b d) (h1:m≤m') (h2:b≤b'):bA m' b' d:=⟨h.sh,h.nd,Nat.le_trans h.dp h1,Nat.le_trans h.sz h2⟩
theorem br.mono {m b m' b':Nat} {d:List PyData} (h:br m b d) (h1:m≤m') (h2:b≤b'):br m' b' d:=⟨h.sh,h.nd,Nat.le_trans h.dp h1,Nat.le_trans h.sz h2⟩
theorem br.nil:br 0 0 []:=⟨by simp [PyData.showableAll],by simp [PyData.hasDictAll],by simp [PyData.depthAll],by simp [WS]⟩
theorem br.cons {m b c:Nat} {d:PyData} {ds:List PyData} (h:bA m b d) (r:br m c ds):br m (b+2+c) (d::ds):=by
 have h1:=h.dp
 have h2:=r.dp
 have h3:=h.sz
 have h4:=r.sz
 exact ⟨by simp [PyData.showableAll,h.sh,r.sh],by simp [PyData.hasDictAll,h.nd,r.nd],by simp only [PyData.depthAll]; omega,by simp only [WS]; omega⟩
theorem br.tup {m b:Nat} {ds:List PyData} (h:br m b ds):bA (m+1) (b+3) (.tuple ds):=by
 have h1:=h.dp
 have h2:=h.sz
 exact ⟨by simp only [PyData.showable]; exact h.sh,by simp only [PyData.hasDict]; exact h.nd,by simp only [PyData.depth]; omega,by simp only [W]; omega⟩
theorem bA.of_tup {m b:Nat} {ds:List PyData} (h:bA (m+1) b (.tuple ds)):br m (b - 3) ds∧3≤b:=by
 have h1:PyData.depthAll ds+1≤m+1:=by simpa only [PyData.depth] using h.dp
 have h2:WS ds+3≤b:=by simpa only [W] using h.sz
 exact ⟨⟨by simpa only [PyData.showable] using h.sh,by simpa only [PyData.hasDict] using h.nd,by omega,by omega⟩,by omega⟩
theorem br.hd {m b:Nat} {d:PyData} {ds:List PyData} (h:br m b (d::ds)):bA m b d:=by
 have h1:d.showable=true∧PyData.showableAll ds=true:=by simpa [PyData.showableAll] using h.sh
 have h2:d.hasDict=false∧PyData.hasDictAll ds=false:=by simpa [PyData.hasDictAll] using h.nd
 have h3:max d.depth (PyData.depthAll ds)≤m:=by simpa only [PyData.depthAll] using h.dp
 have h4:W d+2+WS ds≤b:=by simpa only [WS] using h.sz
 exact ⟨h1.1,h2.1,by omega,by omega⟩
theorem br.tl {m b:Nat} {d:PyData} {ds:List PyData} (h:br m b (d::ds)):br m (b - (W d+2)) ds∧W d+2≤b:=by
 have h1:d.showable=true∧PyData.showableAll ds=true:=by simpa [PyData.showableAll] using h.sh
 have h2:d.hasDict=false∧PyData.hasDictAll ds=false:=by simpa [PyData.hasDictAll] using h.nd
 have h3:max d.depth (PyData.depthAll ds)≤m:=by simpa only [PyData.depthAll] using h.dp
 have h4:W d+2+WS ds≤b:=by simpa only [WS] using h.sz
 exact ⟨⟨h1.2,h2.2,by omega,by omega⟩,by omega⟩
theorem br.get {m:Nat}:∀ {ds:List PyData} {b i:Nat} {d:PyData},br m b ds→ds[i]?=some d→bA m b d
 | [],_,_,_,_,h=>by simp at h
 | x::r,b,0,d,n,h=>by simp at h; subst h; exact n.hd
 | x::r,b,i+1,d,n,h=>(br.get n.tl.1 (by simpa using h)).mono (Nat.le_refl _) (by omega)
end K6
namespace L2
open PySem
theorem Fp (xs:List V) (k:Nat) (h:k≤xs.length):iM xs none (some (k:Int))=xs.take k:=by
 unfold iM
 rw [HT.sIx_none,HT.sIx_nat,Nat.min_eq_left h,List.drop_zero,Nat.sub_zero]
theorem Ep (xs:List V) (k:Nat):iM xs (some (k:Int)) none=xs.drop k:=by
 unfold iM
 rw [HT.sIx_none,HT.sIx_nat]
 by_cases h:k≤xs.length
 ·rw [Nat.min_eq_left h,List.take_of_length_le (by rw [List.length_drop]; omega)]
 ·rw [Nat.min_eq_right (by omega),List.drop_length,List.take_nil,List.drop_eq_nil_of_le (by omega)]
end L2
namespace K6
open PySem L2
inductive E where
 | num (i:Int) | text (z:Str) | var (x:Str) | of_ (e:E) (f:Str) | with_ (e:E) (f:Str) (g:E) | new (r:Str) (es:List E)
 | add (a b:E) | sub (a b:E) | times (n:Int) (e:E) | div (e:E) (n:Int) | rest (e:E) (n:Int) | len (e:E) | at_ (a b:E)
 | rows (es:List E) | put (a b c:E) | more (a b:E) | signs (e:E)
inductive C where
 | less (a b:E) | same (a b:E) | and_ (c d:C) | or_ (c d:C) | not_ (c:C)
inductive S where
 | let_ (x:Str) (e:E) | say (w:Str) (c:C) | if_ (c:C) (a b:List S) | while_ (c:C) (a:List S) | call (x f:Str) (es:List E) | give (e:E)
mutual
noncomputable def E.d:E→PyData
 | .num i=>.tuple [.str "num",.int i]
 | .text z=>.tuple [.str "text",.str z]
 | .var x=>.tuple [.str "var",.str x]
 | .of_ e f=>.tuple [.str "of",e.d,.str f]
 | .with_ e f g=>.tuple [.str "with",e.d,.str f,g.d]
 | .new r es=>.tuple [.str "new",.str r,.tuple (E.ds es)]
 | .add a b=>.tuple [.str "add",a.d,b.d]
 | .sub a b=>.tuple [.str "sub",a.d,b.d]
 | .times n e=>.tuple [.str "times",.int n,e.d]
 | .div e n=>.tuple [.str "div",e.d,.int n]
 | .rest e n=>.tuple [.str "rest",e.d,.int n]
 | .len e=>.tuple [.str "len",e.d]
 | .at_ a b=>.tuple [.str "at",a.d,b.d]
 | .rows es=>.tuple [.str "rows",.tuple (E.ds es)]
 | .put a b c=>.tuple [.str "put",a.d,b.d,c.d]
 | .more a b=>.tuple [.str "more",a.d,b.d]
 | .signs e=>.tuple [.str "signs",e.d]
noncomputable def E.ds:List E→List PyData
 | []=>[]
 | e::r=>e.d::E.ds r
end
noncomputable def C.d:C→PyData
 | .less a b=>.tuple [.str "less",a.d,b.d]
 | .same a b=>.tuple [.str "same",a.d,b.d]
 | .and_ c d=>.tuple [.str "and",c.d,d.d]
 | .or_ c d=>.tuple [.str "or",c.d,d.d]
 | .not_ c=>.tuple [.str "not",c.d]
mutual
noncomputable def S.d:S→PyData
 | .let_ x e=>.tuple [.str "let",.str x,e.d]
 | .say w c=>.tuple [.str "say",.str w,c.d]
 | .if_ c a b=>.tuple [.str "if",c.d,.tuple (S.ds a),.tuple (S.ds b)]
 | .while_ c a=>.tuple [.str "while",c.d,.tuple (S.ds a)]
 | .call x f es=>.tuple [.str "call",.str x,.str f,.tuple (E.ds es)]
 | .give e=>.tuple [.str "give",e.d]
noncomputable def S.ds:List S→List PyData
 | []=>[]
 | s::r=>s.d::S.ds r
end
theorem E.ds_snoc:∀ (es:List E) (e:E),E.ds (es++[e])=E.ds es++[e.d]
 | [],e=>by simp [E.ds]
 | a::r,e=>by simp [E.ds,E.ds_snoc r e]
theorem E.ds_len:∀ es:List E,(E.ds es).length=es.length
 | []=>rfl
 | a::r=>by simp [E.ds,E.ds_len r]
theorem S.ds_snoc:∀ (es:List S) (e:S),S.ds (es++[e])=S.ds es++[e.d]
 | [],e=>by simp [S.ds]
 | a::r,e=>by simp [S.ds,S.ds_snoc r e]
theorem S.ds_app:∀ a b:List S,S.ds (a++b)=S.ds a++S.ds b
 | [],b=>rfl
 | s::r,b=>by simp [S.ds,S.ds_app r b]
theorem S.ds_len:∀ es:List S,(S.ds es).length=es.length
 | []=>rfl
 | a::r=>by simp [S.ds,S.ds_len r]
mutual
noncomputable def Ok (R:List Rec) (V:List Fld):E→Str→Prop
 | .num i,k=>k = "num"∧-1000000≤i∧i≤1000000
 | .text z,k=>k = "text"∧z∈TXT
 | .var x,k=>(x,k)∈V
 | .of_ e f,k=>∃ r,Ok R V e r∧(f,k)∈look R r
 | .with_ e f g,k=>k∉PL∧Ok R V e k∧∃ k',(f,k')∈look R k∧Ok R V g k'
 | .new r es,k=>k=r∧r∉PL∧1≤(look R r).length∧OkL R V es ((look R r).map (·.2))
 | .add a b,k=>k = "num"∧Ok R V a "num"∧Ok R V b "num"
 | .sub a b,k=>k = "num"∧Ok R V a "num"∧Ok R V b "num"
 | .times n e,k=>k = "num"∧(-1000000≤n∧n≤1000000)∧Ok R V e "num"
 | .div e n,k=>k = "num"∧(2≤n∧n≤99)∧Ok R V e "num"
 | .rest e n,k=>k = "num"∧(2≤n∧n≤99)∧Ok R V e "num"
 | .len e,k=>k = "num"∧(Ok R V e "row"∨Ok R V e "text")
 | .at_ a b,k=>k = "num"∧(Ok R V a "row"∨Ok R V a "text")∧Ok R V b "num"
 | .rows es,k=>k = "row"∧es.length≤8∧OkN R V es
 | .put a b c,k=>k = "row"∧Ok R V a "row"∧Ok R V b "num"∧Ok R V c "num"
 | .more a b,k=>k = "row"∧Ok R V a "row"∧Ok R V b "num"
 | .signs e,k=>k = "row"∧Ok R V e "text"
noncomputable def OkL (R:List Rec) (V:List Fld):List E→List Str→Prop
 | [],[]=>True
 | e::es,k::ks=>Ok R V e k∧OkL R V es ks
 | _,_=>False
noncomputable def OkN (R:List Rec) (V:List Fld):List E→Prop
 | []=>True
 | e::es=>Ok R V e "num"∧OkN R V es
end
theorem OkL.snoc {R:List Rec} {V:List Fld} {e:E} {k:Str} (h:Ok R V e k):∀ {es:List E} {ks:List Str},OkL R V es ks→OkL R V (es++[e]) (ks++[k])
 | [],[],_=>by simp only [List.nil_append,OkL]; exact ⟨h,trivial⟩
 | a::r,b::s,q=>by
  simp only [OkL] at q
  simp only [List.cons_append,OkL]
  exact ⟨q.1,OkL.snoc h q.2⟩
 | [],_::_,q=>by simp only [OkL] at q
 | _::_,[],q=>by simp only [OkL] at q
theorem OkN.snoc {R:List Rec} {V:List Fld} {e:E} (h:Ok R V e "num"):∀ {es:List E},OkN R V es→OkN R V (es++[e])
 | [],_=>by simp only [List.nil_append,OkN]; exact ⟨h,trivial⟩
 | a::r,q=>by
  simp only [OkN] at q
  simp only [List.cons_append,OkN]
  exact ⟨q.1,OkN.snoc h q.2⟩
open PySem L2
theorem Paired.take' {α β:Type} {F:α→β→Prop}:∀ (i:Nat) {l:List α} {m:List β},Paired F l m→Paired F (l.take i) (m.take i)
 | 0,_,_,_=>by rw [List.take_zero,List.take_zero]; exact .nil
 | i+1,_,_,.nil=>.nil
 | i+1,_,_,.cons h t=>.cons h (Paired.take' i t)
theorem Paired.drop' {α β:Type} {F:α→β→Prop}:∀ (i:Nat) {l:List α} {m:List β},Paired F l m→Paired F (l.drop i) (m.drop i)
 | 0,_,_,h=>h
 | i+1,_,_,.nil=>.nil
 | i+1,_,_,.cons h t=>Paired.drop' i t
theorem Paired.app' {α β:Type} {F:α→β→Prop}:∀ {a c:List α} {b d:List β},Paired F a b→Paired F c d→Paired F (a++c) (b++d)
 | _,_,_,_,.nil,q=>q
 | _,_,_,_,.cons h t,q=>.cons h (Paired.app' t q)
noncomputable abbrev cI:=Str×List Fld×List Fld×Str
noncomputable def fV (H:Hp) (v:V) (h:cI):Prop:=∃ a p q,v=.ref a∧H a=some (.tup [.str h.1,p,q,.str h.2.2.2])∧cV H p h.2.1∧cV H q h.2.2.1
theorem fV.mono {H H':Hp} (t:Tk H H') {v:V} {p:cI} (h:fV H v p):fV H' v p:=let ⟨a,y,z,e,q,r,s⟩:=h; ⟨a,y,z,e,t _ _ q,r.mono t,s.mono t⟩
noncomputable def KS (R:List Rec):List Str:=PL++R.map (·.1)
structure HOk (R:List Rec) (h:cI):Prop where
 nm:h.1∈cX
 p2:h.2.1.length≤2
 l1:1≤(h.2.1++h.2.2.1).length
 l5:(h.2.1++h.2.2.1).length≤5
 nd:((h.2.1++h.2.2.1).map (·.1)).Nodup
 vs:∀ p∈h.2.1++h.2.2.1,p.1∈cX∧p.2∈KS R
 gv:h.2.2.2∈KS R
structure CU (R:List Rec) (HS:List cI):Prop where
 l1:1≤HS.length
 l3:HS.length≤3
 nd:(HS.map (·.1)).Nodup
 ok:∀ h∈HS,HOk R h
theorem Go.tk {tp:Addr} {H H':Hp} (g:Go tp H H') (t:Tp H tp):Tk H H':=fun b ys e=>g.x _ _ (t.ne e) e
noncomputable def WD:List Str:=(["num", "text", "var", "of", "with", "new", "add", "sub", "times", "div", "rest", "len", "at", "rows", "put", "more", "signs", "less", "same", "and", "or", "not", "let", "say", "if", "while", "call", "give", "x", "main"]:List Str)++cX++TXT++PL
theorem CP:∀ z∈WD,(PyData.str z).showable=true∧(PyData.str z).hasDict=false∧(PyData.str z).depth=0∧W (.str z)≤12:=by decide +kernel
theorem nW {z:Str} (h:z∈WD):bA 0 12 (.str z):=by
 obtain ⟨a,b,c,d⟩:=CP z h
 exact ⟨a,b,by omega,d⟩
noncomputable def NUM:List Int:=[0,1,-1,2,3,7,1000000,-1000000,-4,-3,-2,4,99]
theorem Ah:∀ z∈NUM,(PyData.int z).showable=true∧(PyData.int z).hasDict=false∧(PyData.int z).depth=0∧W (.int z)≤12:=by decide +kernel
theorem nI {z:Int} (h:z∈NUM):bA 0 12 (.int z):=by
 obtain ⟨a,b,c,d⟩:=Ah z h
 exact ⟨a,b,by omega,d⟩
theorem cH {z:Str} (h:z∈cX):z∈WD:=by
 unfold WD
 simp only [List.mem_append]
 exact .inl (.inl (.inr h))
theorem Fh {z:Str} (h:z∈TXT):z∈WD:=by
 unfold WD
 simp only [List.mem_append]
 exact .inl (.inr h)
theorem nz {m:Nat}:br m 0 []:=br.nil.mono (Nat.zero_le _) (Nat.le_refl _)
mutual
noncomputable def E.na:E→Bool
 | .num _=>true
 | .text _=>true
 | .var _=>true
 | .of_ e _=>e.na
 | .with_ e _ g=>e.na&&g.na
 | .new _ es=>E.nas es
 | .add a b=>a.na&&b.na
 | .sub a b=>a.na&&b.na
 | .times _ e=>e.na
 | .div e _=>e.na
 | .rest e _=>e.na
 | .len e=>e.na
 | .at_ _ _=>false
 | .rows es=>E.nas es
 | .put _ _ _=>false
 | .more a b=>a.na&&b.na
 | .signs e=>e.na
noncomputable def E.nas:List E→Bool
 | []=>true
 | e::r=>e.na&&E.nas r
end
theorem E.nas_snoc {e:E} (h:e.na=true):∀ {es:List E},E.nas es=true→E.nas (es++[e])=true
 | [],_=>by simp [E.nas,h]
 | a::r,q=>by
  simp only [E.nas,Bool.and_eq_true] at q
  simp only [List.cons_append,E.nas,Bool.and_eq_true]
  exact ⟨q.1,E.nas_snoc h q.2⟩
noncomputable abbrev jc (v:V) (hl vl:Addr) (g:Str) (n:Int) (b:Bool):List (Key×V):=[(.inr "records",v),(.inr "heads",.ref hl),(.inr "variables",.ref vl),(.inr "gives",.str g),(.inr "left",.int n),(.inr "reach",.bl b)]
structure Bs (tp:Addr) (H:Hp) (R:List Rec) (HS:List cI) (Vs:List Fld) (v:V) (hl vl:Addr):Prop where
 rs:dR H v R
 ht:hl≠tp
 vt:vl≠tp
 hh:∃ hs,H hl=some (.lst hs)∧Paired (fV H) hs HS
 vv:∃ vs,H vl=some (.lst vs)∧Paired (cy H) vs Vs
noncomputable def jG (tp:Addr) (H:Hp) (kd:Addr) (R:List Rec) (HS:List cI) (Vs:List Fld) (g:Str) (n:Int) (b:Bool):Prop :=
 ∃ v hl vl,H kd=some (.dK (jc v hl vl g n b))∧Bs tp H R HS Vs v hl vl
theorem Bs.mono {tp kd:Addr} {H H':Hp} {R:List Rec} {HS:List cI} {Vs:List Fld} {v:V} {hl vl:Addr} (t:Tk H H') (e:∀ b o,b≠tp→b≠kd→H b=some o→H' b=some o) (hk:hl≠kd) (vk:vl≠kd) (h:Bs tp H R HS Vs v hl vl):Bs tp H' R HS Vs v hl vl:=by
 obtain ⟨a,b,c,⟨hs,d1,d2⟩,⟨vs,e1,e2⟩⟩:=h
 exact ⟨a.mono t,b,c,⟨hs,e _ _ b hk d1,Paired.mapP d2 fun _ _ z=>z.mono t⟩,⟨vs,e _ _ c vk e1,Paired.mapP e2 fun _ _ z=>z.mono t⟩⟩
theorem jG.ne {tp kd:Addr} {H:Hp} {R:List Rec} {HS:List cI} {Vs:List Fld} {g:Str} {n:Int} {b:Bool} (h:jG tp H kd R HS Vs g n b) (t:Tp H tp):kd≠tp:=by
 obtain ⟨v,hl,vl,e,_⟩:=h
 obtain ⟨_,_,_,_,e2,_⟩:=t
 exact dN e e2 (fun z=>by cases z)
theorem jG.go {tp kd:Addr} {H H':Hp} {R:List Rec} {HS:List cI} {Vs:List Fld} {g:Str} {n:Int} {b:Bool} (h:jG tp H kd R HS Vs g n b) (t:Tp H tp) (G:Go tp H H'):jG tp H' kd R HS Vs g n b:=by
 have kt:=h.ne t
 obtain ⟨v,hl,vl,e,D⟩:=h
 obtain ⟨hs,d1,_⟩:=D.hh
 obtain ⟨vs,e1,_⟩:=D.vv
 exact ⟨v,hl,vl,G.x _ _ kt e,D.mono (kd:=kd) (G.tk t) (fun b o q _=>G.x b o q) (dN d1 e (fun z=>by cases z)) (dN e1 e (fun z=>by cases z))⟩
structure Env (R:List Rec) (Vs:List Fld):Prop where
 rl:R.length≤3
 g:cG R
 nd:(R.map (·.1)).Nodup
 vn:∀ p∈Vs,p.1∈cX
 vl:Vs.length≤5
theorem zL (r:Rec) (R:List Rec) (k:Str):look (r::R) k=if r.1=k then r.2 else look R k:=by
 unfold look
 rw [List.find?_cons]
 by_cases q:r.1=k
 ·rw [if_pos q,decide_eq_true q]; rfl
 ·rw [if_neg q,decide_eq_false q]
theorem iB:∀ {R:List Rec},(R.map (·.1)).Nodup→∀ r∈R,look R r.1=r.2
 | [],_,r,h=>nomatch h
 | a::rs,nd,r,h=>by
  rw [List.map_cons,List.nodup_cons] at nd
  rw [zL]
  rcases List.mem_cons.mp h with rfl | h
  ·rw [if_pos rfl]
  ·have:¬ a.1=r.1:=fun e=>nd.1 (by rw [e]; exact List.mem_map.mpr ⟨r,h,rfl⟩)
   rw [if_neg this]
   exact iB nd.2 r h
theorem pT {R:List Rec} (g:cG R) (hl:R.length≤3):∀ k∈KS R,me R 4 k:=by
 intro k hk
 rcases List.mem_append.mp hk with h | h
 ·exact .inl h
 ·obtain ⟨r,hr,rfl⟩:=List.mem_map.mp h
  obtain ⟨i,hi,e⟩:=List.mem_iff_getElem.mp hr
  exact (g.deep i (r:=r) (by rw [List.getElem?_eq_getElem hi,e])).mono (by omega)
theorem dZ {R:List Rec} (g:cG R) {r:Rec} (hr:r∈R):r.1∈cX∧((1≤r.2.length∧r.2.length≤3)∧(r.2.map (·.1)).Nodup∧(∀ p∈r.2,p.1∈cX)∧∀ p∈r.2.drop 1,p.2∈PL)∧∀ p∈r.2,p.2∈KS R:=by
 obtain ⟨i,hi,e⟩:=List.mem_iff_getElem.mp hr
 obtain ⟨h1,h2,h3⟩:=g i r (by rw [List.getElem?_eq_getElem hi,e])
 refine ⟨h1,h2,fun p hp=>?_⟩
 rcases h3 p hp with z | ⟨j,r',_,e1,e2⟩
 ·exact List.mem_append_left _ z
 ·exact List.mem_append_right _ (List.mem_map.mpr ⟨r',List.mem_of_getElem? e1,e2⟩)
section
variable {P:Program} {w:World} {K:Frag} {mg:Str→Option Value} {base:Heap} {f g:Addr} {fd gd:FuncData}
noncomputable def Ca:Sp:=fun vs H Q _=>∃ tp v R,vs=[.ref tp,v]∧Tp H tp∧dR H v R∧R.length≤3∧∀ k H',Go tp H H'→k∈KS R→Q (.str k) H'
noncomputable abbrev tX:List Str:=["_law_tape_here", "_law_records_here", "_law_some"]
noncomputable abbrev kz:List Str:=["_law_record"]
theorem pB:kz.Nodup:=by decide +kernel
theorem oX:aO tX ["_law_tape_here", "_law_records_here"] (defScope jO):=⟨rfl,rfl,rfl,by decide +kernel,rfl,by decide +kernel,by decide +kernel⟩
theorem CB (T:G0 mg) (F:Fun K "_law_kind" "_law_kind" jO f fd) (D_l_draw:Cal P w K mg base 1 "_law_draw" dP bY):bj P w K mg base CX0 2 f fd ["_law_tape_here", "_law_records_here"] Ca:=by
 obtain ⟨g_l_draw,gd_l_draw,G_l_draw,b_l_draw,k_l_draw,m_l_draw⟩:=D_l_draw.ex
 refine F.ok oX (fun vs H Q E h=>?_) (fun cdv A outer s H vs Q E hr h=>?_)
 ·obtain ⟨tp,v,R,rfl,_⟩:=h
  rfl
 obtain ⟨tp,v,R,rfl,ht,hR,hRl,q⟩:=h
 refine ⟨_,(@am _ _ _ _ _ (@aM _ _ 2 _ _ _ _ oX.nd rfl (Or.inl rfl) (@ba _ _ _ _ _ _ _ _ Fz (@bo _ _ _ _ (@ad _ _ _ _ _ au (@ad _ _ _ _ _ au (@ad _ _ _ _ _ au (@ad _ _ _ _ _ au ah (ac rfl)) (ac rfl)) (ac rfl)) (ac rfl))) (bH (N':=kz) (ρ:=[none]) (m:=1) (bI.of (fs:=defScope jO) (N:=tX) rfl rfl (by decide +kernel)) rfl (bJ (pv 1)) (fun _ _ _ _=>(aH (i:=0) pB rfl (Or.inl rfl))) (fun _ _ _ _=>bC) (fun _ _ _ _=>(aA (cx (K:=K) rfl) (pv 0) ak (fun _ _=>rfl))))) (aD rfl) (.inr rfl)) (@ap _ _ _ (@ay _ _ _ _ (@aA _ _ _ _ _ _ _ bf (pv 2) (@aq _ _ _ _ _ _ _ _ _ _ _ _ _ _ _ _ G_l_draw (hr.mono (by omega)) rfl m_l_draw k_l_draw b_l_draw .nil aC (@ad _ _ _ _ _ (pv 0) (@ad _ _ _ _ _ (@aK _ _ _ _ _ _ _ _ _ aU rfl T.len cv (@ad _ _ _ _ _ (pv 2) ah (ac rfl)) (by decide) (by decide) (ac rfl) (aj rfl)) ah (ac rfl)) (ac rfl)) (by decide) (ac rfl) (aj rfl)) (fun _ _=>rfl))))),?_⟩
 obtain ⟨rA,rxs,rfl,hrA,rrs⟩:=hR
 refine ⟨(by show 4≤sizeLine; decide),fun l1 hl1=>?_⟩
 have gl1:=ao hl1 (.lst ((["num", "num", "text", "row"]:List Str).map V.str))
 refine ⟨_,rfl,rA,rfl,⟨_,SqT.of (gl1 _ _ hrA)⟩,bO rxs.length rfl (by rw [Paired.length rrs]; omega) (fun j acc H'=>H'=upd H l1 (.lst ((["num", "num", "text", "row"]:List Str).map V.str))∧acc=((R.map (·.1)).take j).map V.str) ⟨rfl,rfl⟩ (fun j acc H' p=>by obtain ⟨rfl,_⟩:=p; exact SqT.of (gl1 _ _ hrA)) (fun j acc H' u hj la hu p=>?_) (fun acc H' p la D hD=>?_)⟩
 ·obtain ⟨rfl,rfl⟩:=p
  obtain ⟨r,er,a1,y1,rfl,ha1,_⟩:=aY rrs j u hu
  refine ⟨⟨rfl,rfl⟩,bD ⟨_,rfl,a1,_,_,_,rfl,rfl,SqT.of (gl1 _ _ ha1),rfl,nxT (by rw [Paired.length rrs]; omega) hj la ⟨rfl,?_⟩⟩⟩
  have er2:(R.map (·.1))[j]?=some r.1:=by rw [List.getElem?_map,er]; rfl
  rw [List.take_add_one,er2,List.map_append]
  rfl
 obtain ⟨rfl,rfl⟩:=p
 rw [Paired.length rrs,← List.length_map (f:=fun r:Rec=>r.1),List.take_length]
 have gD:=ao hD (.lst ((R.map (·.1)).map V.str))
 have klen:((["num", "num", "text", "row"]:List Str).map V.str).length+((R.map (·.1)).map V.str).length≤7:=by
  rw [List.length_map,List.length_map,List.length_map]
  show 4+_≤7
  omega
 refine ⟨l1,D,_,_,rfl,rfl,gD _ _ ag,ag,Nat.le_of_lt (bU (by omega)),fun lp hlp=>?_⟩
 have gp:=ao hlp (.lst ((["num", "num", "text", "row"]:List Str).map V.str++(R.map (·.1)).map V.str))
 have G1:=Go.same ht ((gl1.trans gD).trans gp)
 have hlt:lp≠tp:=(ht.same (gl1.trans gD)).nt hlp
 refine ⟨_,rfl,_,rfl,_,rfl,lp,_,rfl,.inl (SqL.of ag),tp,_,rfl,G1.t,?_,?_,fun i H2 i0 i1 x2 t2 y2=>?_⟩
 ·rw [List.length_append,List.length_map]
  show (0:Int)<((4+_:Nat):Int)
  omega
 ·rw [List.length_append]
  omega
 ·obtain ⟨u,hu,_,hat⟩:=dg i0 i1
  rw [← List.map_append] at hu
  obtain ⟨k,hk,rfl⟩:=List.mem_map.mp hu
  refine ⟨lp,_,_,_,rfl,rfl,SqL.of (x2 _ _ hlt ag),hat,q k _ (G1.trans ⟨x2,t2,y2⟩) ?_⟩
  rcases List.mem_append.mp hk with h | h
  ·refine List.mem_append_left _ ?_
   have:∀ k∈(["num", "num", "text", "row"]:List Str),k∈PL:=by decide
   exact this k h
  ·exact List.mem_append_right _ h
noncomputable def xV:Sp:=fun vs H Q _=>∃ tp v R,vs=[.ref tp,v]∧Tp H tp∧dR H v R∧R.length≤3∧∀ r hs HS H',Go tp H H'→H r=none→H' r=some (.lst hs)→Paired (fV H') hs HS→CU R HS→Q (.ref r) H'
noncomputable abbrev oE:List Str:=["_law_tape_here", "_law_records_here", "_law_heads_here", "_law_name", "_law_names_here", "_law_many", "_law_pairs"]
noncomputable abbrev jm:List Str:=["_law_one", "_law_tape_here", "_law_records_here"]
theorem nP:jm.Nodup:=by decide +kernel
theorem dk:aO oE ["_law_tape_here", "_law_records_here"] (defScope iw):=⟨rfl,rfl,rfl,by decide +kernel,rfl,by decide +kernel,by decide +kernel⟩
theorem zY (T:G0 mg) (F:Fun K "_law_heads" "_law_heads" iw f fd) (D_l_draw:Cal P w K mg base 1 "_law_draw" dP bY) (D_l_names:Cal P w K mg base 2 "_law_names" dP ju) (D_l_kind:Cal P w K mg base 2 "_law_kind" ["_law_tape_here", "_law_records_here"] Ca) :
  bj P w K mg base CX0 3 f fd ["_law_tape_here", "_law_records_here"] xV:=by
 obtain ⟨g_l_draw,gd_l_draw,G_l_draw,b_l_draw,k_l_draw,m_l_draw⟩:=D_l_draw.ex
 obtain ⟨g_l_names,gd_l_names,G_l_names,b_l_names,k_l_names,m_l_names⟩:=D_l_names.ex
 obtain ⟨g_l_kind,gd_l_kind,G_l_kind,b_l_kind,k_l_kind,m_l_kind⟩:=D_l_kind.ex
 refine F.ok dk (fun vs H Q E h=>?_) (fun cdv A outer s H vs Q E hr h=>?_)
 ·obtain ⟨tp,v,R,rfl,_⟩:=h
  rfl
 obtain ⟨tp,v,R,rfl,ht,hR,hRl,q⟩:=h
 refine ⟨_,(@am _ _ _ _ _ (@aM _ _ 2 _ _ _ _ dk.nd rfl (Or.inl rfl) (@bo _ _ _ _ ah) (aD rfl) (.inr rfl)) (@am _ _ _ _ _ (@cg _ _ _ _ _ _ _ _ PassesOwn.never rfl (dD (@aq _ _ _ _ _ _ _ _ _ _ _ _ _ _ _ _ G_l_names (hr.mono (by omega)) rfl m_l_names k_l_names b_l_names .nil aC (@ad _ _ _ _ _ (pv 0) (@ad _ _ _ _ _ (@ba _ _ _ _ _ _ _ _ eK ak (@aq _ _ _ _ _ _ _ _ _ _ _ _ _ _ _ _ G_l_draw (hr.mono (by omega)) rfl m_l_draw k_l_draw b_l_draw .nil aC (@ad _ _ _ _ _ (pv 0) (@ad _ _ _ _ _ ak ah (ac rfl)) (ac rfl)) (by decide) (ac rfl) (aj rfl))) ah (ac rfl)) (ac rfl)) (by decide) (ac rfl) (aj rfl))) (aH (i:=3) dk.nd rfl (Or.inl rfl)) (@am _ _ _ _ _ (@aM _ _ 4 _ _ _ _ dk.nd rfl (Or.inl rfl) (@aq _ _ _ _ _ _ _ _ _ _ _ _ _ _ _ _ G_l_names (hr.mono (by omega)) rfl m_l_names k_l_names b_l_names .nil aC (@ad _ _ _ _ _ (pv 0) (@ad _ _ _ _ _ ak ah (ac rfl)) (ac rfl)) (by decide) (ac rfl) (aj rfl)) (aD rfl) (.inr rfl)) (@am _ _ _ _ _ (@aM _ _ 5 _ _ _ _ dk.nd rfl (Or.inl rfl) (@aq _ _ _ _ _ _ _ _ _ _ _ _ _ _ _ _ G_l_draw (hr.mono (by omega)) rfl m_l_draw k_l_draw b_l_draw .nil aC (@ad _ _ _ _ _ (pv 0) (@ad _ _ _ _ _ ak ah (ac rfl)) (ac rfl)) (by decide) (ac rfl) (aj rfl)) (aD rfl) (.inr rfl)) (@am _ _ _ _ _ (dW (i:=6) (N':=jm) (ρ:=[none,some 0,some 1]) (m:=1) (bI.of (fs:=defScope iw) (N:=oE) rfl rfl (by decide +kernel)) dk.nd rfl (Or.inl rfl) rfl (dD (dI jr (pv 4) eS (eO (ba eK (ba eK (pv 5) ak) (aq G_l_draw (hr.mono (by omega)) rfl m_l_draw k_l_draw b_l_draw .nil aC (ad (pv 0) (ad ak ah))))))) (fun _ _ _ _=>(aH (i:=0) nP rfl (Or.inl rfl))) (fun _ _ _ _=>bC) (fun _ _ _ _=>(aT (ad (pv 0) (ad (aq G_l_kind (hr.mono (by omega)) rfl m_l_kind k_l_kind b_l_kind .nil aC (ad (pv 1) (ad (pv 2) ah))) ah))))) (@ap _ _ _ (@cM _ _ _ _ (@fG _ _ _ _ _ _ _ _ _ _ _ _ PySem.F.plainAttrs_list PySem.F.slot_list_append PySem.F.type_list_append dY (pv 2) (@ad _ _ _ _ _ (@aT _ _ _ _ _ (@ad _ _ _ _ _ (pv 3) (@ad _ _ _ _ _ (@bK _ _ _ _ _ _ _ _ _ bF rfl T.tuple cb (@ad _ _ _ _ _ (@dI _ _ _ _ _ _ _ _ _ _ jr (pv 6) eS (eO (pv 5))) ah (ac rfl)) (by decide) (by decide) (ac rfl) (aj rfl)) (@ad _ _ _ _ _ (@bK _ _ _ _ _ _ _ _ _ bF rfl T.tuple cb (@ad _ _ _ _ _ (@dI _ _ _ _ _ _ _ _ _ _ jr (pv 6) (eO (pv 5)) eS) ah (ac rfl)) (by decide) (by decide) (ac rfl) (aj rfl)) (@ad _ _ _ _ _ (@aq _ _ _ _ _ _ _ _ _ _ _ _ _ _ _ _ G_l_kind (hr.mono (by omega)) rfl m_l_kind k_l_kind b_l_kind .nil aC (@ad _ _ _ _ _ (pv 0) (@ad _ _ _ _ _ (pv 1) ah (ac rfl)) (ac rfl)) (by decide) (ac rfl) (aj rfl)) ah (ac rfl)) (ac rfl)) (ac rfl)) (ac rfl))) ah (ac rfl)) rfl (du rfl rfl) rfl (ac rfl) (aj rfl)) (aD rfl)))))) (fun _=>rfl)) (@ap _ _ _ (@ay _ _ _ _ (pv 2))))),?_⟩
 refine ⟨(by show 0≤sizeLine; decide),fun rl hrl=>?_⟩
 have G1:Go tp H (L2.upd H rl (.lst [])):=(Go.refl ht).new hrl _
 have hrt:rl≠tp:=ht.nt hrl
 refine ⟨_,rfl,_,rfl,tp,3,rfl,G1.t,by decide,by decide,fun v4 H4 b0 b1 x4 t4 y4=>?_⟩
 have G4:=G1.trans ⟨x4,t4,y4⟩
 have rl4:H4 rl=some (.lst []):=x4 _ _ hrt ag
 refine ⟨_,_,rfl,rfl,tp,_,rfl,t4,by omega,by omega,fun an l H5 g5 an0 han hl hpl hnd=>?_⟩
 have G5:=G4.trans g5
 have hra:rl≠an:=aJ rl4 an0
 have rl5:H5 rl=some (.lst []):=g5.x _ _ hrt rl4
 have hat':an≠tp:=t4.nt an0
 have hl3:l.length≤3:=by omega
 have hl1:1≤l.length:=by omega
 refine ⟨an,rfl,⟨_,SqL.of han⟩,gZ (xs:=l.map V.str) (fun i σ H'=>∃ m3 m4 m5 m6 xs HS,σ=[some (.ref tp),some v,some (.ref rl),m3,m4,m5,m6]∧Go tp H H'∧H' an=some (.lst (l.map V.str))∧H' rl=some (.lst xs)∧Paired (fV H') xs HS∧HS.map (·.1)=l.take i∧∀ h∈HS,HOk R h) ⟨none,none,none,none,[],[],rfl,G5,han,rl5,.nil,by simp,fun _ z=>nomatch z⟩ (fun i σ H' _ p=>?_) (fun i x σ H' hx p=>?_) (fun σ H' p=>?_)⟩
 ·obtain ⟨_,_,_,_,_,_,_,_,e,_⟩:=p
  exact SqL.of e
 ·obtain ⟨m3,m4,m5,m6,xs,HS,rfl,GA,hnA,hlA,pA,nA,oA⟩:=p
  rw [List.getElem?_map] at hx
  obtain ⟨nm,hnm,rfl⟩:=Option.map_eq_some_iff.mp hx
  have hi3:i<3:=by
   have:=(List.getElem?_eq_some_iff.mp hnm).1
   omega
  have xl:xs.length=i:=by
   rw [Paired.length pA,← List.length_map (f:=fun h:cI=>h.1),nA,List.length_take]
   have:=(List.getElem?_eq_some_iff.mp hnm).1
   omega
  refine ⟨_,rfl,tp,5,rfl,GA.t,by decide,by decide,fun nl ln H6 G6 nl0 hnl hln hpln hndn=>?_⟩
  have lnl:ln.length=5:=by rw [hln]; rfl
  have hnt:nl≠tp:=GA.t.nt nl0
  refine ⟨_,rfl,tp,3,rfl,G6.t,by decide,by decide,fun mn H7 mn0 mn1 x7 t7 y7=>?_⟩
  have G7:Go tp H' H7:=G6.trans ⟨x7,t7,y7⟩
  have hnl7:=x7 _ _ hnt hnl
  refine ⟨_,rfl,_,rfl,_,_,rfl,rfl,_,rfl,tp,3,rfl,t7,by decide,by decide,fun ex H8 ex0 ex1 x8 t8 y8=>?_⟩
  have G8:=G7.trans ⟨x8,t8,y8⟩
  have hnl8:=x8 _ _ hnt hnl7
  obtain ⟨mN,rfl⟩:∃ mN:Nat,mn=mN:=⟨mn.toNat,by omega⟩
  obtain ⟨eN,rfl⟩:∃ eN:Nat,ex=eN:=⟨ex.toNat,by omega⟩
  refine ⟨_,_,rfl,rfl,_,rfl,nl,_,rfl,SqL.of hnl8,fun ps hps=>?_⟩
  have en:((mN:Int)+1+(eN:Int))=((mN+1+eN:Nat):Int):=by omega
  have ec:iM (ln.map V.str) none (some ((mN:Int)+1+(eN:Int)))=(ln.take (mN+1+eN)).map V.str:=by
   rw [en,Fp _ _ (by rw [List.length_map]; omega),List.map_take]
  rw [ec]
  have G9:=G8.new hps (.lst ((ln.take (mN+1+eN)).map V.str))
  have hpt:ps≠tp:=G8.t.nt hps
  have hnn:(ln.take (mN+1+eN)).length=mN+1+eN:=by rw [List.length_take]; omega
  refine ⟨ps,rfl,⟨_,SqL.of ag⟩,fJ (xs:=(ln.take (mN+1+eN)).map V.str) (mN+1+eN) (by rw [List.length_map]; omega) (by omega) (fun j acc H2=>Go tp (L2.upd H8 ps (.lst ((ln.take (mN+1+eN)).map V.str))) H2∧∃ fs:List Fld,Paired (cy H2) acc fs∧fs.map (·.1)=(ln.take (mN+1+eN)).take j∧∀ p∈fs,p.2∈KS R) ⟨Go.refl G9.t,[],.nil,by simp,fun _ z=>nomatch z⟩ (fun j acc H2 p=>SqL.of (p.1.x _ _ hpt ag)) (fun j acc H2 x hj la hx p=>?_) (fun acc H2 p la D hD=>?_)⟩
  ·obtain ⟨GB,fs,pf,ef,kf⟩:=p
   rw [List.getElem?_map] at hx
   obtain ⟨one,hone,rfl⟩:=Option.map_eq_some_iff.mp hx
   have G9B:=G9.trans GB
   refine ⟨⟨rfl,rfl⟩,bD ⟨_,rfl,_,rfl,_,rfl,tp,v,R,rfl,GB.t,hR.mono ((GA.trans G9B).tk ht),hRl,fun kk H3 G3 hkk=>⟨(by show 2≤sizeLine; decide),fun pp hpp=>nxT (by omega) hj la ⟨(GB.trans G3).new hpp _,fs++[(one,kk)],?_,?_,fun y hy=>?_⟩⟩⟩⟩
   ·exact Paired.snoc (Paired.mapP pf fun _ _ z=>z.mono ((G3.tk GB.t).trans (bd hpp _))) ⟨pp,rfl,ag⟩
   ·rw [List.map_append,ef,List.take_add_one,hone]; rfl
   ·rcases List.mem_append.mp hy with hy | hy
    ·exact kf y hy
    ·rw [List.mem_singleton.mp hy]; exact hkk
  ·obtain ⟨GB,fs,pf,ef,kf⟩:=p
   have ef':fs.map (·.1)=ln.take (mN+1+eN):=by rw [ef,List.take_of_length_le (by omega)]
   have lf:fs.length=mN+1+eN:=by rw [← List.length_map (f:=fun p:Fld=>p.1),ef',hnn]
   have lacc:=Paired.length pf
   have GD:=(G9.trans GB).new hD (.lst acc)
   have hDt:D≠tp:=GB.t.nt hD
   have pfD:=Paired.mapP pf fun _ _ z=>cy.mono (bd hD (.lst acc)) z
   have eD:(L2.upd H2 D (.lst acc)) D=some (.lst acc):=ag
   have hlD:=GD.x _ _ hrt hlA
   have hnD:=GD.x _ _ hat' hnA
   refine ⟨_,rfl,.inl ⟨rfl,_,SqL.of hlD⟩,_,rfl,_,rfl,_,rfl,_,rfl,D,_,rfl,SqL.of eD,fun c1 hc1=>?_⟩
   have e1:iM acc none (some (mN:Int))=acc.take mN:=Fp _ _ (by omega)
   have e2:iM acc (some (mN:Int)) none=acc.drop mN:=Ep _ _
   rw [e1]
   have s1:=ao hc1 (.lst (acc.take mN))
   refine ⟨c1,_,rfl,.inl ⟨SqL.of ag,fun c2 hc2=>?_⟩⟩
   have s2:=ao hc2 (.tup (acc.take mN))
   refine ⟨_,rfl,_,rfl,_,rfl,D,_,rfl,SqL.of (s2 _ _ (s1 _ _ eD)),fun c3 hc3=>?_⟩
   rw [e2]
   have s3:=ao hc3 (.lst (acc.drop mN))
   refine ⟨c3,_,rfl,.inl ⟨SqL.of ag,fun c4 hc4=>?_⟩⟩
   have s4:=ao hc4 (.tup (acc.drop mN))
   have sA:=((s1.trans s2).trans s3).trans s4
   have GE:=GD.trans (Go.same GD.t sA)
   refine ⟨_,rfl,_,rfl,tp,v,R,rfl,GE.t,hR.mono ((GA.trans GE).tk ht),hRl,fun gk H3 G3 hgk=>⟨(by show 4≤sizeLine; decide),fun tr htr=>?_⟩⟩
   have GF:=(GE.trans G3).new htr (.tup [.str nm,.ref c2,.ref c4,.str gk])
   have hlF:=GF.x _ _ hrt hlA
   refine ⟨rl,xs,_,rfl,rfl,hlF,bU (by omega),?_⟩
   have kL:=cQ hlF (.lst (xs++[.ref tr]))
   have GZ:=GA.trans GF
   have kG:Tk (L2.upd H2 D (.lst acc)) H3:=(av sA).trans (G3.tk GE.t)
   have kH:Tk H3 (L2.upd (L2.upd H3 tr (.tup [.str nm,.ref c2,.ref c4,.str gk])) rl (.lst (xs++[.ref tr]))):=(bd htr _).trans kL
   refine ⟨_,_,_,_,xs++[.ref tr],HS++[(nm,fs.take mN,fs.drop mN,gk)],rfl,GZ.upd ht hrl _,?_,ag,?_,?_,fun h hh=>?_⟩
   ·rw [aV hra.symm]
    exact GF.x _ _ hat' hnA
   ·have kA:Tk H' (L2.upd _ rl (.lst (xs++[.ref tr]))):=(GF.tk GA.t).trans kL
    refine Paired.snoc (Paired.mapP pA fun _ _ z=>z.mono kA) ⟨tr,.ref c2,.ref c4,rfl,kL _ _ ag,⟨c2,acc.take mN,rfl,?_,?_⟩,⟨c4,acc.drop mN,rfl,?_,?_⟩⟩
    ·exact kH _ _ (G3.tk GE.t _ _ (s4 _ _ (s3 _ _ ag)))
    ·exact Paired.mapP (Paired.take' mN pfD) fun _ _ z=>z.mono (kG.trans kH)
    ·exact kH _ _ (G3.tk GE.t _ _ ag)
    ·exact Paired.mapP (Paired.drop' mN pfD) fun _ _ z=>z.mono (kG.trans kH)
   ·rw [List.map_append,nA,List.take_add_one,hnm]; rfl
   ·rcases List.mem_append.mp hh with hh | hh
    ·exact oA h hh
    ·rw [List.mem_singleton.mp hh]
     have eA:fs.take mN++fs.drop mN=fs:=List.take_append_drop _ _
     refine ⟨hpl nm (List.mem_of_getElem? hnm),?_,?_,?_,?_,fun p hp=>?_,hgk⟩
     ·show (fs.take mN).length≤2
      rw [List.length_take]; omega
     ·show 1≤(fs.take mN++fs.drop mN).length
      rw [eA]; omega
     ·show (fs.take mN++fs.drop mN).length≤5
      rw [eA]; omega
     ·show ((fs.take mN++fs.drop mN).map (·.1)).Nodup
      rw [eA,ef']
      exact hndn.sublist (List.take_sublist _ _)
     ·have hp':p∈fs:=by
       have hp2:p∈fs.take mN++fs.drop mN:=hp
       rwa [eA] at hp2
      have:p.1∈ln.take (mN+1+eN):=by rw [← ef']; exact List.mem_map.mpr ⟨p,hp',rfl⟩
      exact ⟨hpln _ (List.mem_of_mem_take this),kf p hp'⟩
 ·obtain ⟨m3,m4,m5,m6,xs,HS,rfl,GA,hnA,hlA,pA,nA,oA⟩:=p
  refine ⟨_,rfl,?_⟩
  rw [List.length_map,List.take_length] at nA
  have hl:HS.length=l.length:=by rw [← List.length_map (f:=fun h:cI=>h.1),nA]
  exact q rl xs HS _ GA hrl hlA pA ⟨by omega,by omega,by rw [nA]; exact hnd,oA⟩
end
open PySem L2
noncomputable def isS:List PyData→Bool
 | .str _::_=>true
 | _=>false
mutual
noncomputable def cD:PyData→Nat
 | .tuple ds=>(if isS ds=true then 1 else 0)+cDs ds
 | _=>0
noncomputable def cDs:List PyData→Nat
 | []=>0
 | d::r=>cD d+cDs r
end
theorem dC:∀ a b:List PyData,cDs (a++b)=cDs a+cDs b
 | [],b=>by simp [cDs]
 | d::r,b=>by simp only [List.cons_append,cDs,dC r b]; omega
theorem AC:∀ es:List E,isS (E.ds es)=false
 | []=>by simp [E.ds,isS]
 | e::r=>by cases e<;>simp [E.ds,E.d,isS]
noncomputable def LC (m i c:Nat):Prop:=(i=0∧c=0)∨(1≤i∧c+1≤3*m - 2+i)
theorem LC.step {m i c d:Nat} (h:LC m i c) (hd:d≤3*m - 2) (h1:1≤i→d≤1):LC m (i+1) (c+d):=by
 rcases h with ⟨a,b⟩ | ⟨a,b⟩
 ·exact .inr ⟨by omega,by omega⟩
 ·have:=h1 a
  exact .inr ⟨by omega,by omega⟩
theorem oa {α:Type} {l:List α} {i:Nat} {x:α} (h:l[i]?=some x) (hi:1≤i):x∈l.drop 1:=by
 refine List.mem_of_getElem? (i:=i - 1) ?_
 rw [List.getElem?_drop,show 1+(i - 1)=i by omega]
 exact h
noncomputable def lbf:Nat→Nat
 | 0=>0
 | m+1=>3*lbf m+42
theorem FC:∀ v∈([V.int 0,V.int 1,V.int (-1),V.int 2,V.int 3,V.int 7,V.int (10 ^ (6:Int).toNat),V.int (-(10 ^ (6:Int).toNat))]:List V),∃ i,v=V.int i∧i∈NUM∧-1000000≤i∧i≤1000000:=by
 intro v h
 simp only [List.mem_cons,List.not_mem_nil,or_false] at h
 rcases h with h | h | h | h | h | h | h | h<;>subst h<;>exact ⟨_,rfl,by decide +kernel,by decide,by decide⟩
theorem GI:∀ v∈([V.str "",V.str "a",V.str "b a",V.str "~ !",V.str "ab&"]:List V),∃ z,v=V.str z∧z∈TXT:=by
 intro v h
 simp only [List.mem_cons,List.not_mem_nil,or_false] at h
 rcases h with h | h | h | h | h<;>subst h<;>exact ⟨_,rfl,by decide +kernel⟩
theorem CQ {m:Nat}:42≤lbf (m+1):=by unfold lbf; omega
theorem jv {m b c:Nat} {x y:PyData} (h:bA m b x) (k:bA m c y):bA (m+1) (b+c+7) (.tuple [x,y]):=(br.cons h (br.cons k nz)).tup.mono (Nat.le_refl _) (by omega)
theorem dJ {m b c d:Nat} {x y z:PyData} (h:bA m b x) (k:bA m c y) (l:bA m d z):bA (m+1) (b+c+d+9) (.tuple [x,y,z]):=(br.cons h (br.cons k (br.cons l nz))).tup.mono (Nat.le_refl _) (by omega)
theorem yd {m b c d e:Nat} {x y z t:PyData} (h:bA m b x) (k:bA m c y) (l:bA m d z) (n:bA m e t):bA (m+1) (b+c+d+e+11) (.tuple [x,y,z,t]):=(br.cons h (br.cons k (br.cons l (br.cons n nz)))).tup.mono (Nat.le_refl _) (by omega)
theorem bA.up {m m' b:Nat} {d:PyData} (h:bA m b d) (q:m≤m'):bA m' b d:=h.mono q (Nat.le_refl _)
theorem jK {m b:Nat}:∀ {es:List E},(∀ e∈es,bA m b e.d)→br m (es.length*(b+2)) (E.ds es)
 | [],_=>nz.mono (Nat.le_refl _) (Nat.zero_le _)
 | e::r,h=>by
  have h1:=h e List.mem_cons_self
  have h2:=jK (es:=r) fun j hj=>h j (List.mem_cons_of_mem _ hj)
  exact (br.cons h1 h2).mono (Nat.le_refl _) (by rw [List.length_cons,Nat.add_mul]; omega)
theorem wd (z:Str) (h:decide (z∈WD)=true):bA 0 12 (.str z):=nW (of_decide_eq_true h)
section
variable {P:Program} {w:World} {K:Frag} {mg:Str→Option Value} {base:Heap} {f g:Addr} {fd gd:FuncData}
noncomputable def hU (K:Frag) (m:Nat):Sp:=fun vs H Q _=>∃ tp kd k R HS Vs gv n b,vs=[.ref tp,.ref kd,.str k]∧Tp H tp∧jG tp H kd R HS Vs gv n b∧Env R Vs∧me R m k∧∀ u e H',Go tp H H'→DT K H' u e.d→Ok R Vs e k→e.na=true→bA (2*m) (lbf m) e.d→cD e.d≤3*m - 2→(k∈PL→cD e.d≤1)→Q u H'
noncomputable abbrev pLf:List Str:=["_law_tape_here", "_law_kit_here", "_law_kind_here"]
noncomputable abbrev jk:List Str:=["_law_tape_here", "_law_kit_here", "_law_kind_here", "_law_some", "_law_fields"]
noncomputable abbrev kF:List Str:=["_law_name", "_law_own", "_law_tape_here", "_law_kit_here"]
theorem jg:kF.Nodup:=by decide +kernel
noncomputable abbrev ky:List Str:=["_law_record", "_law_kind_here"]
theorem pI:ky.Nodup:=by decide +kernel
noncomputable abbrev kI:List Str:=["_law_name", "_law_own", "_law_kind_here"]
theorem jD:kI.Nodup:=by decide +kernel
theorem ko:aO jk ["_law_tape_here", "_law_kit_here", "_law_kind_here"] (defScope eI):=⟨rfl,rfl,rfl,by decide +kernel,rfl,by decide +kernel,by decide +kernel⟩
theorem CM {m:Nat} (T:G0 mg) (F:Fun K "_law_leaf" "_law_leaf" eI f fd) (D_l_draw:Cal P w K mg base 1 "_law_draw" dP bY) (D_l_leaf:Cal P w K mg base (m+1) "_law_leaf" pLf (hU K m)) :
  bj P w K mg base CX0 (m+2) f fd pLf (hU K (m+1)):=by
 obtain ⟨g_l_draw,gd_l_draw,G_l_draw,b_l_draw,k_l_draw,m_l_draw⟩:=D_l_draw.ex
 obtain ⟨g_l_leaf,gd_l_leaf,G_l_leaf,b_l_leaf,k_l_leaf,m_l_leaf⟩:=D_l_leaf.ex
 refine F.ok ko (fun vs H Q EX h=>?_) (fun cdv A outer s H vs Q EX hr h=>?_)
 ·obtain ⟨tp,kd,k,R,HS,Vs,gv,n,b,rfl,_⟩:=h
  rfl
 obtain ⟨tp,kd,k,R,HS,Vs,gv,n,b,rfl,ht,hkit,env,hk,q⟩:=h
 refine ⟨_,(@am _ _ _ _ _ (dW (i:=3) (N':=kI) (ρ:=[none,none,some 2]) (m:=2) (bI.of (fs:=defScope eI) (N:=jk) rfl rfl (by decide +kernel)) ko.nd rfl (Or.inl rfl) rfl (dD (aA cn (pv 1) au (fun _ _=>rfl))) (fun _ _ _ _=>(ir (n:=2) (K:=K) rfl rfl (aW (aH (i:=0) jD rfl (Or.inl rfl)) (aW (aH (i:=1) jD rfl (Or.inl rfl)) bS)))) (fun _ _ _ _=>(gq (az bg (pv 1) (pv 2) (aG _)))) (fun _ _ _ _=>(pv 0))) (@am _ _ _ _ _ (@aR _ _ _ _ _ _ _ _ (PW.pt (gl (@az _ _ _ _ _ _ _ _ (fE hr.units0) (pv 3) (@bo _ _ _ _ ah) (aG _)) (eW (@az _ _ _ _ _ _ _ _ gu (@aq _ _ _ _ _ _ _ _ _ _ _ _ _ _ _ _ G_l_draw (hr.mono (by omega)) rfl m_l_draw k_l_draw b_l_draw .nil aC (@ad _ _ _ _ _ (pv 0) (@ad _ _ _ _ _ ak ah (ac rfl)) (ac rfl)) (by decide) (ac rfl) (aj rfl)) ak (aG _))))) (@ap _ _ _ (@ay _ _ _ _ (@aT _ _ _ _ _ (@ad _ _ _ _ _ au (@ad _ _ _ _ _ (@aA _ _ _ _ _ _ _ bf (pv 3) (@aq _ _ _ _ _ _ _ _ _ _ _ _ _ _ _ _ G_l_draw (hr.mono (by omega)) rfl m_l_draw k_l_draw b_l_draw .nil aC (@ad _ _ _ _ _ (pv 0) (@ad _ _ _ _ _ (@aK _ _ _ _ _ _ _ _ _ aU rfl T.len cv (@ad _ _ _ _ _ (pv 3) ah (ac rfl)) (by decide) (by decide) (ac rfl) (aj rfl)) ah (ac rfl)) (ac rfl)) (by decide) (ac rfl) (aj rfl)) (fun _ _=>rfl)) ah (ac rfl)) (ac rfl))))) aF) (@am _ _ _ _ _ (@aR _ _ _ _ _ _ _ _ (@az _ _ _ _ _ _ _ _ bg (pv 2) au (aG _)) (@ap _ _ _ (@ay _ _ _ _ (@aT _ _ _ _ _ (@ad _ _ _ _ _ au (@ad _ _ _ _ _ (@aA _ _ _ _ _ _ _ bf (@bo _ _ _ _ (@ad _ _ _ _ _ ak (@ad _ _ _ _ _ ak (@ad _ _ _ _ _ (@BI _ _ _ _ _ _ wS ak) (@ad _ _ _ _ _ ak (@ad _ _ _ _ _ ak (@ad _ _ _ _ _ ak (@ad _ _ _ _ _ (@ba _ _ _ _ _ _ _ _ qL ak ak) (@ad _ _ _ _ _ (@BI _ _ _ _ _ _ wS (@ba _ _ _ _ _ _ _ _ qL ak ak)) ah (ac rfl)) (ac rfl)) (ac rfl)) (ac rfl)) (ac rfl)) (ac rfl)) (ac rfl)) (ac rfl))) (@aq _ _ _ _ _ _ _ _ _ _ _ _ _ _ _ _ G_l_draw (hr.mono (by omega)) rfl m_l_draw k_l_draw b_l_draw .nil aC (@ad _ _ _ _ _ (pv 0) (@ad _ _ _ _ _ ak ah (ac rfl)) (ac rfl)) (by decide) (ac rfl) (aj rfl)) (fun _ _=>rfl)) ah (ac rfl)) (ac rfl))))) aF) (@am _ _ _ _ _ (@aR _ _ _ _ _ _ _ _ (@az _ _ _ _ _ _ _ _ bg (pv 2) au (aG _)) (@ap _ _ _ (@ay _ _ _ _ (@aT _ _ _ _ _ (@ad _ _ _ _ _ au (@ad _ _ _ _ _ (@aA _ _ _ _ _ _ _ bf (@bo _ _ _ _ (@ad _ _ _ _ _ au (@ad _ _ _ _ _ au (@ad _ _ _ _ _ au (@ad _ _ _ _ _ au (@ad _ _ _ _ _ au ah (ac rfl)) (ac rfl)) (ac rfl)) (ac rfl)) (ac rfl))) (@aq _ _ _ _ _ _ _ _ _ _ _ _ _ _ _ _ G_l_draw (hr.mono (by omega)) rfl m_l_draw k_l_draw b_l_draw .nil aC (@ad _ _ _ _ _ (pv 0) (@ad _ _ _ _ _ ak ah (ac rfl)) (ac rfl)) (by decide) (ac rfl) (aj rfl)) (fun _ _=>rfl)) ah (ac rfl)) (ac rfl))))) aF) (@am _ _ _ _ _ (@aR _ _ _ _ _ _ _ _ (@az _ _ _ _ _ _ _ _ bg (pv 2) au (aG _)) (@ap _ _ _ (@ay _ _ _ _ (@aT _ _ _ _ _ (@ad _ _ _ _ _ au (@ad _ _ _ _ _ (@aT _ _ _ _ _ ah) ah (ac rfl)) (ac rfl))))) aF) (@am _ _ _ _ _ (dW (i:=4) (N':=ky) (ρ:=[none,some 2]) (m:=1) (bI.of (fs:=defScope eI) (N:=jk) rfl rfl (by decide +kernel)) ko.nd rfl (Or.inl rfl) rfl (bJ (aA cn (pv 1) au (fun _ _=>rfl))) (fun _ _ _ _=>(aH (i:=0) pI rfl (Or.inl rfl))) (fun _ _ _ _=>(gq (az bg (aA (cx (K:=K) rfl) (pv 0) ak (fun _ _=>rfl)) (pv 1) (aG _)))) (fun _ _ _ _=>(aA (cx (K:=K) rfl) (pv 0) ak (fun _ _=>rfl)))) (@ap _ _ _ (@ay _ _ _ _ (@aT _ _ _ _ _ (@ad _ _ _ _ _ au (@ad _ _ _ _ _ (pv 2) (@ad _ _ _ _ _ (@bK _ _ _ _ _ _ _ _ _ bF rfl T.tuple cb (@ad _ _ _ _ _ (bH (N':=kF) (ρ:=[none,none,some 0,some 1]) (m:=2) (bI.of (fs:=defScope eI) (N:=jk) rfl rfl (by decide +kernel)) rfl (bJ (aA bf (pv 4) ak (fun _ _=>rfl))) (fun _ _ _ _=>(ir (n:=2) (K:=K) rfl rfl (aW (aH (i:=0) jg rfl (Or.inl rfl)) (aW (aH (i:=1) jg rfl (Or.inl rfl)) bS)))) (fun _ _ _ _=>bC) (fun _ _ _ _=>(aq G_l_leaf (hr.mono (by omega)) rfl m_l_leaf k_l_leaf b_l_leaf .nil aC (ad (pv 2) (ad (pv 3) (ad (pv 1) ah)))))) ah (ac rfl)) (by decide) (by decide) (ac rfl) (aj rfl)) ah (ac rfl)) (ac rfl)) (ac rfl))))))))))),?_⟩
 have q1:∀ u e H',Go tp H H'→DT K H' u e.d→Ok R Vs e k→e.na=true→bA (2*(m+1)) (lbf (m+1)) e.d→cD e.d≤1→Q u H':=fun u e H' a1 a2 a3 a4 a5 a6=>q u e H' a1 a2 a3 a4 a5 (by omega) (fun _=>a6)
 have kt:=hkit.ne ht
 obtain ⟨v,hl,vl,hkd,KD⟩:=id hkit
 obtain ⟨vs,hvl,pvs⟩:=KD.vv
 have lvs:=Paired.length pvs
 have lV:=env.vl
 have lp:=CQ (m:=m)
 refine ⟨_,rfl,kd,_,_,_,rfl,rfl,hkd,rfl,vl,rfl,⟨_,SqL.of hvl⟩,fJ (xs:=vs) vs.length rfl (by omega) (fun i acc H'=>H'=H∧∃ ss:List Str,acc=ss.map V.str∧∀ z∈ss,(z,k)∈Vs) ⟨rfl,[],rfl,fun _ z=>nomatch z⟩ (fun i acc H' p=>by rw [p.1]; exact SqL.of hvl) (fun i acc H' x hi la hx p=>?_) (fun acc H' p la D hD=>?_)⟩
 ·obtain ⟨rfl,ss,rfl,hss⟩:=p
  obtain ⟨fl,hfl,c,rfl,hc⟩:=aY pvs i x hx
  refine ⟨c,_,rfl,SqT.of hc,rfl,_,_,rfl,_,_,rfl,rfl,⟨rfl,rfl⟩,⟨_,rfl,_,rfl,rfl,_,rfl,?_⟩⟩
  refine aE (fun d1=>?_) (fun d1=>?_)
  ·refine ⟨_,rfl,nxT (by omega) hi la ⟨rfl,ss++[fl.1],by simp,fun z hz=>?_⟩⟩
   rcases List.mem_append.mp hz with hz | hz
   ·exact hss z hz
   ·rw [List.mem_singleton.mp hz,← eqS d1]
    exact List.mem_of_getElem? hfl
  ·exact nxF hi la ⟨rfl,ss,rfl,hss⟩
 obtain ⟨rfl,ss,rfl,hss⟩:=p
 have gD:=ao hD (.lst (ss.map V.str))
 have G1:=Go.same ht gD
 have hDt:D≠tp:=ht.nt hD
 have eD:(upd H' D (.lst (ss.map V.str))) D=some (.lst (ss.map V.str)):=ag
 have sl:ss.length≤5:=by rw [List.length_map] at la; omega
 dsimp only [iJ]
 refine jA (fun σ H1=>σ=[some (.ref tp),some (.ref kd),some (.str k),some (.ref D),none]∧Go tp H' H1) (fun NX hNX=>?_) (fun σ H1 jj=>?_)
 ·refine ⟨_,rfl,(by show 0≤sizeLine; decide),fun pe hpe=>?_⟩
  have G2:=G1.new hpe (.lst [])
  have eD2:=ao hpe (.lst []) _ _ eD
  refine ⟨D,pe,_,rfl,rfl,SqL.of eD2,SqL.of ag,_,rfl,?_⟩
  refine aE (fun c1=>?_) (fun c1=>hNX _ _ ⟨rfl,G2⟩)
  have sp:0<ss.length:=by
   cases ss with
   | nil=>exact absurd c1 (by decide)
   | cons _ _=>simp
  refine ⟨_,rfl,tp,3,rfl,G2.t,by decide,by decide,fun v3 H3 _ _ x3 t3 y3=>⟨_,_,rfl,rfl,_,rfl,?_⟩⟩
  have G3:=G2.trans ⟨x3,t3,y3⟩
  refine aE (fun c2=>?_) (fun c2=>hNX _ _ ⟨rfl,G3⟩)
  have eD3:=x3 _ _ hDt eD2
  refine ⟨_,rfl,_,rfl,_,rfl,D,_,rfl,.inl (SqL.of eD3),tp,_,rfl,t3,by rw [List.length_map]; omega,by rw [List.length_map]; omega,fun v4 H4 f0 f1 x4 t4 y4=>?_⟩
  obtain ⟨u,hu,_,hat⟩:=dg (xs:=ss.map V.str) (i:=v4) f0 f1
  obtain ⟨z,hz,rfl⟩:=List.mem_map.mp hu
  refine ⟨D,_,_,_,rfl,rfl,SqL.of (x4 _ _ hDt eD3),hat,(by show 2≤sizeLine; decide),fun p hp=>?_⟩
  have hzV:=hss z hz
  refine q1 (.ref p) (.var z) _ ((G3.trans ⟨x4,t4,y4⟩).new hp _) (.tup (.inl ag) (.cons (.str _) (.cons (.str _) .nil))) hzV rfl ?_ (by simp [E.d,E.ds,cD,cDs,isS])
  exact (jv (wd "var" (by decide +kernel)) (nW (cH (env.vn _ hzV)))).mono (by omega) (by omega)
 obtain ⟨rfl,G2⟩:=jj
 have hkd2:=G2.x _ _ kt hkd
 have KD2:=hkit.go ht G2
 refine ⟨_,rfl,rfl,_,rfl,?_⟩
 refine aE (fun c1=>?_) (fun c1=>?_)
 ·refine ⟨_,rfl,_,_,rfl,rfl,⟨by decide,by decide,by decide⟩,_,_,rfl,rfl,⟨by decide,by decide,by decide⟩,_,rfl,(by show 8≤sizeLine; decide),fun lc hlc=>?_⟩
  have G3:=G2.new hlc (.lst [V.int 0,V.int 1,V.int (-1),V.int 2,V.int 3,V.int 7,V.int (10 ^ (6:Int).toNat),V.int (-(10 ^ (6:Int).toNat))])
  refine ⟨_,rfl,tp,8,rfl,G3.t,by decide,by decide,fun v1 H3 v0 v2 x1 t1 y1=>?_⟩
  obtain ⟨u,hu,_,hat⟩:=dg (xs:=[V.int 0,V.int 1,V.int (-1),V.int 2,V.int 3,V.int 7,V.int (10 ^ (6:Int).toNat),V.int (-(10 ^ (6:Int).toNat))]) (i:=v1) v0 v2
  obtain ⟨i,rfl,hi,hi1,hi2⟩:=FC u hu
  refine ⟨lc,_,_,_,rfl,rfl,SqL.of (x1 _ _ (G2.t.nt hlc) ag),hat,(by show 2≤sizeLine; decide),fun p hp=>?_⟩
  refine q1 (.ref p) (.num i) _ ((G3.trans ⟨x1,t1,y1⟩).new hp _) (.tup (.inl ag) (.cons (.str _) (.cons (.int _) .nil))) ⟨eqS c1,hi1,hi2⟩ rfl ?_ (by simp [E.d,E.ds,cD,cDs,isS])
  exact (jv (wd "num" (by decide +kernel)) (nI hi)).mono (by omega) (by omega)
 refine ⟨_,rfl,rfl,_,rfl,?_⟩
 refine aE (fun c2=>?_) (fun c2=>?_)
 ·refine ⟨(by show 5≤sizeLine; decide),fun lc hlc=>?_⟩
  have G3:=G2.new hlc (.lst [V.str "",V.str "a",V.str "b a",V.str "~ !",V.str "ab&"])
  refine ⟨_,rfl,tp,5,rfl,G3.t,by decide,by decide,fun v1 H3 v0 v2 x1 t1 y1=>?_⟩
  obtain ⟨u,hu,_,hat⟩:=dg (xs:=[V.str "",V.str "a",V.str "b a",V.str "~ !",V.str "ab&"]) (i:=v1) v0 v2
  obtain ⟨z,rfl,hz⟩:=GI u hu
  refine ⟨lc,_,_,_,rfl,rfl,SqL.of (x1 _ _ (G2.t.nt hlc) ag),hat,(by show 2≤sizeLine; decide),fun p hp=>?_⟩
  refine q1 (.ref p) (.text z) _ ((G3.trans ⟨x1,t1,y1⟩).new hp _) (.tup (.inl ag) (.cons (.str _) (.cons (.str _) .nil))) ⟨eqS c2,hz⟩ rfl ?_ (by simp [E.d,E.ds,cD,cDs,isS])
  exact (jv (wd "text" (by decide +kernel)) (nW (Fh hz))).mono (by omega) (by omega)
 refine ⟨_,rfl,rfl,_,rfl,?_⟩
 refine aE (fun c3=>?_) (fun c3=>?_)
 ·refine ⟨(by show 0≤sizeLine; decide),fun p1 h1=>⟨(by show 2≤sizeLine; decide),fun p hp=>?_⟩⟩
  refine q1 (.ref p) (.rows []) _ ((G2.new h1 _).new hp _) (.tup (.inl ag) (.cons (.str _) (.cons (.tup (.inl (ao hp _ _ _ ag)) (by simp only [E.ds]; exact .nil)) .nil))) ⟨eqS c3,by simp,by simp only [OkN]⟩ rfl ?_ (by simp [E.d,E.ds,cD,cDs,isS])
  have n0:bA 1 3 (.tuple []):=(nz (m:=0)).tup
  show bA _ _ (.tuple [.str "rows",.tuple (E.ds [])])
  simp only [E.ds]
  exact (jv ((wd "rows" (by decide +kernel)).up (Nat.zero_le 1)) n0).mono (by omega) (by omega)
 have n1:=neS c1
 have n2:=neS c2
 have n3:=neS c3
 obtain ⟨npl,kin,hl13,hf⟩:k∉PL∧k∈R.map (·.1)∧(1≤(look R k).length∧(look R k).length≤3)∧∀ p∈look R k,me R m p.2:=by
  rcases hk with hk | ⟨z0,z1,z2,z3⟩
  ·rcases List.mem_cons.mp hk with e | hk
   ·exact absurd e n1
   rcases List.mem_cons.mp hk with e | hk
   ·exact absurd e n2
   ·exact absurd (List.mem_singleton.mp hk) n3
  ·exact ⟨z0,z1,z2,z3⟩
 obtain ⟨r0,hr0,er0⟩:=List.mem_map.mp kin
 have kP:k∈cX:=by rw [← er0]; exact (dZ env.g hr0).1
 have hdr:∀ p∈(look R k).drop 1,p.2∈PL:=by rw [← er0,iB env.nd r0 hr0]; exact (dZ env.g hr0).2.1.2.2.2
 have hm1:1≤m:=by
  rcases Nat.eq_zero_or_pos m with h0 | h0
  ·obtain ⟨p,hp⟩:=List.exists_mem_of_length_pos (show 0<(look R k).length by omega)
   have:=hf p hp
   rw [h0] at this
   exact (show False from this).elim
  ·exact h0
 obtain ⟨rest,hrest⟩:=yV kin
 obtain ⟨bR,rxs,rfl,hbR,rs⟩:=KD.rs
 have lrx:rxs.length≤3:=by rw [Paired.length rs]; exact env.rl
 have hb2':=G2.tk ht _ _ hbR
 refine ⟨_,rfl,kd,_,_,_,rfl,rfl,hkd2,rfl,bR,rfl,⟨rxs,SqT.of hb2'⟩,bO (xs:=rxs) rxs.length rfl (by omega) (fun i acc H3=>H3=H1∧Paired (cV H1) acc (((R.take i).filter fun r=>decide (r.1=k)).map (·.2))) ⟨rfl,.nil⟩ (fun i acc H3 p=>by rw [p.1]; exact SqT.of hb2') (fun i acc H3 x hi la hx p=>?_) (fun acc H3 p la D2 hD2=>?_)⟩
 ·obtain ⟨rfl,pr⟩:=p
  obtain ⟨rc,hrc,hra⟩:=aY rs i x hx
  obtain ⟨cc,yy,rfl,hcc,hff⟩:=hra.mono (G2.tk ht)
  refine ⟨⟨rfl,rfl⟩,⟨_,rfl,cc,_,_,_,rfl,rfl,SqT.of hcc,rfl,_,rfl,rfl,_,rfl,?_⟩⟩
  have step:((R.take (i+1)).filter fun r=>decide (r.1=k)).map (·.2)=((R.take i).filter fun r=>decide (r.1=k)).map (·.2)++(if rc.1=k then [rc.2] else []):=by
   rw [List.take_add_one,hrc,List.filter_append,List.map_append]
   by_cases e:rc.1=k
   ·simp [e]
   ·simp [e]
  refine aE (fun d1=>?_) (fun d1=>?_)
  ·refine ⟨_,rfl,cc,_,_,_,rfl,rfl,SqT.of hcc,rfl,nxT (by omega) hi la ⟨rfl,?_⟩⟩
   rw [step,if_pos (eqS d1)]
   exact Paired.snoc pr hff
  ·refine nxF hi la ⟨rfl,?_⟩
   rw [step,if_neg (neS d1),List.append_nil]
   exact pr
 obtain ⟨rfl,pr⟩:=p
 rw [Paired.length rs,List.take_length,hrest] at pr
 obtain ⟨y0,ys,rfl,hy0⟩:∃ y0 ys,acc=y0::ys∧cV H3 y0 (look R k):=by
  cases pr with
  | cons r _=>exact ⟨_,_,rfl,r⟩
 obtain ⟨b2,fx,rfl,hb2,fs⟩:=hy0
 have gM:=ao hD2 (.lst (.ref b2::ys))
 have G3:=G2.trans (Go.same G2.t gM)
 have eD2:(upd H3 D2 (.lst (.ref b2::ys))) D2=some (.lst (.ref b2::ys)):=ag
 have lfx:=Paired.length fs
 have tM:=G2.t.same gM
 have hb2M:=gM _ _ hb2
 refine ⟨_,rfl,_,rfl,D2,_,_,_,rfl,rfl,SqL.of eD2,at0 _ _,b2,rfl,⟨fx,SqT.of hb2M⟩,bO (xs:=fx) fx.length rfl (by omega) (fun i acc H4=>Go tp (upd H3 D2 (.lst (.ref b2::ys))) H4∧∃ es:List E,DTs K H4 acc (E.ds es)∧OkL R Vs es (((look R k).take i).map (·.2))∧E.nas es=true∧(∀ e∈es,bA (2*m) (lbf m) e.d)∧LC m i (cDs (E.ds es))) ⟨Go.refl tM,[],by simp only [E.ds]; exact .nil,by simp only [List.take_zero,List.map_nil,OkL],by simp only [E.nas],(fun _ z=>nomatch z),.inl ⟨rfl,by simp [E.ds,cDs]⟩⟩ (fun i acc H4 p=>SqT.of (p.1.tk tM _ _ hb2M)) (fun i acc H4 x hi la hx p=>?_) (fun acc H4 p la D3 hD3=>?_)⟩
 ·obtain ⟨G4,es,des,oks,nas,ns,hlc⟩:=p
  obtain ⟨fl,hfl,cf,rfl,hcf⟩:=aY fs i x hx
  refine ⟨cf,_,rfl,SqT.of (G4.tk tM _ _ (gM _ _ hcf)),rfl,_,_,rfl,_,_,rfl,rfl,⟨rfl,rfl⟩,bD ⟨_,rfl,_,rfl,_,rfl,tp,kd,fl.2,R,HS,Vs,gv,n,b,rfl,G4.t,hkit.go ht (G3.trans G4),env,hf fl (List.mem_of_getElem? hfl),fun u e H5 G5 de oe ne ni ci ci1=>nxT (by omega) hi la ⟨G4.trans G5,es++[e],?_,?_,E.nas_snoc ne nas,(fun y hy=>?_),by rw [E.ds_snoc,dC]; simp only [cDs,Nat.add_zero]; exact hlc.step ci fun h1=>ci1 (hdr _ (oa hfl h1))⟩⟩⟩
  ·rw [E.ds_snoc]
   exact DTs.snoc de (des.mono (G5.tk G4.t))
  ·rw [List.take_add_one,hfl,List.map_append]
   exact OkL.snoc oe oks
  ·rcases List.mem_append.mp hy with hy | hy
   ·exact ns y hy
   ·rw [List.mem_singleton.mp hy]; exact ni
 ·obtain ⟨G4,es,des,oks,nas,ns,hlc⟩:=p
  rw [lfx,List.take_length] at oks
  have les:es.length≤3:=by rw [← E.ds_len,← des.len]; omega
  refine ⟨D3,_,rfl,.inl ⟨SqL.of ag,fun l hl2=>⟨(by show 3≤sizeLine; decide),fun p hp=>?_⟩⟩⟩
  have sA:=(ao hD3 (.lst acc)).trans (ao hl2 (.tup acc))
  have sB:=ao hp (.tup [.str "new",.str k,.ref l])
  have G5:=(G3.trans G4).trans (Go.same G4.t (sA.trans sB))
  refine q (.ref p) (.new k es) _ G5 (.tup (.inl ag) (.cons (.str _) (.cons (.str _) (.cons (.tup (.inl (sB _ _ ag)) (des.mono (av (sA.trans sB)))) .nil)))) ⟨rfl,npl,hl13.1,oks⟩ nas ?_ (by have e0:=AC es; simp only [E.d,cD,cDs,e0]; rcases hlc with ⟨h1,h2⟩ | ⟨h1,h2⟩<;>simp [isS]<;>omega) (fun h=>absurd h npl)
  have nt:=(jK ns).tup
  have h1:es.length*(lbf m+2)≤3*(lbf m+2):=Nat.mul_le_mul_right _ les
  refine (dJ ((wd "new" (by decide +kernel)).up (Nat.zero_le _)) ((nW (cH kP)).up (Nat.zero_le _)) nt).mono (by omega) ?_
  show _≤3*lbf m+42
  omega
end
open PySem L2
noncomputable def bm:Nat→Nat
 | 0=>lbf 4
 | d+1=>3*bm d+60
theorem rE:∀ d:Nat,42≤bm d
 | 0=>by decide
 | d+1=>by have:=rE d; unfold bm; omega
section
variable {P:Program} {w:World} {K:Frag} {mg:Str→Option Value} {base:Heap} {f g:Addr} {fd gd:FuncData}
noncomputable def spE (K:Frag) (d:Nat):Sp:=fun vs H Q _=>∃ tp kd k R HS Vs gv n b,vs=[.ref tp,.ref kd,.str k,.int (d:Int)]∧Tp H tp∧jG tp H kd R HS Vs gv n b∧Env R Vs∧k∈KS R∧∀ u e H',Go tp H H'→DT K H' u e.d→Ok R Vs e k→(b=false→e.na=true)→bA (8+2*d) (bm d) e.d→Q u H'
noncomputable def spT (K:Frag) (k:Str) (d:Nat):Sp:=fun vs H Q _=>∃ tp kd R HS Vs gv n b,vs=[.ref tp,.ref kd,.int ((d:Int)+1)]∧Tp H tp∧jG tp H kd R HS Vs gv n b∧Env R Vs∧∀ u e H',Go tp H H'→DT K H' u e.d→Ok R Vs e k→(b=false→e.na=true)→bA (8+2*(d+1)) (bm (d+1)) e.d→Q u H'
noncomputable abbrev pEx:List Str:=["_law_tape_here", "_law_kit_here", "_law_kind_here", "_law_deep"]
noncomputable abbrev pTx:List Str:=["_law_tape_here", "_law_kit_here", "_law_deep"]
theorem w3 {i:Int} (h0:0≤i) (h1:i<3):∃ z:Str,atI ((["add", "sub", "times"]:List Str).map V.str) i=some (.str z)∧((i=2∧z = "times")∨(¬ i=2∧(z = "add"∨z = "sub"))):=by
 have:i=0∨i=1∨i=2:=by omega
 rcases this with h | h | h<;>subst h
 ·exact ⟨"add",by decide +kernel,.inr ⟨by decide,.inl rfl⟩⟩
 ·exact ⟨"sub",by decide +kernel,.inr ⟨by decide,.inr rfl⟩⟩
 ·exact ⟨"times",by decide +kernel,.inl ⟨rfl,rfl⟩⟩
theorem w2 {i:Int} (h0:0≤i) (h1:i<2):∃ z:Str,atI ((["div", "rest"]:List Str).map V.str) i=some (.str z)∧(z = "div"∨z = "rest"):=by
 have:i=0∨i=1:=by omega
 rcases this with h | h<;>subst h
 ·exact ⟨"div",by decide +kernel,.inl rfl⟩
 ·exact ⟨"rest",by decide +kernel,.inr rfl⟩
theorem wrt {i:Int} (h0:0≤i) (h1:i<2):∃ z:Str,atI ((["row", "text"]:List Str).map V.str) i=some (.str z)∧(z = "row"∨z = "text"):=by
 have:i=0∨i=1:=by omega
 rcases this with h | h<;>subst h
 ·exact ⟨"row",by decide +kernel,.inl rfl⟩
 ·exact ⟨"text",by decide +kernel,.inr rfl⟩
theorem d3 {i:Int} (h0:0≤i) (h1:i<3):∃ z:Int,atI ([V.int 2,V.int 3,V.int 99]:List V) i=some (.int z)∧z∈NUM∧2≤z∧z≤99:=by
 have:i=0∨i=1∨i=2:=by omega
 rcases this with h | h | h<;>subst h
 ·exact ⟨2,by decide +kernel,by decide,by decide,by decide⟩
 ·exact ⟨3,by decide +kernel,by decide,by decide,by decide⟩
 ·exact ⟨99,by decide +kernel,by decide,by decide,by decide⟩
theorem Fy {v:Int} (h0:0≤v) (h1:v<9):v - 4∈NUM∧-1000000≤v - 4∧v - 4≤1000000:=by
 have:v=0∨v=1∨v=2∨v=3∨v=4∨v=5∨v=6∨v=7∨v=8:=by omega
 rcases this with h | h | h | h | h | h | h | h | h<;>subst h<;>exact ⟨by decide,by decide,by decide⟩
theorem bmS (d:Nat):bm (d+1)=3*bm d+60:=rfl
noncomputable abbrev Do:List Str:=["_law_tape_here", "_law_kit_here", "_law_deep", "_law_way", "_law_word", "_law_first", "_law_row_here"]
theorem ia:aO Do ["_law_tape_here", "_law_kit_here", "_law_deep"] (defScope lu):=⟨rfl,rfl,rfl,by decide +kernel,rfl,by decide +kernel,by decide +kernel⟩
theorem Ei {d:Nat} (T:G0 mg) (F:Fun K "_law_num" "_law_num" lu f fd) (D_l_draw:Cal P w K mg base 1 "_law_draw" dP bY) (D_l_e:Cal P w K mg base (2*d+6) "_law_e" pEx (spE K d)) :
  bj P w K mg base CX0 (2*d+7) f fd pTx (spT K "num" d):=by
 obtain ⟨g_l_draw,gd_l_draw,G_l_draw,b_l_draw,k_l_draw,m_l_draw⟩:=D_l_draw.ex
 obtain ⟨g_l_e,gd_l_e,G_l_e,b_l_e,k_l_e,m_l_e⟩:=D_l_e.ex
 refine F.ok ia (fun vs H Q EX h=>?_) (fun cdv A outer s H vs Q EX hr h=>?_)
 ·obtain ⟨tp,kd,R,HS,Vs,gv,n,b,rfl,_⟩:=h
  rfl
 obtain ⟨tp,kd,R,HS,Vs,gv,n,b,rfl,ht,hkit,env,q⟩:=h
 have kNum:Str.ofString "num"∈KS R:=List.mem_append_left _ (by decide)
 have kText:Str.ofString "text"∈KS R:=List.mem_append_left _ (by decide)
 have kRow:Str.ofString "row"∈KS R:=List.mem_append_left _ (by decide)
 have hd1:((d:Int)+1 - 1)=(d:Int):=by omega
 have callE:∀ {H1:Hp} {k:Str} {Q':VK},Go tp H H1→k∈KS R→(∀ u e H2,Go tp H1 H2→Go tp H H2→DT K H2 u e.d→Ok R Vs e k→(b=false→e.na=true)→bA (8+2*d) (bm d) e.d→Q' u H2)→spE K d [.ref tp,.ref kd,.str k,.int ((d:Int)+1 - 1)] H1 Q' E0 :=
  fun {H1 k Q'} G1 hk q'=>⟨tp,kd,k,R,HS,Vs,gv,n,b,by rw [hd1],G1.t,hkit.go ht G1,env,hk,fun u e H2 G2 a1 a2 a3 a4=>q' u e H2 G2 (G1.trans G2) a1 a2 a3 a4⟩
 refine ⟨_,(@am _ _ _ _ _ (@aM _ _ 3 _ _ _ _ ia.nd rfl (Or.inl rfl) (@aq _ _ _ _ _ _ _ _ _ _ _ _ _ _ _ _ G_l_draw (hr.mono (by omega)) rfl m_l_draw k_l_draw b_l_draw .nil aC (@ad _ _ _ _ _ (pv 0) (@ad _ _ _ _ _ ak ah (ac rfl)) (ac rfl)) (by decide) (ac rfl) (aj rfl)) (aD rfl) (.inr rfl)) (@am _ _ _ _ _ (@aR _ _ _ _ _ _ _ _ (@az _ _ _ _ _ _ _ _ oV (pv 3) ak (aG _)) (@am _ _ _ _ _ (@aM _ _ 4 _ _ _ _ ia.nd rfl (Or.inl rfl) (@aA _ _ _ _ _ _ _ bf (@bo _ _ _ _ (@ad _ _ _ _ _ au (@ad _ _ _ _ _ au (@ad _ _ _ _ _ au ah (ac rfl)) (ac rfl)) (ac rfl))) (pv 3) (fun _ _=>rfl)) (aD rfl) (.inr rfl)) (@am _ _ _ _ _ (@aM _ _ 5 _ _ _ _ ia.nd rfl (Or.inl rfl) (@aq _ _ _ _ _ _ _ _ _ _ _ _ _ _ _ _ G_l_e (hr.mono (by omega)) rfl m_l_e k_l_e b_l_e .nil aC (@ad _ _ _ _ _ (pv 0) (@ad _ _ _ _ _ (pv 1) (@ad _ _ _ _ _ au (@ad _ _ _ _ _ (@ba _ _ _ _ _ _ _ _ bM (pv 2) ak) ah (ac rfl)) (ac rfl)) (ac rfl)) (ac rfl)) (by decide) (ac rfl) (aj rfl)) (aD rfl) (.inr rfl)) (@ap _ _ _ (@ay _ _ _ _ (@aT _ _ _ _ _ (@ad _ _ _ _ _ (pv 4) (@ad _ _ _ _ _ (@cR _ _ _ _ _ _ _ _ (@az _ _ _ _ _ _ _ _ bg (pv 3) ak (aG _)) (@ba _ _ _ _ _ _ _ _ bM (@aq _ _ _ _ _ _ _ _ _ _ _ _ _ _ _ _ G_l_draw (hr.mono (by omega)) rfl m_l_draw k_l_draw b_l_draw .nil aC (@ad _ _ _ _ _ (pv 0) (@ad _ _ _ _ _ ak ah (ac rfl)) (ac rfl)) (by decide) (ac rfl) (aj rfl)) ak) (@aq _ _ _ _ _ _ _ _ _ _ _ _ _ _ _ _ G_l_e (hr.mono (by omega)) rfl m_l_e k_l_e b_l_e .nil aC (@ad _ _ _ _ _ (pv 0) (@ad _ _ _ _ _ (pv 1) (@ad _ _ _ _ _ au (@ad _ _ _ _ _ (@ba _ _ _ _ _ _ _ _ bM (pv 2) ak) ah (ac rfl)) (ac rfl)) (ac rfl)) (ac rfl)) (by decide) (ac rfl) (aj rfl))) (@ad _ _ _ _ _ (pv 5) ah (ac rfl)) (ac rfl)) (ac rfl))))))) aF) (@am _ _ _ _ _ (@aR _ _ _ _ _ _ _ _ (@az _ _ _ _ _ _ _ _ oV (pv 3) ak (aG _)) (@ap _ _ _ (@ay _ _ _ _ (@aT _ _ _ _ _ (@ad _ _ _ _ _ (@aA _ _ _ _ _ _ _ bf (@bo _ _ _ _ (@ad _ _ _ _ _ au (@ad _ _ _ _ _ au ah (ac rfl)) (ac rfl))) (@ba _ _ _ _ _ _ _ _ bM (pv 3) ak) (fun _ _=>rfl)) (@ad _ _ _ _ _ (@aq _ _ _ _ _ _ _ _ _ _ _ _ _ _ _ _ G_l_e (hr.mono (by omega)) rfl m_l_e k_l_e b_l_e .nil aC (@ad _ _ _ _ _ (pv 0) (@ad _ _ _ _ _ (pv 1) (@ad _ _ _ _ _ au (@ad _ _ _ _ _ (@ba _ _ _ _ _ _ _ _ bM (pv 2) ak) ah (ac rfl)) (ac rfl)) (ac rfl)) (ac rfl)) (by decide) (ac rfl) (aj rfl)) (@ad _ _ _ _ _ (@aA _ _ _ _ _ _ _ bf (@bo _ _ _ _ (@ad _ _ _ _ _ ak (@ad _ _ _ _ _ ak (@ad _ _ _ _ _ ak ah (ac rfl)) (ac rfl)) (ac rfl))) (@aq _ _ _ _ _ _ _ _ _ _ _ _ _ _ _ _ G_l_draw (hr.mono (by omega)) rfl m_l_draw k_l_draw b_l_draw .nil aC (@ad _ _ _ _ _ (pv 0) (@ad _ _ _ _ _ ak ah (ac rfl)) (ac rfl)) (by decide) (ac rfl) (aj rfl)) (fun _ _=>rfl)) ah (ac rfl)) (ac rfl)) (ac rfl))))) aF) (@am _ _ _ _ _ (@aM _ _ 6 _ _ _ _ ia.nd rfl (Or.inl rfl) (@aq _ _ _ _ _ _ _ _ _ _ _ _ _ _ _ _ G_l_e (hr.mono (by omega)) rfl m_l_e k_l_e b_l_e .nil aC (@ad _ _ _ _ _ (pv 0) (@ad _ _ _ _ _ (pv 1) (@ad _ _ _ _ _ (@aA _ _ _ _ _ _ _ bf (@bo _ _ _ _ (@ad _ _ _ _ _ au (@ad _ _ _ _ _ au ah (ac rfl)) (ac rfl))) (@aq _ _ _ _ _ _ _ _ _ _ _ _ _ _ _ _ G_l_draw (hr.mono (by omega)) rfl m_l_draw k_l_draw b_l_draw .nil aC (@ad _ _ _ _ _ (pv 0) (@ad _ _ _ _ _ ak ah (ac rfl)) (ac rfl)) (by decide) (ac rfl) (aj rfl)) (fun _ _=>rfl)) (@ad _ _ _ _ _ (@ba _ _ _ _ _ _ _ _ bM (pv 2) ak) ah (ac rfl)) (ac rfl)) (ac rfl)) (ac rfl)) (by decide) (ac rfl) (aj rfl)) (aD rfl) (.inr rfl)) (@am _ _ _ _ _ (@aR _ _ _ _ _ _ _ _ (PW.pt (cw (@az _ _ _ _ _ _ _ _ bg (pv 3) ak (aG _)) (cr (bE (bt (@aA _ _ _ _ _ _ _ cn (pv 1) au (fun _ _=>rfl))))))) (@ap _ _ _ (@ay _ _ _ _ (@aT _ _ _ _ _ (@ad _ _ _ _ _ au (@ad _ _ _ _ _ (pv 6) ah (ac rfl)) (ac rfl))))) aF) (@ap _ _ _ (@ay _ _ _ _ (@aT _ _ _ _ _ (@ad _ _ _ _ _ au (@ad _ _ _ _ _ (pv 6) (@ad _ _ _ _ _ (@aq _ _ _ _ _ _ _ _ _ _ _ _ _ _ _ _ G_l_e (hr.mono (by omega)) rfl m_l_e k_l_e b_l_e .nil aC (@ad _ _ _ _ _ (pv 0) (@ad _ _ _ _ _ (pv 1) (@ad _ _ _ _ _ au (@ad _ _ _ _ _ (@ba _ _ _ _ _ _ _ _ bM (pv 2) ak) ah (ac rfl)) (ac rfl)) (ac rfl)) (ac rfl)) (by decide) (ac rfl) (aj rfl)) ah (ac rfl)) (ac rfl)) (ac rfl)))))))))),?_⟩
 have bp:=rE d
 have kt:=hkit.ne ht
 obtain ⟨v,hl,vl,hkd,KD⟩:=id hkit
 refine ⟨_,rfl,tp,8,rfl,ht,by decide,by decide,fun way H1 w0 w1 x1 t1 y1=>?_⟩
 have G1:Go tp H H1:=⟨x1,t1,y1⟩
 refine ⟨_,rfl,_,_,rfl,rfl,_,rfl,?_⟩
 refine aE (fun c1=>?_) (fun c1=>?_)
 ·have c1':way<3:=of_decide_eq_true c1
  obtain ⟨wd',hat,hw⟩:=w3 w0 c1'
  refine ⟨(by show 3≤sizeLine; decide),fun lw hlw=>⟨_,rfl,lw,_,_,_,rfl,rfl,SqL.of ag,hat,?_⟩⟩
  have G2:=G1.new hlw (.lst ((["add", "sub", "times"]:List Str).map V.str))
  refine ⟨_,rfl,_,rfl,_,rfl,_,_,rfl,rfl,callE G2 kNum fun u1 e1 H3 G23 G3 de1 oe1 ne1 ni1=>?_⟩
  refine ⟨_,rfl,_,rfl,rfl,_,rfl,?_⟩
  refine aE (fun c2=>?_) (fun c2=>?_)
  ·have c2':way=2:=V.int.inj (of_decide_eq_true c2)
   have ew:wd' = "times":=by
    rcases hw with ⟨_,z⟩ | ⟨z,_⟩
    ·exact z
    ·exact absurd c2' z
   subst ew
   refine ⟨_,rfl,tp,9,rfl,G3.t,by decide,by decide,fun v4 H4 a0 a1 x4 t4 y4=>⟨_,_,rfl,rfl,_,rfl,(by show 3≤sizeLine; decide),fun p hp=>?_⟩⟩
   obtain ⟨m1,m2,m3⟩:=Fy a0 a1
   have G4:Go tp H3 H4:=⟨x4,t4,y4⟩
   refine q (.ref p) (.times (v4 - 4) e1) _ ((G3.trans G4).new hp _) (.tup (.inl ag) (.cons (.str _) (.cons (.int _) (.cons (de1.mono ((G4.tk G3.t).trans (bd hp _))) .nil)))) ⟨rfl,⟨m2,m3⟩,oe1⟩ ne1 ?_
   exact (dJ ((wd "times" (by decide +kernel)).up (Nat.zero_le _)) ((nI m1).up (Nat.zero_le _)) ni1).mono (by omega) (by rw [bmS]; omega)
  ·have ew:wd' = "add"∨wd' = "sub":=by
    rcases hw with ⟨z,_⟩ | ⟨_,z⟩
    ·exact absurd (decide_eq_true (congrArg V.int z)) c2
    ·exact z
   refine ⟨_,rfl,_,rfl,_,rfl,_,_,rfl,rfl,callE G3 kNum fun u2 e2 H4 G34 G4 de2 oe2 ne2 ni2=>⟨_,rfl,(by show 3≤sizeLine; decide),fun p hp=>?_⟩⟩
   have dd1:=de1.mono ((G34.tk G3.t).trans (bd hp (.tup [.str wd',u2,u1])))
   have dd2:=de2.mono (bd hp (.tup [.str wd',u2,u1]))
   rcases ew with rfl | rfl
   ·refine q (.ref p) (.add e2 e1) _ (G4.new hp _) (.tup (.inl ag) (.cons (.str _) (.cons dd2 (.cons dd1 .nil)))) ⟨rfl,oe2,oe1⟩ (fun z=>by simp only [E.na,ne1 z,ne2 z,Bool.and_self]) ?_
    exact (dJ ((wd "add" (by decide +kernel)).up (Nat.zero_le _)) ni2 ni1).mono (by omega) (by rw [bmS]; omega)
   ·refine q (.ref p) (.sub e2 e1) _ (G4.new hp _) (.tup (.inl ag) (.cons (.str _) (.cons dd2 (.cons dd1 .nil)))) ⟨rfl,oe2,oe1⟩ (fun z=>by simp only [E.na,ne1 z,ne2 z,Bool.and_self]) ?_
    exact (dJ ((wd "sub" (by decide +kernel)).up (Nat.zero_le _)) ni2 ni1).mono (by omega) (by rw [bmS]; omega)
 have c1':¬ way<3:=fun z=>c1 (decide_eq_true z)
 refine ⟨_,rfl,_,_,rfl,rfl,_,rfl,?_⟩
 refine aE (fun c2=>?_) (fun c2=>?_)
 ·have c2':way<5:=of_decide_eq_true c2
  obtain ⟨wd',hat,hw⟩:=w2 (i:=way - 3) (by omega) (by omega)
  refine ⟨(by show 2≤sizeLine; decide),fun lw hlw=>⟨_,rfl,_,_,rfl,rfl,lw,_,_,_,rfl,rfl,SqL.of ag,hat,?_⟩⟩
  have G2:=G1.new hlw (.lst ((["div", "rest"]:List Str).map V.str))
  refine ⟨_,rfl,_,rfl,_,rfl,_,_,rfl,rfl,callE G2 kNum fun u1 e1 H3 G23 G3 de1 oe1 ne1 ni1=>?_⟩
  refine ⟨(by show 3≤sizeLine; decide),fun li hli=>?_⟩
  have G4:=G3.new hli (.lst [V.int 2,V.int 3,V.int 99])
  refine ⟨_,rfl,tp,3,rfl,G4.t,by decide,by decide,fun v5 H5 a0 a1 x5 t5 y5=>?_⟩
  obtain ⟨dn,hat2,m1,m2,m3⟩:=d3 a0 a1
  refine ⟨li,_,_,_,rfl,rfl,SqL.of (x5 _ _ (G3.t.nt hli) ag),hat2,(by show 3≤sizeLine; decide),fun p hp=>?_⟩
  have G5:Go tp H3 H5:=((Go.refl G3.t).new hli (.lst [V.int 2,V.int 3,V.int 99])).trans ⟨x5,t5,y5⟩
  have dd1:=de1.mono ((G5.tk G3.t).trans (bd hp (.tup [.str wd',u1,.int dn])))
  have nn:=(dJ (m:=8+2*d) ((wd "times" (by decide +kernel)).up (Nat.zero_le _)) ni1 ((nI m1).up (Nat.zero_le _)))
  rcases hw with rfl | rfl
  ·refine q (.ref p) (.div e1 dn) _ ((G3.trans G5).new hp _) (.tup (.inl ag) (.cons (.str _) (.cons dd1 (.cons (.int _) .nil)))) ⟨rfl,⟨m2,m3⟩,oe1⟩ ne1 ?_
   exact (dJ ((wd "div" (by decide +kernel)).up (Nat.zero_le _)) ni1 ((nI m1).up (Nat.zero_le _))).mono (by omega) (by rw [bmS]; omega)
  ·refine q (.ref p) (.rest e1 dn) _ ((G3.trans G5).new hp _) (.tup (.inl ag) (.cons (.str _) (.cons dd1 (.cons (.int _) .nil)))) ⟨rfl,⟨m2,m3⟩,oe1⟩ ne1 ?_
   exact (dJ ((wd "rest" (by decide +kernel)).up (Nat.zero_le _)) ni1 ((nI m1).up (Nat.zero_le _))).mono (by omega) (by rw [bmS]; omega)
 refine ⟨_,rfl,_,rfl,(by show 2≤sizeLine; decide),fun lk hlk=>?_⟩
 have G2:=G1.new hlk (.lst ((["row", "text"]:List Str).map V.str))
 refine ⟨_,rfl,tp,2,rfl,G2.t,by decide,by decide,fun v3 H3 a0 a1 x3 t3 y3=>?_⟩
 obtain ⟨kk,hat,hkk⟩:=wrt a0 a1
 have G3:=G2.trans ⟨x3,t3,y3⟩
 have kkS:kk∈KS R:=by rcases hkk with rfl | rfl; exact kRow; exact kText
 refine ⟨lk,_,_,_,rfl,rfl,SqL.of (x3 _ _ (G1.t.nt hlk) ag),hat,_,rfl,_,_,rfl,rfl,callE G3 kkS fun u1 e1 H4 G34 G4 de1 oe1 ne1 ni1=>?_⟩
 have orow:Ok R Vs e1 "row"∨Ok R Vs e1 "text":=by rcases hkk with rfl | rfl; exact .inl oe1; exact .inr oe1
 have len:∀ p,H4 p=none→Q (.ref p) (upd H4 p (.tup [.str "len",u1])):=fun p hp=>by
  refine q (.ref p) (.len e1) _ (G4.new hp _) (.tup (.inl ag) (.cons (.str _) (.cons (de1.mono (bd hp _)) .nil))) ⟨rfl,orow⟩ ne1 ?_
  exact (jv ((wd "len" (by decide +kernel)).up (Nat.zero_le _)) ni1).mono (by omega) (by rw [bmS]; omega)
 refine ⟨_,rfl,rfl,_,rfl,?_⟩
 refine aE (fun c3=>cO ⟨_,rfl,(by show 2≤sizeLine; decide),len⟩) (fun c3=>?_)
 refine ⟨_,rfl,kd,_,_,_,rfl,rfl,G4.x _ _ kt hkd,rfl,_,rfl,?_⟩
 refine aE (fun c4=>⟨_,rfl,(by show 2≤sizeLine; decide),len⟩) (fun c4=>?_)
 have hb:b=true:=by
  cases b with
  | true=>rfl
  | false=>exact absurd rfl c4
 refine ⟨_,rfl,_,rfl,_,rfl,_,rfl,_,_,rfl,rfl,callE G4 kNum fun u2 e2 H5 G45 G5 de2 oe2 ne2 ni2=>⟨(by show 3≤sizeLine; decide),fun p hp=>?_⟩⟩
 refine q (.ref p) (.at_ e1 e2) _ (G5.new hp _) (.tup (.inl ag) (.cons (.str _) (.cons (de1.mono ((G45.tk G4.t).trans (bd hp _))) (.cons (de2.mono (bd hp _)) .nil)))) ⟨rfl,orow,oe2⟩ (fun z=>by rw [hb] at z; cases z) ?_
 exact (dJ ((wd "at" (by decide +kernel)).up (Nat.zero_le _)) ni1 ni2).mono (by omega) (by rw [bmS]; omega)
noncomputable abbrev yK:List Str:=["_law_tape_here", "_law_kit_here", "_law_deep", "_law_way", "_law_row_here", "_law_place"]
noncomputable abbrev mY:List Str:=["_law_k", "_law_tape_here", "_law_kit_here", "_law_deep"]
theorem ul:mY.Nodup:=by decide +kernel
theorem je:aO yK ["_law_tape_here", "_law_kit_here", "_law_deep"] (defScope jw):=⟨rfl,rfl,rfl,by decide +kernel,rfl,by decide +kernel,by decide +kernel⟩
theorem EO {d:Nat} (T:G0 mg) (F:Fun K "_law_row" "_law_row" jw f fd) (D_l_draw:Cal P w K mg base 1 "_law_draw" dP bY) (D_l_e:Cal P w K mg base (2*d+6) "_law_e" pEx (spE K d)) :
  bj P w K mg base CX0 (2*d+7) f fd pTx (spT K "row" d):=by
 obtain ⟨g_l_draw,gd_l_draw,G_l_draw,b_l_draw,k_l_draw,m_l_draw⟩:=D_l_draw.ex
 obtain ⟨g_l_e,gd_l_e,G_l_e,b_l_e,k_l_e,m_l_e⟩:=D_l_e.ex
 refine F.ok je (fun vs H Q EX h=>?_) (fun cdv A outer s H vs Q EX hr h=>?_)
 ·obtain ⟨tp,kd,R,HS,Vs,gv,n,b,rfl,_⟩:=h
  rfl
 obtain ⟨tp,kd,R,HS,Vs,gv,n,b,rfl,ht,hkit,env,q⟩:=h
 have kNum:Str.ofString "num"∈KS R:=List.mem_append_left _ (by decide)
 have kText:Str.ofString "text"∈KS R:=List.mem_append_left _ (by decide)
 have kRow:Str.ofString "row"∈KS R:=List.mem_append_left _ (by decide)
 have hd1:((d:Int)+1 - 1)=(d:Int):=by omega
 have callE:∀ {H1:Hp} {k:Str} {Q':VK},Go tp H H1→k∈KS R→(∀ u e H2,Go tp H1 H2→Go tp H H2→DT K H2 u e.d→Ok R Vs e k→(b=false→e.na=true)→bA (8+2*d) (bm d) e.d→Q' u H2)→spE K d [.ref tp,.ref kd,.str k,.int ((d:Int)+1 - 1)] H1 Q' E0 :=
  fun {H1 k Q'} G1 hk q'=>⟨tp,kd,k,R,HS,Vs,gv,n,b,by rw [hd1],G1.t,hkit.go ht G1,env,hk,fun u e H2 G2 a1 a2 a3 a4=>q' u e H2 G2 (G1.trans G2) a1 a2 a3 a4⟩
 refine ⟨_,(@am _ _ _ _ _ (@aM _ _ 3 _ _ _ _ je.nd rfl (Or.inl rfl) (@aq _ _ _ _ _ _ _ _ _ _ _ _ _ _ _ _ G_l_draw (hr.mono (by omega)) rfl m_l_draw k_l_draw b_l_draw .nil aC (@ad _ _ _ _ _ (pv 0) (@ad _ _ _ _ _ ak ah (ac rfl)) (ac rfl)) (by decide) (ac rfl) (aj rfl)) (aD rfl) (.inr rfl)) (@am _ _ _ _ _ (@aR _ _ _ _ _ _ _ _ (@az _ _ _ _ _ _ _ _ bg (pv 3) ak (aG _)) (@ap _ _ _ (@ay _ _ _ _ (@aT _ _ _ _ _ (@ad _ _ _ _ _ au (@ad _ _ _ _ _ (@aq _ _ _ _ _ _ _ _ _ _ _ _ _ _ _ _ G_l_e (hr.mono (by omega)) rfl m_l_e k_l_e b_l_e .nil aC (@ad _ _ _ _ _ (pv 0) (@ad _ _ _ _ _ (pv 1) (@ad _ _ _ _ _ au (@ad _ _ _ _ _ (@ba _ _ _ _ _ _ _ _ bM (pv 2) ak) ah (ac rfl)) (ac rfl)) (ac rfl)) (ac rfl)) (by decide) (ac rfl) (aj rfl)) ah (ac rfl)) (ac rfl))))) aF) (@am _ _ _ _ _ (@aR _ _ _ _ _ _ _ _ (@az _ _ _ _ _ _ _ _ bg (pv 3) ak (aG _)) (@ap _ _ _ (@ay _ _ _ _ (@aT _ _ _ _ _ (@ad _ _ _ _ _ au (@ad _ _ _ _ _ (@bK _ _ _ _ _ _ _ _ _ bF rfl T.tuple cb (@ad _ _ _ _ _ (bH (N':=mY) (ρ:=[none,some 0,some 1,some 2]) (m:=1) (bI.of (fs:=defScope jw) (N:=yK) rfl rfl (by decide +kernel)) rfl (dB rfl T.range (ad (aq G_l_draw (hr.mono (by omega)) rfl m_l_draw k_l_draw b_l_draw .nil aC (ad (pv 0) (ad ak ah))) ah)) (fun _ _ _ _=>(aH (i:=0) ul rfl (Or.inl rfl))) (fun _ _ _ _=>bC) (fun _ _ _ _=>(aq G_l_e (hr.mono (by omega)) rfl m_l_e k_l_e b_l_e .nil aC (ad (pv 1) (ad (pv 2) (ad au (ad (ba bM (pv 3) ak) ah))))))) ah (ac rfl)) (by decide) (by decide) (ac rfl) (aj rfl)) ah (ac rfl)) (ac rfl))))) aF) (@am _ _ _ _ _ (@aM _ _ 4 _ _ _ _ je.nd rfl (Or.inl rfl) (@aq _ _ _ _ _ _ _ _ _ _ _ _ _ _ _ _ G_l_e (hr.mono (by omega)) rfl m_l_e k_l_e b_l_e .nil aC (@ad _ _ _ _ _ (pv 0) (@ad _ _ _ _ _ (pv 1) (@ad _ _ _ _ _ au (@ad _ _ _ _ _ (@ba _ _ _ _ _ _ _ _ bM (pv 2) ak) ah (ac rfl)) (ac rfl)) (ac rfl)) (ac rfl)) (by decide) (ac rfl) (aj rfl)) (aD rfl) (.inr rfl)) (@am _ _ _ _ _ (@aR _ _ _ _ _ _ _ _ (PW.pt (cw (@az _ _ _ _ _ _ _ _ bg (pv 3) ak (aG _)) (cr (bE (bt (@aA _ _ _ _ _ _ _ cn (pv 1) au (fun _ _=>rfl))))))) (@ap _ _ _ (@ay _ _ _ _ (@aT _ _ _ _ _ (@ad _ _ _ _ _ au (@ad _ _ _ _ _ (pv 4) (@ad _ _ _ _ _ (@aq _ _ _ _ _ _ _ _ _ _ _ _ _ _ _ _ G_l_e (hr.mono (by omega)) rfl m_l_e k_l_e b_l_e .nil aC (@ad _ _ _ _ _ (pv 0) (@ad _ _ _ _ _ (pv 1) (@ad _ _ _ _ _ au (@ad _ _ _ _ _ (@ba _ _ _ _ _ _ _ _ bM (pv 2) ak) ah (ac rfl)) (ac rfl)) (ac rfl)) (ac rfl)) (by decide) (ac rfl) (aj rfl)) ah (ac rfl)) (ac rfl)) (ac rfl))))) aF) (@am _ _ _ _ _ (@aM _ _ 5 _ _ _ _ je.nd rfl (Or.inl rfl) (@aq _ _ _ _ _ _ _ _ _ _ _ _ _ _ _ _ G_l_e (hr.mono (by omega)) rfl m_l_e k_l_e b_l_e .nil aC (@ad _ _ _ _ _ (pv 0) (@ad _ _ _ _ _ (pv 1) (@ad _ _ _ _ _ au (@ad _ _ _ _ _ (@ba _ _ _ _ _ _ _ _ bM (pv 2) ak) ah (ac rfl)) (ac rfl)) (ac rfl)) (ac rfl)) (by decide) (ac rfl) (aj rfl)) (aD rfl) (.inr rfl)) (@ap _ _ _ (@ay _ _ _ _ (@aT _ _ _ _ _ (@ad _ _ _ _ _ au (@ad _ _ _ _ _ (pv 4) (@ad _ _ _ _ _ (pv 5) (@ad _ _ _ _ _ (@aq _ _ _ _ _ _ _ _ _ _ _ _ _ _ _ _ G_l_e (hr.mono (by omega)) rfl m_l_e k_l_e b_l_e .nil aC (@ad _ _ _ _ _ (pv 0) (@ad _ _ _ _ _ (pv 1) (@ad _ _ _ _ _ au (@ad _ _ _ _ _ (@ba _ _ _ _ _ _ _ _ bM (pv 2) ak) ah (ac rfl)) (ac rfl)) (ac rfl)) (ac rfl)) (by decide) (ac rfl) (aj rfl)) ah (ac rfl)) (ac rfl)) (ac rfl)) (ac rfl))))))))))),?_⟩
 have bp:=rE d
 have kt:=hkit.ne ht
 obtain ⟨v,hl,vl,hkd,KD⟩:=id hkit
 refine ⟨_,rfl,tp,4,rfl,ht,by decide,by decide,fun way H1 w0 w1 x1 t1 y1=>?_⟩
 have G1:Go tp H H1:=⟨x1,t1,y1⟩
 refine ⟨_,rfl,rfl,_,rfl,?_⟩
 refine aE (fun c1=>?_) (fun c1=>?_)
 ·refine ⟨_,rfl,_,rfl,_,rfl,_,_,rfl,rfl,callE G1 kText fun u1 e1 H3 G23 G3 de1 oe1 ne1 ni1=>⟨(by show 2≤sizeLine; decide),fun p hp=>?_⟩⟩
  refine q (.ref p) (.signs e1) _ (G3.new hp _) (.tup (.inl ag) (.cons (.str _) (.cons (de1.mono (bd hp _)) .nil))) ⟨rfl,oe1⟩ ne1 ?_
  exact (jv ((wd "signs" (by decide +kernel)).up (Nat.zero_le _)) ni1).mono (by omega) (by rw [bmS]; omega)
 refine ⟨_,rfl,rfl,_,rfl,?_⟩
 refine aE (fun c2=>?_) (fun c2=>?_)
 ·refine ⟨_,rfl,tp,3,rfl,t1,by decide,by decide,fun v3 H3 a0 a1 x3 t3 y3=>?_⟩
  have G3:=G1.trans ⟨x3,t3,y3⟩
  refine ⟨_,rfl,by omega,by omega,gj v3.toNat (by omega) (fun j acc H'=>Go tp H3 H'∧∃ es:List E,DTs K H' acc (E.ds es)∧es.length=j∧OkN R Vs es∧(b=false→E.nas es=true)∧∀ e∈es,bA (8+2*d) (bm d) e.d) ⟨Go.refl t3,[],by simp only [E.ds]; exact .nil,rfl,by simp only [OkN],fun _=>by simp only [E.nas],fun _ z=>nomatch z⟩ (fun j acc H' hj la p=>?_) (fun acc H' p la D hD=>?_)⟩
  ·obtain ⟨G4,es,des,les,oks,nas,ns⟩:=p
   refine ⟨⟨rfl,rfl⟩,bD ⟨_,rfl,_,rfl,_,rfl,_,_,rfl,rfl,callE (G3.trans G4) kNum fun u1 e1 H5 G45 G5 de1 oe1 ne1 ni1=>nxT (by omega) hj la ⟨G4.trans G45,es++[e1],?_,by simp [les],OkN.snoc oe1 oks,fun z=>E.nas_snoc (ne1 z) (nas z),fun y hy=>?_⟩⟩⟩
   ·rw [E.ds_snoc]
    exact DTs.snoc de1 (des.mono (G45.tk G4.t))
   ·rcases List.mem_append.mp hy with hy | hy
    ·exact ns y hy
    ·rw [List.mem_singleton.mp hy]; exact ni1
  ·obtain ⟨G4,es,des,les,oks,nas,ns⟩:=p
   have l2:es.length≤2:=by omega
   refine ⟨D,_,rfl,.inl ⟨SqL.of ag,fun l hl2=>⟨(by show 2≤sizeLine; decide),fun p hp=>?_⟩⟩⟩
   have sA:=(ao hD (.lst acc)).trans (ao hl2 (.tup acc))
   have sB:=ao hp (.tup [.str "rows",.ref l])
   have G5:=(G3.trans G4).trans (Go.same G4.t (sA.trans sB))
   refine q (.ref p) (.rows es) _ G5 (.tup (.inl ag) (.cons (.str _) (.cons (.tup (.inl (sB _ _ ag)) (des.mono (av (sA.trans sB)))) .nil))) ⟨rfl,by omega,oks⟩ nas ?_
   have nt:=(jK ns).tup
   have h1:es.length*(bm d+2)≤2*(bm d+2):=Nat.mul_le_mul_right _ l2
   exact (jv ((wd "rows" (by decide +kernel)).up (Nat.zero_le _)) nt).mono (by omega) (by rw [bmS]; omega)
 refine ⟨_,rfl,_,rfl,_,rfl,_,_,rfl,rfl,callE G1 kRow fun u1 e1 H4 G34 G4 de1 oe1 ne1 ni1=>?_⟩
 have more:∀ u2 e2 H5,Go tp H4 H5→Go tp H H5→DT K H5 u2 e2.d→Ok R Vs e2 "num"→(b=false→e2.na=true)→bA (8+2*d) (bm d) e2.d→∀ p,H5 p=none→Q (.ref p) (upd H5 p (.tup [.str "more",u1,u2])):=fun u2 e2 H5 G45 G5 de2 oe2 ne2 ni2 p hp=>by
  refine q (.ref p) (.more e1 e2) _ (G5.new hp _) (.tup (.inl ag) (.cons (.str _) (.cons (de1.mono ((G45.tk G4.t).trans (bd hp _))) (.cons (de2.mono (bd hp _)) .nil)))) ⟨rfl,oe1,oe2⟩ (fun z=>by simp only [E.na,ne1 z,ne2 z,Bool.and_self]) ?_
  exact (dJ ((wd "more" (by decide +kernel)).up (Nat.zero_le _)) ni1 ni2).mono (by omega) (by rw [bmS]; omega)
 refine ⟨_,rfl,rfl,_,rfl,?_⟩
 refine aE (fun c3=>cO ⟨_,rfl,_,rfl,_,rfl,_,rfl,_,_,rfl,rfl,callE G4 kNum fun u2 e2 H5 G45 G5 de2 oe2 ne2 ni2=>⟨(by show 3≤sizeLine; decide),more u2 e2 H5 G45 G5 de2 oe2 ne2 ni2⟩⟩) (fun c3=>?_)
 refine ⟨_,rfl,kd,_,_,_,rfl,rfl,G4.x _ _ kt hkd,rfl,_,rfl,?_⟩
 refine aE (fun c4=>⟨_,rfl,_,rfl,_,rfl,_,rfl,_,_,rfl,rfl,callE G4 kNum fun u2 e2 H5 G45 G5 de2 oe2 ne2 ni2=>⟨(by show 3≤sizeLine; decide),more u2 e2 H5 G45 G5 de2 oe2 ne2 ni2⟩⟩) (fun c4=>?_)
 have hb:b=true:=by
  cases b with
  | true=>rfl
  | false=>exact absurd rfl c4
 refine ⟨_,rfl,_,rfl,_,rfl,_,_,rfl,rfl,callE G4 kNum fun u2 e2 H5 G45 G5 de2 oe2 ne2 ni2=>?_⟩
 refine ⟨_,rfl,_,rfl,_,rfl,_,rfl,_,rfl,_,_,rfl,rfl,callE G5 kNum fun u3 e3 H6 G56 G6 de3 oe3 ne3 ni3=>⟨(by show 4≤sizeLine; decide),fun p hp=>?_⟩⟩
 refine q (.ref p) (.put e1 e2 e3) _ (G6.new hp _) (.tup (.inl ag) (.cons (.str _) (.cons (de1.mono (((G45.trans G56).tk G4.t).trans (bd hp _))) (.cons (de2.mono ((G56.tk G5.t).trans (bd hp _))) (.cons (de3.mono (bd hp _)) .nil))))) ⟨rfl,oe1,oe2,oe3⟩ (fun z=>by rw [hb] at z; cases z) ?_
 exact (yd ((wd "put" (by decide +kernel)).up (Nat.zero_le _)) ni1 ni2 ni3).mono (by omega) (by rw [bmS]; omega)
end
open PySem L2
theorem Fg:∀ d:Nat,bm 0≤bm d
 | 0=>Nat.le_refl _
 | d+1=>by have:=Fg d; rw [show bm (d+1)=3*bm d+60 from rfl]; omega
noncomputable def PO (R:List Rec) (k:Str) (p:Fld):Prop:=p.1∈R.map (·.1)∧(p.2,k)∈look R p.1
section
variable {P:Program} {w:World} {K:Frag} {mg:Str→Option Value} {base:Heap} {f g:Addr} {fd gd:FuncData}
theorem kw {k:Nat} {ps:List Str} {sp:Sp} (no:∀ vs H Q E,¬ sp vs H Q E):bj P w K mg base CX0 k f fd ps sp :=
 ⟨fun vs H Q E h=>absurd h (no vs H Q E),fun A outer s H args us vs Q E _ _ _ _ h=>absurd h (no vs H Q E)⟩
noncomputable abbrev sW:List Str:=["_law_tape_here", "_law_kit_here", "_law_kind_here", "_law_deep", "_law_some", "_law_name", "_law_fields", "_law_field", "_law_own"]
noncomputable abbrev mt:List Str:=["_law_record", "_law_kind_here"]
theorem oh:mt.Nodup:=by decide +kernel
noncomputable abbrev mW:List Str:=["_law_field", "_law_own", "_law_kind_here", "_law_name"]
theorem iC:mW.Nodup:=by decide +kernel
theorem cB:aO sW ["_law_tape_here", "_law_kit_here", "_law_kind_here", "_law_deep"] (defScope jH):=⟨rfl,rfl,rfl,by decide +kernel,rfl,by decide +kernel,by decide +kernel⟩
theorem GM {r1 r2 r3:Nat} (h1:r1≤5) (h2:r2≤5) (h3:r3≤5) (T:G0 mg) (F:Fun K "_law_e" "_law_e" jH f fd) (D_l_draw:Cal P w K mg base 1 "_law_draw" dP bY) (D_l_leaf:Cal P w K mg base 5 "_law_leaf" pLf (hU K 4)) (D_l_e:Cal P w K mg base r1 "_law_e" pEx (fun _ _ _ _=>False)) (D_l_num:Cal P w K mg base r2 "_law_num" pTx (fun _ _ _ _=>False)) (D_l_row:Cal P w K mg base r3 "_law_row" pTx (fun _ _ _ _=>False)) :
  bj P w K mg base CX0 6 f fd pEx (spE K 0):=by
 obtain ⟨g_l_draw,gd_l_draw,G_l_draw,b_l_draw,k_l_draw,m_l_draw⟩:=D_l_draw.ex
 obtain ⟨g_l_leaf,gd_l_leaf,G_l_leaf,b_l_leaf,k_l_leaf,m_l_leaf⟩:=D_l_leaf.ex
 obtain ⟨g_l_e,gd_l_e,G_l_e,b_l_e,k_l_e,m_l_e⟩:=D_l_e.ex
 obtain ⟨g_l_num,gd_l_num,G_l_num,b_l_num,k_l_num,m_l_num⟩:=D_l_num.ex
 obtain ⟨g_l_row,gd_l_row,G_l_row,b_l_row,k_l_row,m_l_row⟩:=D_l_row.ex
 refine F.ok cB (fun vs H Q EX h=>?_) (fun cdv A outer s H vs Q EX hr h=>?_)
 ·obtain ⟨tp,kd,k,R,HS,Vs,gv,n,b,rfl,_⟩:=h
  rfl
 obtain ⟨tp,kd,k,R,HS,Vs,gv,n,b,rfl,ht,hkit,env,hk,q⟩:=h
 refine ⟨_,(@am _ _ _ _ _ (@aR _ _ _ _ _ _ _ _ (PW.pt (cw (@az _ _ _ _ _ _ _ _ bg (pv 3) ak (aG _)) (cr (@az _ _ _ _ _ _ _ _ bg (@aq _ _ _ _ _ _ _ _ _ _ _ _ _ _ _ _ G_l_draw (hr.mono (by omega)) rfl m_l_draw k_l_draw b_l_draw .nil aC (@ad _ _ _ _ _ (pv 0) (@ad _ _ _ _ _ ak ah (ac rfl)) (ac rfl)) (by decide) (ac rfl) (aj rfl)) ak (aG _))))) (@ap _ _ _ (@ay _ _ _ _ (@aq _ _ _ _ _ _ _ _ _ _ _ _ _ _ _ _ G_l_leaf (hr.mono (by omega)) rfl m_l_leaf k_l_leaf b_l_leaf .nil aC (@ad _ _ _ _ _ (pv 0) (@ad _ _ _ _ _ (pv 1) (@ad _ _ _ _ _ (pv 2) ah (ac rfl)) (ac rfl)) (ac rfl)) (by decide) (ac rfl) (aj rfl)))) aF) (@am _ _ _ _ _ (@aM _ _ 4 _ _ _ _ cB.nd rfl (Or.inl rfl) (@bo _ _ _ _ ah) (aD rfl) (.inr rfl)) (@am _ _ _ _ _ (@cg _ _ _ _ _ _ _ _ PassesOwn.never rfl (bJ (@aA _ _ _ _ _ _ _ cn (pv 1) au (fun _ _=>rfl))) (cZ rfl (aW (aH (i:=5) cB.nd rfl (Or.inr rfl)) (aW (aH (i:=6) cB.nd rfl (Or.inl rfl)) bS))) (@ap _ _ _ (@cM _ _ _ _ (@fG _ _ _ _ _ _ _ _ _ _ _ _ PySem.F.plainAttrs_list PySem.F.slot_list_extend PySem.F.type_list_extend dA (pv 4) (@ad _ _ _ _ _ (bH (N':=mW) (ρ:=[none,none,some 2,some 5]) (m:=2) (bI.of (fs:=defScope jH) (N:=sW) rfl rfl (by decide +kernel)) rfl (bJ (pv 6)) (fun _ _ _ _=>(ir (n:=2) (K:=K) rfl rfl (aW (aH (i:=0) iC rfl (Or.inl rfl)) (aW (aH (i:=1) iC rfl (Or.inl rfl)) bS)))) (fun _ _ _ _=>(gq (az bg (pv 1) (pv 2) (aG _)))) (fun _ _ _ _=>(aT (ad (pv 3) (ad (pv 0) ah))))) ah (ac rfl)) rfl (du rfl rfl) rfl (ac rfl) (aj rfl)) (aD rfl))) (fun _=>rfl)) (@am _ _ _ _ _ (@aR _ _ _ _ _ _ _ _ (PW.pt (gl (@az _ _ _ _ _ _ _ _ (fE hr.units0) (pv 4) (@bo _ _ _ _ ah) (aG _)) (eW (@az _ _ _ _ _ _ _ _ bg (@aq _ _ _ _ _ _ _ _ _ _ _ _ _ _ _ _ G_l_draw (hr.mono (by omega)) rfl m_l_draw k_l_draw b_l_draw .nil aC (@ad _ _ _ _ _ (pv 0) (@ad _ _ _ _ _ ak ah (ac rfl)) (ac rfl)) (by decide) (ac rfl) (aj rfl)) ak (aG _))))) (@am _ _ _ _ _ (@gn _ _ _ _ _ _ (@aA _ _ _ _ _ _ _ bf (pv 4) (@aq _ _ _ _ _ _ _ _ _ _ _ _ _ _ _ _ G_l_draw (hr.mono (by omega)) rfl m_l_draw k_l_draw b_l_draw .nil aC (@ad _ _ _ _ _ (pv 0) (@ad _ _ _ _ _ (@aK _ _ _ _ _ _ _ _ _ aU rfl T.len cv (@ad _ _ _ _ _ (pv 4) ah (ac rfl)) (by decide) (by decide) (ac rfl) (aj rfl)) ah (ac rfl)) (ac rfl)) (by decide) (ac rfl) (aj rfl)) (fun _ _=>rfl)) (cZ rfl (aW (aH (i:=5) cB.nd rfl (Or.inr rfl)) (aW (aH (i:=7) cB.nd rfl (Or.inl rfl)) bS))) rfl rfl rfl) (@ap _ _ _ (@ay _ _ _ _ (@aT _ _ _ _ _ (@ad _ _ _ _ _ au (@ad _ _ _ _ _ (@aq _ _ _ _ _ _ _ _ _ _ _ _ _ _ _ _ G_l_e (hr.mono (by omega)) rfl m_l_e k_l_e b_l_e .nil aC (@ad _ _ _ _ _ (pv 0) (@ad _ _ _ _ _ (pv 1) (@ad _ _ _ _ _ (pv 5) (@ad _ _ _ _ _ (@ba _ _ _ _ _ _ _ _ bM (pv 3) ak) ah (ac rfl)) (ac rfl)) (ac rfl)) (ac rfl)) (by decide) (ac rfl) (aj rfl)) (@ad _ _ _ _ _ (pv 7) ah (ac rfl)) (ac rfl)) (ac rfl)))))) aF) (@am _ _ _ _ _ (@aR _ _ _ _ _ _ _ _ (@az _ _ _ _ _ _ _ _ bg (pv 2) au (aG _)) (@ap _ _ _ (@ay _ _ _ _ (@aq _ _ _ _ _ _ _ _ _ _ _ _ _ _ _ _ G_l_num (hr.mono (by omega)) rfl m_l_num k_l_num b_l_num .nil aC (@ad _ _ _ _ _ (pv 0) (@ad _ _ _ _ _ (pv 1) (@ad _ _ _ _ _ (pv 3) ah (ac rfl)) (ac rfl)) (ac rfl)) (by decide) (ac rfl) (aj rfl)))) aF) (@am _ _ _ _ _ (@aR _ _ _ _ _ _ _ _ (@az _ _ _ _ _ _ _ _ bg (pv 2) au (aG _)) (@ap _ _ _ (@ay _ _ _ _ (@aq _ _ _ _ _ _ _ _ _ _ _ _ _ _ _ _ G_l_row (hr.mono (by omega)) rfl m_l_row k_l_row b_l_row .nil aC (@ad _ _ _ _ _ (pv 0) (@ad _ _ _ _ _ (pv 1) (@ad _ _ _ _ _ (pv 3) ah (ac rfl)) (ac rfl)) (ac rfl)) (by decide) (ac rfl) (aj rfl)))) aF) (@am _ _ _ _ _ (dW (i:=6) (N':=mt) (ρ:=[none,some 2]) (m:=1) (bI.of (fs:=defScope jH) (N:=sW) rfl rfl (by decide +kernel)) cB.nd rfl (Or.inl rfl) rfl (bJ (aA cn (pv 1) au (fun _ _=>rfl))) (fun _ _ _ _=>(aH (i:=0) oh rfl (Or.inl rfl))) (fun _ _ _ _=>(gq (az bg (aA (cx (K:=K) rfl) (pv 0) ak (fun _ _=>rfl)) (pv 1) (aG _)))) (fun _ _ _ _=>(aA (cx (K:=K) rfl) (pv 0) ak (fun _ _=>rfl)))) (@am _ _ _ _ _ (@aR _ _ _ _ _ _ _ _ (@az _ _ _ _ _ _ _ _ (rT hr.units0) (pv 6) (@bo _ _ _ _ ah) (aG _)) (@ap _ _ _ (@ay _ _ _ _ (@aq _ _ _ _ _ _ _ _ _ _ _ _ _ _ _ _ G_l_leaf (hr.mono (by omega)) rfl m_l_leaf k_l_leaf b_l_leaf .nil aC (@ad _ _ _ _ _ (pv 0) (@ad _ _ _ _ _ (pv 1) (@ad _ _ _ _ _ (pv 2) ah (ac rfl)) (ac rfl)) (ac rfl)) (by decide) (ac rfl) (aj rfl)))) aF) (@am _ _ _ _ _ (@gn _ _ _ _ _ _ (@aA _ _ _ _ _ _ _ aI (@aA _ _ _ _ _ _ _ bf (pv 6) ak (fun _ _=>rfl)) (@aq _ _ _ _ _ _ _ _ _ _ _ _ _ _ _ _ G_l_draw (hr.mono (by omega)) rfl m_l_draw k_l_draw b_l_draw .nil aC (@ad _ _ _ _ _ (pv 0) (@ad _ _ _ _ _ (@aK _ _ _ _ _ _ _ _ _ aU rfl T.len cv (@ad _ _ _ _ _ (@aA _ _ _ _ _ _ _ bf (pv 6) ak (fun _ _=>rfl)) ah (ac rfl)) (by decide) (by decide) (ac rfl) (aj rfl)) ah (ac rfl)) (ac rfl)) (by decide) (ac rfl) (aj rfl)) (fun _ _=>rfl)) (cZ rfl (aW (aH (i:=7) cB.nd rfl (Or.inl rfl)) (aW (aH (i:=8) cB.nd rfl (Or.inl rfl)) bS))) rfl rfl rfl) (@ap _ _ _ (@ay _ _ _ _ (@aT _ _ _ _ _ (@ad _ _ _ _ _ au (@ad _ _ _ _ _ (@aq _ _ _ _ _ _ _ _ _ _ _ _ _ _ _ _ G_l_e (hr.mono (by omega)) rfl m_l_e k_l_e b_l_e .nil aC (@ad _ _ _ _ _ (pv 0) (@ad _ _ _ _ _ (pv 1) (@ad _ _ _ _ _ (pv 2) (@ad _ _ _ _ _ (@ba _ _ _ _ _ _ _ _ bM (pv 3) ak) ah (ac rfl)) (ac rfl)) (ac rfl)) (ac rfl)) (by decide) (ac rfl) (aj rfl)) (@ad _ _ _ _ _ (pv 7) (@ad _ _ _ _ _ (@aq _ _ _ _ _ _ _ _ _ _ _ _ _ _ _ _ G_l_e (hr.mono (by omega)) rfl m_l_e k_l_e b_l_e .nil aC (@ad _ _ _ _ _ (pv 0) (@ad _ _ _ _ _ (pv 1) (@ad _ _ _ _ _ (pv 8) (@ad _ _ _ _ _ (@ba _ _ _ _ _ _ _ _ bM (pv 3) ak) ah (ac rfl)) (ac rfl)) (ac rfl)) (ac rfl)) (by decide) (ac rfl) (aj rfl)) ah (ac rfl)) (ac rfl)) (ac rfl)) (ac rfl)))))))))))))),?_⟩
 refine ⟨_,rfl,rfl,_,rfl,?_⟩
 refine aE (fun c1=>cO ⟨_,rfl,_,rfl,_,rfl,tp,kd,k,R,HS,Vs,gv,n,b,rfl,ht,hkit,env,pT env.g env.rl k hk,fun u e H' G a1 a2 a3 a4 _ _=>q u e H' G a1 a2 (fun _=>a3) a4⟩) (fun c1=>absurd (by decide) c1)
theorem Ho {d:Nat} (T:G0 mg) (F:Fun K "_law_e" "_law_e" jH f fd) (D_l_draw:Cal P w K mg base 1 "_law_draw" dP bY) (D_l_leaf:Cal P w K mg base 5 "_law_leaf" pLf (hU K 4)) (D_l_e:Cal P w K mg base (2*d+6) "_law_e" pEx (spE K d)) (D_l_num:Cal P w K mg base (2*d+7) "_law_num" pTx (spT K "num" d)) (D_l_row:Cal P w K mg base (2*d+7) "_law_row" pTx (spT K "row" d)) :
  bj P w K mg base CX0 (2*(d+1)+6) f fd pEx (spE K (d+1)):=by
 obtain ⟨g_l_draw,gd_l_draw,G_l_draw,b_l_draw,k_l_draw,m_l_draw⟩:=D_l_draw.ex
 obtain ⟨g_l_leaf,gd_l_leaf,G_l_leaf,b_l_leaf,k_l_leaf,m_l_leaf⟩:=D_l_leaf.ex
 obtain ⟨g_l_e,gd_l_e,G_l_e,b_l_e,k_l_e,m_l_e⟩:=D_l_e.ex
 obtain ⟨g_l_num,gd_l_num,G_l_num,b_l_num,k_l_num,m_l_num⟩:=D_l_num.ex
 obtain ⟨g_l_row,gd_l_row,G_l_row,b_l_row,k_l_row,m_l_row⟩:=D_l_row.ex
 refine F.ok cB (fun vs H Q EX h=>?_) (fun cdv A outer s H vs Q EX hr h=>?_)
 ·obtain ⟨tp,kd,k,R,HS,Vs,gv,n,b,rfl,_⟩:=h
  rfl
 obtain ⟨tp,kd,k,R,HS,Vs,gv,n,b,rfl,ht,hkit,env,hk,q⟩:=h
 have hd1:(((d+1:Nat):Int) - 1)=(d:Int):=by omega
 have hd2:((d+1:Nat):Int)=(d:Int)+1:=by omega
 have callE:∀ {H1:Hp} {k:Str} {Q':VK},Go tp H H1→k∈KS R→(∀ u e H2,Go tp H1 H2→Go tp H H2→DT K H2 u e.d→Ok R Vs e k→(b=false→e.na=true)→bA (8+2*d) (bm d) e.d→Q' u H2)→spE K d [.ref tp,.ref kd,.str k,.int (((d+1:Nat):Int) - 1)] H1 Q' E0 :=
  fun {H1 k Q'} G1 hk q'=>⟨tp,kd,k,R,HS,Vs,gv,n,b,by rw [hd1],G1.t,hkit.go ht G1,env,hk,fun u e H2 G2 a1 a2 a3 a4=>q' u e H2 G2 (G1.trans G2) a1 a2 a3 a4⟩
 have leaf:∀ {H1:Hp},Go tp H H1→hU K 4 [.ref tp,.ref kd,.str k] H1 Q E0:=fun {H1} G1 =>
  ⟨tp,kd,k,R,HS,Vs,gv,n,b,rfl,G1.t,hkit.go ht G1,env,pT env.g env.rl k hk,fun u e H' G a1 a2 a3 a4 _ _=>q u e H' (G1.trans G) a1 a2 (fun _=>a3) (a4.mono (by omega) (Fg (d+1)))⟩
 refine ⟨_,(@am _ _ _ _ _ (@aR _ _ _ _ _ _ _ _ (PW.pt (cw (@az _ _ _ _ _ _ _ _ bg (pv 3) ak (aG _)) (cr (@az _ _ _ _ _ _ _ _ bg (@aq _ _ _ _ _ _ _ _ _ _ _ _ _ _ _ _ G_l_draw (hr.mono (by omega)) rfl m_l_draw k_l_draw b_l_draw .nil aC (@ad _ _ _ _ _ (pv 0) (@ad _ _ _ _ _ ak ah (ac rfl)) (ac rfl)) (by decide) (ac rfl) (aj rfl)) ak (aG _))))) (@ap _ _ _ (@ay _ _ _ _ (@aq _ _ _ _ _ _ _ _ _ _ _ _ _ _ _ _ G_l_leaf (hr.mono (by omega)) rfl m_l_leaf k_l_leaf b_l_leaf .nil aC (@ad _ _ _ _ _ (pv 0) (@ad _ _ _ _ _ (pv 1) (@ad _ _ _ _ _ (pv 2) ah (ac rfl)) (ac rfl)) (ac rfl)) (by decide) (ac rfl) (aj rfl)))) aF) (@am _ _ _ _ _ (@aM _ _ 4 _ _ _ _ cB.nd rfl (Or.inl rfl) (@bo _ _ _ _ ah) (aD rfl) (.inr rfl)) (@am _ _ _ _ _ (@cg _ _ _ _ _ _ _ _ PassesOwn.never rfl (bJ (@aA _ _ _ _ _ _ _ cn (pv 1) au (fun _ _=>rfl))) (cZ rfl (aW (aH (i:=5) cB.nd rfl (Or.inr rfl)) (aW (aH (i:=6) cB.nd rfl (Or.inl rfl)) bS))) (@ap _ _ _ (@cM _ _ _ _ (@fG _ _ _ _ _ _ _ _ _ _ _ _ PySem.F.plainAttrs_list PySem.F.slot_list_extend PySem.F.type_list_extend dA (pv 4) (@ad _ _ _ _ _ (bH (N':=mW) (ρ:=[none,none,some 2,some 5]) (m:=2) (bI.of (fs:=defScope jH) (N:=sW) rfl rfl (by decide +kernel)) rfl (bJ (pv 6)) (fun _ _ _ _=>(ir (n:=2) (K:=K) rfl rfl (aW (aH (i:=0) iC rfl (Or.inl rfl)) (aW (aH (i:=1) iC rfl (Or.inl rfl)) bS)))) (fun _ _ _ _=>(gq (az bg (pv 1) (pv 2) (aG _)))) (fun _ _ _ _=>(aT (ad (pv 3) (ad (pv 0) ah))))) ah (ac rfl)) rfl (du rfl rfl) rfl (ac rfl) (aj rfl)) (aD rfl))) (fun _=>rfl)) (@am _ _ _ _ _ (@aR _ _ _ _ _ _ _ _ (PW.pt (gl (@az _ _ _ _ _ _ _ _ (fE hr.units0) (pv 4) (@bo _ _ _ _ ah) (aG _)) (eW (@az _ _ _ _ _ _ _ _ bg (@aq _ _ _ _ _ _ _ _ _ _ _ _ _ _ _ _ G_l_draw (hr.mono (by omega)) rfl m_l_draw k_l_draw b_l_draw .nil aC (@ad _ _ _ _ _ (pv 0) (@ad _ _ _ _ _ ak ah (ac rfl)) (ac rfl)) (by decide) (ac rfl) (aj rfl)) ak (aG _))))) (@am _ _ _ _ _ (@gn _ _ _ _ _ _ (@aA _ _ _ _ _ _ _ bf (pv 4) (@aq _ _ _ _ _ _ _ _ _ _ _ _ _ _ _ _ G_l_draw (hr.mono (by omega)) rfl m_l_draw k_l_draw b_l_draw .nil aC (@ad _ _ _ _ _ (pv 0) (@ad _ _ _ _ _ (@aK _ _ _ _ _ _ _ _ _ aU rfl T.len cv (@ad _ _ _ _ _ (pv 4) ah (ac rfl)) (by decide) (by decide) (ac rfl) (aj rfl)) ah (ac rfl)) (ac rfl)) (by decide) (ac rfl) (aj rfl)) (fun _ _=>rfl)) (cZ rfl (aW (aH (i:=5) cB.nd rfl (Or.inr rfl)) (aW (aH (i:=7) cB.nd rfl (Or.inl rfl)) bS))) rfl rfl rfl) (@ap _ _ _ (@ay _ _ _ _ (@aT _ _ _ _ _ (@ad _ _ _ _ _ au (@ad _ _ _ _ _ (@aq _ _ _ _ _ _ _ _ _ _ _ _ _ _ _ _ G_l_e (hr.mono (by omega)) rfl m_l_e k_l_e b_l_e .nil aC (@ad _ _ _ _ _ (pv 0) (@ad _ _ _ _ _ (pv 1) (@ad _ _ _ _ _ (pv 5) (@ad _ _ _ _ _ (@ba _ _ _ _ _ _ _ _ bM (pv 3) ak) ah (ac rfl)) (ac rfl)) (ac rfl)) (ac rfl)) (by decide) (ac rfl) (aj rfl)) (@ad _ _ _ _ _ (pv 7) ah (ac rfl)) (ac rfl)) (ac rfl)))))) aF) (@am _ _ _ _ _ (@aR _ _ _ _ _ _ _ _ (@az _ _ _ _ _ _ _ _ bg (pv 2) au (aG _)) (@ap _ _ _ (@ay _ _ _ _ (@aq _ _ _ _ _ _ _ _ _ _ _ _ _ _ _ _ G_l_num (hr.mono (by omega)) rfl m_l_num k_l_num b_l_num .nil aC (@ad _ _ _ _ _ (pv 0) (@ad _ _ _ _ _ (pv 1) (@ad _ _ _ _ _ (pv 3) ah (ac rfl)) (ac rfl)) (ac rfl)) (by decide) (ac rfl) (aj rfl)))) aF) (@am _ _ _ _ _ (@aR _ _ _ _ _ _ _ _ (@az _ _ _ _ _ _ _ _ bg (pv 2) au (aG _)) (@ap _ _ _ (@ay _ _ _ _ (@aq _ _ _ _ _ _ _ _ _ _ _ _ _ _ _ _ G_l_row (hr.mono (by omega)) rfl m_l_row k_l_row b_l_row .nil aC (@ad _ _ _ _ _ (pv 0) (@ad _ _ _ _ _ (pv 1) (@ad _ _ _ _ _ (pv 3) ah (ac rfl)) (ac rfl)) (ac rfl)) (by decide) (ac rfl) (aj rfl)))) aF) (@am _ _ _ _ _ (dW (i:=6) (N':=mt) (ρ:=[none,some 2]) (m:=1) (bI.of (fs:=defScope jH) (N:=sW) rfl rfl (by decide +kernel)) cB.nd rfl (Or.inl rfl) rfl (bJ (aA cn (pv 1) au (fun _ _=>rfl))) (fun _ _ _ _=>(aH (i:=0) oh rfl (Or.inl rfl))) (fun _ _ _ _=>(gq (az bg (aA (cx (K:=K) rfl) (pv 0) ak (fun _ _=>rfl)) (pv 1) (aG _)))) (fun _ _ _ _=>(aA (cx (K:=K) rfl) (pv 0) ak (fun _ _=>rfl)))) (@am _ _ _ _ _ (@aR _ _ _ _ _ _ _ _ (@az _ _ _ _ _ _ _ _ (rT hr.units0) (pv 6) (@bo _ _ _ _ ah) (aG _)) (@ap _ _ _ (@ay _ _ _ _ (@aq _ _ _ _ _ _ _ _ _ _ _ _ _ _ _ _ G_l_leaf (hr.mono (by omega)) rfl m_l_leaf k_l_leaf b_l_leaf .nil aC (@ad _ _ _ _ _ (pv 0) (@ad _ _ _ _ _ (pv 1) (@ad _ _ _ _ _ (pv 2) ah (ac rfl)) (ac rfl)) (ac rfl)) (by decide) (ac rfl) (aj rfl)))) aF) (@am _ _ _ _ _ (@gn _ _ _ _ _ _ (@aA _ _ _ _ _ _ _ aI (@aA _ _ _ _ _ _ _ bf (pv 6) ak (fun _ _=>rfl)) (@aq _ _ _ _ _ _ _ _ _ _ _ _ _ _ _ _ G_l_draw (hr.mono (by omega)) rfl m_l_draw k_l_draw b_l_draw .nil aC (@ad _ _ _ _ _ (pv 0) (@ad _ _ _ _ _ (@aK _ _ _ _ _ _ _ _ _ aU rfl T.len cv (@ad _ _ _ _ _ (@aA _ _ _ _ _ _ _ bf (pv 6) ak (fun _ _=>rfl)) ah (ac rfl)) (by decide) (by decide) (ac rfl) (aj rfl)) ah (ac rfl)) (ac rfl)) (by decide) (ac rfl) (aj rfl)) (fun _ _=>rfl)) (cZ rfl (aW (aH (i:=7) cB.nd rfl (Or.inl rfl)) (aW (aH (i:=8) cB.nd rfl (Or.inl rfl)) bS))) rfl rfl rfl) (@ap _ _ _ (@ay _ _ _ _ (@aT _ _ _ _ _ (@ad _ _ _ _ _ au (@ad _ _ _ _ _ (@aq _ _ _ _ _ _ _ _ _ _ _ _ _ _ _ _ G_l_e (hr.mono (by omega)) rfl m_l_e k_l_e b_l_e .nil aC (@ad _ _ _ _ _ (pv 0) (@ad _ _ _ _ _ (pv 1) (@ad _ _ _ _ _ (pv 2) (@ad _ _ _ _ _ (@ba _ _ _ _ _ _ _ _ bM (pv 3) ak) ah (ac rfl)) (ac rfl)) (ac rfl)) (ac rfl)) (by decide) (ac rfl) (aj rfl)) (@ad _ _ _ _ _ (pv 7) (@ad _ _ _ _ _ (@aq _ _ _ _ _ _ _ _ _ _ _ _ _ _ _ _ G_l_e (hr.mono (by omega)) rfl m_l_e k_l_e b_l_e .nil aC (@ad _ _ _ _ _ (pv 0) (@ad _ _ _ _ _ (pv 1) (@ad _ _ _ _ _ (pv 8) (@ad _ _ _ _ _ (@ba _ _ _ _ _ _ _ _ bM (pv 3) ak) ah (ac rfl)) (ac rfl)) (ac rfl)) (ac rfl)) (by decide) (ac rfl) (aj rfl)) ah (ac rfl)) (ac rfl)) (ac rfl)) (ac rfl)))))))))))))),?_⟩
 have bp:=rE d
 have kt:=hkit.ne ht
 obtain ⟨v,hl,vl,hkd,KD⟩:=id hkit
 obtain ⟨bR,rxs,rfl,hbR,rs⟩:=KD.rs
 have lrx:rxs.length≤3:=by rw [Paired.length rs]; exact env.rl
 refine ⟨_,rfl,rfl,_,rfl,?_⟩
 refine aE (fun c1=>absurd (V.int.inj (of_decide_eq_true c1)) (by omega)) (fun c1=>?_)
 refine ⟨_,rfl,tp,3,rfl,ht,by decide,by decide,fun v1 H1 _ _ x1 t1 y1=>⟨rfl,_,rfl,?_⟩⟩
 have G1:Go tp H H1:=⟨x1,t1,y1⟩
 refine aE (fun c2=>⟨_,rfl,_,rfl,_,rfl,leaf G1⟩) (fun c2=>?_)
 refine ⟨(by show 0≤sizeLine; decide),fun sl hsl=>?_⟩
 have G2:=G1.new hsl (.lst [])
 have hst:sl≠tp:=t1.nt hsl
 have hs0:H sl=none:=G1.free ht hsl
 have hkd2:=G2.x _ _ kt hkd
 have hbR2:=G2.tk ht _ _ hbR
 have es0:(upd H1 sl (.lst [])) sl=some (.lst []):=ag
 have hks:kd≠sl:=aJ hkd hs0
 refine ⟨_,rfl,kd,_,_,_,rfl,rfl,hkd2,rfl,bR,rfl,⟨rxs,SqT.of hbR2⟩,eU (xs:=rxs) (fun i σ H'=>∃ m5 m6 ys fs,σ=[some (.ref tp),some (.ref kd),some (.str k),some (.int ((d+1:Nat):Int)),some (.ref sl),m5,m6,none,none]∧Ext sl (upd H1 sl (.lst [])) H'∧H' sl=some (.lst ys)∧Paired (cy H') ys fs∧(∀ p∈fs,PO R k p)∧ys.length≤3*i)
   ⟨none,none,[],[],rfl,Ext.refl _ _,es0,.nil,(fun _ z=>nomatch z),by simp⟩ (fun i σ H' _ p=>?_) (fun i x σ H' hx p=>?_) (fun σ H' p=>?_)⟩
 ·obtain ⟨_,_,_,_,_,x3,_⟩:=p
  exact SqT.of (qK x3 es0 _ _ hbR2)
 ·obtain ⟨m5,m6,ys,fs,rfl,x3,hys,pfs,ofs,lys⟩:=p
  have k3:=(G2.tk ht).trans (qK x3 es0)
  obtain ⟨r,hr',hra⟩:=aY rs i x hx
  obtain ⟨c,y,rfl,hc,b2,fx,rfl,hb2,ffs⟩:=hra.mono k3
  have rm:=List.mem_of_getElem? hr'
  have i3:i<3:=by have:=(List.getElem?_eq_some_iff.mp hr').1; have:=env.rl; omega
  have lfx:fx.length≤3:=by rw [Paired.length ffs]; exact (dZ env.g rm).2.1.1.2
  refine ⟨c,_,rfl,SqT.of hc,rfl,_,_,rfl,_,_,rfl,rfl,?_⟩
  refine ⟨_,rfl,.inl ⟨rfl,_,SqL.of hys⟩,_,rfl,b2,rfl,⟨fx,SqT.of hb2⟩,bO (xs:=fx) fx.length rfl (by omega) (fun j acc H2=>aZ H' H2∧∃ gs:List Fld,Paired (cy H2) acc gs∧∀ p∈gs,p.1=r.1∧(p.2,k)∈r.2) ⟨aZ.refl _,[],.nil,fun _ z=>nomatch z⟩ (fun j acc H2 p=>SqT.of (p.1 _ _ hb2)) (fun j acc H2 x hj la hx p=>?_) (fun acc H2 p la D hD=>?_)⟩
  ·obtain ⟨g2,gs,pgs,ogs⟩:=p
   obtain ⟨fl,hfl,cf,rfl,hcf⟩:=aY ffs j x hx
   refine ⟨cf,_,rfl,SqT.of (g2 _ _ hcf),rfl,_,_,rfl,_,_,rfl,rfl,⟨rfl,rfl⟩,⟨_,rfl,_,rfl,rfl,_,rfl,?_⟩⟩
   refine aE (fun d1=>?_) (fun d1=>nxF hj la ⟨g2,gs,pgs,ogs⟩)
   refine ⟨_,rfl,_,rfl,(by show 2≤sizeLine; decide),fun pp hpp=>nxT (by omega) hj la ⟨g2.trans (ao hpp _),gs++[(r.1,fl.1)],Paired.snoc (Paired.mapP pgs fun _ _ z=>z.mono (bd hpp _)) ⟨pp,rfl,ag⟩,fun z hz=>?_⟩⟩
   rcases List.mem_append.mp hz with hz | hz
   ·exact ogs z hz
   ·rw [List.mem_singleton.mp hz]
    refine ⟨rfl,?_⟩
    have:=List.mem_of_getElem? hfl
    rw [← eqS d1]
    exact this
  ·obtain ⟨g2,gs,pgs,ogs⟩:=p
   have gD:=ao hD (.lst acc)
   have hy2:=(g2.trans gD) _ _ hys
   have kL:=cQ hy2 (.lst (ys++acc))
   refine ⟨sl,D,ys,acc,rfl,rfl,hy2,ag,Nat.le_of_lt (bU (by omega)),_,_,ys++acc,fs++gs,rfl,(x3.trans (aZ.ext (g2.trans gD))).trans Ext.upd,ag,?_,fun p hp=>?_,by rw [List.length_append]; omega⟩
   ·exact Paired.app' (Paired.mapP pfs fun _ _ z=>z.mono ((av (g2.trans gD)).trans kL)) (Paired.mapP pgs fun _ _ z=>z.mono ((av gD).trans kL))
   ·rcases List.mem_append.mp hp with hp | hp
    ·exact ofs p hp
    ·obtain ⟨e1,e2⟩:=ogs p hp
     refine ⟨by rw [e1]; exact List.mem_map.mpr ⟨r,rm,rfl⟩,?_⟩
     rw [e1,iB env.nd r rm]
     exact e2
 obtain ⟨m5,m6,ys,fs,rfl,x3,hys,pfs,ofs,lys⟩:=p
 have G3:Go tp H H':=by
  obtain ⟨sc,kk,rr,ns,a1,a2⟩:=id G2.t
  have hsc:sc≠sl:=fun z=>by
   obtain ⟨sc',k',r',ns',b1,b2⟩:=id ht
   obtain ⟨k2,r2,b3⟩:=G2.y sc' k' r' b1
   rw [b3] at a1
   cases a1
   exact aJ b2 hs0 z
  refine ⟨fun bb o hn hb=>x3 _ _ (aJ hb hs0) (G2.x _ _ hn hb),⟨sc,kk,rr,ns,x3 _ _ hst.symm a1,x3 _ _ hsc a2⟩,fun sc2 k2 r2 e2=>?_⟩
  obtain ⟨k3,r3,e3⟩:=G2.y sc2 k2 r2 e2
  exact ⟨k3,r3,x3 _ _ hst.symm e3⟩
 have lys':ys.length≤9:=by omega
 dsimp only
 refine jA (fun σ H4=>∃ m5 m7,σ=[some (.ref tp),some (.ref kd),some (.str k),some (.int ((d+1:Nat):Int)),some (.ref sl),m5,m6,m7,none]∧Go tp H H4) (fun NX hNX=>?_) (fun σ H4 jj=>?_)
 ·refine ⟨_,rfl,(by show 0≤sizeLine; decide),fun pe hpe=>?_⟩
  have G4:=G3.new hpe (.lst [])
  have hy4:=ao hpe (.lst []) _ _ hys
  refine ⟨sl,pe,_,rfl,rfl,SqL.of hy4,SqL.of ag,_,rfl,?_⟩
  refine aE (fun c3=>?_) (fun c3=>hNX _ _ ⟨_,_,rfl,G4⟩)
  have yp:0<ys.length:=by
   cases ys with
   | nil=>exact absurd c3 (by decide)
   | cons _ _=>simp
  refine ⟨_,rfl,tp,4,rfl,G4.t,by decide,by decide,fun v5 H5 _ _ x5 t5 y5=>⟨rfl,_,rfl,?_⟩⟩
  have G5:=G4.trans ⟨x5,t5,y5⟩
  refine aE (fun c4=>?_) (fun c4=>hNX _ _ ⟨_,_,rfl,G5⟩)
  have hy5:=x5 _ _ hst hy4
  refine ⟨_,rfl,_,rfl,_,rfl,sl,_,rfl,.inl (SqL.of hy5),tp,_,rfl,t5,by omega,by omega,fun v6 H6 f0 f1 x6 t6 y6=>?_⟩
  have G6:=G5.trans ⟨x6,t6,y6⟩
  obtain ⟨u,hu,hat3,hat4⟩:=dg (xs:=ys) (i:=v6) f0 f1
  obtain ⟨pr,hpr,hpa⟩:=aY pfs _ u hat3
  have k6:Tk H' H6:=(bd hpe _).trans (fun bb zs e=>x6 _ _ (t5.ne (x5 _ _ (G4.t.ne e) e)) (x5 _ _ (G4.t.ne e) e))
  obtain ⟨cp,rfl,hcp⟩:=hpa.mono k6
  obtain ⟨o1,o2⟩:=ofs pr (List.mem_of_getElem? hpr)
  refine ⟨sl,_,_,_,rfl,rfl,SqL.of (x6 _ _ hst hy5),hat4,cp,_,rfl,SqT.of hcp,rfl,_,_,rfl,_,_,rfl,rfl,?_⟩
  refine ⟨_,rfl,_,rfl,_,rfl,_,rfl,_,_,rfl,rfl,callE G6 (List.mem_append_right _ o1) fun u1 e1 H7 G67 G7 de1 oe1 ne1 ni1=>⟨_,rfl,(by show 3≤sizeLine; decide),fun p hp=>?_⟩⟩
  obtain ⟨r0,hr0,er0⟩:=List.mem_map.mp o1
  have pP:pr.2∈cX:=by
   have e2:=o2
   rw [← er0,iB env.nd r0 hr0] at e2
   exact (dZ env.g hr0).2.1.2.2.1 _ e2
  refine q (.ref p) (.of_ e1 pr.2) _ (G7.new hp _) (.tup (.inl ag) (.cons (.str _) (.cons (de1.mono (bd hp _)) (.cons (.str _) .nil)))) ⟨pr.1,oe1,o2⟩ ne1 ?_
  exact (dJ ((wd "of" (by decide +kernel)).up (Nat.zero_le _)) ni1 ((nW (cH pP)).up (Nat.zero_le _))).mono (by omega) (by rw [bmS]; omega)
 obtain ⟨m5',m7,rfl,G4⟩:=jj
 refine ⟨_,rfl,rfl,_,rfl,?_⟩
 refine aE (fun c3=>?_) (fun c3=>?_)
 ·refine ⟨_,rfl,_,rfl,_,rfl,tp,kd,R,HS,Vs,gv,n,b,(by rw [hd2]; rfl),G4.t,hkit.go ht G4,env,fun u e H5 G a1 a2 a3 a4=>q u e H5 (G4.trans G) a1 (by rw [eqS c3]; exact a2) a3 a4⟩
 refine ⟨_,rfl,rfl,_,rfl,?_⟩
 refine aE (fun c4=>?_) (fun c4=>?_)
 ·refine ⟨_,rfl,_,rfl,_,rfl,tp,kd,R,HS,Vs,gv,n,b,(by rw [hd2]; rfl),G4.t,hkit.go ht G4,env,fun u e H5 G a1 a2 a3 a4=>q u e H5 (G4.trans G) a1 (by rw [eqS c4]; exact a2) a3 a4⟩
 have hb4:=G4.tk ht _ _ hbR
 refine ⟨_,rfl,kd,_,_,_,rfl,rfl,G4.x _ _ kt hkd,rfl,bR,rfl,⟨rxs,SqT.of hb4⟩,bO (xs:=rxs) rxs.length rfl (by omega) (fun i acc H3=>H3=H4∧Paired (cV H4) acc (((R.take i).filter fun r=>decide (r.1=k)).map (·.2))) ⟨rfl,.nil⟩ (fun i acc H3 p=>by rw [p.1]; exact SqT.of hb4) (fun i acc H3 x hi la hx p=>?_) (fun acc H3 p la D2 hD2=>?_)⟩
 ·obtain ⟨rfl,pr⟩:=p
  obtain ⟨rc,hrc,hra⟩:=aY rs i x hx
  obtain ⟨cc,yy,rfl,hcc,hff⟩:=hra.mono (G4.tk ht)
  refine ⟨⟨rfl,rfl⟩,⟨_,rfl,cc,_,_,_,rfl,rfl,SqT.of hcc,rfl,_,rfl,rfl,_,rfl,?_⟩⟩
  have step:((R.take (i+1)).filter fun r=>decide (r.1=k)).map (·.2)=((R.take i).filter fun r=>decide (r.1=k)).map (·.2)++(if rc.1=k then [rc.2] else []):=by
   rw [List.take_add_one,hrc,List.filter_append,List.map_append]
   by_cases e:rc.1=k
   ·simp [e]
   ·simp [e]
  refine aE (fun d1=>?_) (fun d1=>?_)
  ·refine ⟨_,rfl,cc,_,_,_,rfl,rfl,SqT.of hcc,rfl,nxT (by omega) hi la ⟨rfl,?_⟩⟩
   rw [step,if_pos (eqS d1)]
   exact Paired.snoc pr hff
  ·refine nxF hi la ⟨rfl,?_⟩
   rw [step,if_neg (neS d1),List.append_nil]
   exact pr
 obtain ⟨rfl,pr⟩:=p
 rw [Paired.length rs,List.take_length] at pr
 have gD:=ao hD2 (.lst acc)
 have G5:=G4.trans (Go.same G4.t gD)
 refine ⟨_,rfl,(by show 0≤sizeLine; decide),fun pe hpe=>?_⟩
 have gE:=ao hpe (.lst [])
 have G6:=G5.trans (Go.same G5.t gE)
 have eD:(upd (upd H3 D2 (.lst acc)) pe (.lst [])) D2=some (.lst acc):=gE _ _ ag
 have gDE:=gD.trans gE
 refine ⟨D2,pe,acc,rfl,rfl,SqL.of eD,SqL.of ag,_,rfl,?_⟩
 refine aE (fun c5=>⟨_,rfl,_,rfl,_,rfl,leaf G6⟩) (fun c5=>?_)
 have hDt:D2≠tp:=G4.t.nt hD2
 obtain ⟨kin,npl⟩:k∈R.map (·.1)∧k∉PL:=by
  cases pr':(R.filter fun r=>decide (r.1=k)) with
  | nil =>
   rw [pr'] at pr
   cases pr
   exact absurd (by decide) c5
  | cons r0 rr =>
   have hm:r0∈R.filter fun r=>decide (r.1=k):=by rw [pr']; exact List.mem_cons_self
   obtain ⟨h1,h2⟩:=List.mem_filter.mp hm
   have h3:r0.1=k:=of_decide_eq_true h2
   exact ⟨List.mem_map.mpr ⟨r0,h1,h3⟩,by rw [← h3]; exact yG _ (dZ env.g h1).1⟩
 obtain ⟨rest,hrest⟩:=yV kin
 rw [hrest] at pr
 obtain ⟨y0,ys',rfl,hy0⟩:∃ y0 ys,acc=y0::ys∧cV H3 y0 (look R k):=by
  cases pr with
  | cons r _=>exact ⟨_,_,rfl,r⟩
 obtain ⟨b2,fx,rfl,hb2,fs2⟩:=hy0
 obtain ⟨r0,hr0,er0⟩:=List.mem_map.mp kin
 have lk:look R k=r0.2:=by rw [← er0]; exact iB env.nd r0 hr0
 obtain ⟨_,⟨⟨f1',f3'⟩,_,fP,_⟩,fK⟩:=dZ env.g hr0
 have lfx:fx.length=r0.2.length:=by rw [Paired.length fs2,lk]
 refine ⟨_,rfl,D2,_,_,_,rfl,rfl,SqL.of eD,at0 _ _,_,rfl,_,rfl,D2,_,_,_,rfl,rfl,SqL.of eD,at0 _ _,b2,fx,rfl,.inr (SqT.of (gDE _ _ hb2)),tp,_,rfl,G6.t,by omega,by omega,fun v7 H7 f0 f1 x7 t7 y7=>?_⟩
 have G7:=G6.trans ⟨x7,t7,y7⟩
 have k7:Tk H3 H7:=(av gDE).trans (fun bb zs e=>x7 _ _ (G6.t.ne e) e)
 obtain ⟨u,hu,hat3,hat4⟩:=dg (xs:=fx) (i:=v7) f0 f1
 obtain ⟨fl,hfl,hfa⟩:=aY fs2 _ u hat3
 obtain ⟨cf,rfl,hcf⟩:=hfa.mono k7
 have hfm:=List.mem_of_getElem? hfl
 have hfm2:=hfm
 rw [lk] at hfm2
 refine ⟨b2,_,_,_,rfl,rfl,SqT.of (k7 _ _ hb2),hat4,cf,_,rfl,SqT.of hcf,rfl,_,_,rfl,_,_,rfl,rfl,?_⟩
 refine ⟨_,rfl,_,rfl,_,rfl,_,rfl,_,_,rfl,rfl,callE G7 hk fun u1 e1 H8 G78 G8 de1 oe1 ne1 ni1=>?_⟩
 refine ⟨_,rfl,_,rfl,_,rfl,_,rfl,_,rfl,_,_,rfl,rfl,callE G8 (fK fl hfm2) fun u2 e2 H9 G89 G9 de2 oe2 ne2 ni2=>⟨(by show 4≤sizeLine; decide),fun p hp=>?_⟩⟩
 refine q (.ref p) (.with_ e1 fl.1 e2) _ (G9.new hp _) (.tup (.inl ag) (.cons (.str _) (.cons (de1.mono ((G89.tk G8.t).trans (bd hp _))) (.cons (.str _) (.cons (de2.mono (bd hp _)) .nil))))) ⟨npl,oe1,fl.2,hfm,oe2⟩ (fun z=>by simp only [E.na,ne1 z,ne2 z,Bool.and_self]) ?_
 exact (yd ((wd "with" (by decide +kernel)).up (Nat.zero_le _)) ni1 ((nW (cH (fP _ hfm2))).up (Nat.zero_le _)) ni2).mono (by omega) (by rw [bmS]; omega)
end
end K6
namespace L2
open PySem
theorem rM {K:Frag} {H:Hp} {a:Addr} {xs:List V} {k:Nat} {Q:VK} (ha:H a=some (.tup xs)) (q:∀ p H',aZ H H'→H' p=some (.tup (xs.drop k))→Q (.ref p) H') :
  Ej K (.ref a) (some (k:Int)) none H Q∨FA K (.ref a) (some (k:Int)) none H Q:=by
 by_cases h:HT.sIx xs.length 0 (some (k:Int))=0
 ·refine .inr ⟨a,xs,rfl,SqT.of ha,⟨h,HT.sIx_none _ _⟩,q a H (aZ.refl _) ?_⟩
  rw [HT.sIx_nat] at h
  rw [ha]
  by_cases hk:k=0
  ·subst hk; rfl
  ·have:xs.length=0:=by omega
   have e:xs=[]:=List.eq_nil_of_length_eq_zero this
   subst e
   rw [List.drop_nil]
 ·refine .inl ⟨a,xs,rfl,SqT.of ha,fun z=>h z.1,fun p hp=>q p _ (fun c o e=>by rw [aV (aJ e hp)]; exact e) ?_⟩
  rw [Ep]
  exact ag
end L2
namespace K6
open PySem L2
mutual
noncomputable def zD:PyData→Nat
 | .tuple ds=>1+zDs ds
 | _=>1
noncomputable def zDs:List PyData→Nat
 | []=>0
 | d::r=>zD d+zDs r
end
mutual
noncomputable def Fit:PyData→Prop
 | .tuple ds=>ds.length≤1000∧cj ds
 | _=>True
noncomputable def cj:List PyData→Prop
 | []=>True
 | d::r=>Fit d∧cj r
end
theorem lg:∀ a b:List PyData,zDs (a++b)=zDs a+zDs b
 | [],b=>by simp [zDs]
 | d::r,b=>by simp only [List.cons_append,zDs,lg r b]; omega
theorem sD:∀ {a b:List PyData},cj a→cj b→cj (a++b)
 | [],b,_,h=>h
 | d::r,b,q,h=>by
  simp only [cj] at q
  simp only [List.cons_append,cj]
  exact ⟨q.1,sD q.2 h⟩
theorem oR:∀ {a b:List PyData},cj (a++b)→cj a
 | [],b,_=>by simp only [cj]
 | d::r,b,q=>by
  simp only [List.cons_append,cj] at q
  simp only [cj]
  exact ⟨q.1,oR q.2⟩
theorem oG:∀ {a:List PyData} {d:PyData},cj (a++[d])→Fit d
 | [],d,q=>by simp only [List.nil_append,cj] at q; exact q.1
 | e::r,d,q=>by
  simp only [List.cons_append,cj] at q
  exact oG q.2
theorem Ad (d:PyData):1≤zD d:=by
 cases d<;>simp only [zD]<;>omega
theorem pU:∀ ds:List PyData,ds.length≤zDs ds
 | []=>Nat.zero_le _
 | d::r=>by
  have:=Ad d
  have:=pU r
  simp only [List.length_cons,zDs]
  omega
theorem DTs.snoc_inv {K:Frag} {H:Hp}:∀ {zs:List V} {y:V} {ds:List PyData},DTs K H (zs++[y]) ds→∃ es e,ds=es++[e]∧DTs K H zs es∧DT K H y e
 | [],y,_,.cons h .nil=>⟨[],_,rfl,.nil,h⟩
 | z::zs,y,_,.cons h r=>by
  obtain ⟨es,e,rfl,a,b⟩:=DTs.snoc_inv r
  exact ⟨_::es,e,rfl,.cons h a,b⟩
noncomputable def NoS (K:Frag) (H:Hp) (x:V):Prop:=∃ t,jE K H x t∧PySem.W.kitOne K t (.type "str")=some false
theorem DT.head {K:Frag} {H:Hp} {x:V} {d:PyData} (h:DT K H x d):(∃ z,x=.str z∧d=.str z)∨(NoS K H x∧∀ r,isS (d::r)=false):=by
 cases h with
 | int i=>exact .inr ⟨⟨_,.int i,rfl⟩,fun r=>rfl⟩
 | str z=>exact .inl ⟨z,rfl,rfl⟩
 | tup a b=>exact .inr ⟨⟨_,.tup a.hp,rfl⟩,fun r=>rfl⟩
mutual
theorem cF {R:List Rec} {Vs:List Fld} (env:Env R Vs):∀ (e:E) (k:Str),Ok R Vs e k→Fit e.d
 | .num i,k,h=>by simp only [E.d,Fit,cj]; simp
 | .text i,k,h=>by simp only [E.d,Fit,cj]; simp
 | .var i,k,h=>by simp only [E.d,Fit,cj]; simp
 | .of_ e f,k,h=>by
  simp only [Ok] at h
  obtain ⟨r,h,_⟩:=h
  simp only [E.d,Fit,cj]
  exact ⟨by simp,trivial,cF env e _ h,trivial,trivial⟩
 | .with_ e f g,k,h=>by
  simp only [Ok] at h
  obtain ⟨_,h1,k',_,h2⟩:=h
  simp only [E.d,Fit,cj]
  exact ⟨by simp,trivial,cF env e _ h1,trivial,cF env g _ h2,trivial⟩
 | .new r es,k,h=>by
  simp only [Ok] at h
  obtain ⟨_,_,h0,h1⟩:=h
  simp only [E.d,Fit,cj]
  obtain ⟨h2,h3⟩:=Ax env es _ h1
  have hr:(look R r).length≤3:=by
   by_cases hm:r∈R.map (·.1)
   ·obtain ⟨r0,hr0,er0⟩:=List.mem_map.mp hm
    rw [← er0,iB env.nd r0 hr0]
    exact (dZ env.g hr0).2.1.1.2
   ·have:look R r=[]:=by
     unfold look
     rw [List.find?_eq_none.mpr (fun x hx=>?_)]
     ·rfl
     ·simp only [decide_eq_true_eq]
      exact fun e=>hm (List.mem_map.mpr ⟨x,hx,e⟩)
    rw [this]; simp
  rw [List.length_map] at h3
  exact ⟨by simp,trivial,trivial,⟨by rw [E.ds_len]; omega,h2⟩,trivial⟩
 | .add a b,k,h=>by
  simp only [Ok] at h
  simp only [E.d,Fit,cj]
  exact ⟨by simp,trivial,cF env a _ h.2.1,cF env b _ h.2.2,trivial⟩
 | .sub a b,k,h=>by
  simp only [Ok] at h
  simp only [E.d,Fit,cj]
  exact ⟨by simp,trivial,cF env a _ h.2.1,cF env b _ h.2.2,trivial⟩
 | .times n e,k,h=>by
  simp only [Ok] at h
  simp only [E.d,Fit,cj]
  exact ⟨by simp,trivial,trivial,cF env e _ h.2.2,trivial⟩
 | .div e n,k,h=>by
  simp only [Ok] at h
  simp only [E.d,Fit,cj]
  exact ⟨by simp,trivial,cF env e _ h.2.2,trivial,trivial⟩
 | .rest e n,k,h=>by
  simp only [Ok] at h
  simp only [E.d,Fit,cj]
  exact ⟨by simp,trivial,cF env e _ h.2.2,trivial,trivial⟩
 | .len e,k,h=>by
  simp only [Ok] at h
  simp only [E.d,Fit,cj]
  refine ⟨by simp,trivial,?_,trivial⟩
  rcases h.2 with h | h
  ·exact cF env e _ h
  ·exact cF env e _ h
 | .at_ a b,k,h=>by
  simp only [Ok] at h
  simp only [E.d,Fit,cj]
  refine ⟨by simp,trivial,?_,cF env b _ h.2.2,trivial⟩
  rcases h.2.1 with h | h
  ·exact cF env a _ h
  ·exact cF env a _ h
 | .rows es,k,h=>by
  simp only [Ok] at h
  simp only [E.d,Fit,cj]
  exact ⟨by simp,trivial,⟨by rw [E.ds_len]; omega,BA env es h.2.2⟩,trivial⟩
 | .put a b c,k,h=>by
  simp only [Ok] at h
  simp only [E.d,Fit,cj]
  exact ⟨by simp,trivial,cF env a _ h.2.1,cF env b _ h.2.2.1,cF env c _ h.2.2.2,trivial⟩
 | .more a b,k,h=>by
  simp only [Ok] at h
  simp only [E.d,Fit,cj]
  exact ⟨by simp,trivial,cF env a _ h.2.1,cF env b _ h.2.2,trivial⟩
 | .signs e,k,h=>by
  simp only [Ok] at h
  simp only [E.d,Fit,cj]
  exact ⟨by simp,trivial,cF env e _ h.2,trivial⟩
theorem Ax {R:List Rec} {Vs:List Fld} (env:Env R Vs):∀ (es:List E) (ks:List Str),OkL R Vs es ks→cj (E.ds es)∧es.length=ks.length
 | [],[],_=>by simp only [E.ds,cj]; exact ⟨trivial,rfl⟩
 | e::es,k::ks,h=>by
  simp only [OkL] at h
  obtain ⟨a,b⟩:=Ax env es ks h.2
  simp only [E.ds,cj,List.length_cons]
  exact ⟨⟨cF env e k h.1,a⟩,by omega⟩
 | [],_::_,h=>by simp only [OkL] at h
 | _::_,[],h=>by simp only [OkL] at h
theorem BA {R:List Rec} {Vs:List Fld} (env:Env R Vs):∀ (es:List E),OkN R Vs es→cj (E.ds es)
 | [],_=>by simp only [E.ds,cj]
 | e::es,h=>by
  simp only [OkN] at h
  simp only [E.ds,cj]
  exact ⟨cF env e _ h.1,BA env es h.2⟩
end
mutual
theorem DE:∀ d:PyData,d.hasDict=false→zD d≤W d+1
 | .tuple ds,h=>by
  have:=AS ds (by simpa only [PyData.hasDict] using h)
  simp only [zD,W]
  omega
 | .list _,_=>by simp only [zD,W]; omega
 | .none,_=>by simp only [zD,W]; omega
 | .bool _,_=>by simp only [zD,W]; omega
 | .int i,_=>by simp only [zD,W]; omega
 | .str z,_=>by simp only [zD,W]; omega
 | .dict _,h=>by simp [PyData.hasDict] at h
theorem AS:∀ ds:List PyData,PyData.hasDictAll ds=false→zDs ds≤WS ds
 | [],_=>Nat.le_refl _
 | d::r,h=>by
  have h':d.hasDict=false∧PyData.hasDictAll r=false:=by simpa [PyData.hasDictAll] using h
  have h1:=DE d h'.1
  have h2:=AS r h'.2
  simp only [zDs,WS]
  omega
end
section
variable {P:Program} {w:World} {K:Frag} {mg:Str→Option Value} {base:Heap} {f g:Addr} {fd gd:FuncData}
noncomputable def yD (K:Frag):Sp:=fun vs H Q _=>∃ u d,vs=[u]∧DT K H u d∧Fit d∧zD d≤1000000∧∀ H',aZ H H'→Q (.int (cD d)) H'
noncomputable def Dv (K:Frag) (u:V) (d:PyData) (l:Addr) (H0:Hp) (m:Nat) (σ:St) (H':Hp):Prop :=
 ∃ c ys ds m3,σ=[some u,some (.int ((c:Nat):Int)),some (.ref l),m3]∧Ext l H0 H'∧H' l=some (.lst ys)∧DTs K H' ys ds∧cj ds∧c+cDs ds=cD d∧m=zDs ds∧zDs ds≤zD d
noncomputable abbrev oT:List Str:=["_law_e_here", "_law_count_here", "_law_left", "_law_one"]
noncomputable abbrev ja:List Str:=["_law_part"]
theorem nM:ja.Nodup:=by decide +kernel
theorem eF:aO oT ["_law_e_here"] (defScope iu):=⟨rfl,rfl,rfl,by decide +kernel,rfl,by decide +kernel,by decide +kernel⟩
theorem BG (T:G0 mg) (F:Fun K "_law_count" "_law_count" iu f fd):bj P w K mg base CX0 1 f fd ["_law_e_here"] (yD K):=by
 refine F.ok eF (fun vs H Q EX h=>?_) (fun cdv A outer s H vs Q EX hr h=>?_)
 ·obtain ⟨u,d,rfl,_⟩:=h
  rfl
 obtain ⟨u,d,rfl,hu,hfit,hz,q⟩:=h
 refine ⟨_,(@am _ _ _ _ _ (@aM _ _ 1 _ _ _ _ eF.nd rfl (Or.inl rfl) ak (aD rfl) (.inr rfl)) (@am _ _ _ _ _ (@aM _ _ 2 _ _ _ _ eF.nd rfl (Or.inl rfl) (@bo _ _ _ _ (@ad _ _ _ _ _ (pv 0) ah (ac rfl))) (aD rfl) (.inr rfl)) (@am _ _ _ _ _ (ie PassesOwn.never (@az _ _ _ _ _ _ _ _ (fE hr.units0) (pv 2) (@bo _ _ _ _ ah) (aG _)) (@am _ _ _ _ _ (@aM _ _ 3 _ _ _ _ eF.nd rfl (Or.inl rfl) (mK PySem.F.plainAttrs_list PySem.F.slot_list_pop PySem.F.type_list_pop lX (pv 2)) (aD rfl) (.inr rfl)) (@am _ _ _ _ _ (@aR _ _ _ _ _ _ _ _ (PW.pt (gl (bt (@aK _ _ _ _ _ _ _ _ _ bQ rfl T.isi dS (@ad _ _ _ _ _ (pv 3) (@ad _ _ _ _ _ (cm (v:=.ty "tuple") rfl T.tuple cb rfl) ah (ac rfl)) (ac rfl)) (by decide) (by decide) (ac rfl) (aj rfl))) (gl (@az _ _ _ _ _ _ _ _ gu (@aK _ _ _ _ _ _ _ _ _ aU rfl T.len cv (@ad _ _ _ _ _ (pv 3) ah (ac rfl)) (by decide) (by decide) (ac rfl) (aj rfl)) ak (aG _)) (eW (bt (@aK _ _ _ _ _ _ _ _ _ bQ rfl T.isi dS (@ad _ _ _ _ _ (@aA _ _ _ _ _ _ _ aI (pv 3) ak (fun _ _=>rfl)) (@ad _ _ _ _ _ (cm (v:=.ty "str") rfl T.str mi rfl) ah (ac rfl)) (ac rfl)) (by decide) (by decide) (ac rfl) (aj rfl))))))) (@ap _ _ _ (@aM _ _ 1 _ _ _ _ eF.nd rfl (Or.inl rfl) (@ba _ _ _ _ _ _ _ _ eK (pv 1) ak) (aD rfl) (.inr rfl))) aF) (@ap _ _ _ (@aR _ _ _ _ _ _ _ _ (bt (@aK _ _ _ _ _ _ _ _ _ bQ rfl T.isi dS (@ad _ _ _ _ _ (pv 3) (@ad _ _ _ _ _ (cm (v:=.ty "tuple") rfl T.tuple cb rfl) ah (ac rfl)) (ac rfl)) (by decide) (by decide) (ac rfl) (aj rfl))) (@ap _ _ _ (@cM _ _ _ _ (@fG _ _ _ _ _ _ _ _ _ _ _ _ PySem.F.plainAttrs_list PySem.F.slot_list_extend PySem.F.type_list_extend dA (pv 2) (@ad _ _ _ _ _ (bH (N':=ja) (ρ:=[none]) (m:=1) (bI.of (fs:=defScope iu) (N:=oT) rfl rfl (by decide +kernel)) rfl (bJ (dI (uC.or qt) (pv 3) (eO (bK zf rfl T.int Ec (ad (dw (bW gu (aK aU rfl T.len cv (ad (pv 3) ah)) ak (aG _)) (cS (aK bQ rfl T.isi dS (ad (aA aI (pv 3) ak (fun _ _=>rfl)) (ad (cm (v:=.ty "str") rfl T.str mi rfl) ah))))) ah))) eS)) (fun _ _ _ _=>(aH (i:=0) nM rfl (Or.inl rfl))) (fun _ _ _ _=>bC) (fun _ _ _ _=>(pv 0))) ah (ac rfl)) rfl (du rfl rfl) rfl (ac rfl) (aj rfl)) (aD rfl))) aF))))) (@ap _ _ _ (@ay _ _ _ _ (pv 1)))))),?_⟩
 refine ⟨_,rfl,(by show 1≤sizeLine; decide),fun l hl=>?_⟩
 have g0:=ao hl (.lst [u])
 have hl0:(upd H l (.lst [u])) l=some (.lst [u]):=ag
 refine ⟨Dv K u d l (upd H l (.lst [u])),⟨_,0,[u],[d],none,rfl,Ext.refl _ _,hl0,.cons (hu.mono (av g0)) .nil,by simp only [cj]; exact ⟨hfit,trivial⟩,by simp [cDs],rfl,by simp [zDs]⟩,?_⟩
 rintro m σ H' ⟨c,ys,ds,m3,rfl,x1,hy,dy,fy,ec,em,ez⟩
 refine ⟨_,rfl,(by show 0≤sizeLine; decide),fun e he=>⟨l,e,ys,rfl,rfl,SqL.of (ao he _ _ _ hy),SqL.of ag,_,rfl,?_⟩⟩
 have ge:=ao he (.lst [])
 have hy1:=ge _ _ hy
 refine aE (fun cc=>?_) (fun cc=>?_)
 ·obtain ⟨zs,y,rfl⟩:∃ zs y,ys=zs++[y]:=by
   rcases List.eq_nil_or_concat ys with rfl | ⟨zs,y,e⟩
   ·exact absurd cc (by decide)
   ·exact ⟨zs,y,by rw [e,List.concat_eq_append]⟩
  obtain ⟨es,e1,rfl,dz,d1⟩:=dy.snoc_inv
  refine ⟨fun σ' H'=>∃ m',m'<m∧Dv K u d l (upd H l (.lst [u])) m' σ' H',fun _ _ z=>z,?_⟩
  refine ⟨_,rfl,.inl ⟨rfl,_,SqL.of hy1⟩,l,_,y,rfl,rfl,hy1,by simp,?_⟩
  rw [List.dropLast_concat]
  have kT:Tk H' (upd (upd H' e (.lst [])) l (.lst zs)):=(av ge).trans (cQ hy1 _)
  have x2:Ext l (upd H l (.lst [u])) (upd (upd H' e (.lst [])) l (.lst zs)):=(x1.trans (aZ.ext ge)).trans Ext.upd
  have hy2:(upd (upd H' e (.lst [])) l (.lst zs)) l=some (.lst zs):=ag
  have dz2:=dz.mono kT
  have d2:=d1.mono kT
  have fz:=oR fy
  have f1:=oG fy
  rw [dC] at ec
  rw [lg] at em ez
  simp only [cDs,zDs,Nat.add_zero] at ec em ez
  generalize hH:(upd (upd H' e (.lst [])) l (.lst zs))=H2 at x2 hy2 dz2 d2
  have plainR:cD e1=0→∃ m',m'<m∧Dv K u d l (upd H l (.lst [u])) m' [some u,some (.int ((c:Nat):Int)),some (.ref l),some y] H2:=fun e0=>by
   have:=Ad e1
   exact ⟨zDs es,by omega,c,zs,es,_,rfl,x2,hy2,dz2,fz,by omega,rfl,by omega⟩
  cases d2 with
  | int i=>exact ⟨_,rfl,_,_,_,false,rfl,.int i,rfl,_,rfl,bL ⟨_,rfl,_,_,_,false,rfl,.int i,rfl,_,rfl,bL (plainR (by simp only [cD]))⟩⟩
  | str z=>exact ⟨_,rfl,_,_,_,false,rfl,.str z,rfl,_,rfl,bL ⟨_,rfl,_,_,_,false,rfl,.str z,rfl,_,rfl,bL (plainR (by simp only [cD]))⟩⟩
  | @tup a xs ds' ha dx =>
  have ha':=ha.hp
  simp only [Fit] at f1
  simp only [cD] at ec
  simp only [zD] at em ez
  have lx:=dx.len
  have zl:=pU es
  have zl':=pU ds'
  -- the parts k on come to the list
  have fin:∀ (k c':Nat),c'+(cDs es+cDs (ds'.drop k))=cD d→cj (ds'.drop k)→zDs (ds'.drop k)≤zDs ds'→∀ (p:Addr) (H3:Hp),aZ H2 H3→H3 p=some (.tup (xs.drop k))→iE (Itt K p) 1 (iJ 0) yk (Dq 0) [none] (fun acc H4=>∀ D,H4 D=none→(fun (u':V) (H5:Hp)=>yx (.ref l) [u'] H5 fun _ H6=>∃ m',m'<m∧Dv K u d l (upd H l (.lst [u])) m' [some u,some (.int ((c':Nat):Int)),some (.ref l),some (.ref a)] H6) (.ref D) (upd H4 D (.lst acc))) H3:=by
   intro k c' hc hf hzk p H3 g3 hp3
   refine bO (xs:=xs.drop k) (xs.drop k).length rfl (by rw [List.length_drop]; omega) (fun i acc H4=>H4=H3∧acc=(xs.drop k).take i) ⟨rfl,rfl⟩ (fun i acc H4 p'=>by rw [p'.1]; exact SqT.of hp3) (fun i acc H4 x hi la hx p'=>?_) (fun acc H4 p' la D hD=>?_)
   ·obtain ⟨rfl,rfl⟩:=p'
    exact ⟨⟨rfl,rfl⟩,bD ⟨_,rfl,nxT (by rw [List.length_drop]; omega) hi la ⟨rfl,by rw [List.take_add_one,hx]; rfl⟩⟩⟩
   ·obtain ⟨rfl,rfl⟩:=p'
    rw [List.take_length]
    have gD:=ao hD (.lst (xs.drop k))
    have g4:=g3.trans gD
    have hy4:=g4 _ _ hy2
    have kL:=cQ hy4 (.lst (zs++xs.drop k))
    have lz:=dz2.len
    refine ⟨l,D,zs,xs.drop k,rfl,rfl,hy4,ag,?_,?_⟩
    ·rw [List.length_drop,sizeLine_eq]
     omega
    ·refine ⟨zDs es+zDs (ds'.drop k),by omega,c',zs++xs.drop k,es++ds'.drop k,_,rfl,(x2.trans (aZ.ext g4)).trans Ext.upd,ag,?_,sD fz hf,by rw [dC]; exact hc,by rw [lg],by rw [lg]; omega⟩
     exact DTs.append (dz2.mono ((av g4).trans kL)) ((dx.drop k).mono ((av g4).trans kL))
  refine ⟨_,rfl,_,_,_,true,rfl,.tup ha',rfl,_,rfl,cO ?_⟩
  refine ⟨_,rfl,a,xs,rfl,.inr ha.sq,_,_,rfl,rfl,_,rfl,?_⟩
  cases dx with
  | nil =>
   refine bL ⟨_,rfl,_,_,_,true,rfl,.tup ha',rfl,_,rfl,cO ?_⟩
   refine ⟨_,rfl,.inl ⟨rfl,_,SqL.of hy2⟩,_,rfl,_,rfl,a,[],rfl,.inr ha.sq,_,_,rfl,rfl,_,rfl,bL (.inr ⟨false,rfl,_,rfl,?_⟩)⟩
   refine rM (k:=0) ha' fun p H3 g3 hp3=>⟨p,rfl,⟨_,SqT.of hp3⟩,fin 0 c (by simpa [isS,cDs] using ec) f1.2 (Nat.le_refl _) p H3 g3 hp3⟩
  | @cons x0 xr e0 er h0 hrr =>
  rcases h0.head with ⟨z,rfl,rfl⟩ | ⟨⟨ty,hty,hks⟩,hno⟩
  ·refine aE (fun c5=>?_) (fun c5=>absurd (by simp) c5)
   refine ⟨_,rfl,a,_,_,_,rfl,rfl,ha.sq,at0 _ _,_,_,_,true,rfl,.str z,rfl,_,rfl,cO ?_⟩
   refine ⟨_,rfl,_,_,rfl,rfl,?_⟩
   refine ⟨_,rfl,_,_,_,true,rfl,.tup ha',rfl,_,rfl,cO ?_⟩
   refine ⟨_,rfl,.inl ⟨rfl,_,SqL.of hy2⟩,_,rfl,_,rfl,a,_,rfl,.inr ha.sq,_,_,rfl,rfl,_,rfl,?_⟩
   refine aE (fun c6=>?_) (fun c6=>absurd (by simp) c6)
   refine ⟨_,rfl,a,_,_,_,rfl,rfl,ha.sq,at0 _ _,_,_,_,true,rfl,.str z,rfl,.inr ⟨true,rfl,_,rfl,?_⟩⟩
   refine rM (k:=1) ha' fun p H3 g3 hp3=>⟨p,rfl,⟨_,SqT.of hp3⟩,?_⟩
   have ef:(c:Int)+1=((c+1:Nat):Int):=by omega
   have fz1:cj er:=by
    have:=f1.2
    simp only [cj] at this
    exact this.2
   have:=fin 1 (c+1) (by simp only [isS,cDs,cD,if_true] at ec; simp only [List.drop_succ_cons,List.drop_zero]; omega) fz1 (by simp only [List.drop_succ_cons,List.drop_zero,zDs]; omega) p H3 g3 hp3
   rw [← ef] at this
   exact this
  ·refine aE (fun c5=>?_) (fun c5=>absurd (by simp) c5)
   refine ⟨_,rfl,a,_,_,_,rfl,rfl,ha.sq,at0 _ _,_,_,_,false,rfl,hty,hks,_,rfl,bL ?_⟩
   refine ⟨_,rfl,_,_,_,true,rfl,.tup ha',rfl,_,rfl,cO ?_⟩
   refine ⟨_,rfl,.inl ⟨rfl,_,SqL.of hy2⟩,_,rfl,_,rfl,a,_,rfl,.inr ha.sq,_,_,rfl,rfl,_,rfl,?_⟩
   refine aE (fun c6=>?_) (fun c6=>absurd (by simp) c6)
   refine ⟨_,rfl,a,_,_,_,rfl,rfl,ha.sq,at0 _ _,_,_,_,false,rfl,hty,hks,.inr ⟨false,rfl,_,rfl,?_⟩⟩
   refine rM (k:=0) ha' fun p H3 g3 hp3=>⟨p,rfl,⟨_,SqT.of hp3⟩,fin 0 c (by rw [hno] at ec; simpa using ec) f1.2 (Nat.le_refl _) p H3 g3 hp3⟩
 ·have e0:ys=[]:=by
   cases ys with
   | nil=>rfl
   | cons _ _=>exact absurd (by rfl) cc
  subst e0
  cases dy
  refine ⟨_,rfl,?_⟩
  have ec':c=cD d:=by simpa [cDs] using ec
  rw [ec']
  refine q _ fun bb o hb=>?_
  exact ge _ _ (x1 _ _ (aJ hb hl) (g0 _ _ hb))
end
open PySem L2
structure Gk (tp kd:Addr) (H H':Hp):Prop where
 x:∀ b o,b≠tp→b≠kd→H b=some o→H' b=some o
 k:Tk H H'
 t:Tp H' tp
 y:TS tp H H'
 f:∀ p,H' p=none→H p=none
theorem Gk.trans {tp kd:Addr} {H H1 H2:Hp} (a:Gk tp kd H H1) (b:Gk tp kd H1 H2):Gk tp kd H H2:=⟨fun c o n m h=>b.x c o n m (a.x c o n m h),a.k.trans b.k,b.t,a.y.trans b.y,fun p h=>a.f p (b.f p h)⟩
theorem Gk.of_go {tp kd:Addr} {H H':Hp} {o:HO} (hk:H kd=some o) (t:Tp H tp) (G:Go tp H H'):Gk tp kd H H':=⟨fun b o n _ h=>G.x b o n h,G.tk t,G.t,G.y,fun p h=>G.free t h⟩
theorem Gk.new {tp kd p:Addr} {H H1:Hp} (a:Gk tp kd H H1) (h:H1 p=none) (o:HO):Gk tp kd H (upd H1 p o):=by
 have g:=ao h o
 exact a.trans ⟨fun b o' _ _ q=>g b o' q,av g,a.t.same g,aZ.ts g,fun q e=>g.free e⟩
theorem Gk.same {tp kd:Addr} {H H1 H2:Hp} (a:Gk tp kd H H1) (g:aZ H1 H2):Gk tp kd H H2:=a.trans ⟨fun b o' _ _ q=>g b o' q,av g,a.t.same g,aZ.ts g,fun q e=>g.free e⟩
theorem wls {i:Int} (h0:0≤i) (h1:i<2):∃ z:Str,atI ((["less", "same"]:List Str).map V.str) i=some (.str z)∧(z = "less"∨z = "same"):=by
 have:i=0∨i=1:=by omega
 rcases this with h | h<;>subst h
 ·exact ⟨"less",by decide +kernel,.inl rfl⟩
 ·exact ⟨"same",by decide +kernel,.inr rfl⟩
theorem wao {i:Int} (h0:0≤i) (h1:i<2):∃ z:Str,atI ((["and", "or"]:List Str).map V.str) i=some (.str z)∧(z = "and"∨z = "or"):=by
 have:i=0∨i=1:=by omega
 rcases this with h | h<;>subst h
 ·exact ⟨"and",by decide +kernel,.inl rfl⟩
 ·exact ⟨"or",by decide +kernel,.inr rfl⟩
noncomputable def OkC (R:List Rec) (Vs:List Fld):C→Prop
 | .less a b=>Ok R Vs a "num"∧a.na=true∧Ok R Vs b "num"∧b.na=true∧cD a.d≤12∧cD b.d≤12
 | .same a b=>Ok R Vs a "num"∧a.na=true∧Ok R Vs b "num"∧b.na=true∧cD a.d≤12∧cD b.d≤12
 | .and_ c d=>OkC R Vs c∧OkC R Vs d
 | .or_ c d=>OkC R Vs c∧OkC R Vs d
 | .not_ c=>OkC R Vs c
noncomputable def C.cnt:C→Nat
 | .less _ _=>1
 | .same _ _=>1
 | .and_ c d=>1+c.cnt+d.cnt
 | .or_ c d=>1+c.cnt+d.cnt
 | .not_ c=>1+c.cnt
noncomputable def bc:Nat→Nat
 | 0=>2*bm 2+40
 | d+1=>(2*bm 2+40)+bc d+40
theorem Fx:∀ d:Nat,bc 0≤bc d
 | 0=>Nat.le_refl _
 | d+1=>by have:=Fx d; rw [show bc (d+1)=(2*bm 2+40)+bc d+40 from rfl]; omega
noncomputable def dv (tp:Addr) (H:Hp) (kd:Addr) (R:List Rec) (HS:List cI) (Vs:List Fld) (v:V) (hl vl:Addr) (g:Str) (n:Int) (b:Bool):Prop:=H kd=some (.dK (jc v hl vl g n b))∧Bs tp H R HS Vs v hl vl
theorem dv.at_ {tp kd:Addr} {H:Hp} {R:List Rec} {HS:List cI} {Vs:List Fld} {v:V} {hl vl:Addr} {g:Str} {n:Int} {b:Bool} (h:dv tp H kd R HS Vs v hl vl g n b):jG tp H kd R HS Vs g n b:=⟨v,hl,vl,h.1,h.2⟩
theorem dv.ne {tp kd:Addr} {H:Hp} {R:List Rec} {HS:List cI} {Vs:List Fld} {v:V} {hl vl:Addr} {g:Str} {n:Int} {b:Bool} (h:dv tp H kd R HS Vs v hl vl g n b) (t:Tp H tp):kd≠tp:=h.at_.ne t
theorem dv.hk {tp kd:Addr} {H:Hp} {R:List Rec} {HS:List cI} {Vs:List Fld} {v:V} {hl vl:Addr} {g:Str} {n:Int} {b:Bool} (h:dv tp H kd R HS Vs v hl vl g n b):hl≠kd∧vl≠kd:=by
 obtain ⟨hs,d1,_⟩:=h.2.hh
 obtain ⟨vs,e1,_⟩:=h.2.vv
 exact ⟨dN d1 h.1 (fun z=>by cases z),dN e1 h.1 (fun z=>by cases z)⟩
theorem dv.go {tp kd:Addr} {H H':Hp} {R:List Rec} {HS:List cI} {Vs:List Fld} {v:V} {hl vl:Addr} {g:Str} {n:Int} {b:Bool} (h:dv tp H kd R HS Vs v hl vl g n b) (t:Tp H tp) (G:Go tp H H'):dv tp H' kd R HS Vs v hl vl g n b :=
 ⟨G.x _ _ (h.ne t) h.1,h.2.mono (kd:=kd) (G.tk t) (fun b o q _=>G.x b o q) h.hk.1 h.hk.2⟩
theorem dv.gk {tp kd:Addr} {H H':Hp} {R:List Rec} {HS:List cI} {Vs:List Fld} {v:V} {hl vl:Addr} {g:Str} {n n':Int} {b b':Bool} (h:dv tp H kd R HS Vs v hl vl g n b) (G:Gk tp kd H H') (e:H' kd=some (.dK (jc v hl vl g n' b'))):dv tp H' kd R HS Vs v hl vl g n' b' :=
 ⟨e,h.2.mono (kd:=kd) G.k G.x h.hk.1 h.hk.2⟩
section
variable {P:Program} {w:World} {K:Frag} {mg:Str→Option Value} {base:Heap} {f g:Addr} {fd gd:FuncData}
noncomputable def fq (K:Frag):Sp:=fun vs H Q _=>∃ tp kd k R HS Vs v hl vl gv n b rb,vs=[.ref tp,.ref kd,.str k,.bl rb]∧Tp H tp∧dv tp H kd R HS Vs v hl vl gv n b∧Env R Vs∧k∈KS R∧∀ u e H',Gk tp kd H H'→dv tp H' kd R HS Vs v hl vl gv n rb→DT K H' u e.d→Ok R Vs e k→(rb=false→e.na=true)→bA 12 (bm 2) e.d→cD e.d≤12→Q u H'
noncomputable abbrev pBd:List Str:=["_law_tape_here", "_law_kit_here", "_law_kind_here", "_law_reach"]
noncomputable abbrev tG:List Str:=["_law_tape_here", "_law_kit_here", "_law_kind_here", "_law_reach", "_law_e_here"]
theorem fY:aO tG ["_law_tape_here", "_law_kit_here", "_law_kind_here", "_law_reach"] (defScope gR):=⟨rfl,rfl,rfl,by decide +kernel,rfl,by decide +kernel,by decide +kernel⟩
theorem uU (T:G0 mg) (F:Fun K "_law_bounded" "_law_bounded" gR f fd) (D_l_count:Cal P w K mg base 1 "_law_count" ["_law_e_here"] (yD K)) (D_l_leaf:Cal P w K mg base 5 "_law_leaf" pLf (hU K 4)) (D_l_e:Cal P w K mg base 10 "_law_e" pEx (spE K 2)) :
  bj P w K mg base CX0 11 f fd pBd (fq K):=by
 obtain ⟨g_l_count,gd_l_count,G_l_count,b_l_count,k_l_count,m_l_count⟩:=D_l_count.ex
 obtain ⟨g_l_leaf,gd_l_leaf,G_l_leaf,b_l_leaf,k_l_leaf,m_l_leaf⟩:=D_l_leaf.ex
 obtain ⟨g_l_e,gd_l_e,G_l_e,b_l_e,k_l_e,m_l_e⟩:=D_l_e.ex
 refine F.ok fY (fun vs H Q EX h=>?_) (fun cdv A outer s H vs Q EX hr h=>?_)
 ·obtain ⟨tp,kd,k,R,HS,Vs,v,hl,vl,gv,n,b,rb,rfl,_⟩:=h
  rfl
 obtain ⟨tp,kd,k,R,HS,Vs,v,hl,vl,gv,n,b,rb,rfl,ht,hkit,env,hk,q⟩:=h
 refine ⟨_,(@am _ _ _ _ _ (yX (Cd hr) (pv 1) au (pv 3) (aD rfl)) (@am _ _ _ _ _ (@aM _ _ 4 _ _ _ _ fY.nd rfl (Or.inl rfl) (@aq _ _ _ _ _ _ _ _ _ _ _ _ _ _ _ _ G_l_e (hr.mono (by omega)) rfl m_l_e k_l_e b_l_e .nil aC (@ad _ _ _ _ _ (pv 0) (@ad _ _ _ _ _ (pv 1) (@ad _ _ _ _ _ (pv 2) (@ad _ _ _ _ _ ak ah (ac rfl)) (ac rfl)) (ac rfl)) (ac rfl)) (by decide) (ac rfl) (aj rfl)) (aD rfl) (.inr rfl)) (@am _ _ _ _ _ (@aR _ _ _ _ _ _ _ _ (@az _ _ _ _ _ _ _ _ gu (@aq _ _ _ _ _ _ _ _ _ _ _ _ _ _ _ _ G_l_count (hr.mono (by omega)) rfl m_l_count k_l_count b_l_count .nil aC (@ad _ _ _ _ _ (pv 4) ah (ac rfl)) (by decide) (ac rfl) (aj rfl)) ak (aG _)) (@ap _ _ _ (@aM _ _ 4 _ _ _ _ fY.nd rfl (Or.inl rfl) (@aq _ _ _ _ _ _ _ _ _ _ _ _ _ _ _ _ G_l_leaf (hr.mono (by omega)) rfl m_l_leaf k_l_leaf b_l_leaf .nil aC (@ad _ _ _ _ _ (pv 0) (@ad _ _ _ _ _ (pv 1) (@ad _ _ _ _ _ (pv 2) ah (ac rfl)) (ac rfl)) (ac rfl)) (by decide) (ac rfl) (aj rfl)) (aD rfl) (.inr rfl))) aF) (@ap _ _ _ (@ay _ _ _ _ (pv 4)))))),?_⟩
 have kt:=hkit.ne ht
 obtain ⟨hkd,KD⟩:=id hkit
 refine ⟨_,rfl,_,rfl,kd,_,rfl,zk.k (k:=Sum.inr "reach") hkd (by show 6<sizeLine; decide),?_⟩
 have hp0:gT (jc v hl vl gv n b) (Sum.inr "reach") (.bl rb)=jc v hl vl gv n rb:=rfl
 rw [hp0]
 obtain ⟨hs,d1,_⟩:=KD.hh
 obtain ⟨vs,e1,_⟩:=KD.vv
 have G1:Gk tp kd H (upd H kd (.dK (jc v hl vl gv n rb))):=by
  obtain ⟨sc,kk,rr,ns,a1,a2⟩:=id ht
  have hsc:sc≠kd:=dN a2 hkd (fun z=>by cases z)
  refine ⟨fun bb o _ n2 hb=>by rw [aV n2]; exact hb,fun bb xs hb=>by rw [aV (dN hb hkd (fun z=>by cases z))]; exact hb,⟨sc,kk,rr,ns,by rw [aV kt.symm]; exact a1,by rw [aV hsc]; exact a2⟩,fun sc2 k2 r2 e2=>⟨k2,r2,by rw [aV kt.symm]; exact e2⟩,fun p hp=>?_⟩
  by_cases e:p=kd
  ·rw [e,ag] at hp; cases hp
  ·rw [aV e] at hp; exact hp
 have K1:dv tp (upd H kd (.dK (jc v hl vl gv n rb))) kd R HS Vs v hl vl gv n rb:=⟨ag,KD.mono (kd:=kd) G1.k G1.x (dN d1 hkd (fun z=>by cases z)) (dN e1 hkd (fun z=>by cases z))⟩
 refine ⟨_,rfl,_,rfl,_,rfl,tp,kd,k,R,HS,Vs,gv,n,rb,rfl,G1.t,K1.at_,env,hk,fun u e H2 G2 de oe ne ni=>?_⟩
 have GA:=G1.trans (Gk.of_go (ag (a:=kd)) G1.t G2)
 have zz:zD e.d≤1000000:=by
  have h1:=DE e.d ni.nd
  have h2:=ni.sz
  have h3:bm 2≤100000:=by decide
  omega
 refine ⟨_,rfl,u,e.d,rfl,de,cF env e k oe,zz,fun H3 g3=>?_⟩
 have G3:=G2.trans (Go.same G2.t g3)
 have GB:=GA.same g3
 refine ⟨_,_,rfl,rfl,_,rfl,?_⟩
 refine aE (fun c1=>?_) (fun c1=>?_)
 ·refine ⟨_,rfl,_,rfl,_,rfl,tp,kd,k,R,HS,Vs,gv,n,rb,rfl,G3.t,(K1.go G1.t G3).at_,env,pT env.g env.rl k hk,fun u4 e4 H4 G4 a1 a2 a3 a4 a5 _=>⟨_,rfl,?_⟩⟩
  have K3:=K1.go G1.t (G3.trans G4)
  obtain ⟨hk3,_⟩:=K1.go G1.t G3
  exact q u4 e4 H4 (GB.trans (Gk.of_go hk3 G3.t G4)) K3 a1 a2 (fun _=>a3) (a4.mono (by decide) (Fg 2)) (by omega)
 ·exact ⟨_,rfl,q u e H3 GB (K1.go G1.t G3) (de.mono (av g3)) oe ne ni (by have h:¬ ((12:Int)<((cD e.d:Nat):Int)):=fun z=>c1 (decide_eq_true z); omega)⟩
noncomputable def BD (K:Frag) (d:Nat):Sp:=fun vs H Q _=>∃ tp kd R HS Vs v hl vl gv n b,vs=[.ref tp,.ref kd,.int (d:Int)]∧Tp H tp∧dv tp H kd R HS Vs v hl vl gv n b∧Env R Vs∧∀ u c H',Gk tp kd H H'→(∃ b',dv tp H' kd R HS Vs v hl vl gv n b')→DT K H' u c.d→OkC R Vs c→c.cnt≤2*d+1→bA (13+d) (bc d) c.d→Q u H'
noncomputable def An (K:Frag) (d:Nat):Sp:=fun vs H Q E=>∃ d',d'≤d∧BD K d' vs H Q E
noncomputable abbrev nL:List Str:=["_law_tape_here", "_law_kit_here", "_law_deep", "_law_way", "_law_word", "_law_first"]
theorem cK:aO nL ["_law_tape_here", "_law_kit_here", "_law_deep"] (defScope dE):=⟨rfl,rfl,rfl,by decide +kernel,rfl,by decide +kernel,by decide +kernel⟩
theorem ym {d r:Nat} {spC:Sp} (h11:11≤r) (up:∀ d',d'<d→∀ vs H Q E,BD K d' vs H Q E→spC vs H Q E) (T:G0 mg) (F:Fun K "_law_condition" "_law_condition" dE f fd) (D_l_draw:Cal P w K mg base 1 "_law_draw" dP bY) (D_l_bounded:Cal P w K mg base 11 "_law_bounded" pBd (fq K)) (D_l_condition:Cal P w K mg base r "_law_condition" pTx spC) :
  bj P w K mg base CX0 (r+1) f fd pTx (An K d):=by
 obtain ⟨g_l_draw,gd_l_draw,G_l_draw,b_l_draw,k_l_draw,m_l_draw⟩:=D_l_draw.ex
 obtain ⟨g_l_bounded,gd_l_bounded,G_l_bounded,b_l_bounded,k_l_bounded,m_l_bounded⟩:=D_l_bounded.ex
 obtain ⟨g_l_condition,gd_l_condition,G_l_condition,b_l_condition,k_l_condition,m_l_condition⟩:=D_l_condition.ex
 refine F.ok cK (fun vs H Q EX h=>?_) (fun cdv A outer s H vs Q EX hr h=>?_)
 ·obtain ⟨d',_,tp,kd,R,HS,Vs,v,hl,vl,gv,n,b,rfl,_⟩:=h
  rfl
 obtain ⟨d',hd',tp,kd,R,HS,Vs,v,hl,vl,gv,n,b,rfl,ht,hkit,env,q⟩:=h
 refine ⟨_,(@am _ _ _ _ _ (@aM _ _ 3 _ _ _ _ cK.nd rfl (Or.inl rfl) (@aq _ _ _ _ _ _ _ _ _ _ _ _ _ _ _ _ G_l_draw (hr.mono (by omega)) rfl m_l_draw k_l_draw b_l_draw .nil aC (@ad _ _ _ _ _ (pv 0) (@ad _ _ _ _ _ ak ah (ac rfl)) (ac rfl)) (by decide) (ac rfl) (aj rfl)) (aD rfl) (.inr rfl)) (@am _ _ _ _ _ (@aR _ _ _ _ _ _ _ _ (PW.pt (cw (@az _ _ _ _ _ _ _ _ bg (pv 2) ak (aG _)) (cr (@az _ _ _ _ _ _ _ _ oV (pv 3) ak (aG _))))) (@am _ _ _ _ _ (@aM _ _ 4 _ _ _ _ cK.nd rfl (Or.inl rfl) (@aA _ _ _ _ _ _ _ bf (@bo _ _ _ _ (@ad _ _ _ _ _ au (@ad _ _ _ _ _ au ah (ac rfl)) (ac rfl))) (@ba _ _ _ _ _ _ _ _ fW (pv 3) ak) (fun _ _=>rfl)) (aD rfl) (.inr rfl)) (@am _ _ _ _ _ (@aM _ _ 5 _ _ _ _ cK.nd rfl (Or.inl rfl) (@aq _ _ _ _ _ _ _ _ _ _ _ _ _ _ _ _ G_l_bounded (hr.mono (by omega)) rfl m_l_bounded k_l_bounded b_l_bounded .nil aC (@ad _ _ _ _ _ (pv 0) (@ad _ _ _ _ _ (pv 1) (@ad _ _ _ _ _ au (@ad _ _ _ _ _ bP ah (ac rfl)) (ac rfl)) (ac rfl)) (ac rfl)) (by decide) (ac rfl) (aj rfl)) (aD rfl) (.inr rfl)) (@ap _ _ _ (@ay _ _ _ _ (@aT _ _ _ _ _ (@ad _ _ _ _ _ (pv 4) (@ad _ _ _ _ _ (pv 5) (@ad _ _ _ _ _ (@aq _ _ _ _ _ _ _ _ _ _ _ _ _ _ _ _ G_l_bounded (hr.mono (by omega)) rfl m_l_bounded k_l_bounded b_l_bounded .nil aC (@ad _ _ _ _ _ (pv 0) (@ad _ _ _ _ _ (pv 1) (@ad _ _ _ _ _ au (@ad _ _ _ _ _ bP ah (ac rfl)) (ac rfl)) (ac rfl)) (ac rfl)) (by decide) (ac rfl) (aj rfl)) ah (ac rfl)) (ac rfl)) (ac rfl))))))) aF) (@am _ _ _ _ _ (@aR _ _ _ _ _ _ _ _ (@az _ _ _ _ _ _ _ _ bg (pv 3) ak (aG _)) (@ap _ _ _ (@ay _ _ _ _ (@aT _ _ _ _ _ (@ad _ _ _ _ _ au (@ad _ _ _ _ _ (@aq _ _ _ _ _ _ _ _ _ _ _ _ _ _ _ _ G_l_condition (hr.mono (by omega)) rfl m_l_condition k_l_condition b_l_condition .nil aC (@ad _ _ _ _ _ (pv 0) (@ad _ _ _ _ _ (pv 1) (@ad _ _ _ _ _ (@ba _ _ _ _ _ _ _ _ bM (pv 2) ak) ah (ac rfl)) (ac rfl)) (ac rfl)) (by decide) (ac rfl) (aj rfl)) ah (ac rfl)) (ac rfl))))) aF) (@am _ _ _ _ _ (@aM _ _ 5 _ _ _ _ cK.nd rfl (Or.inl rfl) (@aq _ _ _ _ _ _ _ _ _ _ _ _ _ _ _ _ G_l_condition (hr.mono (by omega)) rfl m_l_condition k_l_condition b_l_condition .nil aC (@ad _ _ _ _ _ (pv 0) (@ad _ _ _ _ _ (pv 1) (@ad _ _ _ _ _ ak ah (ac rfl)) (ac rfl)) (ac rfl)) (by decide) (ac rfl) (aj rfl)) (aD rfl) (.inr rfl)) (@ap _ _ _ (@ay _ _ _ _ (@aT _ _ _ _ _ (@ad _ _ _ _ _ (@aA _ _ _ _ _ _ _ bf (@bo _ _ _ _ (@ad _ _ _ _ _ au (@ad _ _ _ _ _ au ah (ac rfl)) (ac rfl))) (@ba _ _ _ _ _ _ _ _ bM (pv 3) ak) (fun _ _=>rfl)) (@ad _ _ _ _ _ (pv 5) (@ad _ _ _ _ _ (@aq _ _ _ _ _ _ _ _ _ _ _ _ _ _ _ _ G_l_condition (hr.mono (by omega)) rfl m_l_condition k_l_condition b_l_condition .nil aC (@ad _ _ _ _ _ (pv 0) (@ad _ _ _ _ _ (pv 1) (@ad _ _ _ _ _ (@ba _ _ _ _ _ _ _ _ bM (pv 2) ak) ah (ac rfl)) (ac rfl)) (ac rfl)) (by decide) (ac rfl) (aj rfl)) ah (ac rfl)) (ac rfl)) (ac rfl))))))))),?_⟩
 have kNum:Str.ofString "num"∈KS R:=List.mem_append_left _ (by decide)
 have kt:=hkit.ne ht
 obtain ⟨kdd,KD⟩:=id hkit
 refine ⟨_,rfl,tp,6,rfl,ht,by decide,by decide,fun way H1 w0 w1 x1 t1 y1=>?_⟩
 have G1:Go tp H H1:=⟨x1,t1,y1⟩
 refine ⟨_,rfl,rfl,_,rfl,?_⟩
 cases d' with
 | zero =>
 refine aE (fun c1=>cO ?_) (fun c1=>absurd (by decide) c1)
 refine ⟨(by show 2≤sizeLine; decide),fun lw hlw=>?_⟩
 obtain ⟨wd',hat,hw⟩:=wls (i:=way % 2) (Int.emod_nonneg _ (by decide)) (Int.emod_lt_of_pos _ (by decide))
 refine ⟨_,rfl,_,_,rfl,rfl,(by show (0:Int)<2; decide),lw,_,_,_,rfl,rfl,SqL.of ag,hat,?_⟩
 have G2:=G1.new hlw (.lst ((["less", "same"]:List Str).map V.str))
 have K2:=hkit.go ht G2
 refine ⟨_,rfl,_,rfl,tp,kd, "num",R,HS,Vs,v,hl,vl,gv,n,b,false,rfl,G2.t,K2,env,kNum,fun u1 e1 H3 G3 K3 de1 oe1 ne1 ni1 ce1=>?_⟩
 refine ⟨_,rfl,_,rfl,_,rfl,_,rfl,tp,kd, "num",R,HS,Vs,v,hl,vl,gv,n,false,false,rfl,G3.t,K3,env,kNum,fun u2 e2 H4 G4 K4 de2 oe2 ne2 ni2 ce2=>⟨(by show 3≤sizeLine; decide),fun p hp=>?_⟩⟩
 have GA:=((Gk.of_go kdd ht G2).trans (G3.trans G4)).new hp (.tup [.str wd',u1,u2])
 have dd1:=de1.mono (G4.k.trans (bd hp (.tup [.str wd',u1,u2])))
 have dd2:=de2.mono (bd hp (.tup [.str wd',u1,u2]))
 have K5:=K4.go G4.t ((Go.refl G4.t).new hp (.tup [.str wd',u1,u2]))
 have nn:∀ z:Str,z∈WD→bA (13+0) (bc 0) (.tuple [.str z,e1.d,e2.d]):=fun z hz=>(dJ ((nW hz).up (Nat.zero_le 12)) ni1 ni2).mono (by omega) (by have:=Fx (0); have:bc 0=2*bm 2+40:=rfl; omega)
 rcases hw with rfl | rfl
 ·exact q (.ref p) (.less e1 e2) _ GA ⟨_,K5⟩ (.tup (.inl ag) (.cons (.str _) (.cons dd1 (.cons dd2 .nil)))) ⟨oe1,ne1 rfl,oe2,ne2 rfl,ce1,ce2⟩ (by simp only [C.cnt]; omega) (nn "less" (by decide +kernel))
 ·exact q (.ref p) (.same e1 e2) _ GA ⟨_,K5⟩ (.tup (.inl ag) (.cons (.str _) (.cons dd1 (.cons dd2 .nil)))) ⟨oe1,ne1 rfl,oe2,ne2 rfl,ce1,ce2⟩ (by simp only [C.cnt]; omega) (nn "same" (by decide +kernel))
 | succ dd =>
 have hd1:(((dd+1:Nat):Int) - 1)=(dd:Int):=by omega
 refine aE (fun c1=>absurd (V.int.inj (of_decide_eq_true c1)) (by omega)) (fun c1=>?_)
 refine ⟨_,rfl,_,_,rfl,rfl,_,rfl,?_⟩
 refine aE (fun c2=>?_) (fun c2=>?_)
 ·refine ⟨(by show 2≤sizeLine; decide),fun lw hlw=>?_⟩
  obtain ⟨wd',hat,hw⟩:=wls (i:=way % 2) (Int.emod_nonneg _ (by decide)) (Int.emod_lt_of_pos _ (by decide))
  refine ⟨_,rfl,_,_,rfl,rfl,(by show (0:Int)<2; decide),lw,_,_,_,rfl,rfl,SqL.of ag,hat,?_⟩
  have G2:=G1.new hlw (.lst ((["less", "same"]:List Str).map V.str))
  have K2:=hkit.go ht G2
  refine ⟨_,rfl,_,rfl,tp,kd, "num",R,HS,Vs,v,hl,vl,gv,n,b,false,rfl,G2.t,K2,env,kNum,fun u1 e1 H3 G3 K3 de1 oe1 ne1 ni1 ce1=>?_⟩
  refine ⟨_,rfl,_,rfl,_,rfl,_,rfl,tp,kd, "num",R,HS,Vs,v,hl,vl,gv,n,false,false,rfl,G3.t,K3,env,kNum,fun u2 e2 H4 G4 K4 de2 oe2 ne2 ni2 ce2=>⟨(by show 3≤sizeLine; decide),fun p hp=>?_⟩⟩
  have GA:=((Gk.of_go kdd ht G2).trans (G3.trans G4)).new hp (.tup [.str wd',u1,u2])
  have dd1:=de1.mono (G4.k.trans (bd hp (.tup [.str wd',u1,u2])))
  have dd2:=de2.mono (bd hp (.tup [.str wd',u1,u2]))
  have K5:=K4.go G4.t ((Go.refl G4.t).new hp (.tup [.str wd',u1,u2]))
  have nn:∀ z:Str,z∈WD→bA (13+(dd+1)) (bc (dd+1)) (.tuple [.str z,e1.d,e2.d]):=fun z hz=>(dJ ((nW hz).up (Nat.zero_le 12)) ni1 ni2).mono (by omega) (by have:=Fx ((dd+1)); have:bc 0=2*bm 2+40:=rfl; omega)
  rcases hw with rfl | rfl
  ·exact q (.ref p) (.less e1 e2) _ GA ⟨_,K5⟩ (.tup (.inl ag) (.cons (.str _) (.cons dd1 (.cons dd2 .nil)))) ⟨oe1,ne1 rfl,oe2,ne2 rfl,ce1,ce2⟩ (by simp only [C.cnt]; omega) (nn "less" (by decide +kernel))
  ·exact q (.ref p) (.same e1 e2) _ GA ⟨_,K5⟩ (.tup (.inl ag) (.cons (.str _) (.cons dd1 (.cons dd2 .nil)))) ⟨oe1,ne1 rfl,oe2,ne2 rfl,ce1,ce2⟩ (by simp only [C.cnt]; omega) (nn "same" (by decide +kernel))
 have c2':¬ way<3:=fun z=>c2 (decide_eq_true z)
 have K1:=hkit.go ht G1
 have GK1:=Gk.of_go kdd ht G1
 refine ⟨_,rfl,rfl,_,rfl,?_⟩
 refine aE (fun c3=>?_) (fun c3=>?_)
 ·refine ⟨_,rfl,_,rfl,_,rfl,_,_,rfl,rfl,up dd (by omega) _ _ _ _ ⟨tp,kd,R,HS,Vs,v,hl,vl,gv,n,b,(show [V.ref tp,V.ref kd,V.int (((dd+1:Nat):Int) - 1)]=_ by rw [hd1]),G1.t,K1,env,fun u1 c4 H3 G3 K3 dc oc cc nc=>⟨(by show 2≤sizeLine; decide),fun p hp=>?_⟩⟩⟩
  obtain ⟨b',K3⟩:=K3
  refine q (.ref p) (.not_ c4) _ ((GK1.trans G3).new hp _) ⟨b',K3.go G3.t ((Go.refl G3.t).new hp _)⟩ (.tup (.inl ag) (.cons (.str _) (.cons (dc.mono (bd hp _)) .nil))) oc (by simp only [C.cnt]; omega) ?_
  exact (jv ((wd "not" (by decide +kernel)).up (Nat.zero_le _)) nc).mono (by omega) (by rw [show bc (dd+1)=(2*bm 2+40)+bc dd+40 from rfl]; omega)
 have c3':¬ way=3:=fun z=>c3 (decide_eq_true (congrArg V.int z))
 refine ⟨_,rfl,_,rfl,up 0 (by omega) _ _ _ _ ⟨tp,kd,R,HS,Vs,v,hl,vl,gv,n,b,rfl,G1.t,K1,env,fun u1 c4 H3 G3 K3 dc oc cc nc=>?_⟩⟩
 obtain ⟨b',K3⟩:=K3
 obtain ⟨wd',hat,hw⟩:=wao (i:=way - 4) (by omega) (by omega)
 refine ⟨(by show 2≤sizeLine; decide),fun lw hlw=>⟨_,rfl,_,_,rfl,rfl,lw,_,_,_,rfl,rfl,SqL.of ag,hat,?_⟩⟩
 have G4:=(Go.refl G3.t).new hlw (.lst ((["and", "or"]:List Str).map V.str))
 have K4:=K3.go G3.t G4
 obtain ⟨kd3,_⟩:=id K3
 have GK4:=(GK1.trans G3).trans (Gk.of_go kd3 G3.t G4)
 refine ⟨_,rfl,_,rfl,_,rfl,_,rfl,_,_,rfl,rfl,up dd (by omega) _ _ _ _ ⟨tp,kd,R,HS,Vs,v,hl,vl,gv,n,b',(show [V.ref tp,V.ref kd,V.int (((dd+1:Nat):Int) - 1)]=_ by rw [hd1]),G4.t,K4,env,fun u2 c5 H5 G5 K5 dc2 oc2 cc2 nc2=>⟨(by show 3≤sizeLine; decide),fun p hp=>?_⟩⟩⟩
 obtain ⟨b5,K5⟩:=K5
 have GA:=(GK4.trans G5).new hp (.tup [.str wd',u1,u2])
 have K6:=K5.go G5.t ((Go.refl G5.t).new hp (.tup [.str wd',u1,u2]))
 have dd1:=dc.mono (((G4.tk G3.t).trans G5.k).trans (bd hp (.tup [.str wd',u1,u2])))
 have dd2:=dc2.mono (bd hp (.tup [.str wd',u1,u2]))
 have nn:∀ z:Str,z∈WD→bA (13+(dd+1)) (bc (dd+1)) (.tuple [.str z,c4.d,c5.d]):=fun z hz=>(dJ (m:=13+dd) ((nW hz).up (Nat.zero_le _)) (nc.up (by omega)) nc2).mono (by omega) (by rw [show bc (dd+1)=(2*bm 2+40)+bc dd+40 from rfl,show bc 0=2*bm 2+40 from rfl]; omega)
 rcases hw with rfl | rfl
 ·exact q (.ref p) (.and_ c4 c5) _ GA ⟨_,K6⟩ (.tup (.inl ag) (.cons (.str _) (.cons dd1 (.cons dd2 .nil)))) ⟨oc,oc2⟩ (by simp only [C.cnt]; omega) (nn "and" (by decide +kernel))
 ·exact q (.ref p) (.or_ c4 c5) _ GA ⟨_,K6⟩ (.tup (.inl ag) (.cons (.str _) (.cons dd1 (.cons dd2 .nil)))) ⟨oc,oc2⟩ (by simp only [C.cnt]; omega) (nn "or" (by decide +kernel))
end
open PySem L2
mutual
noncomputable def S.cnt:S→Nat
 | .if_ _ a b=>1+S.cnts a+S.cnts b
 | .while_ _ a=>1+S.cnts a
 | _=>1
noncomputable def S.cnts:List S→Nat
 | []=>0
 | s::r=>s.cnt+S.cnts r
end
mutual
noncomputable def OkS (R:List Rec) (HS:List cI) (Vs:List Fld) (gv:Str):S→Prop
 | .let_ x e=>∃ k,(x,k)∈Vs∧Ok R Vs e k∧cD e.d≤12
 | .say w c=>w∈cX∧OkC R Vs c∧c.cnt≤6
 | .if_ c a b=>(OkC R Vs c∧c.cnt≤6)∧cJ R HS Vs gv a∧cJ R HS Vs gv b
 | .while_ c a=>(OkC R Vs c∧c.cnt≤6)∧cJ R HS Vs gv a
 | .call x f es=>∃ h∈HS,h.1=f∧(x,h.2.2.2)∈Vs∧OkL R Vs es (h.2.1.map (·.2))∧∀ e∈es,cD e.d≤12
 | .give e=>Ok R Vs e gv∧cD e.d≤12
noncomputable def cJ (R:List Rec) (HS:List cI) (Vs:List Fld) (gv:Str):List S→Prop
 | []=>True
 | s::r=>OkS R HS Vs gv s∧cJ R HS Vs gv r
end
theorem S.cnts_snoc:∀ (ss:List S) (s:S),S.cnts (ss++[s])=S.cnts ss+s.cnt
 | [],s=>by simp [S.cnts]
 | a::r,s=>by simp only [List.cons_append,S.cnts,S.cnts_snoc r s]; omega
theorem S.cnts_app:∀ a b:List S,S.cnts (a++b)=S.cnts a+S.cnts b
 | [],b=>by simp [S.cnts]
 | s::r,b=>by simp only [List.cons_append,S.cnts,S.cnts_app r b]; omega
theorem cJ.snoc {R:List Rec} {HS:List cI} {Vs:List Fld} {gv:Str} {s:S} (h:OkS R HS Vs gv s):∀ {ss:List S},cJ R HS Vs gv ss→cJ R HS Vs gv (ss++[s])
 | [],_=>by simp only [List.nil_append,cJ]; exact ⟨h,trivial⟩
 | a::r,q=>by
  simp only [cJ] at q
  simp only [List.cons_append,cJ]
  exact ⟨q.1,cJ.snoc h q.2⟩
theorem cJ.app {R:List Rec} {HS:List cI} {Vs:List Fld} {gv:Str}:∀ {a b:List S},cJ R HS Vs gv a→cJ R HS Vs gv b→cJ R HS Vs gv (a++b)
 | [],b,_,q=>q
 | s::r,b,h,q=>by
  simp only [cJ] at h
  simp only [List.cons_append,cJ]
  exact ⟨h.1,cJ.app h.2 q⟩
theorem S.cnt_pos (s:S):1≤s.cnt:=by cases s<;>simp only [S.cnt]<;>omega
noncomputable def BS:Nat:=bc 2+200
noncomputable def mS (dp:Nat):Nat:=17+2*dp
mutual
noncomputable def S.nest:S→Nat
 | .if_ _ a b=>1+max (S.nests a) (S.nests b)
 | .while_ _ a=>1+S.nests a
 | _=>0
noncomputable def S.nests:List S→Nat
 | []=>0
 | s::r=>max s.nest (S.nests r)
end
noncomputable def NS (dp:Nat) (s:S):Prop:=bA (mS dp) (s.cnt*BS - 2) s.d∧s.nest≤dp
theorem jq {dp:Nat}:∀ {ss:List S},(∀ s∈ss,NS dp s)→S.nests ss≤dp
 | [],_=>Nat.zero_le _
 | s::r,h=>by
  have h1:=(h s List.mem_cons_self).2
  have h2:=jq (ss:=r) fun j hj=>h j (List.mem_cons_of_mem _ hj)
  simp only [S.nests]
  omega
theorem Gf:200≤BS:=by decide +kernel
theorem gC {dp:Nat}:∀ {ss:List S},(∀ s∈ss,NS dp s)→br (mS dp) (S.cnts ss*BS) (S.ds ss)
 | [],_=>by simp only [S.ds]; exact nz.mono (Nat.le_refl _) (Nat.zero_le _)
 | s::r,h=>by
  have h1:=(h s List.mem_cons_self).1
  have h2:=gC (ss:=r) fun j hj=>h j (List.mem_cons_of_mem _ hj)
  have h3:1*BS≤s.cnt*BS:=Nat.mul_le_mul_right _ s.cnt_pos
  have h4:=Gf
  simp only [S.ds]
  refine (br.cons h1 h2).mono (Nat.le_refl _) ?_
  simp only [S.cnts]
  rw [Nat.add_mul]
  omega
theorem ns1 {dp m b:Nat} {s:S} (h1:s.cnt=1) (h0:s.nest=0) (h:bA m b s.d) (hm:m≤mS dp) (hb:b+2≤BS):NS dp s:=by
 unfold NS
 rw [h1,Nat.one_mul]
 exact ⟨h.mono hm (by omega),by omega⟩
structure Fu (R:List Rec) (HS:List cI) (Vs:List Fld) (gv:Str):Prop where
 env:Env R Vs
 hs:CU R HS
 vk:∀ p∈Vs,p.2∈KS R
 v1:1≤Vs.length
 gk:gv∈KS R
theorem Gk.upd {tp kd p:Addr} {H H1:Hp} (a:Gk tp kd H H1) (t:Tp H tp) (h:H p=none) {ys:List V} (h1:H1 p=some (.lst ys)) (o:HO):Gk tp kd H (L2.upd H1 p o):=by
 obtain ⟨sc,k,r,ns,e1,e2⟩:=id t
 obtain ⟨k',r',e3⟩:=a.y sc k r e1
 obtain ⟨sc2,k2,r2,ns2,f1,f2⟩:=id a.t
 have:sc2=sc:=by rw [e3] at f1; cases f1; rfl
 subst this
 have pt:tp≠p:=aJ e1 h
 have ps:sc2≠p:=aJ e2 h
 refine ⟨fun b u n m q=>by rw [aV (aJ q h)]; exact a.x _ _ n m q,fun b xs q=>by rw [aV (aJ q h)]; exact a.k _ _ q,⟨sc2,k2,r2,ns2,by rw [aV pt]; exact f1,by rw [aV ps]; exact f2⟩,fun s3 k3 r3 q=>?_,fun q e=>?_⟩
 ·obtain ⟨k4,r4,e4⟩:=a.y s3 k3 r3 q
  exact ⟨k4,r4,by rw [aV pt]; exact e4⟩
 ·by_cases z:q=p
  ·rw [z]; exact h
  ·rw [aV z] at e; exact a.f q e
section
variable {P:Program} {w:World} {K:Frag} {mg:Str→Option Value} {base:Heap} {f g:Addr} {fd gd:FuncData}
noncomputable def Co (K:Frag) (dp:Nat):Sp:=fun vs H Q _=>∃ tp kd R HS Vs v hl vl gv n b,vs=[.ref tp,.ref kd,.int (dp:Int)]∧Tp H tp∧dv tp H kd R HS Vs v hl vl gv n b∧Fu R HS Vs gv∧0≤n∧∀ u s H' n',Gk tp kd H H'→(∃ b',dv tp H' kd R HS Vs v hl vl gv n' b')→0≤n'→n'+(s.cnt:Int)=n+1→DT K H' u s.d→OkS R HS Vs gv s→NS dp s→Q u H'
noncomputable def nh (K:Frag) (dp:Nat):Sp:=fun vs H Q _=>∃ tp kd R HS Vs v hl vl gv n b,vs=[.ref tp,.ref kd,.int (dp:Int)]∧Tp H tp∧dv tp H kd R HS Vs v hl vl gv n b∧Fu R HS Vs gv∧0≤n∧∀ a xs ss H' n',Gk tp kd H H'→(∃ b',dv tp H' kd R HS Vs v hl vl gv n' b')→0≤n'→n'+(S.cnts ss:Int)=n→H' a=some (.tup xs)→DTs K H' xs (S.ds ss)→cJ R HS Vs gv ss→(∀ s∈ss,NS dp s)→Q (.ref a) H'
noncomputable abbrev Bp:List Str:=["_law_tape_here", "_law_kit_here", "_law_deep", "_law_body_here", "_law_k"]
theorem kb:aO Bp ["_law_tape_here", "_law_kit_here", "_law_deep"] (defScope jQ):=⟨rfl,rfl,rfl,by decide +kernel,rfl,by decide +kernel,by decide +kernel⟩
theorem yL {dp r:Nat} (hr1:1≤r) (T:G0 mg) (F:Fun K "_law_body" "_law_body" jQ f fd) (D_l_draw:Cal P w K mg base 1 "_law_draw" dP bY) (D_l_statement:Cal P w K mg base r "_law_statement" pTx (Co K dp)):bj P w K mg base CX0 (r+1) f fd pTx (nh K dp):=by
 obtain ⟨g_l_draw,gd_l_draw,G_l_draw,b_l_draw,k_l_draw,m_l_draw⟩:=D_l_draw.ex
 obtain ⟨g_l_statement,gd_l_statement,G_l_statement,b_l_statement,k_l_statement,m_l_statement⟩:=D_l_statement.ex
 refine F.ok kb (fun vs H Q EX h=>?_) (fun cdv A outer s H vs Q EX hr h=>?_)
 ·obtain ⟨tp,kd,R,HS,Vs,v,hl,vl,gv,n,b,rfl,_⟩:=h
  rfl
 obtain ⟨tp,kd,R,HS,Vs,v,hl,vl,gv,n,b,rfl,ht,hkit,env,hn,q⟩:=h
 refine ⟨_,(@am _ _ _ _ _ (@aM _ _ 3 _ _ _ _ kb.nd rfl (Or.inl rfl) (@bo _ _ _ _ ah) (aD rfl) (.inr rfl)) (@am _ _ _ _ _ (@cg _ _ _ _ _ _ _ _ PassesOwn.never rfl (dB rfl T.range (@ad _ _ _ _ _ (@aq _ _ _ _ _ _ _ _ _ _ _ _ _ _ _ _ G_l_draw (hr.mono (by omega)) rfl m_l_draw k_l_draw b_l_draw .nil aC (@ad _ _ _ _ _ (pv 0) (@ad _ _ _ _ _ ak ah (ac rfl)) (ac rfl)) (by decide) (ac rfl) (aj rfl)) ah (ac rfl))) (aH (i:=4) kb.nd rfl (Or.inl rfl)) (@ap _ _ _ (@aR _ _ _ _ _ _ _ _ (@az _ _ _ _ _ _ _ _ gu (@aA _ _ _ _ _ _ _ cn (pv 1) au (fun _ _=>rfl)) ak (aG _)) (@am _ _ _ _ _ (yX (Cd hr) (pv 1) au (@ba _ _ _ _ _ _ _ _ bM (@aA _ _ _ _ _ _ _ cn (pv 1) au (fun _ _=>rfl)) ak) (aD rfl)) (@ap _ _ _ (@cM _ _ _ _ (@fG _ _ _ _ _ _ _ _ _ _ _ _ PySem.F.plainAttrs_list PySem.F.slot_list_append PySem.F.type_list_append dY (pv 3) (@ad _ _ _ _ _ (@aq _ _ _ _ _ _ _ _ _ _ _ _ _ _ _ _ G_l_statement (hr.mono (by omega)) rfl m_l_statement k_l_statement b_l_statement .nil aC (@ad _ _ _ _ _ (pv 0) (@ad _ _ _ _ _ (pv 1) (@ad _ _ _ _ _ (pv 2) ah (ac rfl)) (ac rfl)) (ac rfl)) (by decide) (ac rfl) (aj rfl)) ah (ac rfl)) rfl (du rfl rfl) rfl (ac rfl) (aj rfl)) (aD rfl)))) aF)) (fun _=>rfl)) (@ap _ _ _ (@ay _ _ _ _ (@bK _ _ _ _ _ _ _ _ _ bF rfl T.tuple cb (@ad _ _ _ _ _ (pv 3) ah (ac rfl)) (by decide) (by decide) (ac rfl) (aj rfl)))))),?_⟩
 have kt:=hkit.ne ht
 refine ⟨(by show 0≤sizeLine; decide),fun bl hbl=>?_⟩
 have G1:Go tp H (L2.upd H bl (.lst [])):=(Go.refl ht).new hbl _
 have hbt:bl≠tp:=ht.nt hbl
 have hbk:bl≠kd:=(aJ hkit.1 hbl).symm
 refine ⟨_,rfl,tp,4,rfl,G1.t,by decide,by decide,fun many H2 m0 m1 x2 t2 y2=>?_⟩
 have G2:=G1.trans ⟨x2,t2,y2⟩
 have hb2:H2 bl=some (.lst []):=x2 _ _ hbt ag
 refine ⟨_,rfl,by omega,by omega,km (lo:=0) (n:=many.toNat) (fun i σ H'=>∃ m4 ys ss n' b',σ=[some (.ref tp),some (.ref kd),some (.int (dp:Int)),some (.ref bl),m4]∧Gk tp kd H H'∧dv tp H' kd R HS Vs v hl vl gv n' b'∧0≤n'∧n'+(S.cnts ss:Int)=n∧H' bl=some (.lst ys)∧DTs K H' ys (S.ds ss)∧cJ R HS Vs gv ss∧(∀ s∈ss,NS dp s)∧ys.length≤i)
  ⟨none,[],[],n,b,rfl,Gk.of_go hkit.1 ht G2,hkit.go ht G2,hn,by simp [S.cnts],hb2,by simp only [S.ds]; exact .nil,by simp only [cJ],(fun _ z=>nomatch z),Nat.zero_le _⟩ (fun i σ H' hi p=>?_) (fun σ H' p=>?_)⟩
 ·obtain ⟨m4,ys,ss,n',b',rfl,G3,K3,hn',en,hys,dys,oss,nss,lys⟩:=p
  refine ⟨_,rfl,kd,_,_,_,rfl,rfl,K3.1,rfl,_,_,rfl,rfl,_,rfl,?_⟩
  refine aE (fun c1=>?_) (fun c1=>⟨_,ys,ss,n',b',rfl,G3,K3,hn',en,hys,dys,oss,nss,by omega⟩)
  have c1':0<n':=of_decide_eq_true c1
  refine ⟨_,rfl,kd,_,_,_,rfl,rfl,K3.1,rfl,_,_,rfl,rfl,_,rfl,kd,_,rfl,zk.k (k:=Sum.inr "left") K3.1 (by show 6<sizeLine; decide),?_⟩
  have hp0:gT (jc v hl vl gv n' b') (Sum.inr "left") (.int (n' - 1))=jc v hl vl gv (n' - 1) b':=rfl
  rw [hp0]
  have G4:Gk tp kd H' (upd H' kd (.dK (jc v hl vl gv (n' - 1) b'))):=by
   obtain ⟨sc,kk,rr,ns,a1,a2⟩:=id G3.t
   have hsc:sc≠kd:=dN a2 K3.1 (fun z=>by cases z)
   refine ⟨fun bb o _ n2 hb=>by rw [aV n2]; exact hb,fun bb xs hb=>by rw [aV (dN hb K3.1 (fun z=>by cases z))]; exact hb,⟨sc,kk,rr,ns,by rw [aV kt.symm]; exact a1,by rw [aV hsc]; exact a2⟩,fun sc2 k2 r2 e2=>⟨k2,r2,by rw [aV kt.symm]; exact e2⟩,fun p hp=>?_⟩
   by_cases e:p=kd
   ·rw [e,ag] at hp; cases hp
   ·rw [aV e] at hp; exact hp
  have K4:dv tp (upd H' kd (.dK (jc v hl vl gv (n' - 1) b'))) kd R HS Vs v hl vl gv (n' - 1) b':=K3.gk G4 ag
  have hys4:=G4.x _ _ hbt hbk hys
  refine ⟨_,rfl,.inl ⟨rfl,_,SqL.of hys4⟩,_,rfl,_,rfl,_,rfl,tp,kd,R,HS,Vs,v,hl,vl,gv,n' - 1,b',rfl,G4.t,K4,env,by omega,fun u s H5 n5 G5 K5 hn5 en5 ds5 os5 ns5=>?_⟩
  obtain ⟨b5,K5⟩:=K5
  have hys5:=G5.x _ _ hbt hbk hys4
  refine ⟨bl,ys,u,rfl,rfl,hys5,bU (by omega),?_⟩
  have G6:=(G3.trans G4).trans G5
  have kL:=cQ hys5 (.lst (ys++[u]))
  have G7:=G6.upd ht hbl hys5 (.lst (ys++[u]))
  refine ⟨_,ys++[u],ss++[s],n5,b5,rfl,G7,hkit.gk G7 (by rw [aV hbk.symm]; exact K5.1),hn5,?_,ag,?_,cJ.snoc os5 oss,fun y hy=>?_,by rw [List.length_append]; simp; omega⟩
  ·rw [S.cnts_snoc]
   rw [Int.natCast_add]
   omega
  ·rw [S.ds_snoc]
   exact DTs.snoc (ds5.mono kL) (dys.mono ((G4.k.trans G5.k).trans kL))
  ·rcases List.mem_append.mp hy with hy | hy
   ·exact nss y hy
   ·rw [List.mem_singleton.mp hy]; exact ns5
 ·obtain ⟨m4,ys,ss,n',b',rfl,G3,K3,hn',en,hys,dys,oss,nss,lys⟩:=p
  refine ⟨_,rfl,bl,ys,rfl,.inl ⟨SqL.of hys,fun l hl2=>?_⟩⟩
  have G4:=G3.new hl2 (.tup ys)
  exact q l ys ss _ n' G4 ⟨b',K3.go G3.t ((Go.refl G3.t).new hl2 _)⟩ hn' en ag (dys.mono (bd hl2 _)) oss nss
noncomputable abbrev fb:List Str:=["_law_tape_here", "_law_kit_here", "_law_deep", "_law_way", "_law_name", "_law_kind_here", "_law_condition_here", "_law_body_here", "_law_params", "_law_inner", "_law_some", "_law_args"]
noncomputable abbrev fj:List Str:=["_law_one", "_law_own", "_law_tape_here", "_law_kit_here"]
theorem eV:fj.Nodup:=by decide +kernel
noncomputable abbrev fH:List Str:=["_law_one", "_law_own", "_law_kind_here"]
theorem eQ:fH.Nodup:=by decide +kernel
theorem bn:aO fb ["_law_tape_here", "_law_kit_here", "_law_deep"] (defScope cA):=⟨rfl,rfl,rfl,by decide +kernel,rfl,by decide +kernel,by decide +kernel⟩
theorem yc {dp r:Nat} {spB:Sp} (h14:14≤r) (up:∀ d',d'+1=dp→∀ vs H Q E,nh K d' vs H Q E→spB vs H Q E) (T:G0 mg) (F:Fun K "_law_statement" "_law_statement" cA f fd) (D_l_draw:Cal P w K mg base 1 "_law_draw" dP bY) (D_l_names:Cal P w K mg base 2 "_law_names" dP ju)
  (D_l_bounded:Cal P w K mg base 11 "_law_bounded" pBd (fq K)) (D_l_condition:Cal P w K mg base 14 "_law_condition" pTx (An K 2)) (D_l_body:Cal P w K mg base r "_law_body" pTx spB):bj P w K mg base CX0 (r+1) f fd pTx (Co K dp):=by
 obtain ⟨g_l_draw,gd_l_draw,G_l_draw,b_l_draw,k_l_draw,m_l_draw⟩:=D_l_draw.ex
 obtain ⟨g_l_names,gd_l_names,G_l_names,b_l_names,k_l_names,m_l_names⟩:=D_l_names.ex
 obtain ⟨g_l_bounded,gd_l_bounded,G_l_bounded,b_l_bounded,k_l_bounded,m_l_bounded⟩:=D_l_bounded.ex
 obtain ⟨g_l_condition,gd_l_condition,G_l_condition,b_l_condition,k_l_condition,m_l_condition⟩:=D_l_condition.ex
 obtain ⟨g_l_body,gd_l_body,G_l_body,b_l_body,k_l_body,m_l_body⟩:=D_l_body.ex
 refine F.ok bn (fun vs H Q EX h=>?_) (fun cdv A outer s H vs Q EX hr h=>?_)
 ·obtain ⟨tp,kd,R,HS,Vs,v,hl,vl,gv,n,b,rfl,_⟩:=h
  rfl
 obtain ⟨tp,kd,R,HS,Vs,v,hl,vl,gv,n,b,rfl,ht,hkit,envS,hn,q⟩:=h
 refine ⟨_,(@am _ _ _ _ _ (@aM _ _ 3 _ _ _ _ bn.nd rfl (Or.inl rfl) (@aq _ _ _ _ _ _ _ _ _ _ _ _ _ _ _ _ G_l_draw (hr.mono (by omega)) rfl m_l_draw k_l_draw b_l_draw .nil aC (@ad _ _ _ _ _ (pv 0) (@ad _ _ _ _ _ ak ah (ac rfl)) (ac rfl)) (by decide) (ac rfl) (aj rfl)) (aD rfl) (.inr rfl)) (@am _ _ _ _ _ (@aR _ _ _ _ _ _ _ _ (@az _ _ _ _ _ _ _ _ oV (pv 3) ak (aG _)) (@am _ _ _ _ _ (@gn _ _ _ _ _ _ (@aA _ _ _ _ _ _ _ bf (@aA _ _ _ _ _ _ _ cn (pv 1) au (fun _ _=>rfl)) (@aq _ _ _ _ _ _ _ _ _ _ _ _ _ _ _ _ G_l_draw (hr.mono (by omega)) rfl m_l_draw k_l_draw b_l_draw .nil aC (@ad _ _ _ _ _ (pv 0) (@ad _ _ _ _ _ (@aK _ _ _ _ _ _ _ _ _ aU rfl T.len cv (@ad _ _ _ _ _ (@aA _ _ _ _ _ _ _ cn (pv 1) au (fun _ _=>rfl)) ah (ac rfl)) (by decide) (by decide) (ac rfl) (aj rfl)) ah (ac rfl)) (ac rfl)) (by decide) (ac rfl) (aj rfl)) (fun _ _=>rfl)) (cZ rfl (aW (aH (i:=4) bn.nd rfl (Or.inl rfl)) (aW (aH (i:=5) bn.nd rfl (Or.inr rfl)) bS))) rfl rfl rfl) (@ap _ _ _ (@ay _ _ _ _ (@aT _ _ _ _ _ (@ad _ _ _ _ _ au (@ad _ _ _ _ _ (pv 4) (@ad _ _ _ _ _ (@aq _ _ _ _ _ _ _ _ _ _ _ _ _ _ _ _ G_l_bounded (hr.mono (by omega)) rfl m_l_bounded k_l_bounded b_l_bounded .nil aC (@ad _ _ _ _ _ (pv 0) (@ad _ _ _ _ _ (pv 1) (@ad _ _ _ _ _ (pv 5) (@ad _ _ _ _ _ bP ah (ac rfl)) (ac rfl)) (ac rfl)) (ac rfl)) (by decide) (ac rfl) (aj rfl)) ah (ac rfl)) (ac rfl)) (ac rfl)))))) aF) (@am _ _ _ _ _ (@aR _ _ _ _ _ _ _ _ (@az _ _ _ _ _ _ _ _ bg (pv 3) ak (aG _)) (@ap _ _ _ (@ay _ _ _ _ (@aT _ _ _ _ _ (@ad _ _ _ _ _ au (@ad _ _ _ _ _ (@aA _ _ _ _ _ _ _ bf (@aq _ _ _ _ _ _ _ _ _ _ _ _ _ _ _ _ G_l_names (hr.mono (by omega)) rfl m_l_names k_l_names b_l_names .nil aC (@ad _ _ _ _ _ (pv 0) (@ad _ _ _ _ _ ak ah (ac rfl)) (ac rfl)) (by decide) (ac rfl) (aj rfl)) ak (fun _ _=>rfl)) (@ad _ _ _ _ _ (@aq _ _ _ _ _ _ _ _ _ _ _ _ _ _ _ _ G_l_condition (hr.mono (by omega)) rfl m_l_condition k_l_condition b_l_condition .nil aC (@ad _ _ _ _ _ (pv 0) (@ad _ _ _ _ _ (pv 1) (@ad _ _ _ _ _ ak ah (ac rfl)) (ac rfl)) (ac rfl)) (by decide) (ac rfl) (aj rfl)) ah (ac rfl)) (ac rfl)) (ac rfl))))) aF) (@am _ _ _ _ _ (@aR _ _ _ _ _ _ _ _ (@az _ _ _ _ _ _ _ _ bg (pv 3) ak (aG _)) (@ap _ _ _ (@ay _ _ _ _ (@aT _ _ _ _ _ (@ad _ _ _ _ _ au (@ad _ _ _ _ _ (@aq _ _ _ _ _ _ _ _ _ _ _ _ _ _ _ _ G_l_bounded (hr.mono (by omega)) rfl m_l_bounded k_l_bounded b_l_bounded .nil aC (@ad _ _ _ _ _ (pv 0) (@ad _ _ _ _ _ (pv 1) (@ad _ _ _ _ _ (@aA _ _ _ _ _ _ _ cn (pv 1) au (fun _ _=>rfl)) (@ad _ _ _ _ _ bP ah (ac rfl)) (ac rfl)) (ac rfl)) (ac rfl)) (by decide) (ac rfl) (aj rfl)) ah (ac rfl)) (ac rfl))))) aF) (@am _ _ _ _ _ (@aR _ _ _ _ _ _ _ _ (PW.pt (gl (@az _ _ _ _ _ _ _ _ oV (pv 3) ak (aG _)) (eW (@az _ _ _ _ _ _ _ _ gu (pv 2) ak (aG _))))) (@am _ _ _ _ _ (@aM _ _ 6 _ _ _ _ bn.nd rfl (Or.inl rfl) (@aq _ _ _ _ _ _ _ _ _ _ _ _ _ _ _ _ G_l_condition (hr.mono (by omega)) rfl m_l_condition k_l_condition b_l_condition .nil aC (@ad _ _ _ _ _ (pv 0) (@ad _ _ _ _ _ (pv 1) (@ad _ _ _ _ _ ak ah (ac rfl)) (ac rfl)) (ac rfl)) (by decide) (ac rfl) (aj rfl)) (aD rfl) (.inr rfl)) (@am _ _ _ _ _ (@aM _ _ 7 _ _ _ _ bn.nd rfl (Or.inl rfl) (@aq _ _ _ _ _ _ _ _ _ _ _ _ _ _ _ _ G_l_body (hr.mono (by omega)) rfl m_l_body k_l_body b_l_body .nil aC (@ad _ _ _ _ _ (pv 0) (@ad _ _ _ _ _ (pv 1) (@ad _ _ _ _ _ (@ba _ _ _ _ _ _ _ _ bM (pv 2) ak) ah (ac rfl)) (ac rfl)) (ac rfl)) (by decide) (ac rfl) (aj rfl)) (aD rfl) (.inr rfl)) (@am _ _ _ _ _ (@aR _ _ _ _ _ _ _ _ (@az _ _ _ _ _ _ _ _ bg (pv 3) ak (aG _)) (@ap _ _ _ (@ay _ _ _ _ (@aT _ _ _ _ _ (@ad _ _ _ _ _ au (@ad _ _ _ _ _ (pv 6) (@ad _ _ _ _ _ (pv 7) ah (ac rfl)) (ac rfl)) (ac rfl))))) aF) (@ap _ _ _ (@ay _ _ _ _ (@aT _ _ _ _ _ (@ad _ _ _ _ _ au (@ad _ _ _ _ _ (pv 6) (@ad _ _ _ _ _ (pv 7) (@ad _ _ _ _ _ (@aq _ _ _ _ _ _ _ _ _ _ _ _ _ _ _ _ G_l_body (hr.mono (by omega)) rfl m_l_body k_l_body b_l_body .nil aC (@ad _ _ _ _ _ (pv 0) (@ad _ _ _ _ _ (pv 1) (@ad _ _ _ _ _ (@ba _ _ _ _ _ _ _ _ bM (pv 2) ak) ah (ac rfl)) (ac rfl)) (ac rfl)) (by decide) (ac rfl) (aj rfl)) ah (ac rfl)) (ac rfl)) (ac rfl)) (ac rfl)))))))) aF) (@am _ _ _ _ _ (@cg _ _ _ _ _ _ _ _ PassesOwn.never rfl (dD (@dI _ _ _ _ _ _ _ _ _ _ jr (@aA _ _ _ _ _ _ _ cn (pv 1) au (fun _ _=>rfl)) (eO (aq G_l_draw (hr.mono (by omega)) rfl m_l_draw k_l_draw b_l_draw .nil aC (ad (pv 0) (ad (aK aU rfl T.len cv (ad (aA cn (pv 1) au (fun _ _=>rfl)) ah)) ah)))) eS)) (cZ rfl (aW (aH (i:=4) bn.nd rfl (Or.inl rfl)) (aW (aH (i:=8) bn.nd rfl (Or.inl rfl)) (aW (aH (i:=9) bn.nd rfl (Or.inl rfl)) (aW (aH (i:=5) bn.nd rfl (Or.inr rfl)) bS))))) (@am _ _ _ _ _ (dW (i:=10) (N':=fH) (ρ:=[none,none,some 5]) (m:=2) (bI.of (fs:=defScope cA) (N:=fb) rfl rfl (by decide +kernel)) bn.nd rfl (Or.inl rfl) rfl (dD (aA cn (pv 1) au (fun _ _=>rfl))) (fun _ _ _ _=>(ir (n:=2) (K:=K) rfl rfl (aW (aH (i:=0) eQ rfl (Or.inl rfl)) (aW (aH (i:=1) eQ rfl (Or.inl rfl)) bS)))) (fun _ _ _ _=>(gq (az bg (pv 1) (pv 2) (aG _)))) (fun _ _ _ _=>(pv 0))) (@ap _ _ _ (@aR _ _ _ _ _ _ _ _ (@az _ _ _ _ _ _ _ _ (fE hr.units0) (pv 10) (@bo _ _ _ _ ah) (aG _)) (@am _ _ _ _ _ (@aM _ _ 11 _ _ _ _ bn.nd rfl (Or.inl rfl) (@bK _ _ _ _ _ _ _ _ _ bF rfl T.tuple cb (@ad _ _ _ _ _ (bH (N':=fj) (ρ:=[none,none,some 0,some 1]) (m:=2) (bI.of (fs:=defScope cA) (N:=fb) rfl rfl (by decide +kernel)) rfl (bJ (pv 8)) (fun _ _ _ _=>(ir (n:=2) (K:=K) rfl rfl (aW (aH (i:=0) eV rfl (Or.inl rfl)) (aW (aH (i:=1) eV rfl (Or.inl rfl)) bS)))) (fun _ _ _ _=>bC) (fun _ _ _ _=>(aq G_l_bounded (hr.mono (by omega)) rfl m_l_bounded k_l_bounded b_l_bounded .nil aC (ad (pv 2) (ad (pv 3) (ad (pv 1) (ad bP ah))))))) ah (ac rfl)) (by decide) (by decide) (ac rfl) (aj rfl)) (aD rfl) (.inr rfl)) (@ap _ _ _ (@ay _ _ _ _ (@aT _ _ _ _ _ (@ad _ _ _ _ _ au (@ad _ _ _ _ _ (@aA _ _ _ _ _ _ _ bf (pv 10) (@aq _ _ _ _ _ _ _ _ _ _ _ _ _ _ _ _ G_l_draw (hr.mono (by omega)) rfl m_l_draw k_l_draw b_l_draw .nil aC (@ad _ _ _ _ _ (pv 0) (@ad _ _ _ _ _ (@aK _ _ _ _ _ _ _ _ _ aU rfl T.len cv (@ad _ _ _ _ _ (pv 10) ah (ac rfl)) (by decide) (by decide) (ac rfl) (aj rfl)) ah (ac rfl)) (ac rfl)) (by decide) (ac rfl) (aj rfl)) (fun _ _=>rfl)) (@ad _ _ _ _ _ (pv 4) (@ad _ _ _ _ _ (pv 11) ah (ac rfl)) (ac rfl)) (ac rfl)) (ac rfl)))))) aF))) (fun _=>rfl)) (@ap _ _ _ (@ay _ _ _ _ (@aT _ _ _ _ _ (@ad _ _ _ _ _ au (@ad _ _ _ _ _ au (@ad _ _ _ _ _ (@aq _ _ _ _ _ _ _ _ _ _ _ _ _ _ _ _ G_l_condition (hr.mono (by omega)) rfl m_l_condition k_l_condition b_l_condition .nil aC (@ad _ _ _ _ _ (pv 0) (@ad _ _ _ _ _ (pv 1) (@ad _ _ _ _ _ ak ah (ac rfl)) (ac rfl)) (ac rfl)) (by decide) (ac rfl) (aj rfl)) ah (ac rfl)) (ac rfl)) (ac rfl))))))))))),?_⟩
 have env:=envS.env
 have kt:=hkit.ne ht
 obtain ⟨vs,hvl,pvs⟩:=hkit.2.vv
 obtain ⟨hs,hhl,phs⟩:=hkit.2.hh
 have vt:=hkit.2.vt
 have hht:=hkit.2.ht
 have lvs:=Paired.length pvs
 have lV:=env.vl
 have lV1:=envS.v1
 have lhs:=Paired.length phs
 have lH1:=envS.hs.l1
 have lH3:=envS.hs.l3
 have b2v:bm 2≤16000:=by decide
 have bc2v:bc 2≤100000:=by decide
 have bcm:bc 1≤bc 2:=by decide
 have bb2:2*bm 2+100≤bc 2:=by decide
 have eBS:BS=bc 2+200:=rfl
 have mS0:17≤mS dp:=by unfold mS; omega
 have one:∀ {u:V} {s:S} {H':Hp},Gk tp kd H H'→(∃ b',dv tp H' kd R HS Vs v hl vl gv n b')→s.cnt=1→DT K H' u s.d→OkS R HS Vs gv s→NS dp s→Q u H':=fun {u s H'} a1 a2 a3 a4 a5 a6=>q u s H' n a1 a2 hn (by rw [a3]; rfl) a4 a5 a6
 refine ⟨_,rfl,tp,9,rfl,ht,by decide,by decide,fun way H1 w0 w1 x1 t1 y1=>?_⟩
 have G1:Go tp H H1:=⟨x1,t1,y1⟩
 have K1:=hkit.go ht G1
 have GK1:=Gk.of_go hkit.1 ht G1
 have hvl1:=x1 _ _ vt hvl
 have hhl1:=x1 _ _ hht hhl
 refine ⟨_,rfl,_,_,rfl,rfl,_,rfl,?_⟩
 refine aE (fun c1=>?_) (fun c1=>?_)
 ·refine ⟨_,rfl,kd,_,_,_,rfl,rfl,K1.1,rfl,_,rfl,_,rfl,kd,_,_,_,rfl,rfl,K1.1,rfl,vl,vs,rfl,.inl (SqL.of hvl1),tp,_,rfl,t1,by omega,by omega,fun v3 H3 f0 f1 x3 t3 y3=>?_⟩
  have G3:=G1.trans ⟨x3,t3,y3⟩
  obtain ⟨u,hu,hat3,hat4⟩:=dg (xs:=vs) (i:=v3) f0 f1
  obtain ⟨fl,hfl,hfa⟩:=aY pvs _ u hat3
  obtain ⟨cf,rfl,hcf⟩:=hfa.mono (G3.tk ht)
  have hfm:=List.mem_of_getElem? hfl
  refine ⟨vl,_,_,_,rfl,rfl,SqL.of (x3 _ _ vt hvl1),hat4,cf,_,rfl,SqT.of hcf,rfl,_,_,rfl,_,_,rfl,rfl,?_⟩
  refine ⟨_,rfl,_,rfl,_,rfl,_,rfl,tp,kd,fl.2,R,HS,Vs,v,hl,vl,gv,n,b,true,rfl,G3.t,hkit.go ht G3,env,envS.vk fl hfm,fun u4 e4 H4 G4 K4 de oe ne ni ce=>⟨(by show 3≤sizeLine; decide),fun p hp=>?_⟩⟩
  refine one (s:=.let_ fl.1 e4) (((Gk.of_go hkit.1 ht G3).trans G4).new hp _) ⟨_,K4.go G4.t ((Go.refl G4.t).new hp _)⟩ rfl (.tup (.inl ag) (.cons (.str _) (.cons (.str _) (.cons (de.mono (bd hp _)) .nil)))) ⟨fl.2,hfm,oe,ce⟩ ?_
  exact ns1 rfl rfl (dJ ((wd "let" (by decide +kernel)).up (Nat.zero_le 12)) ((nW (cH (env.vn fl hfm))).up (Nat.zero_le 12)) ni) (by omega) (by omega)
 refine ⟨_,rfl,rfl,_,rfl,?_⟩
 refine aE (fun c2=>?_) (fun c2=>?_)
 ·refine ⟨_,rfl,tp,1,rfl,t1,by decide,by decide,fun nl ln H3 G3 nl0 hnl hln hpln _=>?_⟩
  obtain ⟨z,rfl⟩:∃ z,ln=[z]:=by
   cases ln with
   | nil=>simp at hln
   | cons z r =>
    cases r with
    | nil=>exact ⟨z,rfl⟩
    | cons _ _=>simp at hln
  have G13:=G1.trans G3
  refine ⟨nl,_,_,_,rfl,rfl,SqL.of hnl,at0 _ _,_,rfl,_,rfl,2,Nat.le_refl _,tp,kd,R,HS,Vs,v,hl,vl,gv,n,b,rfl,G13.t,hkit.go ht G13,env,fun u4 c4 H4 G4 K4 dc oc cc nc=>⟨(by show 3≤sizeLine; decide),fun p hp=>?_⟩⟩
  obtain ⟨b4,K4⟩:=K4
  refine one (s:=.say z c4) (((Gk.of_go hkit.1 ht G13).trans G4).new hp _) ⟨_,K4.go G4.t ((Go.refl G4.t).new hp _)⟩ rfl (.tup (.inl ag) (.cons (.str _) (.cons (.str _) (.cons (dc.mono (bd hp _)) .nil)))) ⟨hpln z (List.mem_singleton.mpr rfl),oc,by omega⟩ ?_
  exact ns1 rfl rfl (dJ ((wd "say" (by decide +kernel)).up (Nat.zero_le _)) ((nW (cH (hpln z (List.mem_singleton.mpr rfl)))).up (Nat.zero_le _)) nc) (by omega) (by omega)
 refine ⟨_,rfl,rfl,_,rfl,?_⟩
 refine aE (fun c3=>?_) (fun c3=>?_)
 ·refine ⟨_,rfl,_,rfl,_,rfl,kd,_,_,_,rfl,rfl,K1.1,rfl,tp,kd,gv,R,HS,Vs,v,hl,vl,gv,n,b,true,rfl,t1,K1,env,envS.gk,fun u4 e4 H4 G4 K4 de oe ne ni ce=>⟨(by show 2≤sizeLine; decide),fun p hp=>?_⟩⟩
  refine one (s:=.give e4) ((GK1.trans G4).new hp _) ⟨_,K4.go G4.t ((Go.refl G4.t).new hp _)⟩ rfl (.tup (.inl ag) (.cons (.str _) (.cons (de.mono (bd hp _)) .nil))) ⟨oe,ce⟩ ?_
  exact ns1 rfl rfl (jv ((wd "give" (by decide +kernel)).up (Nat.zero_le 12)) ni) (by omega) (by omega)
 dsimp only [DU]
 refine jA (fun σ H2=>σ=[some (.ref tp),some (.ref kd),some (.int (dp:Int)),some (.int way),none,none,none,none,none,none,none,none]∧H2=H1) (fun NX hNX=>?_) (fun σ H2 jj=>?_)
 ·refine ⟨_,rfl,_,_,rfl,rfl,_,rfl,?_⟩
  refine aE (fun c4=>?_) (fun c4=>hNX _ _ ⟨rfl,rfl⟩)
  refine ⟨_,rfl,_,_,rfl,rfl,_,rfl,?_⟩
  refine aE (fun c5=>?_) (fun c5=>hNX _ _ ⟨rfl,rfl⟩)
  have c5':(0:Int)<(dp:Int):=of_decide_eq_true c5
  obtain ⟨dd,rfl⟩:∃ dd,dp=dd+1:=⟨dp - 1,by omega⟩
  have hd1:(((dd+1:Nat):Int) - 1)=(dd:Int):=by omega
  refine ⟨_,rfl,_,rfl,1,by decide,tp,kd,R,HS,Vs,v,hl,vl,gv,n,b,rfl,t1,K1,env,fun u4 c4 H4 G4 K4 dc oc cc nc=>?_⟩
  obtain ⟨b4,K4⟩:=K4
  refine ⟨_,rfl,_,rfl,_,rfl,_,_,rfl,rfl,up dd (by omega) _ _ _ _ ⟨tp,kd,R,HS,Vs,v,hl,vl,gv,n,b4,(show [V.ref tp,V.ref kd,V.int (((dd+1:Nat):Int) - 1)]=_ by rw [hd1]),G4.t,K4,envS,hn,fun aa xa sa H5 n5 G5 K5 hn5 en5 haa dsa osa nsa=>?_⟩⟩
  obtain ⟨b5,K5⟩:=K5
  have G15:=(GK1.trans G4).trans G5
  refine ⟨_,rfl,rfl,_,rfl,?_⟩
  refine aE (fun c6=>?_) (fun c6=>?_)
  ·refine ⟨_,rfl,_,rfl,(by show 3≤sizeLine; decide),fun p hp=>?_⟩
   have kp:=bd hp (.tup [.str "while",u4,.ref aa])
   refine q (.ref p) (.while_ c4 sa) _ n5 (G15.new hp _) ⟨b5,K5.go G5.t ((Go.refl G5.t).new hp _)⟩ hn5 (by simp only [S.cnt]; omega) (.tup (.inl ag) (.cons (.str _) (.cons (dc.mono (G5.k.trans kp)) (.cons (.tup (.inl (kp _ _ haa)) (dsa.mono kp)) .nil)))) ⟨⟨oc,by omega⟩,osa⟩ ?_
   have nt:=(gC nsa).tup
   refine ⟨?_,by have:=jq nsa; simp only [S.nest]; omega⟩
   simp only [S.cnt,S.d]
   refine (dJ (m:=mS dd+1) ((wd "while" (by decide +kernel)).up (Nat.zero_le _)) (nc.up (by unfold mS; omega)) nt).mono (by unfold mS; omega) ?_
   rw [Nat.add_mul]
   omega
  ·refine ⟨_,rfl,_,rfl,_,rfl,_,rfl,_,rfl,_,_,rfl,rfl,up dd (by omega) _ _ _ _ ⟨tp,kd,R,HS,Vs,v,hl,vl,gv,n5,b5,(show [V.ref tp,V.ref kd,V.int (((dd+1:Nat):Int) - 1)]=_ by rw [hd1]),G5.t,K5,envS,hn5,fun ab xb sb H6 n6 G6 K6 hn6 en6 hab dsb osb nsb=>⟨(by show 4≤sizeLine; decide),fun p hp=>?_⟩⟩⟩
   obtain ⟨b6,K6⟩:=K6
   have kp:=bd hp (.tup [.str "if",u4,.ref aa,.ref ab])
   refine q (.ref p) (.if_ c4 sa sb) _ n6 ((G15.trans G6).new hp _) ⟨b6,K6.go G6.t ((Go.refl G6.t).new hp _)⟩ hn6 (by simp only [S.cnt]; omega) (.tup (.inl ag) (.cons (.str _) (.cons (dc.mono ((G5.k.trans G6.k).trans kp)) (.cons (.tup (.inl (kp _ _ (G6.k _ _ haa))) (dsa.mono (G6.k.trans kp))) (.cons (.tup (.inl (kp _ _ hab)) (dsb.mono kp)) .nil))))) ⟨⟨oc,by omega⟩,osa,osb⟩ ?_
   have nt:=(gC nsa).tup
   have nt2:=(gC nsb).tup
   refine ⟨?_,by have:=jq nsa; have:=jq nsb; simp only [S.nest]; omega⟩
   simp only [S.cnt,S.d]
   refine (yd (m:=mS dd+1) ((wd "if" (by decide +kernel)).up (Nat.zero_le _)) (nc.up (by unfold mS; omega)) nt nt2).mono (by unfold mS; omega) ?_
   rw [Nat.add_mul,Nat.add_mul]
   omega
 obtain ⟨rfl,rfl⟩:=jj
 refine ⟨_,rfl,kd,_,_,_,rfl,rfl,K1.1,rfl,_,rfl,_,rfl,kd,_,_,_,rfl,rfl,K1.1,rfl,hl,hs,rfl,.inl (SqL.of hhl1),tp,_,rfl,t1,by omega,by omega,fun vi H3 f0 f1 x3 t3 y3=>?_⟩
 have G3:=G1.trans ⟨x3,t3,y3⟩
 obtain ⟨iN,rfl⟩:∃ iN:Nat,vi=iN:=⟨vi.toNat,by omega⟩
 refine ⟨_,rfl,hl,_,rfl,SqL.of (x3 _ _ hht hhl1),fun ps hps=>?_⟩
 rw [Ep]
 have gP:=ao hps (.lst (hs.drop iN))
 have G4:=G3.trans (Go.same G3.t gP)
 have K4:=hkit.go ht G4
 have GK4:=Gk.of_go hkit.1 ht G4
 have hvl4:=G4.x _ _ vt hvl
 have phs4:=Paired.mapP (Paired.drop' iN phs) fun _ _ z=>fV.mono (G4.tk ht) z
 have pvs4:=Paired.mapP pvs fun _ _ z=>cy.mono (G4.tk ht) z
 refine ⟨ps,rfl,⟨_,SqL.of ag⟩,gZ (xs:=hs.drop iN) (fun i σ H'=>∃ m4 m5 m8 m9 m10,σ=[some (.ref tp),some (.ref kd),some (.int (dp:Int)),some (.int way),m4,m5,none,none,m8,m9,m10,none]∧aZ (L2.upd H3 ps (.lst (hs.drop iN))) H') ⟨none,none,none,none,none,rfl,aZ.refl _⟩ (fun i σ H' _ p=>?_) (fun i x σ H' hx p=>?_) (fun σ H' p=>?_)⟩
 ·obtain ⟨_,_,_,_,_,_,gg⟩:=p
  exact SqL.of (gg _ _ ag)
 ·obtain ⟨m4,m5,m8,m9,m10,rfl,gg⟩:=p
  have G5:=G4.trans (Go.same G4.t gg)
  have K5:=hkit.go ht G5
  obtain ⟨hd,hhd,hha⟩:=aY phs4 i x hx
  obtain ⟨ca,cp,cq,rfl,hca,pfl,qfl⟩:=hha.mono (av gg)
  have hdm:hd∈HS:=List.mem_of_mem_drop (List.mem_of_getElem? hhd)
  have hok:=envS.hs.ok hd hdm
  obtain ⟨pa,px,rfl,hpa,ppx⟩:=pfl
  have lpx:px.length≤2:=by rw [Paired.length ppx]; exact hok.p2
  refine ⟨ca,_,rfl,SqT.of hca,rfl,_,_,rfl,_,_,rfl,_,_,rfl,_,_,rfl,rfl,?_⟩
  have hvl5:=gg _ _ hvl4
  refine ⟨_,rfl,kd,_,_,_,rfl,rfl,K5.1,rfl,vl,rfl,⟨_,SqL.of hvl5⟩,fJ (xs:=vs) vs.length rfl (by omega) (fun i acc H2=>H2=H'∧∃ ss:List Str,acc=ss.map V.str∧∀ z∈ss,(z,hd.2.2.2)∈Vs) ⟨rfl,[],rfl,fun _ z=>nomatch z⟩ (fun i acc H2 p=>by rw [p.1]; exact SqL.of hvl5) (fun i acc H2 x hi la hx p=>?_) (fun acc H2 p la D hD=>?_)⟩
  ·obtain ⟨rfl,ss,rfl,hss⟩:=p
   obtain ⟨fl,hfl,hfa⟩:=aY pvs4 i x hx
   obtain ⟨c,rfl,hc⟩:=hfa.mono (av gg)
   refine ⟨c,_,rfl,SqT.of hc,rfl,_,_,rfl,_,_,rfl,rfl,⟨rfl,rfl⟩,⟨_,rfl,_,rfl,rfl,_,rfl,?_⟩⟩
   refine aE (fun d1=>?_) (fun d1=>nxF hi la ⟨rfl,ss,rfl,hss⟩)
   refine ⟨_,rfl,nxT (by omega) hi la ⟨rfl,ss++[fl.1],by simp,fun z hz=>?_⟩⟩
   rcases List.mem_append.mp hz with hz | hz
   ·exact hss z hz
   ·rw [List.mem_singleton.mp hz,← eqS d1]
    exact List.mem_of_getElem? hfl
  obtain ⟨rfl,ss,rfl,hss⟩:=p
  have sl:ss.length≤5:=by rw [List.length_map] at la; omega
  have gD:=ao hD (.lst (ss.map V.str))
  refine ⟨_,rfl,(by show 0≤sizeLine; decide),fun pe hpe=>?_⟩
  have gE:=ao hpe (.lst [])
  have gDE:=gD.trans gE
  have eD:(upd (upd H2 D (.lst (ss.map V.str))) pe (.lst [])) D=some (.lst (ss.map V.str)):=gE _ _ ag
  refine ⟨D,pe,_,rfl,rfl,SqL.of eD,SqL.of ag,_,rfl,?_⟩
  refine aE (fun c6=>?_) (fun c6=>⟨_,_,_,_,_,rfl,gg.trans gDE⟩)
  have sp:0<ss.length:=by
   cases ss with
   | nil=>exact absurd c6 (by decide)
   | cons _ _=>simp
  have G6:=G5.trans (Go.same G5.t gDE)
  have K6:=hkit.go ht G6
  have GK6:=Gk.of_go hkit.1 ht G6
  have hDt:D≠tp:=G5.t.nt hD
  have hDk:D≠kd:=(aJ K5.1 hD).symm
  have hpa6:=gDE _ _ hpa
  have ppx6:=Paired.mapP ppx fun _ _ z=>cy.mono (av gDE) z
  refine ⟨_,rfl,pa,rfl,⟨px,SqT.of hpa6⟩,bO (xs:=px) px.length rfl (by omega) (fun i acc H7=>Gk tp kd (upd (upd H2 D (.lst (ss.map V.str))) pe (.lst [])) H7∧(∃ b',dv tp H7 kd R HS Vs v hl vl gv n b')∧∃ es:List E,DTs K H7 acc (E.ds es)∧OkL R Vs es ((hd.2.1.take i).map (·.2))∧(∀ e∈es,cD e.d≤12)∧∀ e∈es,bA 12 (bm 2) e.d)
   ⟨Gk.of_go K6.1 G6.t (Go.refl G6.t),⟨b,K6⟩,[],by simp only [E.ds]; exact .nil,by simp only [List.take_zero,List.map_nil,OkL],(fun _ z=>nomatch z),fun _ z=>nomatch z⟩ (fun i acc H7 p=>SqT.of (p.1.k _ _ hpa6)) (fun i acc H7 x hi la hx p=>?_) (fun acc H7 p la D2 hD2=>?_)⟩
  ·obtain ⟨G7,⟨b7,K7⟩,es,des,oks,cs,ns⟩:=p
   obtain ⟨fl,hfl,hfa⟩:=aY ppx6 i x hx
   obtain ⟨cf,rfl,hcf⟩:=hfa.mono G7.k
   have hfK:fl.2∈KS R:=(hok.vs fl (List.mem_append_left _ (List.mem_of_getElem? hfl))).2
   refine ⟨cf,_,rfl,SqT.of hcf,rfl,_,_,rfl,_,_,rfl,rfl,⟨rfl,rfl⟩,bD ⟨_,rfl,_,rfl,_,rfl,tp,kd,fl.2,R,HS,Vs,v,hl,vl,gv,n,b7,true,rfl,G7.t,K7,env,hfK,fun u8 e8 H8 G8 K8 de oe ne ni ce=>nxT (by omega) hi la ⟨G7.trans G8,⟨_,K8⟩,es++[e8],?_,?_,(fun y hy=>(List.mem_append.mp hy).elim (cs y) fun h=>by rw [List.mem_singleton.mp h]; exact ce),fun y hy=>?_⟩⟩⟩
   ·rw [E.ds_snoc]
    exact DTs.snoc de (des.mono G8.k)
   ·rw [List.take_add_one,hfl,List.map_append]
    exact OkL.snoc oe oks
   ·rcases List.mem_append.mp hy with hy | hy
    ·exact ns y hy
    ·rw [List.mem_singleton.mp hy]; exact ni
  ·obtain ⟨G7,⟨b7,K7⟩,es,des,oks,cs,ns⟩:=p
   rw [Paired.length ppx,List.take_length] at oks
   have les:es.length≤2:=by rw [← E.ds_len,← des.len]; omega
   refine ⟨D2,_,rfl,.inl ⟨SqL.of ag,fun lt hlt=>?_⟩⟩
   have sA:=(ao hD2 (.lst acc)).trans (ao hlt (.tup acc))
   have G8:=G7.same sA
   have eD8:=G8.x _ _ hDt hDk eD
   have K8:dv tp (L2.upd (L2.upd H7 D2 (.lst acc)) lt (.tup acc)) kd R HS Vs v hl vl gv n b7:=K7.go G7.t (Go.same G7.t sA)
   refine ⟨_,rfl,_,rfl,_,rfl,D,_,rfl,.inl (SqL.of eD8),tp,_,rfl,G8.t,by rw [List.length_map]; omega,by rw [List.length_map]; omega,fun vj H9 j0 j1 x9 t9 y9=>?_⟩
   have G9:Go tp (L2.upd (L2.upd H7 D2 (.lst acc)) lt (.tup acc)) H9:=⟨x9,t9,y9⟩
   obtain ⟨u,hu,_,hat⟩:=dg (xs:=ss.map V.str) (i:=vj) j0 j1
   obtain ⟨z,hz,rfl⟩:=List.mem_map.mp hu
   refine ⟨D,_,_,_,rfl,rfl,SqL.of (x9 _ _ hDt eD8),hat,_,rfl,_,rfl,(by show 4≤sizeLine; decide),fun p hp=>?_⟩
   have k9:=(G9.tk G8.t).trans (bd hp (.tup [.str "call",.str z,.str hd.1,.ref lt]))
   refine one (s:=.call z hd.1 es) (((GK6.trans G8).trans (Gk.of_go K8.1 G8.t G9)).new hp _) ⟨b7,(K8.go G8.t G9).go G9.t ((Go.refl G9.t).new hp _)⟩ rfl (.tup (.inl ag) (.cons (.str _) (.cons (.str _) (.cons (.str _) (.cons (.tup (.inl (k9 _ _ ag)) (des.mono ((av sA).trans k9))) .nil))))) ⟨hd,hdm,rfl,hss z hz,oks,cs⟩ ?_
   have nt:=(jK ns).tup
   have h1:es.length*(bm 2+2)≤2*(bm 2+2):=Nat.mul_le_mul_right _ les
   exact ns1 rfl rfl (yd (m:=13) ((wd "call" (by decide +kernel)).up (Nat.zero_le _)) ((nW (cH (env.vn _ (hss z hz)))).up (Nat.zero_le _)) ((nW (cH hok.nm)).up (Nat.zero_le _)) nt) (by omega) (by omega)
 ·obtain ⟨m4,m5,m8,m9,m10,rfl,gg⟩:=p
  have G5:=G4.trans (Go.same G4.t gg)
  refine ⟨_,rfl,_,rfl,2,Nat.le_refl _,tp,kd,R,HS,Vs,v,hl,vl,gv,n,b,rfl,G5.t,hkit.go ht G5,env,fun u6 c6 H6 G6 K6 dc oc cc nc=>⟨(by show 3≤sizeLine; decide),fun p hp=>?_⟩⟩
  obtain ⟨b6,K6⟩:=K6
  refine one (s:=.say "x" c6) (((Gk.of_go hkit.1 ht G5).trans G6).new hp _) ⟨_,K6.go G6.t ((Go.refl G6.t).new hp _)⟩ rfl (.tup (.inl ag) (.cons (.str _) (.cons (.str _) (.cons (dc.mono (bd hp _)) .nil)))) ⟨by decide +kernel,oc,by omega⟩ ?_
  exact ns1 rfl rfl (dJ ((wd "say" (by decide +kernel)).up (Nat.zero_le _)) ((wd "x" (by decide +kernel)).up (Nat.zero_le _)) nc) (by omega) (by omega)
end
open PySem L2
theorem gN:∀ ss:List S,ss.length≤S.cnts ss
 | []=>Nat.zero_le _
 | s::r=>by
  have:=s.cnt_pos
  have:=gN r
  simp only [List.length_cons,S.cnts]
  omega
noncomputable abbrev fB:=cI×List S
noncomputable def eE (K:Frag) (H:Hp) (v:V) (F:fB):Prop:=∃ a p q bb xs,v=.ref a∧H a=some (.tup [.str F.1.1,p,q,.str F.1.2.2.2,.ref bb])∧cV H p F.1.2.1∧cV H q F.1.2.2.1∧H bb=some (.tup xs)∧DTs K H xs (S.ds F.2)
theorem eE.mono {K:Frag} {H H':Hp} (t:Tk H H') {v:V} {F:fB} (h:eE K H v F):eE K H' v F:=let ⟨a,p,q,bb,xs,e,h1,h2,h3,h4,h5⟩:=h; ⟨a,p,q,bb,xs,e,t _ _ h1,h2.mono t,h3.mono t,t _ _ h4,h5.mono t⟩
noncomputable def jU (K:Frag) (H:Hp) (v:V) (R:List Rec) (FS:List fB):Prop:=∃ a y z fx,v=.ref a∧H a=some (.tup [y,.ref z])∧dR H y R∧H z=some (.tup fx)∧Paired (eE K H) fx FS
theorem jU.mono {K:Frag} {H H':Hp} (t:Tk H H') {v:V} {R:List Rec} {FS:List fB} (h:jU K H v R FS):jU K H' v R FS:=let ⟨a,y,z,fx,e,h1,h2,h3,h4⟩:=h; ⟨a,y,z,fx,e,t _ _ h1,h2.mono t,t _ _ h3,Paired.mapP h4 fun _ _ q=>q.mono t⟩
structure FOk (R:List Rec) (HS:List cI) (F:fB):Prop where
 ok:cJ R HS (F.1.2.1++F.1.2.2.1) F.1.2.2.2 F.2
 c8:S.cnts F.2≤8
 ns:∀ s∈F.2,NS 3 s
structure uY (R:List Rec) (HS:List cI) (FS:List fB):Prop where
 g:cG R
 nd:(R.map (·.1)).Nodup
 rl:R.length≤3
 hs:CU R HS
 eh:FS.map (·.1)=HS
 ok:∀ F∈FS,FOk R HS F
theorem Dj {R:List Rec} {HS:List cI} {h:cI} (g:cG R) (nd:(R.map (·.1)).Nodup) (rl:R.length≤3) (hs:CU R HS) (hm:h∈HS):Fu R HS (h.2.1++h.2.2.1) h.2.2.2:=by
 have o:=hs.ok h hm
 exact ⟨⟨rl,g,nd,fun p hp=>(o.vs p hp).1,o.l5⟩,hs,fun p hp=>(o.vs p hp).2,o.l1,o.gv⟩
theorem iL {α β:Type} {F:α→β→Prop}:∀ {l:List α} {m:List β},Paired F l m→∀ (j:Nat) b,m[j]?=some b→∃ a,l[j]?=some a∧F a b
 | _,_,.nil,_,_,h=>by simp at h
 | _,_,.cons h t,0,_,h1=>by simp at h1; subst h1; exact ⟨_,rfl,h⟩
 | _,_,.cons h t,j+1,_,h1=>by
  obtain ⟨b,e,q⟩:=iL t j _ (by simpa using h1)
  exact ⟨b,by simpa using e,q⟩
section
variable {P:Program} {w:World} {K:Frag} {mg:Str→Option Value} {base:Heap} {f g:Addr} {fd gd:FuncData}
noncomputable def DJ:Sp:=fun vs H Q _=>∃ v hl hs R HS,∃ i:Nat,∃ h:cI,vs=[v,.ref hl,.int (i:Int)]∧dR H v R∧H hl=some (.lst hs)∧Paired (fV H) hs HS∧HS[i]?=some h∧h.2.1.length+h.2.2.1.length≤1000 ∧
 ∀ kd vl xs H',aZ H H'→H kd=none→H vl=none→H' kd=some (.dK (jc v hl vl h.2.2.2 8 true))→H' vl=some (.lst xs)→Paired (cy H') xs (h.2.1++h.2.2.1)→Q (.ref kd) H'
noncomputable abbrev pKt:List Str:=["_law_records_here", "_law_heads_here", "_law_f"]
noncomputable abbrev CA:List Str:=["_law_records_here", "_law_heads_here", "_law_f", "_law_head"]
theorem sH:aO CA ["_law_records_here", "_law_heads_here", "_law_f"] (defScope qv):=⟨rfl,rfl,rfl,by decide +kernel,rfl,by decide +kernel,by decide +kernel⟩
theorem EL (T:G0 mg) (F:Fun K "_law_kit" "_law_kit" qv f fd):bj P w K mg base CX0 1 f fd pKt DJ:=by
 refine F.ok sH (fun vs H Q EX h=>?_) (fun cdv A outer s H vs Q EX hr h=>?_)
 ·obtain ⟨v,hl,hs,R,HS,i,h,rfl,_⟩:=h
  rfl
 obtain ⟨v,hl,hs,R,HS,i,h,rfl,hR,hhl,phs,hi,hln,q⟩:=h
 refine ⟨_,(@am _ _ _ _ _ (@aM _ _ 3 _ _ _ _ sH.nd rfl (Or.inl rfl) (@aA _ _ _ _ _ _ _ bf (pv 1) (pv 2) (fun _ _=>rfl)) (aD rfl) (.inr rfl)) (@ap _ _ _ (@ay _ _ _ _ (@Dw _ _ _ _ _ (@fA _ _ _ _ _ _ _ _ _ au (pv 0) (@fA _ _ _ _ _ _ _ _ _ au (pv 1) (@fA _ _ _ _ _ _ _ _ _ au (@bK _ _ _ _ _ _ _ _ _ gc rfl T.list wm (@ad _ _ _ _ _ (@ba _ _ _ _ _ _ _ _ (fR.or eM) (@aA _ _ _ _ _ _ _ aI (pv 3) ak (fun _ _=>rfl)) (@aA _ _ _ _ _ _ _ aI (pv 3) ak (fun _ _=>rfl))) ah (ac rfl)) (by decide) (by decide) (ac rfl) (aj rfl)) (@fA _ _ _ _ _ _ _ _ _ au (@aA _ _ _ _ _ _ _ aI (pv 3) ak (fun _ _=>rfl)) (@fA _ _ _ _ _ _ _ _ _ au ak (@fA _ _ _ _ _ _ _ _ _ au bP CT)))))) rfl rfl (by simp) (by decide))))),?_⟩
 obtain ⟨x,hx,a,cp,cq,rfl,ha,⟨pa,px,rfl,hpa,ppx⟩,⟨qa,qx,rfl,hqa,pqx⟩⟩:=iL phs i h hi
 refine ⟨_,rfl,_,rfl,hl,_,_,_,rfl,rfl,SqL.of hhl,lh hx,?_⟩
 refine fun pd hpd=>?_
 have g0:=ao hpd (.dK [])
 have ha0:=g0 _ _ ha
 refine ⟨_,rfl,_,rfl,_,rfl,a,_,_,_,rfl,rfl,SqT.of ha0,rfl,_,rfl,a,_,_,_,rfl,rfl,SqT.of ha0,rfl,?_⟩
 refine iR (g0 _ _ hpa) (g0 _ _ hqa) (by rw [Paired.length ppx,Paired.length pqx]; exact hln) fun pc H1 g1 hpc=>?_
 refine ⟨pc,_,rfl,.inr (SqT.of hpc),fun vl hvl=>?_⟩
 have g2:=ao hvl (.lst (px++qx))
 have g02:=(g0.trans g1).trans g2
 have hpd2:=g2 _ _ (g1 _ _ (ag (H:=H) (a:=pd) (o:=.dK [])))
 refine ⟨_,rfl,a,_,_,_,rfl,rfl,SqT.of (g02 _ _ ha),rfl,hpd2,jc v hl vl h.2.2.2 8 true,rfl,(by show 6≤15; decide),?_⟩
 have hvp:vl≠pd:=fun z=>by rw [z,g1 _ _ (ag (H:=H) (a:=pd) (o:=.dK []))] at hvl; cases hvl
 have gF:aZ H (upd (upd H1 vl (.lst (px++qx))) pd (.dK (ka [] (jc v hl vl h.2.2.2 8 true)))):=fun b o e=>by rw [aV (aJ e hpd)]; exact g02 _ _ e
 refine q pd vl (px++qx) _ gF hpd ((g0.trans g1).free hvl) ag (by rw [aV hvp]; exact ag) ?_
 exact Paired.app' (Paired.mapP ppx fun _ _ z=>z.mono (av gF)) (Paired.mapP pqx fun _ _ z=>z.mono (av gF))
noncomputable def oI (K:Frag):Sp:=fun vs H Q _=>∃ tp,vs=[.ref tp]∧Tp H tp∧∀ v R HS FS H',Go tp H H'→jU K H' v R FS→uY R HS FS→Q v H'
noncomputable abbrev tm:List Str:=["_law_tape_here", "_law_records_here", "_law_heads_here", "_law_functions", "_law_f", "_law_kit_here"]
theorem cL:aO tm ["_law_tape_here"] (defScope gH):=⟨rfl,rfl,rfl,by decide +kernel,rfl,by decide +kernel,by decide +kernel⟩
theorem vA (T:G0 mg) (F:Fun K "_law_program" "_law_program" gH f fd) (D_l_records:Cal P w K mg base 3 "_law_records" ["_law_tape_here"] BL) (D_l_heads:Cal P w K mg base 3 "_law_heads" ["_law_tape_here", "_law_records_here"] xV) (D_l_kit:Cal P w K mg base 1 "_law_kit" pKt DJ) (D_l_body:Cal P w K mg base 22 "_law_body" pTx (nh K 3)) :
  bj P w K mg base CX0 23 f fd ["_law_tape_here"] (oI K):=by
 obtain ⟨g_l_records,gd_l_records,G_l_records,b_l_records,k_l_records,m_l_records⟩:=D_l_records.ex
 obtain ⟨g_l_heads,gd_l_heads,G_l_heads,b_l_heads,k_l_heads,m_l_heads⟩:=D_l_heads.ex
 obtain ⟨g_l_kit,gd_l_kit,G_l_kit,b_l_kit,k_l_kit,m_l_kit⟩:=D_l_kit.ex
 obtain ⟨g_l_body,gd_l_body,G_l_body,b_l_body,k_l_body,m_l_body⟩:=D_l_body.ex
 refine F.ok cL (fun vs H Q EX h=>?_) (fun cdv A outer s H vs Q EX hr h=>?_)
 ·obtain ⟨tp,rfl,_⟩:=h
  rfl
 obtain ⟨tp,rfl,ht,q⟩:=h
 refine ⟨_,(@am _ _ _ _ _ (@aM _ _ 1 _ _ _ _ cL.nd rfl (Or.inl rfl) (@aq _ _ _ _ _ _ _ _ _ _ _ _ _ _ _ _ G_l_records (hr.mono (by omega)) rfl m_l_records k_l_records b_l_records .nil aC (@ad _ _ _ _ _ (pv 0) ah (ac rfl)) (by decide) (ac rfl) (aj rfl)) (aD rfl) (.inr rfl)) (@am _ _ _ _ _ (@aM _ _ 2 _ _ _ _ cL.nd rfl (Or.inl rfl) (@aq _ _ _ _ _ _ _ _ _ _ _ _ _ _ _ _ G_l_heads (hr.mono (by omega)) rfl m_l_heads k_l_heads b_l_heads .nil aC (@ad _ _ _ _ _ (pv 0) (@ad _ _ _ _ _ (pv 1) ah (ac rfl)) (ac rfl)) (by decide) (ac rfl) (aj rfl)) (aD rfl) (.inr rfl)) (@am _ _ _ _ _ (@aM _ _ 3 _ _ _ _ cL.nd rfl (Or.inl rfl) (@bo _ _ _ _ ah) (aD rfl) (.inr rfl)) (@am _ _ _ _ _ (@cg _ _ _ _ _ _ _ _ PassesOwn.never rfl (dB rfl T.range (@ad _ _ _ _ _ (@aK _ _ _ _ _ _ _ _ _ aU rfl T.len cv (@ad _ _ _ _ _ (pv 2) ah (ac rfl)) (by decide) (by decide) (ac rfl) (aj rfl)) ah (ac rfl))) (aH (i:=4) cL.nd rfl (Or.inl rfl)) (@am _ _ _ _ _ (@aM _ _ 5 _ _ _ _ cL.nd rfl (Or.inl rfl) (@aq _ _ _ _ _ _ _ _ _ _ _ _ _ _ _ _ G_l_kit (hr.mono (by omega)) rfl m_l_kit k_l_kit b_l_kit .nil aC (@ad _ _ _ _ _ (pv 1) (@ad _ _ _ _ _ (pv 2) (@ad _ _ _ _ _ (pv 4) ah (ac rfl)) (ac rfl)) (ac rfl)) (by decide) (ac rfl) (aj rfl)) (aD rfl) (.inr rfl)) (@ap _ _ _ (@cM _ _ _ _ (@fG _ _ _ _ _ _ _ _ _ _ _ _ PySem.F.plainAttrs_list PySem.F.slot_list_append PySem.F.type_list_append dY (pv 3) (@ad _ _ _ _ _ (@ba _ _ _ _ _ _ _ _ (fR.or eM) (@aA _ _ _ _ _ _ _ bf (pv 2) (pv 4) (fun _ _=>rfl)) (@aT _ _ _ _ _ (@ad _ _ _ _ _ (@ba _ _ _ _ _ _ _ _ (fR.or eM) (@aq _ _ _ _ _ _ _ _ _ _ _ _ _ _ _ _ G_l_body (hr.mono (by omega)) rfl m_l_body k_l_body b_l_body .nil aC (@ad _ _ _ _ _ (pv 0) (@ad _ _ _ _ _ (pv 5) (@ad _ _ _ _ _ ak ah (ac rfl)) (ac rfl)) (ac rfl)) (by decide) (ac rfl) (aj rfl)) (@aq _ _ _ _ _ _ _ _ _ _ _ _ _ _ _ _ G_l_body (hr.mono (by omega)) rfl m_l_body k_l_body b_l_body .nil aC (@ad _ _ _ _ _ (pv 0) (@ad _ _ _ _ _ (pv 5) (@ad _ _ _ _ _ ak ah (ac rfl)) (ac rfl)) (ac rfl)) (by decide) (ac rfl) (aj rfl))) ah (ac rfl)))) ah (ac rfl)) rfl (du rfl rfl) rfl (ac rfl) (aj rfl)) (aD rfl)))) (fun _=>rfl)) (@ap _ _ _ (@ay _ _ _ _ (@aT _ _ _ _ _ (@ad _ _ _ _ _ (pv 1) (@ad _ _ _ _ _ (@bK _ _ _ _ _ _ _ _ _ bF rfl T.tuple cb (@ad _ _ _ _ _ (pv 3) ah (ac rfl)) (by decide) (by decide) (ac rfl) (aj rfl)) ah (ac rfl)) (ac rfl))))))))),?_⟩
 refine ⟨_,rfl,tp,rfl,ht,fun rv R H1 G1 hR hRl hg hnd=>?_⟩
 refine ⟨_,rfl,_,rfl,tp,rv,R,rfl,G1.t,hR,hRl,fun hl hs HS H2 G2 hl0 hhl phs hsok=>?_⟩
 have G12:=G1.trans G2
 have hlt:hl≠tp:=G1.t.nt hl0
 have hR2:=hR.mono (G2.tk G1.t)
 have lhs:=Paired.length phs
 have l3:=hsok.l3
 refine ⟨(by show 0≤sizeLine; decide),fun fl hfl=>?_⟩
 have G3:=G12.new hfl (.lst [])
 have hft:fl≠tp:=G12.t.nt hfl
 have hfH:H fl=none:=G12.free ht hfl
 have hfh:fl≠hl:=(aJ hhl hfl).symm
 have hhl3:(L2.upd H2 fl (.lst [])) hl=some (.lst hs):=ao hfl _ _ _ hhl
 refine ⟨_,rfl,hl,hs,rfl,.inl (SqL.of hhl3),_,rfl,by omega,by omega,km (lo:=0) (n:=((hs.length:Nat):Int).toNat) (fun i σ H'=>∃ m4 m5 fx FS,σ=[some (.ref tp),some rv,some (.ref hl),some (.ref fl),m4,m5]∧Go tp H H'∧Tk H2 H'∧H' hl=some (.lst hs)∧H' fl=some (.lst fx)∧Paired (eE K H') fx FS∧FS.map (·.1)=HS.take i∧∀ F∈FS,FOk R HS F)
  ⟨none,none,[],[],rfl,G3,bd hfl _,hhl3,ag,.nil,by simp,fun _ z=>nomatch z⟩ (fun i σ H' hi p=>?_) (fun σ H' p=>?_)⟩
 ·obtain ⟨m4,m5,fx,FS,rfl,GA,kA,hhA,hfA,pFS,eFS,oFS⟩:=p
  have hi':i<HS.length:=by
   have:i<hs.length:=by simpa using hi
   omega
  have hhi:HS[i]?=some HS[i]:=List.getElem?_eq_getElem hi'
  generalize HS[i]=h at hhi
  have hm:=List.mem_of_getElem? hhi
  have hok:=hsok.ok h hm
  have phA:=Paired.mapP phs fun _ _ z=>fV.mono kA z
  have hRA:=hR2.mono kA
  have envS:=Dj hg hnd hRl hsok hm
  have i0:(0+(i:Int))=(i:Int):=Int.zero_add _
  refine ⟨_,rfl,_,rfl,_,rfl,rv,hl,hs,R,HS,i,h,(show [rv,V.ref hl,V.int (0+(i:Int))]=_ by rw [i0]),hRA,hhA,phA,hhi,by have:=hok.l5; rw [List.length_append] at this; omega,fun kd vl xs HB gB kd0 vl0 hkd hvl pxs=>?_⟩
  have tB:=GA.t.same gB
  have hkt:kd≠tp:=GA.t.nt kd0
  have KB:dv tp HB kd R HS (h.2.1++h.2.2.1) rv hl vl h.2.2.2 8 true:=⟨hkd,hRA.mono (av gB),hlt,GA.t.nt vl0,⟨hs,gB _ _ hhA,Paired.mapP phA fun _ _ z=>z.mono (av gB)⟩,⟨xs,hvl,pxs⟩⟩
  have hhk:hl≠kd:=aJ hhA kd0
  have hfk:fl≠kd:=aJ hfA kd0
  obtain ⟨x,hx,a,cp,cq,rfl,ha,pfl,qfl⟩:=iL phA i h hhi
  refine ⟨_,rfl,.inl ⟨rfl,_,SqL.of (gB _ _ hfA)⟩,_,rfl,_,rfl,hl,_,_,_,rfl,rfl,SqL.of (gB _ _ hhA),Fd hx,?_⟩
  refine ⟨_,rfl,_,rfl,tp,kd,R,HS,_,rv,hl,vl,h.2.2.2,8,true,rfl,tB,KB,envS,by decide,fun a1 x1 s1 H3 n3 G3 K3 hn3 en3 ha1 d1 o1 ns1=>?_⟩
  obtain ⟨b3,K3⟩:=K3
  refine ⟨_,rfl,_,rfl,tp,kd,R,HS,_,rv,hl,vl,h.2.2.2,n3,b3,rfl,G3.t,K3,envS,hn3,fun a2 x2 s2 H4 n4 G4 K4 hn4 en4 ha2 d2 o2 ns2=>?_⟩
  have l1:x1.length≤8:=by
   have e1:s1.length≤S.cnts s1:=gN s1
   rw [d1.len,S.ds_len]; omega
  have l2:x2.length≤8:=by
   have e1:s2.length≤S.cnts s2:=gN s2
   rw [d2.len,S.ds_len]; omega
  refine iR (G4.k _ _ ha1) ha2 (by omega) fun pc H5 g5 hpc=>?_
  refine ⟨(by show 1≤sizeLine; decide),fun p6 hp6=>?_⟩
  have g6:=ao hp6 (.tup [.ref pc])
  have k36:Tk HB (upd H5 p6 (.tup [.ref pc])):=(G3.k.trans G4.k).trans (av (g5.trans g6))
  refine iR (k36 _ _ (gB _ _ ha)) ag (by show 4+1≤1000; decide) fun p7 H7 g7 hp7=>?_
  have g57:=(g5.trans g6).trans g7
  have GK:=(G3.trans G4).same g57
  have hfl7:=GK.x _ _ hft hfk (gB _ _ hfA)
  have hhl7:=GK.x _ _ hlt hhk (gB _ _ hhA)
  have GH:Go tp H H7:=by
   refine ⟨fun b o n e=>GK.x _ _ n (fun z=>?_) (gB _ _ (GA.x _ _ n e)),GK.t,GA.y.trans ((aZ.ts gB).trans GK.y)⟩
   have:=GA.x _ _ n e
   rw [z,kd0] at this
   cases this
  have lfx:fx.length≤3:=by
   rw [Paired.length pFS,← List.length_map (f:=fun F:fB=>F.1),eFS,List.length_take]; omega
  refine ⟨fl,fx,.ref p7,rfl,rfl,hfl7,bU (by omega),?_⟩
  have kL:=cQ hfl7 (.lst (fx++[.ref p7]))
  have k7:Tk HB H7:=k36.trans (av g7)
  have kZ:=(av gB).trans (k7.trans kL)
  refine ⟨_,_,fx++[.ref p7],FS++[(h,s1++s2)],rfl,GH.upd ht hfH _,kA.trans kZ,by rw [aV hfh.symm]; exact hhl7,ag,?_,?_,fun F hF=>?_⟩
  ·refine Paired.snoc (Paired.mapP pFS fun _ _ z=>z.mono kZ) ⟨p7,cp,cq,pc,x1++x2,rfl,kL _ _ hp7,pfl.mono kZ,qfl.mono kZ,kL _ _ ((g6.trans g7) _ _ hpc),?_⟩
   show DTs K _ (x1++x2) (S.ds (s1++s2))
   rw [S.ds_app]
   exact (DTs.append (d1.mono (G4.k.trans (av g57))) (d2.mono (av g57))).mono kL
  ·rw [List.map_append,eFS,List.take_add_one,hhi]; rfl
  ·rcases List.mem_append.mp hF with hF | hF
   ·exact oFS F hF
   ·rw [List.mem_singleton.mp hF]
    refine ⟨cJ.app o1 o2,?_,fun s hs'=>?_⟩
    ·show S.cnts (s1++s2)≤8
     rw [S.cnts_app]
     omega
    ·rcases List.mem_append.mp hs' with h' | h'
     ·exact ns1 s h'
     ·exact ns2 s h'
 ·obtain ⟨m4,m5,fx,FS,rfl,GA,kA,hhA,hfA,pFS,eFS,oFS⟩:=p
  refine ⟨_,rfl,_,rfl,fl,fx,rfl,.inl ⟨SqL.of hfA,fun tt htt=>⟨(by show 2≤sizeLine; decide),fun p hp=>?_⟩⟩⟩
  have s1:=ao htt (.tup fx)
  have s2:=ao hp (.tup [rv,.ref tt])
  have kS:=av (s1.trans s2)
  rw [Int.toNat_natCast,lhs,List.take_length] at eFS
  exact q (.ref p) R HS FS _ (GA.trans (Go.same GA.t (s1.trans s2))) ⟨p,rv,tt,fx,rfl,ag,(hR2.mono kA).mono kS,s2 _ _ ag,Paired.mapP pFS fun _ _ z=>z.mono kS⟩ ⟨hg,hnd,hRl,hsok,eFS,oFS⟩
theorem rS (T:G0 mg) (F:Fun K "_law_leaf" "_law_leaf" eI f fd) (b:dU K fd pLf []) (m:mg "_law_leaf"=some (.ref f)) (D:Cal P w K mg base 1 "_law_draw" dP bY):∀ n:Nat,bj P w K mg base CX0 (n+1) f fd pLf (hU K n)
 | 0=>kw fun vs H Q E h=>by
  obtain ⟨tp,kd,k,R,HS,Vs,gv,n,b,_,_,_,_,h1,_⟩:=h
  exact h1
 | n+1=>CM T F D ⟨f,fd,rS T F b m D n,b,F.kp,m⟩
theorem Ed (T:G0 mg) (F:Fun K "_law_e" "_law_e" jH f fd) (b:dU K fd pEx []) (m:mg "_law_e"=some (.ref f)) {f2:Addr} {fd2:FuncData} (F2:Fun K "_law_num" "_law_num" lu f2 fd2) (b2:dU K fd2 pTx []) (m2:mg "_law_num"=some (.ref f2))
  {f3:Addr} {fd3:FuncData} (F3:Fun K "_law_row" "_law_row" jw f3 fd3) (b3:dU K fd3 pTx []) (m3:mg "_law_row"=some (.ref f3)) (D:Cal P w K mg base 1 "_law_draw" dP bY) (DL:Cal P w K mg base 5 "_law_leaf" pLf (hU K 4)):∀ n:Nat,bj P w K mg base CX0 (2*n+6) f fd pEx (spE K n)
 | 0=>GM (r1:=1) (r2:=1) (r3:=1) (by decide) (by decide) (by decide) T F D DL ⟨f,fd,kw (fun _ _ _ _ h=>h),b,F.kp,m⟩ ⟨f2,fd2,kw (fun _ _ _ _ h=>h),b2,F2.kp,m2⟩ ⟨f3,fd3,kw (fun _ _ _ _ h=>h),b3,F3.kp,m3⟩
 | n+1 =>
  have De:Cal P w K mg base (2*n+6) "_law_e" pEx (spE K n):=⟨f,fd,Ed T F b m F2 b2 m2 F3 b3 m3 D DL n,b,F.kp,m⟩
  Ho T F D DL De ⟨f2,fd2,Ei T F2 D De,b2,F2.kp,m2⟩ ⟨f3,fd3,EO T F3 D De,b3,F3.kp,m3⟩
theorem rY (T:G0 mg) (F:Fun K "_law_condition" "_law_condition" dE f fd) (b:dU K fd pTx []) (m:mg "_law_condition"=some (.ref f)) (D:Cal P w K mg base 1 "_law_draw" dP bY) (DB:Cal P w K mg base 11 "_law_bounded" pBd (fq K)):∀ n:Nat,bj P w K mg base CX0 (n+12) f fd pTx (An K n)
 | 0=>ym (r:=11) (spC:=fun _ _ _ _=>False) (Nat.le_refl _) (fun d' h=>absurd h (Nat.not_lt_zero _)) T F D DB ⟨f,fd,kw (fun _ _ _ _ h=>h),b,F.kp,m⟩
 | n+1=>ym (r:=n+12) (spC:=An K n) (by omega) (fun d' h vs H Q E q=>⟨d',by omega,q⟩) T F D DB ⟨f,fd,rY T F b m D DB n,b,F.kp,m⟩
theorem ut (T:G0 mg) (F:Fun K "_law_body" "_law_body" jQ f fd) (b:dU K fd pTx []) (m:mg "_law_body"=some (.ref f)) {f2:Addr} {fd2:FuncData} (F2:Fun K "_law_statement" "_law_statement" cA f2 fd2) (b2:dU K fd2 pTx []) (m2:mg "_law_statement"=some (.ref f2))
  (D:Cal P w K mg base 1 "_law_draw" dP bY) (DN:Cal P w K mg base 2 "_law_names" dP ju) (DB:Cal P w K mg base 11 "_law_bounded" pBd (fq K)) (DC:Cal P w K mg base 14 "_law_condition" pTx (An K 2)):∀ n:Nat,bj P w K mg base CX0 (2*n+16) f fd pTx (nh K n)
 | 0=>yL (r:=15) (by decide) T F D ⟨f2,fd2,yc (r:=14) (spB:=fun _ _ _ _=>False) (Nat.le_refl _) (fun d' h=>absurd h (by omega)) T F2 D DN DB DC ⟨f,fd,kw (fun _ _ _ _ h=>h),b,F.kp,m⟩,b2,F2.kp,m2⟩
 | n+1=>yL (r:=2*n+17) (by omega) T F D ⟨f2,fd2,yc (r:=2*n+16) (spB:=nh K n) (by omega) (fun d' h vs H Q E q=>(Nat.succ.inj h) ▸ q) T F2 D DN DB DC ⟨f,fd,ut T F b m F2 b2 m2 D DN DB DC n,b,F.kp,m⟩,b2,F2.kp,m2⟩
end
end K6
namespace L2
open PySem PySem.Spec PyProof.Rows
section
variable {X:Cx}
theorem FU {x y:Str} {p p':Pos} {m:Str} {apos cpos:Pos} (h:(apos.endLine==cpos.line)=true):M1 X (.Name x p) m apos (.Name y p') cpos:=⟨rfl,rfl,h,rfl⟩
structure KDv (K:Frag) (w:World) (a:Addr):Prop where
 ex:∃ es n,K.lookup a=some ⟨.type "dict",none,.dict es n,#[]⟩∧KeysLit w.params es.toList
 lo:(a==sysModules)=false
theorem Ay {a:Addr} (h:KDv X.K X.w a):OpR X (compareOp .In) (fun x y H Q=>∃ z r,x=.str z∧y=.ref a∧PySem.W.nsIn X.K a z=some r∧Q (.bl r.isSome) H):=by
 intro pins s σ H x y v u Q I rx ry hh
 obtain ⟨z,r,rfl,rfl,e,q⟩:=hh
 obtain ⟨t,rfl⟩:=rx
 cases ry
 obtain ⟨es,n,hl,hk⟩:=h.ex
 have mo:=PySem.W.mapOf_K (prog:=X.prog) (w:=X.w) I.kIn hl hk
 refine wpAny_in_of (strKind_is X.prog X.w z t) h.lo mo ⟨.bl r.isSome,H,I.tok _,?_,q⟩
 rw [PySem.W.find_K hl e]
 rfl
theorem zX {a:Addr} (h:KDv X.K X.w a):IxR X (fun x y H Q=>∃ z u v,x=.ref a∧y=.str z∧PySem.W.nsIn X.K a z=some (some u)∧bu v u∧Q v H):=by
 intro value slice pins s σ H x y v u Q I rx ry hh hs
 obtain ⟨z,u',v',rfl,rfl,e,rv,q⟩:=hh
 cases rx
 obtain ⟨t,rfl⟩:=ry
 obtain ⟨es,n,hl,hk⟩:=h.ex
 have mo:=PySem.W.mapOf_K (prog:=X.prog) (w:=X.w) I.kIn hl hk
 have fin:EP X pins σ Q u' { s with toks:=s.toks+1 }:=⟨v',H,I.tok _,rv,q⟩
 exact subscriptTail_builtinR (x:=u') mo.typeIs PySem.F.slot_dict_getitem.lookup (wpAny_getItem_of (Q:=fun r s'=>r=_∧EP X pins σ Q r s') (strKind_is X.prog X.w z t) mo (PySem.W.find_K hl e) ⟨rfl,fin⟩) hs
theorem AG (hu:X.A.units+64<cLine):OpR X (compareOp .In) (fun x y H Q=>∃ b p1 p2 d d1 d2,y=.ref b∧SqT X.K H b [.ref p1,.ref p2]∧p1≠p2∧RdD X.K H x d∧RdD X.K H (.ref p1) d1∧RdD X.K H (.ref p2) d2∧d.canLay0=true∧d1.canLay0=true∧d2.canLay0=true∧d.depth≤8∧Q (.bl (PyData.eqv d1 d||PyData.eqv d2 d)) H):=by
 intro pins s σ H x y v u Q I rx ry hh
 obtain ⟨b,p1,p2,d,d1,d2,rfl,hb,hne,rd,r1,r2,c,c1,c2,dp,q⟩:=hh
 cases ry
 obtain ⟨its,r,pl,hz⟩:=I.tuple hb
 obtain ⟨u1,u2,rfl,q1,q2⟩:=BM r
 cases (show u1=Value.ref p1 from q1)
 cases (show u2=Value.ref p2 from q2)
 obtain ⟨as,ra⟩:=rd.reads I rx
 obtain ⟨as1,ra1⟩:=r1.reads I rfl
 obtain ⟨as2,ra2⟩:=r2.reads I rfl
 have hin:X.A.in1.units+8<cLine:=by
  have:X.A.in1.units≤X.A.units+1:=by simp [Around.in1]
  omega
 have m1:min d1.depth d.depth≤8:=Nat.le_trans (Nat.min_le_right _ _) dp
 have m2:min d2.depth d.depth≤8:=Nat.le_trans (Nat.min_le_right _ _) dp
 refine SeqAt.in_tupleAt (fun w=>match w with | .ref a=>if a=p1 then PyData.eqv d1 d else PyData.eqv d2 d | _=>false) pl (fun w hw=>?_) ⟨.bl (PyData.eqv d1 d||PyData.eqv d2 d),H,I,?_,q⟩
 ·have hw':w=.ref p1∨w=.ref p2:=by simpa using hw
  rcases hw' with rfl | rfl
  ·show SeqAt.EqAt _ _ _ _ (if p1=p1 then _ else _)
   rw [if_pos rfl]
   exact PySem.SeqAt.eqAt_reads d1 d _ _ _ _ _ _ ra1 ra c1 c (by omega)
  ·show SeqAt.EqAt _ _ _ _ (if p2=p1 then _ else _)
   rw [if_neg hne.symm]
   exact PySem.SeqAt.eqAt_reads d2 d _ _ _ _ _ _ ra2 ra c2 c (by omega)
 ·show Value.bool _=Value.bool _
  simp [hne.symm]
end
end L2
namespace K6
open PySem L2
noncomputable def GBT:List (Str×List Str×Str):=[("add",["num", "num"], "num"),("sub",["num", "num"], "num"),("times",["num"], "num"),("div",["num"], "num"),("rest",["num"], "num"),("put",["row", "num", "num"], "row"),("more",["row", "num"], "row"),("signs",["text"], "row")]
noncomputable def GBN:List Str:=["len", "at", "rows", "of", "with", "new"]
structure G (K:Frag) (w:World) (mg:Str→Option Value):Prop where
 t:G0 mg
 gb:∃ aB,mg "GOES_BY"=some (.ref aB)∧KDv K w aB∧(∀ p∈GBT,∃ a b,PySem.W.nsIn K aB p.1=some (some (.ref a))∧(∀ H,SqT K H a [.ref b,.str p.2.2])∧∀ H,SqT K H b (p.2.1.map V.str))∧∀ z∈GBN,PySem.W.nsIn K aB z=some none
 mn:∃ t,mg "MOST_NUMBER"=some (.int 1000000 t)
 ms:∃ t,mg "MOST_SIGNS"=some (.int 40 t)
 mr:∃ t,mg "MOST_IN_ROWS"=some (.int 8 t)
theorem jU.prog {K:Frag} {H:Hp} {v:V} {R:List Rec} {FS:List fB} (h:jU K H v R FS):da H v R:=let ⟨a,y,z,fx,e,h1,h2,h3,h4⟩:=h; ⟨a,y,.ref z,e,h1,h2⟩
noncomputable def inner:E→List E
 | .num _=>[]
 | .text _=>[]
 | .var _=>[]
 | .of_ e _=>[e]
 | .with_ e _ g=>[e,g]
 | .new _ es=>es
 | .add a b=>[a,b]
 | .sub a b=>[a,b]
 | .times _ e=>[e]
 | .div e _=>[e]
 | .rest e _=>[e]
 | .len e=>[e]
 | .at_ a b=>[a,b]
 | .rows es=>es
 | .put a b c=>[a,b,c]
 | .more a b=>[a,b]
 | .signs e=>[e]
theorem Fk {l:List Fld} {x a b:Str} (hnd:(l.map (·.1)).Nodup) (h1:(x,a)∈l) (h2:(x,b)∈l):a=b:=by
 induction l with
 | nil=>cases h1
 | cons p r ih =>
  rw [List.map_cons,List.nodup_cons] at hnd
  rcases List.mem_cons.mp h1 with e1 | m1
  ·rcases List.mem_cons.mp h2 with e2 | m2
   ·rw [← e1] at e2; exact (Prod.mk.inj e2).2.symm
   ·exact absurd (List.mem_map.mpr ⟨_,m2,by rw [← e1]⟩) hnd.1
  ·rcases List.mem_cons.mp h2 with e2 | m2
   ·exact absurd (List.mem_map.mpr ⟨_,m1,by rw [← e2]⟩) hnd.1
   ·exact ih hnd.2 m1 m2
theorem Fc {l:List fB} {a b:fB} (hnd:(l.map (·.1.1)).Nodup) (h1:a∈l) (h2:b∈l) (e:a.1.1=b.1.1):a=b:=by
 induction l with
 | nil=>cases h1
 | cons p r ih =>
  rw [List.map_cons,List.nodup_cons] at hnd
  rcases List.mem_cons.mp h1 with e1 | m1
  ·rcases List.mem_cons.mp h2 with e2 | m2
   ·rw [e1,e2]
   ·exact absurd (List.mem_map.mpr ⟨_,m2,by rw [← e1,e]⟩) hnd.1
  ·rcases List.mem_cons.mp h2 with e2 | m2
   ·exact absurd (List.mem_map.mpr ⟨_,m1,by rw [← e2,e]⟩) hnd.1
   ·exact ih hnd.2 m1 m2
theorem Cv {Vs:List Fld} {x k:Str} {y:V} (hnd:(Vs.map (·.1)).Nodup) (hm:(x,k)∈Vs):(kU (Vs.map fun p=>((Sum.inr p.1:Key),V.str p.2)) (Sum.inr x:Key)).getD y=V.str k:=by
 induction Vs with
 | nil=>cases hm
 | cons p r ih =>
  rw [List.map_cons,List.nodup_cons] at hnd
  rw [List.map_cons]
  rcases List.mem_cons.mp hm with e | m
  ·rw [← e,iY rfl]; rfl
  ·have hne:¬ (Sum.inr p.1:Key)=Sum.inr x:=fun z=>hnd.1 (by rw [Sum.inr.inj z]; exact List.mem_map.mpr ⟨_,m,rfl⟩)
   rw [jf hne]
   exact ih hnd.2 m
theorem ue {K:Frag} {H:Hp}:∀ {xs:List V} {fs:List Fld},Paired (cy H) xs fs→Paired (AF K H) xs (fs.map fun p=>(p.1,V.str p.2))
 | _,_,.nil=>.nil
 | _,_,.cons ⟨a,e,h⟩ t=>.cons ⟨a,e,SqT.of h⟩ (ue t)
theorem DT.open {K:Frag} {H:Hp} {u:V} {ds:List PyData} (h:DT K H u (.tuple ds)):∃ a xs,u=.ref a∧H a=some (.tup xs)∧DTs K H xs ds:=by
 cases h with
 | tup a b=>exact ⟨_,_,rfl,a.hp,b⟩
theorem DTs.open {K:Frag} {H:Hp} {xs:List V} {d:PyData} {ds:List PyData} (h:DTs K H xs (d::ds)):∃ x r,xs=x::r∧DT K H x d∧DTs K H r ds:=by
 cases h with
 | cons a b=>exact ⟨_,_,rfl,a,b⟩
theorem DT.str_inv {K:Frag} {H:Hp} {u:V} {z:Str} (h:DT K H u (.str z)):u=.str z:=by cases h; rfl
theorem DT.int_inv {K:Frag} {H:Hp} {u:V} {z:Int} (h:DT K H u (.int z)):u=.int z:=by cases h; rfl
section
variable {P:Program} {w:World} {K:Frag} {mg:Str→Option Value} {base:Heap} {f g:Addr} {fd gd:FuncData}
noncomputable def hZ:Sp:=fun vs H Q _=>∃ v k R,vs=[v,.str k]∧da H v R∧∀ y H',aZ H H'→cV H' y (look R k)→Q y H'
theorem tK:aO ["program", "kind", "record"] ["program", "kind"] (defScope ib):=⟨rfl,rfl,rfl,by decide +kernel,rfl,by decide +kernel,by decide +kernel⟩
theorem zt (F:Fun K "fields_of" "fields_of" ib f fd):bj P w K mg base CX0 1 f fd ["program", "kind"] hZ:=by
 refine F.ok tK (fun vs H Q E h=>?_) (fun cdv A outer s H vs Q E hr h=>?_)
 ·obtain ⟨v,k,R,rfl,_⟩:=h
  rfl
 obtain ⟨v,k,R,rfl,hp,q⟩:=h
 obtain ⟨a,y,z,rfl,ha,b,xs,rfl,hb,rs⟩:=hp
 refine ⟨_,am (cg PassesOwn.never rfl (bJ (aA aI (pv 0) ak (fun _ _=>rfl))) (aH (i:=2) tK.nd rfl (Or.inl rfl))
   (ap (aR (az bg (aA aI (pv 2) ak (fun _ _=>rfl)) (pv 1) (aG _)) (ap (ay (aA aI (pv 2) ak (fun _ _=>rfl)))) aF)))
  (ap (ay (aT ah))),?_⟩
 refine ⟨_,rfl,a,_,_,_,rfl,rfl,SqT.of ha,rfl,b,rfl,⟨xs,SqT.of hb⟩,eU (xs:=xs) (fun i σ H'=>∃ m,σ=[some (.ref a),some (.str k),m]∧H'=H∧look R k=look (R.drop i) k) ⟨none,rfl,rfl,rfl⟩ (fun i σ H' _ p=>?_) (fun i x σ H' hx p=>?_) (fun σ H' p=>?_)⟩
 ·obtain ⟨_,_,rfl,_⟩:=p
  exact SqT.of hb
 ·obtain ⟨m,rfl,rfl,e⟩:=p
  obtain ⟨r,hr',c,y',rfl,hc,hf⟩:=aY rs i x hx
  refine ⟨_,rfl,c,_,_,_,rfl,rfl,SqT.of hc,rfl,_,rfl,rfl,_,rfl,?_⟩
  rw [zI hr'] at e
  refine aE (fun cc=>?_) (fun cc=>?_)
  ·have ck:r.1=k:=V.str.inj (of_decide_eq_true cc)
   rw [if_pos ck] at e
   exact ⟨_,rfl,c,_,_,_,rfl,rfl,SqT.of hc,rfl,q _ _ (aZ.refl _) (e ▸ hf)⟩
  ·have ck:¬ r.1=k:=fun z=>cc (decide_eq_true (congrArg V.str z))
   rw [if_neg ck] at e
   exact ⟨_,rfl,rfl,e⟩
 ·obtain ⟨m,rfl,rfl,e⟩:=p
  refine ⟨(by show 0≤sizeLine; decide),fun t ht=>q _ _ (ao ht _) ⟨t,[],rfl,ag,?_⟩⟩
  rw [e,Paired.length rs,List.drop_length]
  exact .nil
noncomputable def xX:Sp:=fun vs H Q _=>∃ v k R,vs=[v,.str k]∧da H v R∧(look R k).length≤3∧∀ r H',aZ H H'→H r=none→H' r=some (.lst ((look R k).map fun p=>V.str p.2))→Q (.ref r) H'
theorem Dc:aO ["program", "kind"] ["program", "kind"] (defScope dF):=⟨rfl,rfl,rfl,by decide +kernel,rfl,by decide +kernel,by decide +kernel⟩
theorem Bh (F:Fun K "field_kinds" "field_kinds" dF f fd) (D:Cal P w K mg base 1 "fields_of" ["program", "kind"] hZ):bj P w K mg base CX0 2 f fd ["program", "kind"] xX:=by
 obtain ⟨g,gd,Gd,bG,kG,mG⟩:=D.ex
 refine F.ok Dc (fun vs H Q E h=>?_) (fun cdv A outer s H vs Q E hr h=>?_)
 ·obtain ⟨v,k,R,rfl,_⟩:=h
  rfl
 obtain ⟨v,k,R,rfl,hp,hl,q⟩:=h
 refine ⟨_,ap (ay (bH (N':=["field"]) (ρ:=[none]) (m:=1) (bI.of (fs:=defScope dF) (N:=["program", "kind"]) rfl rfl (by decide +kernel)) rfl (bJ (aq Gd hr rfl mG kG bG .nil aC (ad (pv 0) (ad (pv 1) ah))))
    (fun _ _ _ _=>aH (i:=0) (show List.Nodup (["field"]:List Str) by decide +kernel) rfl (Or.inl rfl)) (fun _ _ _ _=>bC) (fun _ _ _ _=>aA (cx (K:=K) rfl) (pv 0) ak (fun _ _=>rfl)))),?_⟩
 refine ⟨_,rfl,_,rfl,v,k,R,rfl,hp,fun y H1 g1 hy=>?_⟩
 obtain ⟨b,xs,rfl,hb,rs⟩:=hy
 have lx:xs.length≤1000:=by rw [Paired.length rs]; omega
 refine ⟨b,rfl,⟨xs,SqT.of hb⟩,bO (xs:=xs) xs.length rfl lx (fun i acc H'=>H'=H1∧acc=((look R k).take i).map fun p=>V.str p.2) ⟨rfl,rfl⟩ (fun i acc H' p=>by rw [p.1]; exact SqT.of hb) (fun i acc H' x hi la hx p=>?_) (fun acc H' p la D hD=>?_)⟩
 ·obtain ⟨rfl,rfl⟩:=p
  obtain ⟨fl,hfl,c,rfl,hc⟩:=aY rs i x hx
  refine ⟨⟨rfl,rfl⟩,bD ?_⟩
  refine ⟨_,rfl,c,_,_,_,rfl,rfl,SqT.of hc,rfl,nxT lx hi la ⟨rfl,?_⟩⟩
  rw [List.take_add_one,hfl,List.map_append]
  rfl
 ·obtain ⟨rfl,rfl⟩:=p
  refine q D _ (g1.trans (ao hD _)) (g1.free hD) ?_
  rw [ag,Paired.length rs,List.take_length]
noncomputable def yh:Sp:=fun vs H Q _=>∃ i,vs=[.int i]∧Q (.bl true) H
noncomputable abbrev vT:List Str:=["thing"]
theorem ur:aO vT ["thing"] (defScope iX):=⟨rfl,rfl,rfl,by decide +kernel,rfl,by decide +kernel,by decide +kernel⟩
theorem AH (T:G0 mg) (F:Fun K "is_whole" "is_whole" iX f fd):bj P w K mg base CX0 1 f fd ["thing"] yh:=by
 refine F.ok ur (fun vs H Q EX h=>?_) (fun cdv A outer s H vs Q EX hr h=>?_)
 ·obtain ⟨i,rfl,_⟩:=h
  rfl
 obtain ⟨i,rfl,q⟩:=h
 refine ⟨_,(@ap _ _ _ (@ay _ _ _ _ (dw (@aK _ _ _ _ _ _ _ _ _ bQ rfl T.isi dS (@ad _ _ _ _ _ (pv 0) (@ad _ _ _ _ _ (cm (v:=.ty "int") rfl T.int Ec rfl) ah (ac rfl)) (ac rfl)) (by decide) (by decide) (ac rfl) (aj rfl)) (cS (Ce (@aK _ _ _ _ _ _ _ _ _ bQ rfl T.isi dS (@ad _ _ _ _ _ (pv 0) (@ad _ _ _ _ _ (cm (v:=.ty "bool") rfl T.bool EV rfl) ah (ac rfl)) (ac rfl)) (by decide) (by decide) (ac rfl) (aj rfl))))))),?_⟩
 exact ⟨_,rfl,_,_,_,true,rfl,.int i,rfl,_,rfl,cO ⟨_,rfl,_,_,_,false,rfl,.int i,rfl,_,rfl,q⟩⟩
noncomputable def oz:Sp:=fun vs H Q _=>∃ i a b,vs=[.int i,.int a,.int b]∧a≤i∧i≤b∧Q (.bl true) H
noncomputable abbrev qM:List Str:=["thing", "least", "most"]
theorem nQ:aO qM ["thing", "least", "most"] (defScope fM):=⟨rfl,rfl,rfl,by decide +kernel,rfl,by decide +kernel,by decide +kernel⟩
theorem xH (T:G0 mg) (F:Fun K "is_between" "is_between" fM f fd) (D_is_whole:Cal P w K mg base 1 "is_whole" ["thing"] yh):bj P w K mg base CX0 2 f fd ["thing", "least", "most"] oz:=by
 obtain ⟨g_is_whole,gd_is_whole,G_is_whole,b_is_whole,k_is_whole,m_is_whole⟩:=D_is_whole.ex
 refine F.ok nQ (fun vs H Q EX h=>?_) (fun cdv A outer s H vs Q EX hr h=>?_)
 ·obtain ⟨i,a,b,rfl,_⟩:=h
  rfl
 obtain ⟨i,a,b,rfl,h1,h2,q⟩:=h
 refine ⟨_,(@ap _ _ _ (@ay _ _ _ _ (dw (@aq _ _ _ _ _ _ _ _ _ _ _ _ _ _ _ _ G_is_whole (hr.mono (by omega)) rfl m_is_whole k_is_whole b_is_whole .nil aC (@ad _ _ _ _ _ (pv 0) ah (ac rfl)) (by decide) (ac rfl) (aj rfl)) (cS (lZ ii ii (pv 1) (pv 0) (pv 2)))))),?_⟩
 refine ⟨_,rfl,i,rfl,_,rfl,cO ?_⟩
 refine ⟨_,rfl,_,rfl,_,_,rfl,rfl,_,rfl,?_⟩
 refine aE (fun c=>?_) (fun c=>absurd (decide_eq_true h1) c)
 refine ⟨_,rfl,_,_,rfl,rfl,?_⟩
 have:decide (i≤b)=true:=decide_eq_true h2
 show Q (.bl (decide (i≤b))) H
 rw [this]
 exact q
noncomputable def fm (i:Int):Bool:=decide (32≤i)&&decide (i≤126)&&decide (i≠37)
noncomputable def BX:Sp:=fun vs H Q _=>∃ i,vs=[.int i]∧Q (.bl (fm i)) H
theorem Ft:aO ["number"] ["number"] (defScope dm):=⟨rfl,rfl,rfl,by decide +kernel,rfl,by decide +kernel,by decide +kernel⟩
theorem Db (F:Fun K "is_sign_number" "is_sign_number" dm f fd):bj P w K mg base CX0 1 f fd ["number"] BX:=by
 refine F.ok Ft (fun vs H Q E h=>?_) (fun cdv A outer s H vs Q E hr h=>?_)
 ·obtain ⟨i,rfl,_⟩:=h
  rfl
 obtain ⟨i,rfl,q⟩:=h
 refine ⟨_,ap (ay (dw (lZ ii ii ak (pv 0) ak) (cS (bW oW (pv 0) ak (aG _))))),?_⟩
 refine ⟨_,rfl,_,_,rfl,rfl,_,rfl,?_⟩
 refine aE (fun c1=>?_) (fun c1=>?_)
 ·refine ⟨_,_,rfl,rfl,_,rfl,?_⟩
  refine aE (fun c2=>?_) (fun c2=>?_)
  ·refine ⟨_,rfl,rfl,?_⟩
   have e:fm i=(!decide (V.int i=V.int 37)):=by
    unfold fm
    rw [c1,c2]
    simp
   rw [e] at q
   exact q
  ·have e:fm i=false:=by
    unfold fm
    rw [Bool.eq_false_iff.mpr c2]
    simp
   rw [e] at q
   exact q
 ·refine ⟨_,rfl,bL ?_⟩
  have e:fm i=false:=by
   unfold fm
   rw [Bool.eq_false_iff.mpr c1]
   simp
  rw [e] at q
  exact q
noncomputable def AR:Sp:=fun vs H Q _=>∃ z,vs=[.str z]∧z∈TXT∧∀ H',aZ H H'→Q (.bl true) H'
theorem zF (z:Str) (i:Nat) (c:Nat) (h:z.cps[i]?=some c):(z.cps.toList.take (i+1)).map (fun c:Nat=>fm (c:Int))=(z.cps.toList.take i).map (fun c:Nat=>fm (c:Int))++[fm (c:Int)]:=by
 rw [List.take_add_one,List.map_append]
 have:z.cps.toList[i]?=some c:=by simpa using h
 rw [this]; rfl
noncomputable abbrev ox:List Str:=["thing"]
noncomputable abbrev jN:List Str:=["sign"]
theorem nS:jN.Nodup:=by decide +kernel
theorem vq:aO ox ["thing"] (defScope iq):=⟨rfl,rfl,rfl,by decide +kernel,rfl,by decide +kernel,by decide +kernel⟩
theorem mO:∀ z∈TXT,(z.cps.toList.all fun c:Nat=>fm (c:Int))=true∧z.length≤40:=by decide +kernel
theorem CJ (T:G0 mg) (F:Fun K "is_text" "is_text" iq f fd) (D_is_sign_number:Cal P w K mg base 1 "is_sign_number" ["number"] BX):bj P w K mg base CX0 2 f fd ["thing"] AR:=by
 obtain ⟨g_is_sign_number,gd_is_sign_number,G_is_sign_number,b_is_sign_number,k_is_sign_number,m_is_sign_number⟩:=D_is_sign_number.ex
 refine F.ok vq (fun vs H Q EX h=>?_) (fun cdv A outer s H vs Q EX hr h=>?_)
 ·obtain ⟨z,rfl,_⟩:=h
  rfl
 obtain ⟨z,rfl,hz,q⟩:=h
 have ht:z.cps.size≤1000:=by have:=(mO z hz).2; show z.length≤1000; omega
 refine ⟨_,(@ap _ _ _ (@ay _ _ _ _ (dw (@aK _ _ _ _ _ _ _ _ _ bQ rfl T.isi dS (@ad _ _ _ _ _ (pv 0) (@ad _ _ _ _ _ (cm (v:=.ty "str") rfl T.str mi rfl) ah (ac rfl)) (ac rfl)) (by decide) (by decide) (ac rfl) (aj rfl)) (cS (@aK _ _ _ _ _ _ _ _ _ (gY rfl) rfl T.all tI (@ad _ _ _ _ _ (bH (N':=jN) (ρ:=[none]) (m:=1) (bI.of (fs:=defScope iq) (N:=ox) rfl rfl (by decide +kernel)) rfl (Bj (pv 0)) (fun _ _ _ _=>(aH (i:=0) nS rfl (Or.inl rfl))) (fun _ _ _ _=>bC) (fun _ _ _ _=>(aq G_is_sign_number (hr.mono (by omega)) rfl m_is_sign_number k_is_sign_number b_is_sign_number .nil aC (ad (aK Ao rfl T.ord Gp (ad (pv 0) ah)) ah)))) ah (ac rfl)) (by decide) (by decide) (ac rfl) (aj rfl)))))),?_⟩
 refine ⟨_,rfl,_,_,_,true,rfl,.str z,rfl,_,rfl,cO ?_⟩
 refine ⟨_,rfl,z,rfl,sR z.cps.size rfl ht (fun i acc H'=>H'=H∧acc=((z.cps.toList.take i).map (fun c:Nat=>fm (c:Int))).map V.bl) ⟨rfl,rfl⟩ (fun i acc H' c hi la hc p=>?_) (fun acc H' p la D hD=>?_)⟩
 ·obtain ⟨rfl,rfl⟩:=p
  refine ⟨⟨rfl,rfl⟩,bD ?_⟩
  refine ⟨_,rfl,_,rfl,rfl,_,rfl,nxT ht hi la ⟨rfl,?_⟩⟩
  rw [zF z i c hc,List.map_append]
  rfl
 ·obtain ⟨rfl,rfl⟩:=p
  refine ⟨D,_,rfl,SqL.of ag,?_⟩
  have e:(List.map (fun c:Nat=>fm (c:Int)) (z.cps.toList.take z.cps.size)).all id=true:=by
   rw [← Array.length_toList,List.take_length,List.all_map]
   exact (mO z hz).1
  rw [e]
  exact q _ (ao hD _)
noncomputable def yv:Sp:=fun vs H Q _=>∃ v k fl k' R,vs=[v,.str k,.str fl]∧da H v R∧(fl,k')∈look R k∧((look R k).map (·.1)).Nodup∧∀ H',aZ H H'→Q (.str k') H'
noncomputable abbrev rC:List Str:=["program", "kind", "field", "pair"]
theorem iI:aO rC ["program", "kind", "field"] (defScope fS):=⟨rfl,rfl,rfl,by decide +kernel,rfl,by decide +kernel,by decide +kernel⟩
theorem AN (F:Fun K "field_kind" "field_kind" fS f fd) (D_fields_of:Cal P w K mg base 1 "fields_of" ["program", "kind"] hZ):bj P w K mg base CX0 2 f fd ["program", "kind", "field"] yv:=by
 obtain ⟨g_fields_of,gd_fields_of,G_fields_of,b_fields_of,k_fields_of,m_fields_of⟩:=D_fields_of.ex
 refine F.ok iI (fun vs H Q EX h=>?_) (fun cdv A outer s H vs Q EX hr h=>?_)
 ·obtain ⟨v,k,fl,k',R,rfl,_⟩:=h
  rfl
 obtain ⟨v,k,fl,k',R,rfl,hp,hm,hnd,q⟩:=h
 refine ⟨_,(@am _ _ _ _ _ (@cg _ _ _ _ _ _ _ _ PassesOwn.never rfl (bJ (@aq _ _ _ _ _ _ _ _ _ _ _ _ _ _ _ _ G_fields_of (hr.mono (by omega)) rfl m_fields_of k_fields_of b_fields_of .nil aC (@ad _ _ _ _ _ (pv 0) (@ad _ _ _ _ _ (pv 1) ah (ac rfl)) (ac rfl)) (by decide) (ac rfl) (aj rfl))) (aH (i:=3) iI.nd rfl (Or.inl rfl)) (@ap _ _ _ (@aR _ _ _ _ _ _ _ _ (@az _ _ _ _ _ _ _ _ bg (@aA _ _ _ _ _ _ _ aI (pv 3) ak (fun _ _=>rfl)) (pv 2) (aG _)) (@ap _ _ _ (@ay _ _ _ _ (@aA _ _ _ _ _ _ _ aI (pv 3) ak (fun _ _=>rfl)))) aF)) (fun _=>rfl)) (@ap _ _ _ (@ay _ _ _ _ cu))),?_⟩
 refine ⟨_,rfl,_,rfl,v,k,R,rfl,hp,fun y H1 g1 hy=>?_⟩
 obtain ⟨b,xs,rfl,hb,rs⟩:=hy
 refine ⟨b,rfl,⟨xs,SqT.of hb⟩,eU (xs:=xs) (fun i σ H'=>∃ m,σ=[some v,some (.str k),some (.str fl),m]∧H'=H1∧(fl,k')∈(look R k).drop i) ⟨none,rfl,rfl,hm⟩ (fun i σ H' _ p=>?_) (fun i x σ H' hx p=>?_) (fun σ H' p=>?_)⟩
 ·obtain ⟨_,_,rfl,_⟩:=p
  exact SqT.of hb
 ·obtain ⟨m,rfl,rfl,e⟩:=p
  obtain ⟨pr,hpr,c,rfl,hc⟩:=aY rs i x hx
  refine ⟨_,rfl,c,_,_,_,rfl,rfl,SqT.of hc,rfl,_,rfl,rfl,_,rfl,?_⟩
  obtain ⟨hi,ee⟩:=List.getElem?_eq_some_iff.mp hpr
  rw [List.drop_eq_getElem_cons hi,ee] at e
  refine aE (fun cc=>?_) (fun cc=>?_)
  ·have ck:pr.1=fl:=eqS cc
   have ek:pr.2=k':=by
    have m1:(fl,pr.2)∈look R k:=by
     have:=List.mem_of_getElem? hpr
     rw [← ck]; exact this
    exact Fk hnd m1 hm
   rw [← ek] at q
   exact ⟨_,rfl,c,_,_,_,rfl,rfl,SqT.of hc,rfl,q _ g1⟩
  ·have ck:¬ pr.1=fl:=neS cc
   rcases List.mem_cons.mp e with z | z
   ·exact absurd (by rw [← z]) ck
   ·exact ⟨_,rfl,rfl,z⟩
 ·obtain ⟨m,rfl,rfl,e⟩:=p
  rw [Paired.length rs,List.drop_length] at e
  cases e
noncomputable abbrev sX (Vs:List Fld):List (Key×V):=Vs.map fun p=>(Sum.inr p.1,V.str p.2)
noncomputable def lr:Sp:=fun vs H Q _=>∃ kk x k Vs,vs=[.ref kk,.str x]∧H kk=some (.dK (sX Vs))∧(Vs.map (·.1)).Nodup∧(x,k)∈Vs∧Q (.str k) H
noncomputable abbrev pH:List Str:=["kinds", "thing"]
theorem nO:aO pH ["kinds", "thing"] (defScope fL):=⟨rfl,rfl,rfl,by decide +kernel,rfl,by decide +kernel,by decide +kernel⟩
theorem Az (T:G0 mg) (F:Fun K "named_kind" "named_kind" fL f fd):bj P w K mg base CX0 1 f fd ["kinds", "thing"] lr:=by
 refine F.ok nO (fun vs H Q EX h=>?_) (fun cdv A outer s H vs Q EX hr h=>?_)
 ·obtain ⟨kk,x,k,Vs,rfl,_⟩:=h
  rfl
 obtain ⟨kk,x,k,Vs,rfl,hk,hnd,hm,q⟩:=h
 refine ⟨_,(@ap _ _ _ (@ay _ _ _ _ (@cR _ _ _ _ _ _ _ _ (bt (@aK _ _ _ _ _ _ _ _ _ bQ rfl T.isi dS (@ad _ _ _ _ _ (pv 1) (@ad _ _ _ _ _ (cm (v:=.ty "str") rfl T.str mi rfl) ah (ac rfl)) (ac rfl)) (by decide) (by decide) (ac rfl) (aj rfl))) (AX (Cd hr) (pv 0) (pv 1) (FU rfl)) cu))),?_⟩
 refine ⟨_,rfl,_,_,_,true,rfl,.str x,rfl,_,rfl,cO ?_⟩
 refine ⟨_,rfl,kk,rfl,.inl ⟨_,.inl hk⟩,_,rfl,_,Ae.k (k:=Sum.inr x) hk,?_⟩
 rw [Cv hnd hm]
 exact q
noncomputable def iK (K:Frag):Sp:=fun vs H Q _=>∃ v z R FS F,vs=[v,.str z]∧jU K H v R FS∧(FS.map (·.1.1)).Nodup∧F∈FS∧F.1.1=z∧∀ u,eE K H u F→Q u H
noncomputable abbrev nv:List Str:=["program", "f", "function"]
theorem cY:aO nv ["program", "f"] (defScope dG):=⟨rfl,rfl,rfl,by decide +kernel,rfl,by decide +kernel,by decide +kernel⟩
theorem kJ (F:Fun K "function_of" "function_of" dG f fd):bj P w K mg base CX0 1 f fd ["program", "f"] (iK K):=by
 refine F.ok cY (fun vs H Q EX h=>?_) (fun cdv A outer s H vs Q EX hr h=>?_)
 ·obtain ⟨v,z,R,FS,F,rfl,_⟩:=h
  rfl
 obtain ⟨v,z,R,FS,F,rfl,hp,hnd,hm,hz,q⟩:=h
 obtain ⟨a,y,zz,fx,rfl,ha,hR,hzz,pf⟩:=hp
 refine ⟨_,(@am _ _ _ _ _ (@cg _ _ _ _ _ _ _ _ PassesOwn.never rfl (bJ (@aA _ _ _ _ _ _ _ aI (pv 0) ak (fun _ _=>rfl))) (aH (i:=2) cY.nd rfl (Or.inl rfl)) (@ap _ _ _ (@aR _ _ _ _ _ _ _ _ (@az _ _ _ _ _ _ _ _ bg (@aA _ _ _ _ _ _ _ aI (pv 2) ak (fun _ _=>rfl)) (pv 1) (aG _)) (@ap _ _ _ (@ay _ _ _ _ (pv 2))) aF)) (fun _=>rfl)) (@ap _ _ _ (@ay _ _ _ _ cu))),?_⟩
 refine ⟨_,rfl,a,_,_,_,rfl,rfl,SqT.of ha,rfl,zz,rfl,⟨fx,SqT.of hzz⟩,eU (xs:=fx) (fun i σ H'=>∃ m,σ=[some (.ref a),some (.str z),m]∧H'=H∧F∈FS.drop i) ⟨none,rfl,rfl,hm⟩ (fun i σ H' _ p=>?_) (fun i x σ H' hx p=>?_) (fun σ H' p=>?_)⟩
 ·obtain ⟨_,_,rfl,_⟩:=p
  exact SqT.of hzz
 ·obtain ⟨m,rfl,rfl,e⟩:=p
  obtain ⟨G,hG,hGa⟩:=aY pf i x hx
  obtain ⟨c,p1,q1,bb,xs,rfl,hc,r1,r2,r3,r4⟩:=id hGa
  refine ⟨_,rfl,c,_,_,_,rfl,rfl,SqT.of hc,rfl,_,rfl,rfl,_,rfl,?_⟩
  obtain ⟨hi,ee⟩:=List.getElem?_eq_some_iff.mp hG
  rw [List.drop_eq_getElem_cons hi,ee] at e
  refine aE (fun cc=>?_) (fun cc=>?_)
  ·have ck:G.1.1=z:=eqS cc
   have eG:G=F:=Fc hnd (List.mem_of_getElem? hG) hm (by rw [ck,hz])
   exact ⟨_,rfl,q _ (eG ▸ hGa)⟩
  ·have ck:¬ G.1.1=z:=neS cc
   rcases List.mem_cons.mp e with e | e
   ·exact absurd (by rw [← e]; exact hz) ck
   ·exact ⟨_,rfl,rfl,e⟩
 ·obtain ⟨m,rfl,rfl,e⟩:=p
  rw [Paired.length pf,List.drop_length] at e
  cases e
noncomputable def Ac (K:Frag):Sp:=fun vs H Q _=>∃ u F,vs=[u]∧eE K H u F∧((F.1.2.1++F.1.2.2.1).map (·.1)).Nodup∧(F.1.2.1++F.1.2.2.1).length≤5∧∀ kk H',aZ H H'→H' kk=some (.dK (sX (F.1.2.1++F.1.2.2.1)))→Q (.ref kk) H'
noncomputable abbrev ki:List Str:=["function"]
theorem jP:aO ki ["function"] (defScope dl):=⟨rfl,rfl,rfl,by decide +kernel,rfl,by decide +kernel,by decide +kernel⟩
theorem CV (T:G0 mg) (F:Fun K "variable_kinds" "variable_kinds" dl f fd):bj P w K mg base CX0 1 f fd ["function"] (Ac K):=by
 refine F.ok jP (fun vs H Q EX h=>?_) (fun cdv A outer s H vs Q EX hr h=>?_)
 ·obtain ⟨u,F,rfl,_⟩:=h
  rfl
 obtain ⟨u,F,rfl,hF,hnd,hl,q⟩:=h
 obtain ⟨a,p,q',bb,xs,rfl,ha,⟨pa,px,rfl,hpa,ppx⟩,⟨qa,qx,rfl,hqa,pqx⟩,hb,dxs⟩:=hF
 refine ⟨_,(@ap _ _ _ (@ay _ _ _ _ (@bK _ _ _ _ _ _ _ _ _ (wk rfl) rfl T.dict EU (@ad _ _ _ _ _ (@ba _ _ _ _ _ _ _ _ (fR.or eM) (@aA _ _ _ _ _ _ _ aI (pv 0) ak (fun _ _=>rfl)) (@aA _ _ _ _ _ _ _ aI (pv 0) ak (fun _ _=>rfl))) ah (ac rfl)) (by decide) (by decide) (ac rfl) (aj rfl)))),?_⟩
 have lpq:px.length+qx.length≤5:=by rw [Paired.length ppx,Paired.length pqx,← List.length_append]; exact hl
 refine ⟨_,rfl,a,_,_,_,rfl,rfl,SqT.of ha,rfl,_,rfl,a,_,_,_,rfl,rfl,SqT.of ha,rfl,?_⟩
 refine iR hpa hqa (by omega) fun pc H1 g1 hpc=>?_
 have pall:=Paired.mapP (Paired.app' ppx pqx) fun _ _ z=>cy.mono (av g1) z
 refine ⟨pc,px++qx,(F.1.2.1++F.1.2.2.1).map fun p=>(p.1,V.str p.2),rfl,hpc,by rw [List.length_append]; omega,by rw [List.map_map]; exact hnd,ue pall,fun l hl2=>?_⟩
 refine q l _ (g1.trans (ao hl2 _)) ?_
 rw [ag,List.map_map]
 rfl
noncomputable abbrev mQ:List Str:=["shaped", "word"]
noncomputable abbrev iF:List Str:=["place", "shaped"]
theorem lS:iF.Nodup:=by decide +kernel
theorem kE:aO mQ ["shaped"] (defScope eu):=⟨rfl,rfl,rfl,by decide +kernel,rfl,by decide +kernel,by decide +kernel⟩
noncomputable def rB (K:Frag):Sp:=fun vs H Q _=>∃ u e,vs=[u]∧DT K H u (E.d e)∧(inner e).length≤1000∧∀ r ys H',aZ H H'→H r=none→H' r=some (.lst ys)→DTs K H' ys (E.ds (inner e))→Q (.ref r) H'
noncomputable def Cm (K:Frag):Sp:=fun vs H Q _=>∃ u e R Vs k,vs=[u]∧DT K H u (E.d e)∧Ok R Vs e k∧∀ H',aZ H H'→Q (.bl true) H'
noncomputable abbrev tZ:List Str:=["e", "word"]
theorem jJ:aO tZ ["e"] (defScope gU):=⟨rfl,rfl,rfl,by decide +kernel,rfl,by decide +kernel,by decide +kernel⟩
theorem EZ (T:G K w mg) (F:Fun K "own_right" "own_right" gU f fd) (D_is_between:Cal P w K mg base 2 "is_between" ["thing", "least", "most"] oz) (D_is_text:Cal P w K mg base 2 "is_text" ["thing"] AR):bj P w K mg base CX0 3 f fd ["e"] (Cm K):=by
 obtain ⟨tN,mN⟩:=T.mn
 obtain ⟨tM,mM⟩:=T.ms
 have T:=T.t
 obtain ⟨g_is_between,gd_is_between,G_is_between,b_is_between,k_is_between,m_is_between⟩:=D_is_between.ex
 obtain ⟨g_is_text,gd_is_text,G_is_text,b_is_text,k_is_text,m_is_text⟩:=D_is_text.ex
 refine F.ok jJ (fun vs H Q EX h=>?_) (fun cdv A outer s H vs Q EX hr h=>?_)
 ·obtain ⟨u,e,R,Vs,k,rfl,_⟩:=h
  rfl
 obtain ⟨u,e,R,Vs,k,rfl,hu,ho,q⟩:=h
 refine ⟨_,(@am _ _ _ _ _ (@aM _ _ 1 _ _ _ _ jJ.nd rfl (Or.inl rfl) (@aA _ _ _ _ _ _ _ aI (pv 0) ak (fun _ _=>rfl)) (aD rfl) (.inr rfl)) (@am _ _ _ _ _ (@aR _ _ _ _ _ _ _ _ (@az _ _ _ _ _ _ _ _ cN (pv 1) (@aT _ _ _ _ _ (@ad _ _ _ _ _ au (@ad _ _ _ _ _ au ah (ac rfl)) (ac rfl))) rfl) (@ap _ _ _ (@ay _ _ _ _ (@aq _ _ _ _ _ _ _ _ _ _ _ _ _ _ _ _ G_is_between (hr.mono (by omega)) rfl m_is_between k_is_between b_is_between .nil aC (@ad _ _ _ _ _ (@aA _ _ _ _ _ _ _ aI (pv 0) ak (fun _ _=>rfl)) (@ad _ _ _ _ _ (@BI _ _ _ _ _ _ wS (bv (v:=.int 1000000) rfl mN ⟨_,rfl⟩)) (@ad _ _ _ _ _ (bv (v:=.int 1000000) rfl mN ⟨_,rfl⟩) ah (ac rfl)) (ac rfl)) (ac rfl)) (by decide) (ac rfl) (aj rfl)))) aF) (@am _ _ _ _ _ (@aR _ _ _ _ _ _ _ _ (@az _ _ _ _ _ _ _ _ cN (pv 1) (@aT _ _ _ _ _ (@ad _ _ _ _ _ au (@ad _ _ _ _ _ au ah (ac rfl)) (ac rfl))) rfl) (@ap _ _ _ (@ay _ _ _ _ (@aq _ _ _ _ _ _ _ _ _ _ _ _ _ _ _ _ G_is_between (hr.mono (by omega)) rfl m_is_between k_is_between b_is_between .nil aC (@ad _ _ _ _ _ (@aA _ _ _ _ _ _ _ aI (pv 0) ak (fun _ _=>rfl)) (@ad _ _ _ _ _ ak (@ad _ _ _ _ _ ak ah (ac rfl)) (ac rfl)) (ac rfl)) (by decide) (ac rfl) (aj rfl)))) aF) (@am _ _ _ _ _ (@aR _ _ _ _ _ _ _ _ (@az _ _ _ _ _ _ _ _ bg (pv 1) au (aG _)) (@ap _ _ _ (@ay _ _ _ _ (dw (@aq _ _ _ _ _ _ _ _ _ _ _ _ _ _ _ _ G_is_text (hr.mono (by omega)) rfl m_is_text k_is_text b_is_text .nil aC (@ad _ _ _ _ _ (@aA _ _ _ _ _ _ _ aI (pv 0) ak (fun _ _=>rfl)) ah (ac rfl)) (by decide) (ac rfl) (aj rfl)) (cS (@bW _ _ _ _ _ _ _ _ ii (@aK _ _ _ _ _ _ _ _ _ jL rfl T.len cv (@ad _ _ _ _ _ (@aA _ _ _ _ _ _ _ aI (pv 0) ak (fun _ _=>rfl)) ah (ac rfl)) (by decide) (by decide) (ac rfl) (aj rfl)) (bv (v:=.int 40) rfl mM ⟨_,rfl⟩) (aG _)))))) aF) (@ap _ _ _ (@ay _ _ _ _ bP)))))),?_⟩
 cases e with
 | num y1 =>
  simp only [E.d] at hu
  obtain ⟨a,xs,rfl,ha,dx0⟩:=hu.open
  obtain ⟨x0,r0,rfl,h0,dx1⟩:=dx0.open
  obtain rfl:=h0.str_inv
  obtain ⟨x1,r1,rfl,h1,dx2⟩:=dx1.open
  obtain rfl:=h1.int_inv
  cases dx2
  simp only [Ok] at ho
  refine ⟨_,rfl,a,_,_,_,rfl,rfl,SqT.of ha,rfl,?_⟩
  refine ⟨_,rfl,(by show 2≤sizeLine; decide),fun p1 hp1=>⟨p1,_,rfl,.inr (SqT.of ag),rfl,rfl,_,rfl,?_⟩⟩
  have g1:=ao hp1 (.tup [.str "num",.str "times"])
  refine aE (fun c=>?_) (fun c=>absurd (by decide +kernel) c)
  exact ⟨_,rfl,a,_,_,_,rfl,rfl,SqT.of (g1 _ _ ha),rfl,_,rfl,_,_,_,rfl,ho.2.1,ho.2.2,q _ g1⟩
 | text y1 =>
  simp only [E.d] at hu
  obtain ⟨a,xs,rfl,ha,dx0⟩:=hu.open
  obtain ⟨x0,r0,rfl,h0,dx1⟩:=dx0.open
  obtain rfl:=h0.str_inv
  obtain ⟨x1,r1,rfl,h1,dx2⟩:=dx1.open
  obtain rfl:=h1.str_inv
  cases dx2
  simp only [Ok] at ho
  refine ⟨_,rfl,a,_,_,_,rfl,rfl,SqT.of ha,rfl,?_⟩
  refine ⟨_,rfl,(by show 2≤sizeLine; decide),fun p1 hp1=>⟨p1,_,rfl,.inr (SqT.of ag),rfl,rfl,_,rfl,?_⟩⟩
  have g1:=ao hp1 (.tup [.str "num",.str "times"])
  refine aE (fun c=>absurd c (by decide +kernel)) (fun c=>?_)
  refine ⟨_,rfl,(by show 2≤sizeLine; decide),fun p2 hp2=>⟨p2,_,rfl,.inr (SqT.of ag),rfl,rfl,_,rfl,?_⟩⟩
  have g2:=g1.trans (ao hp2 (.tup [.str "div",.str "rest"]))
  refine aE (fun c=>absurd c (by decide +kernel)) (fun c=>?_)
  refine ⟨_,rfl,rfl,_,rfl,?_⟩
  refine aE (fun c=>?_) (fun c=>absurd (by decide +kernel) c)
  have tz:=mO y1 ho.2
  refine ⟨_,rfl,a,_,_,_,rfl,rfl,SqT.of (g2 _ _ ha),rfl,y1,rfl,ho.2,fun H3 g3=>⟨_,rfl,cO ?_⟩⟩
  refine ⟨_,rfl,a,_,_,_,rfl,rfl,SqT.of (g3 _ _ (g2 _ _ ha)),rfl,y1,rfl,by rw [sizeLine_eq]; omega,_,_,rfl,rfl,?_⟩
  have e40:decide ((y1.length:Int)≤40)=true:=decide_eq_true (by omega)
  show Q (.bl (decide ((y1.length:Int)≤40))) H3
  rw [e40]
  exact q _ (g2.trans g3)
 | var y1 =>
  simp only [E.d] at hu
  obtain ⟨a,xs,rfl,ha,dx0⟩:=hu.open
  obtain ⟨x0,r0,rfl,h0,dx1⟩:=dx0.open
  obtain rfl:=h0.str_inv
  obtain ⟨x1,r1,rfl,h1,dx2⟩:=dx1.open
  obtain rfl:=h1.str_inv
  cases dx2
  simp only [Ok] at ho
  refine ⟨_,rfl,a,_,_,_,rfl,rfl,SqT.of ha,rfl,?_⟩
  refine ⟨_,rfl,(by show 2≤sizeLine; decide),fun p1 hp1=>⟨p1,_,rfl,.inr (SqT.of ag),rfl,rfl,_,rfl,?_⟩⟩
  have g1:=ao hp1 (.tup [.str "num",.str "times"])
  refine aE (fun c=>absurd c (by decide +kernel)) (fun c=>?_)
  refine ⟨_,rfl,(by show 2≤sizeLine; decide),fun p2 hp2=>⟨p2,_,rfl,.inr (SqT.of ag),rfl,rfl,_,rfl,?_⟩⟩
  have g2:=g1.trans (ao hp2 (.tup [.str "div",.str "rest"]))
  refine aE (fun c=>absurd c (by decide +kernel)) (fun c=>?_)
  refine ⟨_,rfl,rfl,_,rfl,?_⟩
  exact aE (fun c=>absurd c (by decide +kernel)) (fun c=>q _ g2)
 | of_ y1 y2 =>
  simp only [E.d] at hu
  obtain ⟨a,xs,rfl,ha,dx0⟩:=hu.open
  obtain ⟨x0,r0,rfl,h0,dx1⟩:=dx0.open
  obtain rfl:=h0.str_inv
  obtain ⟨x1,r1,rfl,h1,dx2⟩:=dx1.open
  obtain ⟨x2,r2,rfl,h2,dx3⟩:=dx2.open
  obtain rfl:=h2.str_inv
  cases dx3
  simp only [Ok] at ho
  refine ⟨_,rfl,a,_,_,_,rfl,rfl,SqT.of ha,rfl,?_⟩
  refine ⟨_,rfl,(by show 2≤sizeLine; decide),fun p1 hp1=>⟨p1,_,rfl,.inr (SqT.of ag),rfl,rfl,_,rfl,?_⟩⟩
  have g1:=ao hp1 (.tup [.str "num",.str "times"])
  refine aE (fun c=>absurd c (by decide +kernel)) (fun c=>?_)
  refine ⟨_,rfl,(by show 2≤sizeLine; decide),fun p2 hp2=>⟨p2,_,rfl,.inr (SqT.of ag),rfl,rfl,_,rfl,?_⟩⟩
  have g2:=g1.trans (ao hp2 (.tup [.str "div",.str "rest"]))
  refine aE (fun c=>absurd c (by decide +kernel)) (fun c=>?_)
  refine ⟨_,rfl,rfl,_,rfl,?_⟩
  exact aE (fun c=>absurd c (by decide +kernel)) (fun c=>q _ g2)
 | with_ y1 y2 y3 =>
  simp only [E.d] at hu
  obtain ⟨a,xs,rfl,ha,dx0⟩:=hu.open
  obtain ⟨x0,r0,rfl,h0,dx1⟩:=dx0.open
  obtain rfl:=h0.str_inv
  obtain ⟨x1,r1,rfl,h1,dx2⟩:=dx1.open
  obtain ⟨x2,r2,rfl,h2,dx3⟩:=dx2.open
  obtain rfl:=h2.str_inv
  obtain ⟨x3,r3,rfl,h3,dx4⟩:=dx3.open
  cases dx4
  simp only [Ok] at ho
  refine ⟨_,rfl,a,_,_,_,rfl,rfl,SqT.of ha,rfl,?_⟩
  refine ⟨_,rfl,(by show 2≤sizeLine; decide),fun p1 hp1=>⟨p1,_,rfl,.inr (SqT.of ag),rfl,rfl,_,rfl,?_⟩⟩
  have g1:=ao hp1 (.tup [.str "num",.str "times"])
  refine aE (fun c=>absurd c (by decide +kernel)) (fun c=>?_)
  refine ⟨_,rfl,(by show 2≤sizeLine; decide),fun p2 hp2=>⟨p2,_,rfl,.inr (SqT.of ag),rfl,rfl,_,rfl,?_⟩⟩
  have g2:=g1.trans (ao hp2 (.tup [.str "div",.str "rest"]))
  refine aE (fun c=>absurd c (by decide +kernel)) (fun c=>?_)
  refine ⟨_,rfl,rfl,_,rfl,?_⟩
  exact aE (fun c=>absurd c (by decide +kernel)) (fun c=>q _ g2)
 | new y1 y2 =>
  simp only [E.d] at hu
  obtain ⟨a,xs,rfl,ha,dx0⟩:=hu.open
  obtain ⟨x0,r0,rfl,h0,dx1⟩:=dx0.open
  obtain rfl:=h0.str_inv
  obtain ⟨x1,r1,rfl,h1,dx2⟩:=dx1.open
  obtain rfl:=h1.str_inv
  obtain ⟨x2,r2,rfl,h2,dx3⟩:=dx2.open
  cases dx3
  simp only [Ok] at ho
  refine ⟨_,rfl,a,_,_,_,rfl,rfl,SqT.of ha,rfl,?_⟩
  refine ⟨_,rfl,(by show 2≤sizeLine; decide),fun p1 hp1=>⟨p1,_,rfl,.inr (SqT.of ag),rfl,rfl,_,rfl,?_⟩⟩
  have g1:=ao hp1 (.tup [.str "num",.str "times"])
  refine aE (fun c=>absurd c (by decide +kernel)) (fun c=>?_)
  refine ⟨_,rfl,(by show 2≤sizeLine; decide),fun p2 hp2=>⟨p2,_,rfl,.inr (SqT.of ag),rfl,rfl,_,rfl,?_⟩⟩
  have g2:=g1.trans (ao hp2 (.tup [.str "div",.str "rest"]))
  refine aE (fun c=>absurd c (by decide +kernel)) (fun c=>?_)
  refine ⟨_,rfl,rfl,_,rfl,?_⟩
  exact aE (fun c=>absurd c (by decide +kernel)) (fun c=>q _ g2)
 | add y1 y2 =>
  simp only [E.d] at hu
  obtain ⟨a,xs,rfl,ha,dx0⟩:=hu.open
  obtain ⟨x0,r0,rfl,h0,dx1⟩:=dx0.open
  obtain rfl:=h0.str_inv
  obtain ⟨x1,r1,rfl,h1,dx2⟩:=dx1.open
  obtain ⟨x2,r2,rfl,h2,dx3⟩:=dx2.open
  cases dx3
  simp only [Ok] at ho
  refine ⟨_,rfl,a,_,_,_,rfl,rfl,SqT.of ha,rfl,?_⟩
  refine ⟨_,rfl,(by show 2≤sizeLine; decide),fun p1 hp1=>⟨p1,_,rfl,.inr (SqT.of ag),rfl,rfl,_,rfl,?_⟩⟩
  have g1:=ao hp1 (.tup [.str "num",.str "times"])
  refine aE (fun c=>absurd c (by decide +kernel)) (fun c=>?_)
  refine ⟨_,rfl,(by show 2≤sizeLine; decide),fun p2 hp2=>⟨p2,_,rfl,.inr (SqT.of ag),rfl,rfl,_,rfl,?_⟩⟩
  have g2:=g1.trans (ao hp2 (.tup [.str "div",.str "rest"]))
  refine aE (fun c=>absurd c (by decide +kernel)) (fun c=>?_)
  refine ⟨_,rfl,rfl,_,rfl,?_⟩
  exact aE (fun c=>absurd c (by decide +kernel)) (fun c=>q _ g2)
 | sub y1 y2 =>
  simp only [E.d] at hu
  obtain ⟨a,xs,rfl,ha,dx0⟩:=hu.open
  obtain ⟨x0,r0,rfl,h0,dx1⟩:=dx0.open
  obtain rfl:=h0.str_inv
  obtain ⟨x1,r1,rfl,h1,dx2⟩:=dx1.open
  obtain ⟨x2,r2,rfl,h2,dx3⟩:=dx2.open
  cases dx3
  simp only [Ok] at ho
  refine ⟨_,rfl,a,_,_,_,rfl,rfl,SqT.of ha,rfl,?_⟩
  refine ⟨_,rfl,(by show 2≤sizeLine; decide),fun p1 hp1=>⟨p1,_,rfl,.inr (SqT.of ag),rfl,rfl,_,rfl,?_⟩⟩
  have g1:=ao hp1 (.tup [.str "num",.str "times"])
  refine aE (fun c=>absurd c (by decide +kernel)) (fun c=>?_)
  refine ⟨_,rfl,(by show 2≤sizeLine; decide),fun p2 hp2=>⟨p2,_,rfl,.inr (SqT.of ag),rfl,rfl,_,rfl,?_⟩⟩
  have g2:=g1.trans (ao hp2 (.tup [.str "div",.str "rest"]))
  refine aE (fun c=>absurd c (by decide +kernel)) (fun c=>?_)
  refine ⟨_,rfl,rfl,_,rfl,?_⟩
  exact aE (fun c=>absurd c (by decide +kernel)) (fun c=>q _ g2)
 | times y1 y2 =>
  simp only [E.d] at hu
  obtain ⟨a,xs,rfl,ha,dx0⟩:=hu.open
  obtain ⟨x0,r0,rfl,h0,dx1⟩:=dx0.open
  obtain rfl:=h0.str_inv
  obtain ⟨x1,r1,rfl,h1,dx2⟩:=dx1.open
  obtain rfl:=h1.int_inv
  obtain ⟨x2,r2,rfl,h2,dx3⟩:=dx2.open
  cases dx3
  simp only [Ok] at ho
  refine ⟨_,rfl,a,_,_,_,rfl,rfl,SqT.of ha,rfl,?_⟩
  refine ⟨_,rfl,(by show 2≤sizeLine; decide),fun p1 hp1=>⟨p1,_,rfl,.inr (SqT.of ag),rfl,rfl,_,rfl,?_⟩⟩
  have g1:=ao hp1 (.tup [.str "num",.str "times"])
  refine aE (fun c=>?_) (fun c=>absurd (by decide +kernel) c)
  exact ⟨_,rfl,a,_,_,_,rfl,rfl,SqT.of (g1 _ _ ha),rfl,_,rfl,_,_,_,rfl,ho.2.1.1,ho.2.1.2,q _ g1⟩
 | div y1 y2 =>
  simp only [E.d] at hu
  obtain ⟨a,xs,rfl,ha,dx0⟩:=hu.open
  obtain ⟨x0,r0,rfl,h0,dx1⟩:=dx0.open
  obtain rfl:=h0.str_inv
  obtain ⟨x1,r1,rfl,h1,dx2⟩:=dx1.open
  obtain ⟨x2,r2,rfl,h2,dx3⟩:=dx2.open
  obtain rfl:=h2.int_inv
  cases dx3
  simp only [Ok] at ho
  refine ⟨_,rfl,a,_,_,_,rfl,rfl,SqT.of ha,rfl,?_⟩
  refine ⟨_,rfl,(by show 2≤sizeLine; decide),fun p1 hp1=>⟨p1,_,rfl,.inr (SqT.of ag),rfl,rfl,_,rfl,?_⟩⟩
  have g1:=ao hp1 (.tup [.str "num",.str "times"])
  refine aE (fun c=>absurd c (by decide +kernel)) (fun c=>?_)
  refine ⟨_,rfl,(by show 2≤sizeLine; decide),fun p2 hp2=>⟨p2,_,rfl,.inr (SqT.of ag),rfl,rfl,_,rfl,?_⟩⟩
  have g2:=g1.trans (ao hp2 (.tup [.str "div",.str "rest"]))
  refine aE (fun c=>?_) (fun c=>absurd (by decide +kernel) c)
  exact ⟨_,rfl,a,_,_,_,rfl,rfl,SqT.of (g2 _ _ ha),rfl,_,_,_,rfl,ho.2.1.1,ho.2.1.2,q _ g2⟩
 | rest y1 y2 =>
  simp only [E.d] at hu
  obtain ⟨a,xs,rfl,ha,dx0⟩:=hu.open
  obtain ⟨x0,r0,rfl,h0,dx1⟩:=dx0.open
  obtain rfl:=h0.str_inv
  obtain ⟨x1,r1,rfl,h1,dx2⟩:=dx1.open
  obtain ⟨x2,r2,rfl,h2,dx3⟩:=dx2.open
  obtain rfl:=h2.int_inv
  cases dx3
  simp only [Ok] at ho
  refine ⟨_,rfl,a,_,_,_,rfl,rfl,SqT.of ha,rfl,?_⟩
  refine ⟨_,rfl,(by show 2≤sizeLine; decide),fun p1 hp1=>⟨p1,_,rfl,.inr (SqT.of ag),rfl,rfl,_,rfl,?_⟩⟩
  have g1:=ao hp1 (.tup [.str "num",.str "times"])
  refine aE (fun c=>absurd c (by decide +kernel)) (fun c=>?_)
  refine ⟨_,rfl,(by show 2≤sizeLine; decide),fun p2 hp2=>⟨p2,_,rfl,.inr (SqT.of ag),rfl,rfl,_,rfl,?_⟩⟩
  have g2:=g1.trans (ao hp2 (.tup [.str "div",.str "rest"]))
  refine aE (fun c=>?_) (fun c=>absurd (by decide +kernel) c)
  exact ⟨_,rfl,a,_,_,_,rfl,rfl,SqT.of (g2 _ _ ha),rfl,_,_,_,rfl,ho.2.1.1,ho.2.1.2,q _ g2⟩
 | len y1 =>
  simp only [E.d] at hu
  obtain ⟨a,xs,rfl,ha,dx0⟩:=hu.open
  obtain ⟨x0,r0,rfl,h0,dx1⟩:=dx0.open
  obtain rfl:=h0.str_inv
  obtain ⟨x1,r1,rfl,h1,dx2⟩:=dx1.open
  cases dx2
  simp only [Ok] at ho
  refine ⟨_,rfl,a,_,_,_,rfl,rfl,SqT.of ha,rfl,?_⟩
  refine ⟨_,rfl,(by show 2≤sizeLine; decide),fun p1 hp1=>⟨p1,_,rfl,.inr (SqT.of ag),rfl,rfl,_,rfl,?_⟩⟩
  have g1:=ao hp1 (.tup [.str "num",.str "times"])
  refine aE (fun c=>absurd c (by decide +kernel)) (fun c=>?_)
  refine ⟨_,rfl,(by show 2≤sizeLine; decide),fun p2 hp2=>⟨p2,_,rfl,.inr (SqT.of ag),rfl,rfl,_,rfl,?_⟩⟩
  have g2:=g1.trans (ao hp2 (.tup [.str "div",.str "rest"]))
  refine aE (fun c=>absurd c (by decide +kernel)) (fun c=>?_)
  refine ⟨_,rfl,rfl,_,rfl,?_⟩
  exact aE (fun c=>absurd c (by decide +kernel)) (fun c=>q _ g2)
 | at_ y1 y2 =>
  simp only [E.d] at hu
  obtain ⟨a,xs,rfl,ha,dx0⟩:=hu.open
  obtain ⟨x0,r0,rfl,h0,dx1⟩:=dx0.open
  obtain rfl:=h0.str_inv
  obtain ⟨x1,r1,rfl,h1,dx2⟩:=dx1.open
  obtain ⟨x2,r2,rfl,h2,dx3⟩:=dx2.open
  cases dx3
  simp only [Ok] at ho
  refine ⟨_,rfl,a,_,_,_,rfl,rfl,SqT.of ha,rfl,?_⟩
  refine ⟨_,rfl,(by show 2≤sizeLine; decide),fun p1 hp1=>⟨p1,_,rfl,.inr (SqT.of ag),rfl,rfl,_,rfl,?_⟩⟩
  have g1:=ao hp1 (.tup [.str "num",.str "times"])
  refine aE (fun c=>absurd c (by decide +kernel)) (fun c=>?_)
  refine ⟨_,rfl,(by show 2≤sizeLine; decide),fun p2 hp2=>⟨p2,_,rfl,.inr (SqT.of ag),rfl,rfl,_,rfl,?_⟩⟩
  have g2:=g1.trans (ao hp2 (.tup [.str "div",.str "rest"]))
  refine aE (fun c=>absurd c (by decide +kernel)) (fun c=>?_)
  refine ⟨_,rfl,rfl,_,rfl,?_⟩
  exact aE (fun c=>absurd c (by decide +kernel)) (fun c=>q _ g2)
 | rows y1 =>
  simp only [E.d] at hu
  obtain ⟨a,xs,rfl,ha,dx0⟩:=hu.open
  obtain ⟨x0,r0,rfl,h0,dx1⟩:=dx0.open
  obtain rfl:=h0.str_inv
  obtain ⟨x1,r1,rfl,h1,dx2⟩:=dx1.open
  cases dx2
  simp only [Ok] at ho
  refine ⟨_,rfl,a,_,_,_,rfl,rfl,SqT.of ha,rfl,?_⟩
  refine ⟨_,rfl,(by show 2≤sizeLine; decide),fun p1 hp1=>⟨p1,_,rfl,.inr (SqT.of ag),rfl,rfl,_,rfl,?_⟩⟩
  have g1:=ao hp1 (.tup [.str "num",.str "times"])
  refine aE (fun c=>absurd c (by decide +kernel)) (fun c=>?_)
  refine ⟨_,rfl,(by show 2≤sizeLine; decide),fun p2 hp2=>⟨p2,_,rfl,.inr (SqT.of ag),rfl,rfl,_,rfl,?_⟩⟩
  have g2:=g1.trans (ao hp2 (.tup [.str "div",.str "rest"]))
  refine aE (fun c=>absurd c (by decide +kernel)) (fun c=>?_)
  refine ⟨_,rfl,rfl,_,rfl,?_⟩
  exact aE (fun c=>absurd c (by decide +kernel)) (fun c=>q _ g2)
 | put y1 y2 y3 =>
  simp only [E.d] at hu
  obtain ⟨a,xs,rfl,ha,dx0⟩:=hu.open
  obtain ⟨x0,r0,rfl,h0,dx1⟩:=dx0.open
  obtain rfl:=h0.str_inv
  obtain ⟨x1,r1,rfl,h1,dx2⟩:=dx1.open
  obtain ⟨x2,r2,rfl,h2,dx3⟩:=dx2.open
  obtain ⟨x3,r3,rfl,h3,dx4⟩:=dx3.open
  cases dx4
  simp only [Ok] at ho
  refine ⟨_,rfl,a,_,_,_,rfl,rfl,SqT.of ha,rfl,?_⟩
  refine ⟨_,rfl,(by show 2≤sizeLine; decide),fun p1 hp1=>⟨p1,_,rfl,.inr (SqT.of ag),rfl,rfl,_,rfl,?_⟩⟩
  have g1:=ao hp1 (.tup [.str "num",.str "times"])
  refine aE (fun c=>absurd c (by decide +kernel)) (fun c=>?_)
  refine ⟨_,rfl,(by show 2≤sizeLine; decide),fun p2 hp2=>⟨p2,_,rfl,.inr (SqT.of ag),rfl,rfl,_,rfl,?_⟩⟩
  have g2:=g1.trans (ao hp2 (.tup [.str "div",.str "rest"]))
  refine aE (fun c=>absurd c (by decide +kernel)) (fun c=>?_)
  refine ⟨_,rfl,rfl,_,rfl,?_⟩
  exact aE (fun c=>absurd c (by decide +kernel)) (fun c=>q _ g2)
 | more y1 y2 =>
  simp only [E.d] at hu
  obtain ⟨a,xs,rfl,ha,dx0⟩:=hu.open
  obtain ⟨x0,r0,rfl,h0,dx1⟩:=dx0.open
  obtain rfl:=h0.str_inv
  obtain ⟨x1,r1,rfl,h1,dx2⟩:=dx1.open
  obtain ⟨x2,r2,rfl,h2,dx3⟩:=dx2.open
  cases dx3
  simp only [Ok] at ho
  refine ⟨_,rfl,a,_,_,_,rfl,rfl,SqT.of ha,rfl,?_⟩
  refine ⟨_,rfl,(by show 2≤sizeLine; decide),fun p1 hp1=>⟨p1,_,rfl,.inr (SqT.of ag),rfl,rfl,_,rfl,?_⟩⟩
  have g1:=ao hp1 (.tup [.str "num",.str "times"])
  refine aE (fun c=>absurd c (by decide +kernel)) (fun c=>?_)
  refine ⟨_,rfl,(by show 2≤sizeLine; decide),fun p2 hp2=>⟨p2,_,rfl,.inr (SqT.of ag),rfl,rfl,_,rfl,?_⟩⟩
  have g2:=g1.trans (ao hp2 (.tup [.str "div",.str "rest"]))
  refine aE (fun c=>absurd c (by decide +kernel)) (fun c=>?_)
  refine ⟨_,rfl,rfl,_,rfl,?_⟩
  exact aE (fun c=>absurd c (by decide +kernel)) (fun c=>q _ g2)
 | signs y1 =>
  simp only [E.d] at hu
  obtain ⟨a,xs,rfl,ha,dx0⟩:=hu.open
  obtain ⟨x0,r0,rfl,h0,dx1⟩:=dx0.open
  obtain rfl:=h0.str_inv
  obtain ⟨x1,r1,rfl,h1,dx2⟩:=dx1.open
  cases dx2
  simp only [Ok] at ho
  refine ⟨_,rfl,a,_,_,_,rfl,rfl,SqT.of ha,rfl,?_⟩
  refine ⟨_,rfl,(by show 2≤sizeLine; decide),fun p1 hp1=>⟨p1,_,rfl,.inr (SqT.of ag),rfl,rfl,_,rfl,?_⟩⟩
  have g1:=ao hp1 (.tup [.str "num",.str "times"])
  refine aE (fun c=>absurd c (by decide +kernel)) (fun c=>?_)
  refine ⟨_,rfl,(by show 2≤sizeLine; decide),fun p2 hp2=>⟨p2,_,rfl,.inr (SqT.of ag),rfl,rfl,_,rfl,?_⟩⟩
  have g2:=g1.trans (ao hp2 (.tup [.str "div",.str "rest"]))
  refine aE (fun c=>absurd c (by decide +kernel)) (fun c=>?_)
  refine ⟨_,rfl,rfl,_,rfl,?_⟩
  exact aE (fun c=>absurd c (by decide +kernel)) (fun c=>q _ g2)
end
open PySem L2
noncomputable def gJ (R:List Rec):Prop:=∀ k,(look R k).length≤3∧((look R k).map (·.1)).Nodup∧∀ p∈look R k,PyData.strOk p.2=true
theorem yn:∀ z∈cX,PyData.strOk z=true:=by decide +kernel
theorem DK:∀ z∈PL,PyData.strOk z=true:=by decide +kernel
theorem cG.looks {R:List Rec} (g:cG R):gJ R:=by
 intro k
 unfold look
 cases e:R.find? fun r=>decide (r.1=k) with
 | none=>exact ⟨Nat.zero_le _,List.nodup_nil,fun p h=>nomatch h⟩
 | some r =>
  obtain ⟨i,hi⟩:=List.mem_iff_getElem?.mp (List.mem_of_find?_eq_some e)
  obtain ⟨_,⟨⟨_,h3⟩,hn,_⟩,hk⟩:=g i r hi
  refine ⟨h3,hn,fun p hp=>?_⟩
  rcases hk p hp with h | ⟨j,r',_,hj,h⟩
  ·exact DK _ h
  ·rw [← h]; exact yn _ (g j r' hj).1
noncomputable def By (R:List Rec) (Vs:List Fld):E→List Str→Str→Prop
 | .num _,_,k=>k = "num"
 | .text _,_,k=>k = "text"
 | .var x,_,k=>(x,k)∈Vs
 | .of_ _ f,ks,k=>∃ r,ks=[r]∧(f,k)∈look R r
 | .with_ _ f _,ks,k=>∃ k',ks=[k,k']∧(f,k')∈look R k
 | .new r _,ks,k=>k=r∧1≤(look R r).length∧ks=(look R r).map (·.2)
 | .len _,ks,k=>k = "num"∧(ks=(["row"]:List Str)∨ks=(["text"]:List Str))
 | .at_ _ _,ks,k=>k = "num"∧(ks=(["row", "num"]:List Str)∨ks=(["text", "num"]:List Str))
 | .rows _,ks,k=>k = "row"∧ks.length≤8∧∀ z∈ks,z = "num"
 | .add _ _,ks,k=>k = "num"∧ks=(["num", "num"]:List Str)
 | .sub _ _,ks,k=>k = "num"∧ks=(["num", "num"]:List Str)
 | .times _ _,ks,k=>k = "num"∧ks=(["num"]:List Str)
 | .div _ _,ks,k=>k = "num"∧ks=(["num"]:List Str)
 | .rest _ _,ks,k=>k = "num"∧ks=(["num"]:List Str)
 | .put _ _ _,ks,k=>k = "row"∧ks=(["row", "num", "num"]:List Str)
 | .more _ _,ks,k=>k = "row"∧ks=(["row", "num"]:List Str)
 | .signs _,ks,k=>k = "row"∧ks=(["text"]:List Str)
theorem OkN.l {R:List Rec} {Vs:List Fld}:∀ {es:List E},OkN R Vs es→OkL R Vs es (es.map fun _ => "num")
 | [],_=>by simp only [List.map_nil,OkL]
 | e::r,h=>by
  simp only [OkN] at h
  simp only [List.map_cons,OkL]
  exact ⟨h.1,OkN.l h.2⟩
theorem OkL.len {R:List Rec} {Vs:List Fld}:∀ {es:List E} {ks:List Str},OkL R Vs es ks→es.length=ks.length
 | [],[],_=>rfl
 | e::r,k::s,h=>by
  simp only [OkL] at h
  rw [List.length_cons,List.length_cons,OkL.len h.2]
 | [],_::_,h=>by simp only [OkL] at h
 | _::_,[],h=>by simp only [OkL] at h
theorem OkL.at {R:List Rec} {Vs:List Fld}:∀ {es:List E} {ks:List Str} {i:Nat} {e:E},OkL R Vs es ks→es[i]?=some e→∃ k,ks[i]?=some k∧Ok R Vs e k
 | a::r,k::s,0,e,h,q=>by
  simp only [OkL] at h
  cases q
  exact ⟨k,rfl,h.1⟩
 | a::r,k::s,i+1,e,h,q=>by
  simp only [OkL] at h
  exact OkL.at (i:=i) h.2 q
 | [],_,i,e,_,q=>by simp at q
 | _::_,[],_,_,h,_=>by simp only [OkL] at h
theorem vD {R:List Rec} {Vs:List Fld} {a:E} {x:Str} (h:Ok R Vs a x):OkL R Vs [a] [x]:=by simp only [OkL]; exact ⟨h,trivial⟩
theorem zH {R:List Rec} {Vs:List Fld} {a b:E} {x y:Str} (h:Ok R Vs a x) (h2:Ok R Vs b y):OkL R Vs [a,b] [x,y]:=by simp only [OkL]; exact ⟨h,h2,trivial⟩
theorem Hj {R:List Rec} {Vs:List Fld} {a b c:E} {x y z:Str} (h:Ok R Vs a x) (h2:Ok R Vs b y) (h3:Ok R Vs c z):OkL R Vs [a,b,c] [x,y,z]:=by simp only [OkL]; exact ⟨h,h2,h3,trivial⟩
theorem EJ {R:List Rec} {Vs:List Fld}:OkL R Vs [] []:=by simp only [OkL]
theorem FP {R:List Rec} {Vs:List Fld} (g:gJ R):∀ {e:E} {k:Str},Ok R Vs e k→∃ ks,OkL R Vs (inner e) ks∧By R Vs e ks k∧ks.length≤8
 | .num _,k,h=>by simp only [Ok] at h; exact ⟨[],EJ,h.1,by decide⟩
 | .text _,k,h=>by simp only [Ok] at h; exact ⟨[],EJ,h.1,by decide⟩
 | .var _,k,h=>by simp only [Ok] at h; exact ⟨[],EJ,h,by decide⟩
 | .of_ _ _,k,h=>by simp only [Ok] at h; obtain ⟨r,h1,h2⟩:=h; exact ⟨[r],vD h1,⟨r,rfl,h2⟩,by simp⟩
 | .with_ _ _ _,k,h=>by simp only [Ok] at h; obtain ⟨_,h1,k',h2,h3⟩:=h; exact ⟨[k,k'],zH h1 h3,⟨k',rfl,h2⟩,by simp⟩
 | .new r _,k,h=>by simp only [Ok] at h; obtain ⟨h1,_,h2,h3⟩:=h; exact ⟨_,h3,⟨h1,h2,rfl⟩,by rw [List.length_map]; have:=(g r).1; omega⟩
 | .len _,k,h=>by
  simp only [Ok] at h
  obtain ⟨h1,h2 | h2⟩:=h
  ·exact ⟨["row"],vD h2,⟨h1,.inl rfl⟩,by decide⟩
  ·exact ⟨["text"],vD h2,⟨h1,.inr rfl⟩,by decide⟩
 | .at_ _ _,k,h=>by
  simp only [Ok] at h
  obtain ⟨h1,h2 | h2,h3⟩:=h
  ·exact ⟨["row", "num"],zH h2 h3,⟨h1,.inl rfl⟩,by decide⟩
  ·exact ⟨["text", "num"],zH h2 h3,⟨h1,.inr rfl⟩,by decide⟩
 | .rows es,k,h=>by
  simp only [Ok] at h
  exact ⟨_,h.2.2.l,⟨h.1,by rw [List.length_map]; exact h.2.1,fun z hz=>by obtain ⟨_,_,e⟩:=List.mem_map.mp hz; exact e.symm⟩,by rw [List.length_map]; exact h.2.1⟩
 | .add _ _,k,h=>by simp only [Ok] at h; exact ⟨(["num", "num"]:List Str),zH h.2.1 h.2.2,⟨h.1,rfl⟩,by decide⟩
 | .sub _ _,k,h=>by simp only [Ok] at h; exact ⟨(["num", "num"]:List Str),zH h.2.1 h.2.2,⟨h.1,rfl⟩,by decide⟩
 | .times _ _,k,h=>by simp only [Ok] at h; exact ⟨(["num"]:List Str),vD h.2.2,⟨h.1,rfl⟩,by decide⟩
 | .div _ _,k,h=>by simp only [Ok] at h; exact ⟨(["num"]:List Str),vD h.2.2,⟨h.1,rfl⟩,by decide⟩
 | .rest _ _,k,h=>by simp only [Ok] at h; exact ⟨(["num"]:List Str),vD h.2.2,⟨h.1,rfl⟩,by decide⟩
 | .put _ _ _,k,h=>by simp only [Ok] at h; exact ⟨(["row", "num", "num"]:List Str),Hj h.2.1 h.2.2.1 h.2.2.2,⟨h.1,rfl⟩,by decide⟩
 | .more _ _,k,h=>by simp only [Ok] at h; exact ⟨(["row", "num"]:List Str),zH h.2.1 h.2.2,⟨h.1,rfl⟩,by decide⟩
 | .signs _,k,h=>by simp only [Ok] at h; exact ⟨(["text"]:List Str),vD h.2,⟨h.1,rfl⟩,by decide⟩
theorem bx {K:Frag} {H:Hp}:∀ ks:List Str,gr K H (ks.map V.str) (ks.map PyData.str)
 | []=>.nil
 | k::r=>.cons (.str k) (bx r)
theorem ji:∀ {ks:List Str},(∀ k∈ks,PyData.strOk k=true)→PyData.canLayAll0 (ks.map PyData.str)=true
 | [],_=>by simp only [List.map_nil,PyData.canLayAll0]
 | k::r,h=>by
  simp only [List.map_cons,PyData.canLayAll0,PyData.canLay0,Bool.and_eq_true]
  exact ⟨h k (List.mem_cons_self ..),ji fun z hz=>h z (List.mem_cons_of_mem _ hz)⟩
theorem sM:∀ ks:List Str,PyData.depthAll (ks.map PyData.str)=0
 | []=>by simp only [List.map_nil,PyData.depthAll]
 | k::r=>by simp only [List.map_cons,PyData.depthAll,PyData.depth,sM r]; rfl
theorem lj {ks:List Str} (h:∀ k∈ks,PyData.strOk k=true):SeqAt.shaped (.list (ks.map PyData.str))=true∧SeqAt.shaped (.tuple (ks.map PyData.str))=true:=by
 have h1:=ji h
 have h2:=sM ks
 constructor<;>simp only [SeqAt.shaped,PyData.canLay0,PyData.depth,h1,h2]<;>rfl
theorem sf {ks:List Str} (h:∀ k∈ks,PyData.strOk k=true):PyData.eqv (.list (ks.map PyData.str)) (.list (ks.map PyData.str))=true∧PyData.eqv (.tuple (ks.map PyData.str)) (.tuple (ks.map PyData.str))=true :=
 ⟨SeqAt.eqv_refl _ (by simp only [PyData.canLay0]; exact ji h),SeqAt.eqv_refl _ (by simp only [PyData.canLay0]; exact ji h)⟩
noncomputable def FJ:E→Bool
 | .of_ _ _=>true
 | .with_ _ _ _=>true
 | .new _ _=>true
 | _=>false
section
variable {P:Program} {w:World} {K:Frag} {mg:Str→Option Value} {base:Heap} {f g:Addr} {fd gd:FuncData}
noncomputable def DR (K:Frag):Sp:=fun vs H Q _=>∃ v u it e R Vs ks k,vs=[v,u,.ref it]∧da H v R∧gJ R∧DT K H u (E.d e)∧H it=some (.tup (ks.map V.str))∧By R Vs e ks k∧FJ e=true∧∀ H',aZ H H'→Q (.str k) H'
noncomputable abbrev ny:List Str:=["program", "e", "inner", "wanted"]
theorem gG:aO ny ["program", "e", "inner"] (defScope fc):=⟨rfl,rfl,rfl,by decide +kernel,rfl,by decide +kernel,by decide +kernel⟩
theorem Ff (T:G0 mg) (F:Fun K "record_kind" "record_kind" fc f fd) (D_field_kinds:Cal P w K mg base 2 "field_kinds" ["program", "kind"] xX) (D_field_kind:Cal P w K mg base 2 "field_kind" ["program", "kind", "field"] yv):bj P w K mg base CX0 3 f fd ["program", "e", "inner"] (DR K):=by
 obtain ⟨g_field_kinds,gd_field_kinds,G_field_kinds,b_field_kinds,k_field_kinds,m_field_kinds⟩:=D_field_kinds.ex
 obtain ⟨g_field_kind,gd_field_kind,G_field_kind,b_field_kind,k_field_kind,m_field_kind⟩:=D_field_kind.ex
 refine F.ok gG (fun vs H Q EX h=>?_) (fun cdv A outer s H vs Q EX hr h=>?_)
 ·obtain ⟨v,u,it,e,R,Vs,ks,k,rfl,_⟩:=h
  rfl
 obtain ⟨v,u,it,e,R,Vs,ks,k,rfl,hp,hl,hu,hit,hb,hre,q⟩:=h
 refine ⟨_,(@am _ _ _ _ _ (@aR _ _ _ _ _ _ _ _ (@az _ _ _ _ _ _ _ _ bg (@aA _ _ _ _ _ _ _ aI (pv 1) ak (fun _ _=>rfl)) au (aG _)) (@ap _ _ _ (@ay _ _ _ _ (@aq _ _ _ _ _ _ _ _ _ _ _ _ _ _ _ _ G_field_kind (hr.mono (by omega)) rfl m_field_kind k_field_kind b_field_kind .nil aC (@ad _ _ _ _ _ (pv 0) (@ad _ _ _ _ _ (@aA _ _ _ _ _ _ _ aI (pv 2) ak (fun _ _=>rfl)) (@ad _ _ _ _ _ (@aA _ _ _ _ _ _ _ aI (pv 1) ak (fun _ _=>rfl)) ah (ac rfl)) (ac rfl)) (ac rfl)) (by decide) (ac rfl) (aj rfl)))) aF) (@am _ _ _ _ _ (@aR _ _ _ _ _ _ _ _ (@az _ _ _ _ _ _ _ _ bg (@aA _ _ _ _ _ _ _ aI (pv 1) ak (fun _ _=>rfl)) au (aG _)) (@ap _ _ _ (@ay _ _ _ _ (@cR _ _ _ _ _ _ _ _ (@az _ _ _ _ _ _ _ _ bg (@aq _ _ _ _ _ _ _ _ _ _ _ _ _ _ _ _ G_field_kind (hr.mono (by omega)) rfl m_field_kind k_field_kind b_field_kind .nil aC (@ad _ _ _ _ _ (pv 0) (@ad _ _ _ _ _ (@aA _ _ _ _ _ _ _ aI (pv 2) ak (fun _ _=>rfl)) (@ad _ _ _ _ _ (@aA _ _ _ _ _ _ _ aI (pv 1) ak (fun _ _=>rfl)) ah (ac rfl)) (ac rfl)) (ac rfl)) (by decide) (ac rfl) (aj rfl)) (@aA _ _ _ _ _ _ _ aI (pv 2) ak (fun _ _=>rfl)) (aG _)) (@aA _ _ _ _ _ _ _ aI (pv 2) ak (fun _ _=>rfl)) cu))) aF) (@am _ _ _ _ _ (@aM _ _ 3 _ _ _ _ gG.nd rfl (Or.inl rfl) (@aq _ _ _ _ _ _ _ _ _ _ _ _ _ _ _ _ G_field_kinds (hr.mono (by omega)) rfl m_field_kinds k_field_kinds b_field_kinds .nil aC (@ad _ _ _ _ _ (pv 0) (@ad _ _ _ _ _ (@aA _ _ _ _ _ _ _ aI (pv 1) ak (fun _ _=>rfl)) ah (ac rfl)) (ac rfl)) (by decide) (ac rfl) (aj rfl)) (aD rfl) (.inr rfl)) (@ap _ _ _ (@ay _ _ _ _ (@cR _ _ _ _ _ _ _ _ (PW.pt (gl (@az _ _ _ _ _ _ _ _ gu (@aK _ _ _ _ _ _ _ _ _ aU rfl T.len cv (@ad _ _ _ _ _ (pv 3) ah (ac rfl)) (by decide) (by decide) (ac rfl) (aj rfl)) ak (aG _)) (eW (@az _ _ _ _ _ _ _ _ (uS hr.units) (pv 3) (@bK _ _ _ _ _ _ _ _ _ gc rfl T.list wm (@ad _ _ _ _ _ (pv 2) ah (ac rfl)) (by decide) (by decide) (ac rfl) (aj rfl)) (aG _))))) (@aA _ _ _ _ _ _ _ aI (pv 1) ak (fun _ _=>rfl)) cu)))))),?_⟩
 cases e with
 | num y1 =>
  cases hre
 | text y1 =>
  cases hre
 | var y1 =>
  cases hre
 | of_ y1 y2 =>
  simp only [E.d] at hu
  obtain ⟨a,xs,rfl,ha,dx0⟩:=hu.open
  obtain ⟨x0,r0,rfl,h0,dx1⟩:=dx0.open
  obtain rfl:=h0.str_inv
  obtain ⟨x1,r1,rfl,h1,dx2⟩:=dx1.open
  obtain ⟨x2,r2,rfl,h2,dx3⟩:=dx2.open
  obtain rfl:=h2.str_inv
  cases dx3
  simp only [By] at hb
  refine ⟨_,rfl,a,_,_,_,rfl,rfl,SqT.of ha,rfl,rfl,_,rfl,?_⟩
  obtain ⟨r,rfl,hm⟩:=hb
  refine aE (fun c=>?_) (fun c=>absurd (by decide +kernel) c)
  exact ⟨_,rfl,_,rfl,it,_,_,_,rfl,rfl,SqT.of hit,rfl,_,rfl,a,_,_,_,rfl,rfl,SqT.of ha,rfl,v,r,_,k,R,rfl,hp,hm,(hl r).2.1,q⟩
 | with_ y1 y2 y3 =>
  simp only [E.d] at hu
  obtain ⟨a,xs,rfl,ha,dx0⟩:=hu.open
  obtain ⟨x0,r0,rfl,h0,dx1⟩:=dx0.open
  obtain rfl:=h0.str_inv
  obtain ⟨x1,r1,rfl,h1,dx2⟩:=dx1.open
  obtain ⟨x2,r2,rfl,h2,dx3⟩:=dx2.open
  obtain rfl:=h2.str_inv
  obtain ⟨x3,r3,rfl,h3,dx4⟩:=dx3.open
  cases dx4
  simp only [By] at hb
  refine ⟨_,rfl,a,_,_,_,rfl,rfl,SqT.of ha,rfl,rfl,_,rfl,?_⟩
  refine aE (fun c=>absurd c (by decide +kernel)) (fun c=>?_)
  refine ⟨_,rfl,a,_,_,_,rfl,rfl,SqT.of ha,rfl,rfl,_,rfl,?_⟩
  obtain ⟨k',rfl,hm⟩:=hb
  refine aE (fun c=>?_) (fun c=>absurd (by decide +kernel) c)
  refine ⟨_,rfl,_,rfl,it,_,_,_,rfl,rfl,SqT.of hit,rfl,_,rfl,a,_,_,_,rfl,rfl,SqT.of ha,rfl,v,k,_,k',R,rfl,hp,hm,(hl k).2.1,fun H1 g1=>?_⟩
  refine ⟨_,rfl,it,_,_,_,rfl,rfl,SqT.of (g1 _ _ hit),rfl,rfl,_,rfl,?_⟩
  refine aE (fun c=>?_) (fun c=>absurd (decide_eq_true rfl) c)
  exact ⟨_,rfl,it,_,_,_,rfl,rfl,SqT.of (g1 _ _ hit),rfl,q _ g1⟩
 | new y1 y2 =>
  simp only [E.d] at hu
  obtain ⟨a,xs,rfl,ha,dx0⟩:=hu.open
  obtain ⟨x0,r0,rfl,h0,dx1⟩:=dx0.open
  obtain rfl:=h0.str_inv
  obtain ⟨x1,r1,rfl,h1,dx2⟩:=dx1.open
  obtain rfl:=h1.str_inv
  obtain ⟨x2,r2,rfl,h2,dx3⟩:=dx2.open
  cases dx3
  simp only [By] at hb
  refine ⟨_,rfl,a,_,_,_,rfl,rfl,SqT.of ha,rfl,rfl,_,rfl,?_⟩
  refine aE (fun c=>absurd c (by decide +kernel)) (fun c=>?_)
  refine ⟨_,rfl,a,_,_,_,rfl,rfl,SqT.of ha,rfl,rfl,_,rfl,?_⟩
  obtain ⟨rfl,h1,rfl⟩:=hb
  refine aE (fun c=>absurd c (by decide +kernel)) (fun c=>?_)
  refine ⟨_,rfl,_,rfl,a,_,_,_,rfl,rfl,SqT.of ha,rfl,v,k,R,rfl,hp,(hl k).1,fun wr H1 g1 hw0 hw=>?_⟩
  refine ⟨_,rfl,wr,_,rfl,.inl (SqL.of hw),_,_,rfl,rfl,_,rfl,?_⟩
  refine aE (fun c=>?_) (fun c=>absurd (decide_eq_true (by rw [List.length_map]; omega)) c)
  refine ⟨_,rfl,_,rfl,it,_,rfl,.inr (SqT.of (g1 _ _ hit)),fun l2 hl2=>?_⟩
  have g2:=ao hl2 (.lst (List.map V.str (List.map (fun x=>x.2) (look R k))))
  have so:∀ z∈List.map (fun x:Fld=>x.2) (look R k),PyData.strOk z=true:=fun z hz=>by
   obtain ⟨p,hp2,rfl⟩:=List.mem_map.mp hz
   exact (hl k).2.2 p hp2
  refine ⟨.list ((List.map (fun x:Fld=>x.2) (look R k)).map PyData.str),.list ((List.map (fun x:Fld=>x.2) (look R k)).map PyData.str),.lst (SqL.of ((g2 _ _ hw).trans (by rw [List.map_map]; rfl))) (bx _),.lst (SqL.of ag) (bx _),(lj so).1,(lj so).1,_,rfl,?_⟩
  rw [(sf so).1]
  exact cO ⟨_,rfl,a,_,_,_,rfl,rfl,SqT.of (g2 _ _ (g1 _ _ ha)),rfl,q _ (g1.trans g2)⟩
 | add y1 y2 =>
  cases hre
 | sub y1 y2 =>
  cases hre
 | times y1 y2 =>
  cases hre
 | div y1 y2 =>
  cases hre
 | rest y1 y2 =>
  cases hre
 | len y1 =>
  cases hre
 | at_ y1 y2 =>
  cases hre
 | rows y1 =>
  cases hre
 | put y1 y2 y3 =>
  cases hre
 | more y1 y2 =>
  cases hre
 | signs y1 =>
  cases hre
noncomputable def ES (K:Frag):Sp:=fun vs H Q _=>∃ v kk u it e R Vs ks k,vs=[v,.ref kk,u,.ref it]∧da H v R∧gJ R∧H kk=some (.dK (sX Vs))∧(Vs.map (·.1)).Nodup∧DT K H u (E.d e)∧H it=some (.tup (ks.map V.str))∧By R Vs e ks k∧∀ H',aZ H H'→Q (.str k) H'
noncomputable abbrev oJ:List Str:=["program", "kinds", "e", "inner", "word"]
noncomputable abbrev jM:List Str:=["kind"]
theorem nU:jM.Nodup:=by decide +kernel
theorem lT:aO oJ ["program", "kinds", "e", "inner"] (defScope ix):=⟨rfl,rfl,rfl,by decide +kernel,rfl,by decide +kernel,by decide +kernel⟩
theorem Fn (T:G K w mg) (F:Fun K "kind_by" "kind_by" ix f fd) (D_record_kind:Cal P w K mg base 3 "record_kind" ["program", "e", "inner"] (DR K)) (D_named_kind:Cal P w K mg base 1 "named_kind" ["kinds", "thing"] lr):bj P w K mg base CX0 4 f fd ["program", "kinds", "e", "inner"] (ES K):=by
 obtain ⟨aB,mB,kB,hB,hBn⟩:=T.gb
 obtain ⟨tR,mR⟩:=T.mr
 have T:=T.t
 obtain ⟨g_record_kind,gd_record_kind,G_record_kind,b_record_kind,k_record_kind,m_record_kind⟩:=D_record_kind.ex
 obtain ⟨g_named_kind,gd_named_kind,G_named_kind,b_named_kind,k_named_kind,m_named_kind⟩:=D_named_kind.ex
 refine F.ok lT (fun vs H Q EX h=>?_) (fun cdv A outer s H vs Q EX hr h=>?_)
 ·obtain ⟨v,kk,u,it,e,R,Vs,ks,k,rfl,_⟩:=h
  rfl
 obtain ⟨v,kk,u,it,e,R,Vs,ks,k,rfl,hp,hl,hk,hnd,hu,hit,hb,q⟩:=h
 have hu0:=hu
 refine ⟨_,(@am _ _ _ _ _ (@aM _ _ 4 _ _ _ _ lT.nd rfl (Or.inl rfl) (@aA _ _ _ _ _ _ _ aI (pv 2) ak (fun _ _=>rfl)) (aD rfl) (.inr rfl)) (@am _ _ _ _ _ (@aR _ _ _ _ _ _ _ _ (@az _ _ _ _ _ _ _ _ cN (pv 4) (@aT _ _ _ _ _ (@ad _ _ _ _ _ au (@ad _ _ _ _ _ au ah (ac rfl)) (ac rfl))) rfl) (@ap _ _ _ (@ay _ _ _ _ (pv 4))) aF) (@am _ _ _ _ _ (@aR _ _ _ _ _ _ _ _ (@az _ _ _ _ _ _ _ _ bg (pv 4) au (aG _)) (@ap _ _ _ (@ay _ _ _ _ (@aq _ _ _ _ _ _ _ _ _ _ _ _ _ _ _ _ G_named_kind (hr.mono (by omega)) rfl m_named_kind k_named_kind b_named_kind .nil aC (@ad _ _ _ _ _ (pv 1) (@ad _ _ _ _ _ (@aA _ _ _ _ _ _ _ aI (pv 2) ak (fun _ _=>rfl)) ah (ac rfl)) (ac rfl)) (by decide) (ac rfl) (aj rfl)))) aF) (@am _ _ _ _ _ (@aR _ _ _ _ _ _ _ _ (@az _ _ _ _ _ _ _ _ (Ay kB) (pv 4) (bv (v:=.ref aB) rfl mB rfl) rfl) (@ap _ _ _ (@ay _ _ _ _ (@cR _ _ _ _ _ _ _ _ (@az _ _ _ _ _ _ _ _ (uS hr.units) (pv 3) (@aA _ _ _ _ _ _ _ aI (@aA _ _ _ _ _ _ _ (zX kB) (bv (v:=.ref aB) rfl mB rfl) (pv 4) (fun _ _=>rfl)) ak (fun _ _=>rfl)) (aG _)) (@aA _ _ _ _ _ _ _ aI (@aA _ _ _ _ _ _ _ (zX kB) (bv (v:=.ref aB) rfl mB rfl) (pv 4) (fun _ _=>rfl)) ak (fun _ _=>rfl)) cu))) aF) (@am _ _ _ _ _ (@aR _ _ _ _ _ _ _ _ (@az _ _ _ _ _ _ _ _ bg (pv 4) au (aG _)) (@ap _ _ _ (@ay _ _ _ _ (@cR _ _ _ _ _ _ _ _ (@az _ _ _ _ _ _ _ _ (AG hr.units) (pv 3) (@aT _ _ _ _ _ (@ad _ _ _ _ _ (@aT _ _ _ _ _ (@ad _ _ _ _ _ au ah (ac rfl))) (@ad _ _ _ _ _ (@aT _ _ _ _ _ (@ad _ _ _ _ _ au ah (ac rfl))) ah (ac rfl)) (ac rfl))) rfl) au cu))) aF) (@am _ _ _ _ _ (@aR _ _ _ _ _ _ _ _ (@az _ _ _ _ _ _ _ _ bg (pv 4) au (aG _)) (@ap _ _ _ (@ay _ _ _ _ (@cR _ _ _ _ _ _ _ _ (@az _ _ _ _ _ _ _ _ (AG hr.units) (pv 3) (@aT _ _ _ _ _ (@ad _ _ _ _ _ (@aT _ _ _ _ _ (@ad _ _ _ _ _ au (@ad _ _ _ _ _ au ah (ac rfl)) (ac rfl))) (@ad _ _ _ _ _ (@aT _ _ _ _ _ (@ad _ _ _ _ _ au (@ad _ _ _ _ _ au ah (ac rfl)) (ac rfl))) ah (ac rfl)) (ac rfl))) rfl) au cu))) aF) (@am _ _ _ _ _ (@aR _ _ _ _ _ _ _ _ (@az _ _ _ _ _ _ _ _ bg (pv 4) au (aG _)) (@ap _ _ _ (@ay _ _ _ _ (@cR _ _ _ _ _ _ _ _ (PW.pt (gl (@az _ _ _ _ _ _ _ _ ii (@aK _ _ _ _ _ _ _ _ _ aU rfl T.len cv (@ad _ _ _ _ _ (pv 3) ah (ac rfl)) (by decide) (by decide) (ac rfl) (aj rfl)) (bv (v:=.int 8) rfl mR ⟨_,rfl⟩) (aG _)) (eW (bt (@aK _ _ _ _ _ _ _ _ _ (gY rfl) rfl T.all tI (@ad _ _ _ _ _ (bH (N':=jM) (ρ:=[none]) (m:=1) (bI.of (fs:=defScope ix) (N:=oJ) rfl rfl (by decide +kernel)) rfl (bJ (pv 3)) (fun _ _ _ _=>(aH (i:=0) nU rfl (Or.inl rfl))) (fun _ _ _ _=>bC) (fun _ _ _ _=>(bW bg (pv 0) au (aG _)))) ah (ac rfl)) (by decide) (by decide) (ac rfl) (aj rfl)))))) au cu))) aF) (@ap _ _ _ (@ay _ _ _ _ (@aq _ _ _ _ _ _ _ _ _ _ _ _ _ _ _ _ G_record_kind (hr.mono (by omega)) rfl m_record_kind k_record_kind b_record_kind .nil aC (@ad _ _ _ _ _ (pv 0) (@ad _ _ _ _ _ (pv 2) (@ad _ _ _ _ _ (pv 3) ah (ac rfl)) (ac rfl)) (ac rfl)) (by decide) (ac rfl) (aj rfl))))))))))),?_⟩
 cases e with
 | num y1 =>
  simp only [E.d] at hu
  obtain ⟨a,xs,rfl,ha,dx0⟩:=hu.open
  obtain ⟨x0,r0,rfl,h0,dx1⟩:=dx0.open
  obtain rfl:=h0.str_inv
  obtain ⟨x1,r1,rfl,h1,dx2⟩:=dx1.open
  obtain rfl:=h1.int_inv
  cases dx2
  simp only [By] at hb
  refine ⟨_,rfl,a,_,_,_,rfl,rfl,SqT.of ha,rfl,?_⟩
  refine ⟨_,rfl,(by show 2≤sizeLine; decide),fun p1 hp1=>⟨p1,_,rfl,.inr (SqT.of ag),rfl,rfl,_,rfl,?_⟩⟩
  have g1:=ao hp1 (.tup [.str "num",.str "text"])
  refine aE (fun c=>?_) (fun c=>absurd (by decide +kernel) c)
  subst hb
  exact ⟨_,rfl,q _ g1⟩
 | text y1 =>
  simp only [E.d] at hu
  obtain ⟨a,xs,rfl,ha,dx0⟩:=hu.open
  obtain ⟨x0,r0,rfl,h0,dx1⟩:=dx0.open
  obtain rfl:=h0.str_inv
  obtain ⟨x1,r1,rfl,h1,dx2⟩:=dx1.open
  obtain rfl:=h1.str_inv
  cases dx2
  simp only [By] at hb
  refine ⟨_,rfl,a,_,_,_,rfl,rfl,SqT.of ha,rfl,?_⟩
  refine ⟨_,rfl,(by show 2≤sizeLine; decide),fun p1 hp1=>⟨p1,_,rfl,.inr (SqT.of ag),rfl,rfl,_,rfl,?_⟩⟩
  have g1:=ao hp1 (.tup [.str "num",.str "text"])
  refine aE (fun c=>?_) (fun c=>absurd (by decide +kernel) c)
  subst hb
  exact ⟨_,rfl,q _ g1⟩
 | var y1 =>
  simp only [E.d] at hu
  obtain ⟨a,xs,rfl,ha,dx0⟩:=hu.open
  obtain ⟨x0,r0,rfl,h0,dx1⟩:=dx0.open
  obtain rfl:=h0.str_inv
  obtain ⟨x1,r1,rfl,h1,dx2⟩:=dx1.open
  obtain rfl:=h1.str_inv
  cases dx2
  simp only [By] at hb
  refine ⟨_,rfl,a,_,_,_,rfl,rfl,SqT.of ha,rfl,?_⟩
  refine ⟨_,rfl,(by show 2≤sizeLine; decide),fun p1 hp1=>⟨p1,_,rfl,.inr (SqT.of ag),rfl,rfl,_,rfl,?_⟩⟩
  have g1:=ao hp1 (.tup [.str "num",.str "text"])
  refine aE (fun c=>absurd c (by decide +kernel)) (fun c=>?_)
  refine ⟨_,rfl,rfl,_,rfl,?_⟩
  refine aE (fun c=>?_) (fun c=>absurd (by decide +kernel) c)
  exact ⟨_,rfl,_,rfl,a,_,_,_,rfl,rfl,SqT.of (g1 _ _ ha),rfl,kk,_,k,Vs,rfl,g1 _ _ hk,hnd,hb,q _ g1⟩
 | of_ y1 y2 =>
  simp only [E.d] at hu
  obtain ⟨a,xs,rfl,ha,dx0⟩:=hu.open
  obtain ⟨x0,r0,rfl,h0,dx1⟩:=dx0.open
  obtain rfl:=h0.str_inv
  obtain ⟨x1,r1,rfl,h1,dx2⟩:=dx1.open
  obtain ⟨x2,r2,rfl,h2,dx3⟩:=dx2.open
  obtain rfl:=h2.str_inv
  cases dx3
  refine ⟨_,rfl,a,_,_,_,rfl,rfl,SqT.of ha,rfl,?_⟩
  refine ⟨_,rfl,(by show 2≤sizeLine; decide),fun p1 hp1=>⟨p1,_,rfl,.inr (SqT.of ag),rfl,rfl,_,rfl,?_⟩⟩
  have g1:=ao hp1 (.tup [.str "num",.str "text"])
  refine aE (fun c=>absurd c (by decide +kernel)) (fun c=>?_)
  refine ⟨_,rfl,rfl,_,rfl,?_⟩
  refine aE (fun c=>absurd c (by decide +kernel)) (fun c=>?_)
  refine ⟨_,rfl,_,none,rfl,rfl,hBn "of" (by decide +kernel),_,rfl,bL ?_⟩
  refine ⟨_,rfl,rfl,_,rfl,?_⟩
  refine aE (fun c=>absurd c (by decide +kernel)) (fun c=>?_)
  refine ⟨_,rfl,rfl,_,rfl,?_⟩
  refine aE (fun c=>absurd c (by decide +kernel)) (fun c=>?_)
  refine ⟨_,rfl,rfl,_,rfl,?_⟩
  refine aE (fun c=>absurd c (by decide +kernel)) (fun c=>?_)
  exact ⟨_,rfl,_,rfl,_,rfl,v,_,it,_,R,Vs,ks,k,rfl,hp.mono (av g1),hl,hu0.mono (av g1),g1 _ _ hit,hb,rfl,fun H' g'=>q _ (g1.trans g')⟩
 | with_ y1 y2 y3 =>
  simp only [E.d] at hu
  obtain ⟨a,xs,rfl,ha,dx0⟩:=hu.open
  obtain ⟨x0,r0,rfl,h0,dx1⟩:=dx0.open
  obtain rfl:=h0.str_inv
  obtain ⟨x1,r1,rfl,h1,dx2⟩:=dx1.open
  obtain ⟨x2,r2,rfl,h2,dx3⟩:=dx2.open
  obtain rfl:=h2.str_inv
  obtain ⟨x3,r3,rfl,h3,dx4⟩:=dx3.open
  cases dx4
  refine ⟨_,rfl,a,_,_,_,rfl,rfl,SqT.of ha,rfl,?_⟩
  refine ⟨_,rfl,(by show 2≤sizeLine; decide),fun p1 hp1=>⟨p1,_,rfl,.inr (SqT.of ag),rfl,rfl,_,rfl,?_⟩⟩
  have g1:=ao hp1 (.tup [.str "num",.str "text"])
  refine aE (fun c=>absurd c (by decide +kernel)) (fun c=>?_)
  refine ⟨_,rfl,rfl,_,rfl,?_⟩
  refine aE (fun c=>absurd c (by decide +kernel)) (fun c=>?_)
  refine ⟨_,rfl,_,none,rfl,rfl,hBn "with" (by decide +kernel),_,rfl,bL ?_⟩
  refine ⟨_,rfl,rfl,_,rfl,?_⟩
  refine aE (fun c=>absurd c (by decide +kernel)) (fun c=>?_)
  refine ⟨_,rfl,rfl,_,rfl,?_⟩
  refine aE (fun c=>absurd c (by decide +kernel)) (fun c=>?_)
  refine ⟨_,rfl,rfl,_,rfl,?_⟩
  refine aE (fun c=>absurd c (by decide +kernel)) (fun c=>?_)
  exact ⟨_,rfl,_,rfl,_,rfl,v,_,it,_,R,Vs,ks,k,rfl,hp.mono (av g1),hl,hu0.mono (av g1),g1 _ _ hit,hb,rfl,fun H' g'=>q _ (g1.trans g')⟩
 | new y1 y2 =>
  simp only [E.d] at hu
  obtain ⟨a,xs,rfl,ha,dx0⟩:=hu.open
  obtain ⟨x0,r0,rfl,h0,dx1⟩:=dx0.open
  obtain rfl:=h0.str_inv
  obtain ⟨x1,r1,rfl,h1,dx2⟩:=dx1.open
  obtain rfl:=h1.str_inv
  obtain ⟨x2,r2,rfl,h2,dx3⟩:=dx2.open
  cases dx3
  refine ⟨_,rfl,a,_,_,_,rfl,rfl,SqT.of ha,rfl,?_⟩
  refine ⟨_,rfl,(by show 2≤sizeLine; decide),fun p1 hp1=>⟨p1,_,rfl,.inr (SqT.of ag),rfl,rfl,_,rfl,?_⟩⟩
  have g1:=ao hp1 (.tup [.str "num",.str "text"])
  refine aE (fun c=>absurd c (by decide +kernel)) (fun c=>?_)
  refine ⟨_,rfl,rfl,_,rfl,?_⟩
  refine aE (fun c=>absurd c (by decide +kernel)) (fun c=>?_)
  refine ⟨_,rfl,_,none,rfl,rfl,hBn "new" (by decide +kernel),_,rfl,bL ?_⟩
  refine ⟨_,rfl,rfl,_,rfl,?_⟩
  refine aE (fun c=>absurd c (by decide +kernel)) (fun c=>?_)
  refine ⟨_,rfl,rfl,_,rfl,?_⟩
  refine aE (fun c=>absurd c (by decide +kernel)) (fun c=>?_)
  refine ⟨_,rfl,rfl,_,rfl,?_⟩
  refine aE (fun c=>absurd c (by decide +kernel)) (fun c=>?_)
  exact ⟨_,rfl,_,rfl,_,rfl,v,_,it,_,R,Vs,ks,k,rfl,hp.mono (av g1),hl,hu0.mono (av g1),g1 _ _ hit,hb,rfl,fun H' g'=>q _ (g1.trans g')⟩
 | add y1 y2 =>
  simp only [E.d] at hu
  obtain ⟨a,xs,rfl,ha,dx0⟩:=hu.open
  obtain ⟨x0,r0,rfl,h0,dx1⟩:=dx0.open
  obtain rfl:=h0.str_inv
  obtain ⟨x1,r1,rfl,h1,dx2⟩:=dx1.open
  obtain ⟨x2,r2,rfl,h2,dx3⟩:=dx2.open
  cases dx3
  simp only [By] at hb
  refine ⟨_,rfl,a,_,_,_,rfl,rfl,SqT.of ha,rfl,?_⟩
  refine ⟨_,rfl,(by show 2≤sizeLine; decide),fun p1 hp1=>⟨p1,_,rfl,.inr (SqT.of ag),rfl,rfl,_,rfl,?_⟩⟩
  have g1:=ao hp1 (.tup [.str "num",.str "text"])
  refine aE (fun c=>absurd c (by decide +kernel)) (fun c=>?_)
  refine ⟨_,rfl,rfl,_,rfl,?_⟩
  refine aE (fun c=>absurd c (by decide +kernel)) (fun c=>?_)
  obtain ⟨rfl,rfl⟩:=hb
  obtain ⟨aw,bw,w1,w2,w3⟩:=hB ("add",(["num", "num"]:List Str), "num") (by decide +kernel)
  refine ⟨_,rfl,_,_,rfl,rfl,w1,_,rfl,cO ?_⟩
  refine ⟨_,rfl,_,rfl,_,_,.ref aw,rfl,rfl,w1,rfl,aw,_,_,_,rfl,rfl,w2 _,rfl,.tuple ((["num", "num"]:List Str).map PyData.str),.tuple ((["num", "num"]:List Str).map PyData.str),.tup (SqT.of (g1 _ _ hit)) (bx _),.tup (w3 _) (bx _),by decide +kernel,by decide +kernel,_,rfl,?_⟩
  refine aE (fun c=>?_) (fun c=>absurd (by decide +kernel) c)
  exact ⟨_,rfl,_,_,.ref aw,rfl,rfl,w1,rfl,aw,_,_,_,rfl,rfl,w2 _,rfl,q _ g1⟩
 | sub y1 y2 =>
  simp only [E.d] at hu
  obtain ⟨a,xs,rfl,ha,dx0⟩:=hu.open
  obtain ⟨x0,r0,rfl,h0,dx1⟩:=dx0.open
  obtain rfl:=h0.str_inv
  obtain ⟨x1,r1,rfl,h1,dx2⟩:=dx1.open
  obtain ⟨x2,r2,rfl,h2,dx3⟩:=dx2.open
  cases dx3
  simp only [By] at hb
  refine ⟨_,rfl,a,_,_,_,rfl,rfl,SqT.of ha,rfl,?_⟩
  refine ⟨_,rfl,(by show 2≤sizeLine; decide),fun p1 hp1=>⟨p1,_,rfl,.inr (SqT.of ag),rfl,rfl,_,rfl,?_⟩⟩
  have g1:=ao hp1 (.tup [.str "num",.str "text"])
  refine aE (fun c=>absurd c (by decide +kernel)) (fun c=>?_)
  refine ⟨_,rfl,rfl,_,rfl,?_⟩
  refine aE (fun c=>absurd c (by decide +kernel)) (fun c=>?_)
  obtain ⟨rfl,rfl⟩:=hb
  obtain ⟨aw,bw,w1,w2,w3⟩:=hB ("sub",(["num", "num"]:List Str), "num") (by decide +kernel)
  refine ⟨_,rfl,_,_,rfl,rfl,w1,_,rfl,cO ?_⟩
  refine ⟨_,rfl,_,rfl,_,_,.ref aw,rfl,rfl,w1,rfl,aw,_,_,_,rfl,rfl,w2 _,rfl,.tuple ((["num", "num"]:List Str).map PyData.str),.tuple ((["num", "num"]:List Str).map PyData.str),.tup (SqT.of (g1 _ _ hit)) (bx _),.tup (w3 _) (bx _),by decide +kernel,by decide +kernel,_,rfl,?_⟩
  refine aE (fun c=>?_) (fun c=>absurd (by decide +kernel) c)
  exact ⟨_,rfl,_,_,.ref aw,rfl,rfl,w1,rfl,aw,_,_,_,rfl,rfl,w2 _,rfl,q _ g1⟩
 | times y1 y2 =>
  simp only [E.d] at hu
  obtain ⟨a,xs,rfl,ha,dx0⟩:=hu.open
  obtain ⟨x0,r0,rfl,h0,dx1⟩:=dx0.open
  obtain rfl:=h0.str_inv
  obtain ⟨x1,r1,rfl,h1,dx2⟩:=dx1.open
  obtain rfl:=h1.int_inv
  obtain ⟨x2,r2,rfl,h2,dx3⟩:=dx2.open
  cases dx3
  simp only [By] at hb
  refine ⟨_,rfl,a,_,_,_,rfl,rfl,SqT.of ha,rfl,?_⟩
  refine ⟨_,rfl,(by show 2≤sizeLine; decide),fun p1 hp1=>⟨p1,_,rfl,.inr (SqT.of ag),rfl,rfl,_,rfl,?_⟩⟩
  have g1:=ao hp1 (.tup [.str "num",.str "text"])
  refine aE (fun c=>absurd c (by decide +kernel)) (fun c=>?_)
  refine ⟨_,rfl,rfl,_,rfl,?_⟩
  refine aE (fun c=>absurd c (by decide +kernel)) (fun c=>?_)
  obtain ⟨rfl,rfl⟩:=hb
  obtain ⟨aw,bw,w1,w2,w3⟩:=hB ("times",(["num"]:List Str), "num") (by decide +kernel)
  refine ⟨_,rfl,_,_,rfl,rfl,w1,_,rfl,cO ?_⟩
  refine ⟨_,rfl,_,rfl,_,_,.ref aw,rfl,rfl,w1,rfl,aw,_,_,_,rfl,rfl,w2 _,rfl,.tuple ((["num"]:List Str).map PyData.str),.tuple ((["num"]:List Str).map PyData.str),.tup (SqT.of (g1 _ _ hit)) (bx _),.tup (w3 _) (bx _),by decide +kernel,by decide +kernel,_,rfl,?_⟩
  refine aE (fun c=>?_) (fun c=>absurd (by decide +kernel) c)
  exact ⟨_,rfl,_,_,.ref aw,rfl,rfl,w1,rfl,aw,_,_,_,rfl,rfl,w2 _,rfl,q _ g1⟩
 | div y1 y2 =>
  simp only [E.d] at hu
  obtain ⟨a,xs,rfl,ha,dx0⟩:=hu.open
  obtain ⟨x0,r0,rfl,h0,dx1⟩:=dx0.open
  obtain rfl:=h0.str_inv
  obtain ⟨x1,r1,rfl,h1,dx2⟩:=dx1.open
  obtain ⟨x2,r2,rfl,h2,dx3⟩:=dx2.open
  obtain rfl:=h2.int_inv
  cases dx3
  simp only [By] at hb
  refine ⟨_,rfl,a,_,_,_,rfl,rfl,SqT.of ha,rfl,?_⟩
  refine ⟨_,rfl,(by show 2≤sizeLine; decide),fun p1 hp1=>⟨p1,_,rfl,.inr (SqT.of ag),rfl,rfl,_,rfl,?_⟩⟩
  have g1:=ao hp1 (.tup [.str "num",.str "text"])
  refine aE (fun c=>absurd c (by decide +kernel)) (fun c=>?_)
  refine ⟨_,rfl,rfl,_,rfl,?_⟩
  refine aE (fun c=>absurd c (by decide +kernel)) (fun c=>?_)
  obtain ⟨rfl,rfl⟩:=hb
  obtain ⟨aw,bw,w1,w2,w3⟩:=hB ("div",(["num"]:List Str), "num") (by decide +kernel)
  refine ⟨_,rfl,_,_,rfl,rfl,w1,_,rfl,cO ?_⟩
  refine ⟨_,rfl,_,rfl,_,_,.ref aw,rfl,rfl,w1,rfl,aw,_,_,_,rfl,rfl,w2 _,rfl,.tuple ((["num"]:List Str).map PyData.str),.tuple ((["num"]:List Str).map PyData.str),.tup (SqT.of (g1 _ _ hit)) (bx _),.tup (w3 _) (bx _),by decide +kernel,by decide +kernel,_,rfl,?_⟩
  refine aE (fun c=>?_) (fun c=>absurd (by decide +kernel) c)
  exact ⟨_,rfl,_,_,.ref aw,rfl,rfl,w1,rfl,aw,_,_,_,rfl,rfl,w2 _,rfl,q _ g1⟩
 | rest y1 y2 =>
  simp only [E.d] at hu
  obtain ⟨a,xs,rfl,ha,dx0⟩:=hu.open
  obtain ⟨x0,r0,rfl,h0,dx1⟩:=dx0.open
  obtain rfl:=h0.str_inv
  obtain ⟨x1,r1,rfl,h1,dx2⟩:=dx1.open
  obtain ⟨x2,r2,rfl,h2,dx3⟩:=dx2.open
  obtain rfl:=h2.int_inv
  cases dx3
  simp only [By] at hb
  refine ⟨_,rfl,a,_,_,_,rfl,rfl,SqT.of ha,rfl,?_⟩
  refine ⟨_,rfl,(by show 2≤sizeLine; decide),fun p1 hp1=>⟨p1,_,rfl,.inr (SqT.of ag),rfl,rfl,_,rfl,?_⟩⟩
  have g1:=ao hp1 (.tup [.str "num",.str "text"])
  refine aE (fun c=>absurd c (by decide +kernel)) (fun c=>?_)
  refine ⟨_,rfl,rfl,_,rfl,?_⟩
  refine aE (fun c=>absurd c (by decide +kernel)) (fun c=>?_)
  obtain ⟨rfl,rfl⟩:=hb
  obtain ⟨aw,bw,w1,w2,w3⟩:=hB ("rest",(["num"]:List Str), "num") (by decide +kernel)
  refine ⟨_,rfl,_,_,rfl,rfl,w1,_,rfl,cO ?_⟩
  refine ⟨_,rfl,_,rfl,_,_,.ref aw,rfl,rfl,w1,rfl,aw,_,_,_,rfl,rfl,w2 _,rfl,.tuple ((["num"]:List Str).map PyData.str),.tuple ((["num"]:List Str).map PyData.str),.tup (SqT.of (g1 _ _ hit)) (bx _),.tup (w3 _) (bx _),by decide +kernel,by decide +kernel,_,rfl,?_⟩
  refine aE (fun c=>?_) (fun c=>absurd (by decide +kernel) c)
  exact ⟨_,rfl,_,_,.ref aw,rfl,rfl,w1,rfl,aw,_,_,_,rfl,rfl,w2 _,rfl,q _ g1⟩
 | len y1 =>
  simp only [E.d] at hu
  obtain ⟨a,xs,rfl,ha,dx0⟩:=hu.open
  obtain ⟨x0,r0,rfl,h0,dx1⟩:=dx0.open
  obtain rfl:=h0.str_inv
  obtain ⟨x1,r1,rfl,h1,dx2⟩:=dx1.open
  cases dx2
  simp only [By] at hb
  refine ⟨_,rfl,a,_,_,_,rfl,rfl,SqT.of ha,rfl,?_⟩
  refine ⟨_,rfl,(by show 2≤sizeLine; decide),fun p1 hp1=>⟨p1,_,rfl,.inr (SqT.of ag),rfl,rfl,_,rfl,?_⟩⟩
  have g1:=ao hp1 (.tup [.str "num",.str "text"])
  refine aE (fun c=>absurd c (by decide +kernel)) (fun c=>?_)
  refine ⟨_,rfl,rfl,_,rfl,?_⟩
  refine aE (fun c=>absurd c (by decide +kernel)) (fun c=>?_)
  refine ⟨_,rfl,_,none,rfl,rfl,hBn "len" (by decide +kernel),_,rfl,bL ?_⟩
  refine ⟨_,rfl,rfl,_,rfl,?_⟩
  refine aE (fun c=>?_) (fun c=>absurd (by decide +kernel) c)
  obtain ⟨rfl,hks⟩:=hb
  refine ⟨_,rfl,(by show 1≤sizeLine; decide),fun p2 hp2=>⟨(by show 1≤sizeLine; decide),fun p3 hp3=>⟨(by show 2≤sizeLine; decide),fun p4 hp4=>?_⟩⟩⟩
  have g2:=g1.trans (ao hp2 (.tup [.str "row"]))
  have g3:=ao hp3 (.tup [.str "text"])
  have g4:=ao hp4 (.tup [.ref p2,.ref p3])
  have t2:=g4 _ _ (g3 _ _ (ag (H:=L2.upd H p1 (.tup [.str "num",.str "text"])) (o:=.tup [.str "row"]) (a:=p2)))
  refine ⟨p4,p2,p3,.tuple (ks.map PyData.str),.tuple ((["row"]:List Str).map PyData.str),.tuple ((["text"]:List Str).map PyData.str),rfl,SqT.of ag,aJ ag hp3,.tup (SqT.of (g4 _ _ (g3 _ _ (g2 _ _ hit)))) (bx _),.tup (SqT.of t2) (bx ["row"]),.tup (SqT.of (g4 _ _ ag)) (bx ["text"]),?_,by decide +kernel,by decide +kernel,?_,_,rfl,?_⟩
  ·rcases hks with rfl | rfl<;>decide +kernel
  ·rcases hks with rfl | rfl<;>decide +kernel
  ·refine aE (fun c=>q _ (g2.trans (g3.trans g4))) (fun c=>absurd ?_ c)
   rcases hks with rfl | rfl<;>decide +kernel
 | at_ y1 y2 =>
  simp only [E.d] at hu
  obtain ⟨a,xs,rfl,ha,dx0⟩:=hu.open
  obtain ⟨x0,r0,rfl,h0,dx1⟩:=dx0.open
  obtain rfl:=h0.str_inv
  obtain ⟨x1,r1,rfl,h1,dx2⟩:=dx1.open
  obtain ⟨x2,r2,rfl,h2,dx3⟩:=dx2.open
  cases dx3
  simp only [By] at hb
  refine ⟨_,rfl,a,_,_,_,rfl,rfl,SqT.of ha,rfl,?_⟩
  refine ⟨_,rfl,(by show 2≤sizeLine; decide),fun p1 hp1=>⟨p1,_,rfl,.inr (SqT.of ag),rfl,rfl,_,rfl,?_⟩⟩
  have g1:=ao hp1 (.tup [.str "num",.str "text"])
  refine aE (fun c=>absurd c (by decide +kernel)) (fun c=>?_)
  refine ⟨_,rfl,rfl,_,rfl,?_⟩
  refine aE (fun c=>absurd c (by decide +kernel)) (fun c=>?_)
  refine ⟨_,rfl,_,none,rfl,rfl,hBn "at" (by decide +kernel),_,rfl,bL ?_⟩
  refine ⟨_,rfl,rfl,_,rfl,?_⟩
  refine aE (fun c=>absurd c (by decide +kernel)) (fun c=>?_)
  refine ⟨_,rfl,rfl,_,rfl,?_⟩
  refine aE (fun c=>?_) (fun c=>absurd (by decide +kernel) c)
  obtain ⟨rfl,hks⟩:=hb
  refine ⟨_,rfl,(by show 2≤sizeLine; decide),fun p2 hp2=>⟨(by show 2≤sizeLine; decide),fun p3 hp3=>⟨(by show 2≤sizeLine; decide),fun p4 hp4=>?_⟩⟩⟩
  have g2:=g1.trans (ao hp2 (.tup [.str "row",.str "num"]))
  have g3:=ao hp3 (.tup [.str "text",.str "num"])
  have g4:=ao hp4 (.tup [.ref p2,.ref p3])
  have t2:=g4 _ _ (g3 _ _ (ag (H:=L2.upd H p1 (.tup [.str "num",.str "text"])) (o:=.tup [.str "row",.str "num"]) (a:=p2)))
  refine ⟨p4,p2,p3,.tuple (ks.map PyData.str),.tuple ((["row", "num"]:List Str).map PyData.str),.tuple ((["text", "num"]:List Str).map PyData.str),rfl,SqT.of ag,aJ ag hp3,.tup (SqT.of (g4 _ _ (g3 _ _ (g2 _ _ hit)))) (bx _),.tup (SqT.of t2) (bx ["row", "num"]),.tup (SqT.of (g4 _ _ ag)) (bx ["text", "num"]),?_,by decide +kernel,by decide +kernel,?_,_,rfl,?_⟩
  ·rcases hks with rfl | rfl<;>decide +kernel
  ·rcases hks with rfl | rfl<;>decide +kernel
  ·refine aE (fun c=>q _ (g2.trans (g3.trans g4))) (fun c=>absurd ?_ c)
   rcases hks with rfl | rfl<;>decide +kernel
 | rows y1 =>
  simp only [E.d] at hu
  obtain ⟨a,xs,rfl,ha,dx0⟩:=hu.open
  obtain ⟨x0,r0,rfl,h0,dx1⟩:=dx0.open
  obtain rfl:=h0.str_inv
  obtain ⟨x1,r1,rfl,h1,dx2⟩:=dx1.open
  cases dx2
  simp only [By] at hb
  refine ⟨_,rfl,a,_,_,_,rfl,rfl,SqT.of ha,rfl,?_⟩
  refine ⟨_,rfl,(by show 2≤sizeLine; decide),fun p1 hp1=>⟨p1,_,rfl,.inr (SqT.of ag),rfl,rfl,_,rfl,?_⟩⟩
  have g1:=ao hp1 (.tup [.str "num",.str "text"])
  refine aE (fun c=>absurd c (by decide +kernel)) (fun c=>?_)
  refine ⟨_,rfl,rfl,_,rfl,?_⟩
  refine aE (fun c=>absurd c (by decide +kernel)) (fun c=>?_)
  refine ⟨_,rfl,_,none,rfl,rfl,hBn "rows" (by decide +kernel),_,rfl,bL ?_⟩
  refine ⟨_,rfl,rfl,_,rfl,?_⟩
  refine aE (fun c=>absurd c (by decide +kernel)) (fun c=>?_)
  refine ⟨_,rfl,rfl,_,rfl,?_⟩
  refine aE (fun c=>absurd c (by decide +kernel)) (fun c=>?_)
  refine ⟨_,rfl,rfl,_,rfl,?_⟩
  refine aE (fun c=>?_) (fun c=>absurd (by decide +kernel) c)
  obtain ⟨rfl,h8,hks⟩:=hb
  refine ⟨_,rfl,it,_,rfl,.inr (SqT.of (g1 _ _ hit)),_,_,rfl,rfl,_,rfl,?_⟩
  refine aE (fun c=>?_) (fun c=>absurd (decide_eq_true (by rw [List.length_map]; omega)) c)
  have lk:(ks.map V.str).length≤1000:=by rw [List.length_map]; omega
  refine ⟨_,rfl,it,rfl,⟨_,SqT.of (g1 _ _ hit)⟩,bO (xs:=ks.map V.str) ks.length (by rw [List.length_map]) (by omega) (fun i acc H'=>H'=L2.upd H p1 (.tup [.str "num",.str "text"])∧acc=((ks.take i).map fun _=>true).map V.bl) ⟨rfl,rfl⟩ (fun i acc H' p=>by rw [p.1]; exact SqT.of (g1 _ _ hit)) (fun i acc H' x hi la hx p=>?_) (fun acc H' p la D hD=>?_)⟩
  ·obtain ⟨rfl,rfl⟩:=p
   rw [List.getElem?_map] at hx
   obtain ⟨z,hz,rfl⟩:=Option.map_eq_some_iff.mp hx
   obtain rfl:=hks z (List.mem_of_getElem? hz)
   exact ⟨⟨rfl,rfl⟩,bD ⟨_,rfl,rfl,nxT (by omega) hi la ⟨rfl,by rw [List.take_add_one,hz]; simp⟩⟩⟩
  ·obtain ⟨rfl,rfl⟩:=p
   refine ⟨D,_,rfl,SqL.of ag,_,rfl,?_⟩
   have e:(((ks.take ks.length).map fun _=>true).all id)=true:=by simp
   rw [e]
   exact cO (q _ (g1.trans (ao hD _)))
 | put y1 y2 y3 =>
  simp only [E.d] at hu
  obtain ⟨a,xs,rfl,ha,dx0⟩:=hu.open
  obtain ⟨x0,r0,rfl,h0,dx1⟩:=dx0.open
  obtain rfl:=h0.str_inv
  obtain ⟨x1,r1,rfl,h1,dx2⟩:=dx1.open
  obtain ⟨x2,r2,rfl,h2,dx3⟩:=dx2.open
  obtain ⟨x3,r3,rfl,h3,dx4⟩:=dx3.open
  cases dx4
  simp only [By] at hb
  refine ⟨_,rfl,a,_,_,_,rfl,rfl,SqT.of ha,rfl,?_⟩
  refine ⟨_,rfl,(by show 2≤sizeLine; decide),fun p1 hp1=>⟨p1,_,rfl,.inr (SqT.of ag),rfl,rfl,_,rfl,?_⟩⟩
  have g1:=ao hp1 (.tup [.str "num",.str "text"])
  refine aE (fun c=>absurd c (by decide +kernel)) (fun c=>?_)
  refine ⟨_,rfl,rfl,_,rfl,?_⟩
  refine aE (fun c=>absurd c (by decide +kernel)) (fun c=>?_)
  obtain ⟨rfl,rfl⟩:=hb
  obtain ⟨aw,bw,w1,w2,w3⟩:=hB ("put",(["row", "num", "num"]:List Str), "row") (by decide +kernel)
  refine ⟨_,rfl,_,_,rfl,rfl,w1,_,rfl,cO ?_⟩
  refine ⟨_,rfl,_,rfl,_,_,.ref aw,rfl,rfl,w1,rfl,aw,_,_,_,rfl,rfl,w2 _,rfl,.tuple ((["row", "num", "num"]:List Str).map PyData.str),.tuple ((["row", "num", "num"]:List Str).map PyData.str),.tup (SqT.of (g1 _ _ hit)) (bx _),.tup (w3 _) (bx _),by decide +kernel,by decide +kernel,_,rfl,?_⟩
  refine aE (fun c=>?_) (fun c=>absurd (by decide +kernel) c)
  exact ⟨_,rfl,_,_,.ref aw,rfl,rfl,w1,rfl,aw,_,_,_,rfl,rfl,w2 _,rfl,q _ g1⟩
 | more y1 y2 =>
  simp only [E.d] at hu
  obtain ⟨a,xs,rfl,ha,dx0⟩:=hu.open
  obtain ⟨x0,r0,rfl,h0,dx1⟩:=dx0.open
  obtain rfl:=h0.str_inv
  obtain ⟨x1,r1,rfl,h1,dx2⟩:=dx1.open
  obtain ⟨x2,r2,rfl,h2,dx3⟩:=dx2.open
  cases dx3
  simp only [By] at hb
  refine ⟨_,rfl,a,_,_,_,rfl,rfl,SqT.of ha,rfl,?_⟩
  refine ⟨_,rfl,(by show 2≤sizeLine; decide),fun p1 hp1=>⟨p1,_,rfl,.inr (SqT.of ag),rfl,rfl,_,rfl,?_⟩⟩
  have g1:=ao hp1 (.tup [.str "num",.str "text"])
  refine aE (fun c=>absurd c (by decide +kernel)) (fun c=>?_)
  refine ⟨_,rfl,rfl,_,rfl,?_⟩
  refine aE (fun c=>absurd c (by decide +kernel)) (fun c=>?_)
  obtain ⟨rfl,rfl⟩:=hb
  obtain ⟨aw,bw,w1,w2,w3⟩:=hB ("more",(["row", "num"]:List Str), "row") (by decide +kernel)
  refine ⟨_,rfl,_,_,rfl,rfl,w1,_,rfl,cO ?_⟩
  refine ⟨_,rfl,_,rfl,_,_,.ref aw,rfl,rfl,w1,rfl,aw,_,_,_,rfl,rfl,w2 _,rfl,.tuple ((["row", "num"]:List Str).map PyData.str),.tuple ((["row", "num"]:List Str).map PyData.str),.tup (SqT.of (g1 _ _ hit)) (bx _),.tup (w3 _) (bx _),by decide +kernel,by decide +kernel,_,rfl,?_⟩
  refine aE (fun c=>?_) (fun c=>absurd (by decide +kernel) c)
  exact ⟨_,rfl,_,_,.ref aw,rfl,rfl,w1,rfl,aw,_,_,_,rfl,rfl,w2 _,rfl,q _ g1⟩
 | signs y1 =>
  simp only [E.d] at hu
  obtain ⟨a,xs,rfl,ha,dx0⟩:=hu.open
  obtain ⟨x0,r0,rfl,h0,dx1⟩:=dx0.open
  obtain rfl:=h0.str_inv
  obtain ⟨x1,r1,rfl,h1,dx2⟩:=dx1.open
  cases dx2
  simp only [By] at hb
  refine ⟨_,rfl,a,_,_,_,rfl,rfl,SqT.of ha,rfl,?_⟩
  refine ⟨_,rfl,(by show 2≤sizeLine; decide),fun p1 hp1=>⟨p1,_,rfl,.inr (SqT.of ag),rfl,rfl,_,rfl,?_⟩⟩
  have g1:=ao hp1 (.tup [.str "num",.str "text"])
  refine aE (fun c=>absurd c (by decide +kernel)) (fun c=>?_)
  refine ⟨_,rfl,rfl,_,rfl,?_⟩
  refine aE (fun c=>absurd c (by decide +kernel)) (fun c=>?_)
  obtain ⟨rfl,rfl⟩:=hb
  obtain ⟨aw,bw,w1,w2,w3⟩:=hB ("signs",(["text"]:List Str), "row") (by decide +kernel)
  refine ⟨_,rfl,_,_,rfl,rfl,w1,_,rfl,cO ?_⟩
  refine ⟨_,rfl,_,rfl,_,_,.ref aw,rfl,rfl,w1,rfl,aw,_,_,_,rfl,rfl,w2 _,rfl,.tuple ((["text"]:List Str).map PyData.str),.tuple ((["text"]:List Str).map PyData.str),.tup (SqT.of (g1 _ _ hit)) (bx _),.tup (w3 _) (bx _),by decide +kernel,by decide +kernel,_,rfl,?_⟩
  refine aE (fun c=>?_) (fun c=>absurd (by decide +kernel) c)
  exact ⟨_,rfl,_,_,.ref aw,rfl,rfl,w1,rfl,aw,_,_,_,rfl,rfl,w2 _,rfl,q _ g1⟩
end
open PySem L2
theorem qg:∀ {es:List E} {e:E},e∈es→e.d.depth≤PyData.depthAll (E.ds es)
 | a::r,e,h=>by
  simp only [E.ds,PyData.depthAll]
  rcases List.mem_cons.mp h with rfl | h
  ·exact Nat.le_max_left _ _
  ·exact Nat.le_trans (qg h) (Nat.le_max_right _ _)
theorem dep_inner {e e1:E} (h:e1∈inner e):e1.d.depth<e.d.depth:=by
 cases e with
 | num y1 =>
  cases h
 | text y1 =>
  cases h
 | var y1 =>
  cases h
 | of_ y1 y2 =>
  simp only [inner,List.mem_cons,List.not_mem_nil,or_false] at h
  simp only [E.d,PyData.depth,PyData.depthAll]
  subst h
  omega
 | with_ y1 y2 y3 =>
  simp only [inner,List.mem_cons,List.not_mem_nil,or_false] at h
  simp only [E.d,PyData.depth,PyData.depthAll]
  rcases h with rfl | rfl<;>omega
 | new y1 y2 =>
  have:=qg (show e1∈y2 from h)
  simp only [E.d,PyData.depth,PyData.depthAll]
  omega
 | add y1 y2 =>
  simp only [inner,List.mem_cons,List.not_mem_nil,or_false] at h
  simp only [E.d,PyData.depth,PyData.depthAll]
  rcases h with rfl | rfl<;>omega
 | sub y1 y2 =>
  simp only [inner,List.mem_cons,List.not_mem_nil,or_false] at h
  simp only [E.d,PyData.depth,PyData.depthAll]
  rcases h with rfl | rfl<;>omega
 | times y1 y2 =>
  simp only [inner,List.mem_cons,List.not_mem_nil,or_false] at h
  simp only [E.d,PyData.depth,PyData.depthAll]
  subst h
  omega
 | div y1 y2 =>
  simp only [inner,List.mem_cons,List.not_mem_nil,or_false] at h
  simp only [E.d,PyData.depth,PyData.depthAll]
  subst h
  omega
 | rest y1 y2 =>
  simp only [inner,List.mem_cons,List.not_mem_nil,or_false] at h
  simp only [E.d,PyData.depth,PyData.depthAll]
  subst h
  omega
 | len y1 =>
  simp only [inner,List.mem_cons,List.not_mem_nil,or_false] at h
  simp only [E.d,PyData.depth,PyData.depthAll]
  subst h
  omega
 | at_ y1 y2 =>
  simp only [inner,List.mem_cons,List.not_mem_nil,or_false] at h
  simp only [E.d,PyData.depth,PyData.depthAll]
  rcases h with rfl | rfl<;>omega
 | rows y1 =>
  have:=qg (show e1∈y1 from h)
  simp only [E.d,PyData.depth,PyData.depthAll]
  omega
 | put y1 y2 y3 =>
  simp only [inner,List.mem_cons,List.not_mem_nil,or_false] at h
  simp only [E.d,PyData.depth,PyData.depthAll]
  rcases h with rfl | rfl | rfl<;>omega
 | more y1 y2 =>
  simp only [inner,List.mem_cons,List.not_mem_nil,or_false] at h
  simp only [E.d,PyData.depth,PyData.depthAll]
  rcases h with rfl | rfl<;>omega
 | signs y1 =>
  simp only [inner,List.mem_cons,List.not_mem_nil,or_false] at h
  simp only [E.d,PyData.depth,PyData.depthAll]
  subst h
  omega
theorem xR {K:Frag} {H:Hp}:∀ {ys:List V} {es:List E} {i:Nat} {x:V},DTs K H ys (E.ds es)→ys[i]?=some x→∃ e,es[i]?=some e∧DT K H x e.d
 | _,[],i,x,h,q=>by simp only [E.ds] at h; cases h; simp at q
 | _,e::r,0,x,h,q=>by
  simp only [E.ds] at h
  cases h with
  | cons a b=>cases q; exact ⟨e,rfl,a⟩
 | _,e::r,i+1,x,h,q=>by
  simp only [E.ds] at h
  cases h with
  | cons a b=>exact xR (i:=i) b q
theorem sT {t:Addr} {H H1 H':Hp} (h:H t=none) (a:aZ H H1) (x:Ext t H1 H'):aZ H H':=fun b o q=>x b o (aJ q h) (a b o q)
section
variable {P:Program} {w:World} {K:Frag} {mg:Str→Option Value} {base:Heap} {f g:Addr} {fd gd:FuncData}
noncomputable def uf (K:Frag) (n:Nat):Sp:=fun vs H Q _=>∃ v kk u e R Vs k,vs=[v,.ref kk,u]∧da H v R∧gJ R∧H kk=some (.dK (sX Vs))∧(Vs.map (·.1)).Nodup∧DT K H u (E.d e)∧e.d.depth≤n∧Ok R Vs e k∧∀ H',aZ H H'→Q (.str k) H'
noncomputable abbrev pKi:List Str:=["program", "kinds", "e"]
noncomputable abbrev zr:List Str:=["program", "kinds", "e", "inner", "one", "kind"]
theorem fO:aO zr ["program", "kinds", "e"] (defScope iy):=⟨rfl,rfl,rfl,by decide +kernel,rfl,by decide +kernel,by decide +kernel⟩
theorem Ar {n r:Nat} {spC:Sp} (hrm:r≤n+4) (hR:∀ m,n=m+1→∀ vs H Q E,uf K m vs H Q E→spC vs H Q E) (T:G0 mg) (F:Fun K "kind_in" "kind_in" iy f fd) (D_own_right:Cal P w K mg base 3 "own_right" ["e"] (Cm K)) (D_kind_by:Cal P w K mg base 4 "kind_by" ["program", "kinds", "e", "inner"] (ES K)) (D_inner_of:Cal P w K mg base 1 "inner_of" ["shaped"] (rB K)) (D_kind_in:Cal P w K mg base r "kind_in" pKi spC) :
  bj P w K mg base CX0 (n+5) f fd pKi (uf K n):=by
 obtain ⟨g_own_right,gd_own_right,G_own_right,b_own_right,k_own_right,m_own_right⟩:=D_own_right.ex
 obtain ⟨g_kind_by,gd_kind_by,G_kind_by,b_kind_by,k_kind_by,m_kind_by⟩:=D_kind_by.ex
 obtain ⟨g_inner_of,gd_inner_of,G_inner_of,b_inner_of,k_inner_of,m_inner_of⟩:=D_inner_of.ex
 obtain ⟨g_kind_in,gd_kind_in,G_kind_in,b_kind_in,k_kind_in,m_kind_in⟩:=D_kind_in.ex
 refine F.ok fO (fun vs H Q EX h=>?_) (fun cdv A outer s H vs Q EX hr h=>?_)
 ·obtain ⟨v,kk,u,e,R,Vs,k,rfl,_⟩:=h
  rfl
 obtain ⟨v,kk,u,e,R,Vs,k,rfl,hp,hl,hk,hnd,hu,hd,ho,q⟩:=h
 obtain ⟨ks,hks,hb,h8⟩:=FP hl ho
 have li:=hks.len
 refine ⟨_,(@am _ _ _ _ _ (@aM _ _ 3 _ _ _ _ fO.nd rfl (Or.inl rfl) (@bo _ _ _ _ ah) (aD rfl) (.inr rfl)) (@am _ _ _ _ _ (@cg _ _ _ _ _ _ _ _ PassesOwn.never rfl (dD (@aq _ _ _ _ _ _ _ _ _ _ _ _ _ _ _ _ G_inner_of (hr.mono (by omega)) rfl m_inner_of k_inner_of b_inner_of .nil aC (@ad _ _ _ _ _ (pv 2) ah (ac rfl)) (by decide) (ac rfl) (aj rfl))) (aH (i:=4) fO.nd rfl (Or.inl rfl)) (@am _ _ _ _ _ (@aM _ _ 5 _ _ _ _ fO.nd rfl (Or.inl rfl) (@aq _ _ _ _ _ _ _ _ _ _ _ _ _ _ _ _ G_kind_in (hr.mono (by omega)) rfl m_kind_in k_kind_in b_kind_in .nil aC (@ad _ _ _ _ _ (pv 0) (@ad _ _ _ _ _ (pv 1) (@ad _ _ _ _ _ (pv 4) ah (ac rfl)) (ac rfl)) (ac rfl)) (by decide) (ac rfl) (aj rfl)) (aD rfl) (.inr rfl)) (@am _ _ _ _ _ (@aR _ _ _ _ _ _ _ _ (@az _ _ _ _ _ _ _ _ xg (pv 5) cu (aG _)) (@ap _ _ _ (@ay _ _ _ _ cu)) aF) (@ap _ _ _ (@cM _ _ _ _ (@fG _ _ _ _ _ _ _ _ _ _ _ _ PySem.F.plainAttrs_list PySem.F.slot_list_append PySem.F.type_list_append dY (pv 3) (@ad _ _ _ _ _ (pv 5) ah (ac rfl)) rfl (du rfl rfl) rfl (ac rfl) (aj rfl)) (aD rfl))))) (fun _=>rfl)) (@ap _ _ _ (@ay _ _ _ _ (@cR _ _ _ _ _ _ _ _ (bt (@aq _ _ _ _ _ _ _ _ _ _ _ _ _ _ _ _ G_own_right (hr.mono (by omega)) rfl m_own_right k_own_right b_own_right .nil aC (@ad _ _ _ _ _ (pv 2) ah (ac rfl)) (by decide) (ac rfl) (aj rfl))) (@aq _ _ _ _ _ _ _ _ _ _ _ _ _ _ _ _ G_kind_by (hr.mono (by omega)) rfl m_kind_by k_kind_by b_kind_by .nil aC (@ad _ _ _ _ _ (pv 0) (@ad _ _ _ _ _ (pv 1) (@ad _ _ _ _ _ (pv 2) (@ad _ _ _ _ _ (@bK _ _ _ _ _ _ _ _ _ bF rfl T.tuple cb (@ad _ _ _ _ _ (pv 3) ah (ac rfl)) (by decide) (by decide) (ac rfl) (aj rfl)) ah (ac rfl)) (ac rfl)) (ac rfl)) (ac rfl)) (by decide) (ac rfl) (aj rfl)) cu))))),?_⟩
 refine ⟨(by show 0≤sizeLine; decide),fun il hil=>?_⟩
 have g1:=ao hil (.lst [])
 refine ⟨_,rfl,u,e,rfl,hu.mono (av g1),by omega,fun r ys H1 gg hr0 hr1 dys=>?_⟩
 have ly:=dys.len
 rw [E.ds_len] at ly
 have hne:r≠il:=(aJ (ag (H:=H) (a:=il) (o:=.lst [])) hr0).symm
 have i1:H1 il=some (.lst []):=gg _ _ ag
 have G1:aZ H H1:=g1.trans gg
 refine ⟨r,rfl,⟨ys,SqL.of hr1⟩,gZ (xs:=ys) (fun i σ H'=>∃ m4 m5,σ=[some v,some (.ref kk),some u,some (.ref il),m4,m5]∧Ext il H1 H'∧H' il=some (.lst ((ks.take i).map V.str))) ⟨none,none,rfl,Ext.refl _ _,i1⟩ (fun i σ H' _ p=>?_) (fun i x σ H' hx p=>?_) (fun σ H' p=>?_)⟩
 ·obtain ⟨_,_,rfl,x,_⟩:=p
  exact SqL.of (x _ _ hne hr1)
 ·obtain ⟨m4,m5,rfl,x',hi'⟩:=p
  have tk':Tk H1 H':=qK x' i1
  have GH:aZ H H':=sT hil G1 x'
  obtain ⟨e1,he1,de1⟩:=xR dys hx
  obtain ⟨k1,hk1,ok1⟩:=hks.at he1
  have dd:=dep_inner (List.mem_of_getElem? he1)
  have hi8:i<ks.length:=(List.getElem?_eq_some_iff.mp hk1).1
  obtain ⟨m,hm⟩:∃ m,n=m+1:=⟨n - 1,by omega⟩
  refine ⟨_,rfl,_,rfl,_,rfl,hR m hm _ _ _ _ ⟨v,kk,x,e1,R,Vs,k1,rfl,hp.mono (av GH),hl,GH _ _ hk,hnd,de1.mono tk',by omega,ok1,fun H2 g2=>?_⟩⟩
  refine ⟨_,rfl,rfl,_,rfl,?_⟩
  refine aE (fun c=>absurd (of_decide_eq_true c) (fun z=>by cases z)) (fun c=>?_)
  refine ⟨_,rfl,.inl ⟨rfl,_,SqL.of (g2 _ _ hi')⟩,_,rfl,il,_,_,rfl,rfl,g2 _ _ hi',?_,?_⟩
  ·rw [List.length_map,List.length_take,sizeLine_eq]; omega
  refine ⟨_,_,rfl,x'.trans ((aZ.ext g2).trans Ext.upd),?_⟩
  rw [ag,List.take_add_one,hk1,List.map_append]
  rfl
 ·obtain ⟨m4,m5,rfl,x',hi'⟩:=p
  have GH:aZ H H':=sT hil G1 x'
  rw [ly,li,List.take_length] at hi'
  refine ⟨_,rfl,u,e,R,Vs,k,rfl,hu.mono (av GH),ho,fun H3 g3=>⟨_,rfl,cO ?_⟩⟩
  refine ⟨_,rfl,_,rfl,_,rfl,_,rfl,il,_,rfl,.inl ⟨SqL.of (g3 _ _ hi'),fun tp htp=>?_⟩⟩
  have G4:=(GH.trans g3).trans (ao htp (.tup (ks.map V.str)))
  exact ⟨v,kk,u,tp,e,R,Vs,ks,k,rfl,hp.mono (av G4),hl,G4 _ _ hk,hnd,hu.mono (av G4),ag,hb,fun H' g'=>q _ (G4.trans g')⟩
theorem yu (T:G0 mg) (F:Fun K "kind_in" "kind_in" iy f fd) (b:dU K fd pKi []) (m:mg "kind_in"=some (.ref f)) (D1:Cal P w K mg base 3 "own_right" ["e"] (Cm K)) (D2:Cal P w K mg base 4 "kind_by" ["program", "kinds", "e", "inner"] (ES K)) (D3:Cal P w K mg base 1 "inner_of" ["shaped"] (rB K)):∀ n:Nat,bj P w K mg base CX0 (n+5) f fd pKi (uf K n)
 | 0=>Ar (r:=1) (spC:=fun _ _ _ _=>False) (by omega) (fun m h=>absurd h (by omega)) T F D1 D2 D3 ⟨f,fd,kw (fun _ _ _ _ h=>h),b,F.kp,m⟩
 | n+1=>Ar (r:=n+5) (spC:=uf K n) (by omega) (fun m h vs H Q E q=>(Nat.succ.inj h) ▸ q) T F D1 D2 D3 ⟨f,fd,yu T F b m D1 D2 D3 n,b,F.kp,m⟩
end
open PySem L2
noncomputable def LET:Str:=Str.ofString "abcdefghijklmnopqrstuvwxyz"
noncomputable def NO:List Str:=["num", "text", "row", "gives", "rounds", "range"]
structure GN (K:Frag) (mg:Str→Option Value):Prop where
 pk:∃ a,mg "PLAIN_KINDS"=some (.ref a)∧∀ H,SqT K H a (PL.map V.str)
 nn:∃ a,mg "NO_NAMES"=some (.ref a)∧∀ H,SqT K H a (NO.map V.str)
 lt:∃ t,mg "LETTERS"=some (.str LET t)
noncomputable def oH (c:Nat):Bool:=!(Builtin.Str.occurrences LET ⟨#[c]⟩ 0 LET.length 1).isEmpty
noncomputable def DZ (z:Str):Bool:=decide (1≤(z.length:Int))&&decide ((z.length:Int)≤8)&&(!inV (.str z) (NO.map V.str))&&z.cps.toList.all oH
theorem zd:∀ z∈cX,DZ z=true:=by decide +kernel
theorem Ee:(NO.map V.str).all gy=true:=by decide
theorem zW (z:Str) (i:Nat) (c:Nat) (h:z.cps[i]?=some c):(z.cps.toList.take (i+1)).map oH=(z.cps.toList.take i).map oH++[oH c]:=by
 rw [List.take_add_one,List.map_append]
 have:z.cps.toList[i]?=some c:=by simpa using h
 rw [this]; rfl
section
variable {P:Program} {w:World} {K:Frag} {mg:Str→Option Value} {base:Heap} {f g:Addr} {fd gd:FuncData}
noncomputable abbrev np:List Str:=["thing", "least", "most"]
theorem my:aO np ["thing", "least", "most"] (defScope ff):=⟨rfl,rfl,rfl,by decide +kernel,rfl,by decide +kernel,by decide +kernel⟩
noncomputable def zE:Sp:=fun vs H Q _=>∃ a lo hi xs,vs=[.ref a,.int lo,.int hi]∧H a=some (.tup xs)∧lo≤(xs.length:Int)∧(xs.length:Int)≤hi∧Q (.bl true) H
theorem FZ (T:G0 mg) (F:Fun K "is_tuple_of" "is_tuple_of" ff f fd):bj P w K mg base CX0 1 f fd ["thing", "least", "most"] zE:=by
 refine F.ok my (fun vs H Q EX h=>?_) (fun cdv A outer s H vs Q EX hr h=>?_)
 ·obtain ⟨a,lo,hi,xs,rfl,_⟩:=h
  rfl
 obtain ⟨a,lo,hi,xs,rfl,ha,h1,h2,q⟩:=h
 refine ⟨_,(@ap _ _ _ (@ay _ _ _ _ (dw (@aK _ _ _ _ _ _ _ _ _ bQ rfl T.isi dS (@ad _ _ _ _ _ (pv 0) (@ad _ _ _ _ _ (cm (v:=.ty "tuple") rfl T.tuple cb rfl) ah (ac rfl)) (ac rfl)) (by decide) (by decide) (ac rfl) (aj rfl)) (cS (lZ ii ii (pv 1) (@aK _ _ _ _ _ _ _ _ _ aU rfl T.len cv (@ad _ _ _ _ _ (pv 0) ah (ac rfl)) (by decide) (by decide) (ac rfl) (aj rfl)) (pv 2)))))),?_⟩
 refine ⟨_,rfl,_,_,_,true,rfl,.tup ha,rfl,_,rfl,cO ?_⟩
 refine ⟨_,rfl,_,rfl,a,xs,rfl,.inr (SqT.of ha),_,_,rfl,rfl,_,rfl,?_⟩
 refine aE (fun c=>?_) (fun c=>absurd (decide_eq_true h1) c)
 refine ⟨_,rfl,_,_,rfl,rfl,?_⟩
 show Q (.bl (decide ((xs.length:Int)≤hi))) H
 rw [decide_eq_true h2]
 exact q
noncomputable abbrev oB:List Str:=["thing"]
noncomputable abbrev jV:List Str:=["sign"]
theorem nE:jV.Nodup:=by decide +kernel
theorem uR:aO oB ["thing"] (defScope io):=⟨rfl,rfl,rfl,by decide +kernel,rfl,by decide +kernel,by decide +kernel⟩
noncomputable def mU:Sp:=fun vs H Q _=>∃ z,vs=[.str z]∧z∈cX∧∀ H',aZ H H'→Q (.bl true) H'
theorem Du (T:G0 mg) (TN:GN K mg) (F:Fun K "is_name" "is_name" io f fd):bj P w K mg base CX0 1 f fd ["thing"] mU:=by
 refine F.ok uR (fun vs H Q EX h=>?_) (fun cdv A outer s H vs Q EX hr h=>?_)
 ·obtain ⟨z,rfl,_⟩:=h
  rfl
 obtain ⟨z,rfl,hz,q⟩:=h
 obtain ⟨aN,mN,sN⟩:=TN.nn
 obtain ⟨tL,mL⟩:=TN.lt
 have nb:=zd z hz
 unfold DZ at nb
 simp only [Bool.and_eq_true] at nb
 obtain ⟨⟨⟨n1,n2⟩,n3⟩,n4⟩:=nb
 have hz8:z.length≤8:=by have:=of_decide_eq_true n2; omega
 refine ⟨_,(@am _ _ _ _ _ (@aR _ _ _ _ _ _ _ _ (PW.pt (cw (bE (bt (@aK _ _ _ _ _ _ _ _ _ bQ rfl T.isi dS (@ad _ _ _ _ _ (pv 0) (@ad _ _ _ _ _ (cm (v:=.ty "str") rfl T.str mi rfl) ah (ac rfl)) (ac rfl)) (by decide) (by decide) (ac rfl) (aj rfl)))) (cr (bE (AO ii ii ak (@aK _ _ _ _ _ _ _ _ _ jL rfl T.len cv (@ad _ _ _ _ _ (pv 0) ah (ac rfl)) (by decide) (by decide) (ac rfl) (aj rfl)) ak))))) (@ap _ _ _ (@ay _ _ _ _ bP)) aF) (@ap _ _ _ (@ay _ _ _ _ (dw (@bW _ _ _ _ _ _ _ _ jB (pv 0) (bv (v:=.ref aN) rfl mN rfl) rfl) (cS (@aK _ _ _ _ _ _ _ _ _ (gY rfl) rfl T.all tI (@ad _ _ _ _ _ (bH (N':=jV) (ρ:=[none]) (m:=1) (bI.of (fs:=defScope io) (N:=oB) rfl rfl (by decide +kernel)) rfl (Bj (pv 0)) (fun _ _ _ _=>(aH (i:=0) nE rfl (Or.inl rfl))) (fun _ _ _ _=>bC) (fun _ _ _ _=>(bW zO (pv 0) (bv (v:=.str LET) rfl mL ⟨tL,rfl⟩) rfl))) ah (ac rfl)) (by decide) (by decide) (ac rfl) (aj rfl))))))),?_⟩
 have hz':z.length≤sizeLine:=by rw [sizeLine_eq]; omega
 refine ⟨_,rfl,_,_,_,true,rfl,.str z,rfl,_,rfl,bL ?_⟩
 refine ⟨_,rfl,z,rfl,hz',_,_,rfl,rfl,_,rfl,?_⟩
 refine aE (fun c1=>?_) (fun c1=>absurd n1 c1)
 refine ⟨_,_,rfl,rfl,_,rfl,?_⟩
 refine aE (fun c2=>absurd c2 (by rw [n2]; decide)) (fun c2=>?_)
 refine ⟨_,rfl,aN,_,rfl,.inr (sN _),rfl,Ee,_,rfl,?_⟩
 refine aE (fun c3=>?_) (fun c3=>absurd n3 c3)
 refine ⟨_,rfl,z,rfl,sR z.cps.size rfl (by show z.length≤_; omega) (fun i acc H'=>H'=H∧acc=((z.cps.toList.take i).map oH).map V.bl) ⟨rfl,rfl⟩ (fun i acc H' c hi la hc p=>?_) (fun acc H' p la D hD=>?_)⟩
 ·obtain ⟨rfl,rfl⟩:=p
  refine ⟨⟨rfl,rfl⟩,bD ?_⟩
  refine ⟨_,rfl,_,_,rfl,rfl,nxT (by show z.length≤_; omega) hi la ⟨rfl,?_⟩⟩
  rw [zW z i c hc,List.map_append]
  rfl
 ·obtain ⟨rfl,rfl⟩:=p
  have e:((z.cps.toList.take z.cps.size).map oH).all id=true:=by
   rw [← Array.length_toList,List.take_length,List.all_map]
   exact n4
  refine ⟨D,_,rfl,SqL.of ag,?_⟩
  rw [e]
  exact q _ (ao hD _)
noncomputable abbrev oO:List Str:=["records", "thing"]
noncomputable abbrev jX:List Str:=["record"]
theorem nu:jX.Nodup:=by decide +kernel
theorem wg:aO oO ["records", "thing"] (defScope ip):=⟨rfl,rfl,rfl,by decide +kernel,rfl,by decide +kernel,by decide +kernel⟩
noncomputable def mw:Sp:=fun vs H Q _=>∃ ra rx R k,vs=[.ref ra,.str k]∧H ra=some (.tup rx)∧Paired (cC H) rx R∧R.length≤10∧k∈KS R∧∀ H',aZ H H'→Q (.bl true) H'
theorem jI {k:Str} {l:List Str}:inV (.str k) (l.map V.str)=decide (k∈l):=by
 induction l with
 | nil=>rfl
 | cons a r ih =>
  have e:inV (.str k) ((a::r).map V.str)=((a==k)||inV (.str k) (r.map V.str)):=rfl
  rw [e,ih,Bool.eq_iff_iff]
  simp only [Bool.or_eq_true,beq_iff_eq,decide_eq_true_eq,List.mem_cons]
  constructor
  ·rintro (h | h)
   ·exact .inl h.symm
   ·exact .inr h
  ·rintro (h | h)
   ·exact .inl h.symm
   ·exact .inr h
theorem gf (l:List Str):(l.map V.str).all gy=true:=by
 rw [List.all_map]
 exact List.all_eq_true.mpr fun x _=>rfl
theorem zT (T:G0 mg) (TN:GN K mg) (F:Fun K "is_kind" "is_kind" ip f fd):bj P w K mg base CX0 1 f fd ["records", "thing"] mw:=by
 refine F.ok wg (fun vs H Q EX h=>?_) (fun cdv A outer s H vs Q EX hr h=>?_)
 ·obtain ⟨ra,rx,R,k,rfl,_⟩:=h
  rfl
 obtain ⟨ra,rx,R,k,rfl,hra,pR,hl,hk,q⟩:=h
 obtain ⟨aP,mP,sP⟩:=TN.pk
 have lR:=Paired.length pR
 refine ⟨_,(@ap _ _ _ (@ay _ _ _ _ (dw (@aK _ _ _ _ _ _ _ _ _ bQ rfl T.isi dS (@ad _ _ _ _ _ (pv 1) (@ad _ _ _ _ _ (cm (v:=.ty "str") rfl T.str mi rfl) ah (ac rfl)) (ac rfl)) (by decide) (by decide) (ac rfl) (aj rfl)) (cS (DX (@bW _ _ _ _ _ _ _ _ cN (pv 1) (bv (v:=.ref aP) rfl mP rfl) rfl) (cS (@bW _ _ _ _ _ _ _ _ cN (pv 1) (bH (N':=jX) (ρ:=[none]) (m:=1) (bI.of (fs:=defScope ip) (N:=oO) rfl rfl (by decide +kernel)) rfl (bJ (pv 0)) (fun _ _ _ _=>(aH (i:=0) nu rfl (Or.inl rfl))) (fun _ _ _ _=>bC) (fun _ _ _ _=>(aA (cx (K:=K) rfl) (pv 0) ak (fun _ _=>rfl)))) rfl))))))),?_⟩
 refine ⟨_,rfl,_,_,_,true,rfl,.str k,rfl,_,rfl,cO ?_⟩
 refine ⟨_,rfl,aP,_,rfl,.inr (sP _),rfl,Cn,_,rfl,?_⟩
 refine aE (fun c=>?_) (fun c=>?_)
 ·exact q _ (aZ.refl _)
 ·have hk2:k∈R.map (·.1):=by
   rcases List.mem_append.mp hk with h | h
   ·exact absurd (by show inV (.str k) (PL.map V.str)=true; rw [jI]; exact decide_eq_true h) c
   ·exact h
  refine ⟨_,rfl,_,rfl,ra,rfl,⟨rx,SqT.of hra⟩,bO (xs:=rx) rx.length rfl (by omega) (fun i acc H'=>H'=H∧acc=((R.take i).map (·.1)).map V.str) ⟨rfl,rfl⟩ (fun i acc H' p=>by rw [p.1]; exact SqT.of hra) (fun i acc H' x hi la hx p=>?_) (fun acc H' p la D hD=>?_)⟩
  ·obtain ⟨rfl,rfl⟩:=p
   obtain ⟨r,hr',c,y,rfl,hc,hf⟩:=aY pR i x hx
   refine ⟨⟨rfl,rfl⟩,bD ⟨_,rfl,c,_,_,_,rfl,rfl,SqT.of hc,rfl,nxT (by omega) hi la ⟨rfl,?_⟩⟩⟩
   rw [List.take_add_one,hr',List.map_append,List.map_append]
   rfl
  ·obtain ⟨rfl,rfl⟩:=p
   rw [lR,List.take_length]
   refine ⟨D,_,rfl,.inl (SqL.of ag),rfl,gf _,?_⟩
   show Q (.bl (inV (.str k) ((R.map (·.1)).map V.str))) _
   rw [jI,decide_eq_true hk2]
   exact q _ (ao hD _)
end
end K6
namespace L2
open PySem PySem.Spec PyProof.Rows
section
variable {X:Cx} {o e:Expr} {apos cpos:Pos} {td ty:TE}
theorem zh {a:Addr} (h:KDv X.K X.w a):OpR X (compareOp .NotIn) (fun x y H Q=>∃ z r,x=.str z∧y=.ref a∧PySem.W.nsIn X.K a z=some r∧Q (.bl (!r.isSome)) H):=by
 intro pins s σ H x y v u Q I rx ry hh
 obtain ⟨z,r,rfl,rfl,e,q⟩:=hh
 obtain ⟨t,rfl⟩:=rx
 cases ry
 obtain ⟨es,n,hl,hk⟩:=h.ex
 have mo:=PySem.W.mapOf_K (prog:=X.prog) (w:=X.w) I.kIn hl hk
 refine wpAny_notIn_of (strKind_is X.prog X.w z t) h.lo mo ⟨.bl (!r.isSome),H,I.tok _,?_,q⟩
 rw [PySem.W.find_K hl e]
 rfl
noncomputable def Gv (K:Frag) (a:Addr) (td ty:TE):TE:=fun σ H Q=>td σ H fun x H1=>x=.ref a∧ty σ H1 fun y H2=>∃ z u v,y=.str z∧PySem.W.nsIn K a z=some (some u)∧bu v u∧Q v H2
theorem CN {a:Addr} (h:KDv X.K X.w a) (ho:PE X o td) (he:PE X e ty) (m:M1 X o "get" apos e cpos):PE X (.Call (.Attribute o "get" apos) [e] [] cpos) (Gv X.K a td ty):=by
 intro pins s σ H Q I q
 refine wpAny_Call_method m.base m.few m.line PySem.F.plainAttrs_dict PySem.F.slot_dict_get PySem.F.type_dict_get (thn (ho pins s σ H _ I q) fun u s1 ⟨x,H1,I1,rx,ex,q1⟩=>?_)
 subst ex
 obtain rfl:u=Value.ref a:=rx
 obtain ⟨es,n,hl,hk⟩:=h.ex
 have mo1:=PySem.W.mapOf_K (prog:=X.prog) (w:=X.w) I1.kIn hl hk
 refine ⟨mo1.typeIs,fun b eb=>?_,?_⟩
 ·cases eb
  exact ⟨_,I1.kIn _ _ hl,rfl⟩
 rw [m.trees]
 refine Calls.callWith_builtin rfl (Calls.evalArgs_plain (Calls.spliced_cons (thn (he pins s1 σ H1 _ I1 q1) fun iv s2 ⟨y,H2,I2,ry,z,u',v',ey,en,rv,q2⟩=>Calls.spliced_nil ?_)))
 subst ey
 obtain ⟨t,rfl⟩:=ry
 have mo:=PySem.W.mapOf_K (prog:=X.prog) (w:=X.w) I2.kIn hl hk
 refine call_meetsIn PySem.F.slot_dict_get mo.typeIs PySem.F.entry_dict_get (PySem.F.args_dict_get_2 _ _) (meets_dict_get (strKind X.prog X.w) a (strKind_is X.prog X.w z t) h.lo) ⟨_,mo,⟨v',H2,I2.tok _,?_,q2⟩⟩
 rw [PySem.W.find_K hl en]
 exact rv
end
end L2
namespace K6
open PySem L2
noncomputable def SH4:List (Str×Str×Int):=[("let", "statement",3),("say", "statement",3),("if", "statement",4),("while", "statement",3),("call", "statement",4),("give", "statement",2),("num", "expression",2),("text", "expression",2),("var", "expression",2),("of", "expression",3),("with", "expression",4),("new", "expression",3),("add", "expression",3),("sub", "expression",3),("times", "expression",3),("div", "expression",3),("rest", "expression",3),("len", "expression",2),("at", "expression",3),("rows", "expression",2),("put", "expression",4),("more", "expression",3),("signs", "expression",2),("less", "condition",3),("same", "condition",3),("and", "condition",3),("or", "condition",3),("not", "condition",2)]
noncomputable def LIT:List (Str×Int):=[("call",3),("new",2),("rows",1)]
structure GS (K:Frag) (w:World) (mg:Str→Option Value):Prop where
 sh:∃ aS,mg "SHAPES"=some (.ref aS)∧KDv K w aS∧∀ p∈SH4,∃ a b,PySem.W.nsIn K aS p.1=some (some (.ref a))∧∀ H,SqT K H a [.str p.2.1,.int p.2.2,.ref b]
 li:∃ aL,mg "LISTED"=some (.ref aL)∧KDv K w aL∧(∀ p∈LIT,∃ t,PySem.W.nsIn K aL p.1=some (some (.int p.2 t)))∧∀ p∈SH4,(∀ q∈LIT,q.1≠p.1)→PySem.W.nsIn K aL p.1=some none
section
variable {P:Program} {w:World} {K:Frag} {mg:Str→Option Value} {base:Heap} {f g:Addr} {fd gd:FuncData}
noncomputable abbrev rR:List Str:=["thing", "sort", "shape"]
theorem js:aO rR ["thing", "sort"] (defScope gO):=⟨rfl,rfl,rfl,by decide +kernel,rfl,by decide +kernel,by decide +kernel⟩
noncomputable def jd:Sp:=fun vs H Q _=>∃ a z rs so,vs=[.ref a,.str so]∧H a=some (.tup (.str z::rs))∧(z,so,((rs.length+1:Nat):Int))∈SH4∧((∀ q∈LIT,q.1≠z)∨∃ i al ys,(z,i)∈LIT∧atI (.str z::rs) i=some (.ref al)∧H al=some (.tup ys))∧Q (.bl true) H
theorem zK (T:G0 mg) (TS:GS K w mg) (F:Fun K "is_shaped" "is_shaped" gO f fd):bj P w K mg base CX0 1 f fd ["thing", "sort"] jd:=by
 obtain ⟨aS,mS_,kS,hS⟩:=TS.sh
 obtain ⟨aL,mL,kL,hLs,hLn⟩:=TS.li
 refine F.ok js (fun vs H Q EX h=>?_) (fun cdv A outer s H vs Q EX hr h=>?_)
 ·obtain ⟨a,z,rs,so,rfl,_⟩:=h
  rfl
 obtain ⟨a,z,rs,so,rfl,ha,hm,hli,q⟩:=h
 obtain ⟨b,c,g1,g2⟩:=hS _ hm
 refine ⟨_,(@am _ _ _ _ _ (@aR _ _ _ _ _ _ _ _ (PW.pt (cw (bE (bt (@aK _ _ _ _ _ _ _ _ _ bQ rfl T.isi dS (@ad _ _ _ _ _ (pv 0) (@ad _ _ _ _ _ (cm (v:=.ty "tuple") rfl T.tuple cb rfl) ah (ac rfl)) (ac rfl)) (by decide) (by decide) (ac rfl) (aj rfl)))) (cw (@az _ _ _ _ _ _ _ _ bg (@aK _ _ _ _ _ _ _ _ _ aU rfl T.len cv (@ad _ _ _ _ _ (pv 0) ah (ac rfl)) (by decide) (by decide) (ac rfl) (aj rfl)) ak (aG _)) (cr (bE (bt (@aK _ _ _ _ _ _ _ _ _ bQ rfl T.isi dS (@ad _ _ _ _ _ (@aA _ _ _ _ _ _ _ aI (pv 0) ak (fun _ _=>rfl)) (@ad _ _ _ _ _ (cm (v:=.ty "str") rfl T.str mi rfl) ah (ac rfl)) (ac rfl)) (by decide) (by decide) (ac rfl) (aj rfl)))))))) (@ap _ _ _ (@ay _ _ _ _ bP)) aF) (@am _ _ _ _ _ (@aM _ _ 2 _ _ _ _ js.nd rfl (Or.inl rfl) (CN kS (bv (v:=.ref aS) rfl mS_ rfl) (@aA _ _ _ _ _ _ _ aI (pv 0) ak (fun _ _=>rfl)) ⟨rfl,rfl,rfl,rfl⟩) (aD rfl) (.inr rfl)) (@am _ _ _ _ _ (@aR _ _ _ _ _ _ _ _ (PW.pt (cw (@az _ _ _ _ _ _ _ _ xg (pv 2) cu (aG _)) (cw (@az _ _ _ _ _ _ _ _ oW (@aA _ _ _ _ _ _ _ aI (pv 2) ak (fun _ _=>rfl)) (pv 1) (aG _)) (cr (@az _ _ _ _ _ _ _ _ oW (@aA _ _ _ _ _ _ _ aI (pv 2) ak (fun _ _=>rfl)) (@aK _ _ _ _ _ _ _ _ _ aU rfl T.len cv (@ad _ _ _ _ _ (pv 0) ah (ac rfl)) (by decide) (by decide) (ac rfl) (aj rfl)) (aG _)))))) (@ap _ _ _ (@ay _ _ _ _ bP)) aF) (@ap _ _ _ (@ay _ _ _ _ (DX (@bW _ _ _ _ _ _ _ _ (zh kL) (@aA _ _ _ _ _ _ _ aI (pv 0) ak (fun _ _=>rfl)) (bv (v:=.ref aL) rfl mL rfl) rfl) (cS (@aK _ _ _ _ _ _ _ _ _ bQ rfl T.isi dS (@ad _ _ _ _ _ (@aA _ _ _ _ _ _ _ aI (pv 0) (@aA _ _ _ _ _ _ _ (zX kL) (bv (v:=.ref aL) rfl mL rfl) (@aA _ _ _ _ _ _ _ aI (pv 0) ak (fun _ _=>rfl)) (fun _ _=>rfl)) (fun _ _=>rfl)) (@ad _ _ _ _ _ (cm (v:=.ty "tuple") rfl T.tuple cb rfl) ah (ac rfl)) (ac rfl)) (by decide) (by decide) (ac rfl) (aj rfl))))))))),?_⟩
 refine ⟨_,rfl,_,_,_,true,rfl,.tup ha,rfl,_,rfl,bL ?_⟩
 refine ⟨_,rfl,a,_,rfl,.inr (SqT.of ha),rfl,_,rfl,?_⟩
 refine aE (fun c=>absurd (V.int.inj (of_decide_eq_true c)) (by rw [List.length_cons]; omega)) (fun c=>?_)
 refine ⟨_,rfl,a,_,_,_,rfl,rfl,SqT.of ha,at0 _ _,_,_,_,true,rfl,.str z,rfl,_,rfl,bL ?_⟩
 refine ⟨rfl,_,rfl,a,_,_,_,rfl,rfl,SqT.of ha,at0 _ _,z,.ref b,.ref b,rfl,g1,rfl,?_⟩
 refine ⟨_,rfl,rfl,_,rfl,bL ?_⟩
 refine ⟨_,rfl,b,_,_,_,rfl,rfl,g2 _,rfl,_,rfl,rfl,_,rfl,?_⟩
 refine aE (fun c=>absurd c (by simp)) (fun c=>?_)
 refine ⟨_,rfl,b,_,_,_,rfl,rfl,g2 _,rfl,_,rfl,a,_,rfl,.inr (SqT.of ha),rfl,_,rfl,?_⟩
 refine aE (fun c=>absurd c (by simp)) (fun c=>?_)
 rcases hli with hl | ⟨i,al,ys,hi,hat,hal⟩
 ·have hn:=hLn _ hm hl
  refine ⟨_,rfl,a,_,_,_,rfl,rfl,SqT.of ha,at0 _ _,z,none,rfl,rfl,hn,_,rfl,cO ?_⟩
  exact q
 ·obtain ⟨t,ht⟩:=hLs _ hi
  refine ⟨_,rfl,a,_,_,_,rfl,rfl,SqT.of ha,at0 _ _,z,_,rfl,rfl,ht,_,rfl,bL ?_⟩
  refine ⟨_,rfl,_,rfl,a,_,_,_,rfl,rfl,SqT.of ha,at0 _ _,z,.int i t,.int i,rfl,rfl,ht,⟨_,rfl⟩,a,_,_,_,rfl,rfl,SqT.of ha,hat,_,_,_,true,rfl,.tup hal,rfl,?_⟩
  exact q
noncomputable abbrev kD:List Str:=["records", "thing", "least", "most", "pair"]
noncomputable abbrev gI:List Str:=["pair"]
theorem kR:gI.Nodup:=by decide +kernel
theorem jR:aO kD ["records", "thing", "least", "most"] (defScope eR):=⟨rfl,rfl,rfl,by decide +kernel,rfl,by decide +kernel,by decide +kernel⟩
noncomputable def Bz:Sp:=fun vs H Q _=>∃ ra rx R fa fx fs lo hi,vs=[.ref ra,.ref fa,.int lo,.int hi]∧H ra=some (.tup rx)∧Paired (cC H) rx R∧R.length≤10∧H fa=some (.tup fx)∧Paired (cy H) fx fs∧lo≤(fs.length:Int)∧(fs.length:Int)≤hi∧fs.length≤10∧(∀ p∈fs,p.1∈cX∧p.2∈KS R)∧(fs.map (·.1)).Nodup∧∀ H',aZ H H'→Q (.bl true) H'
theorem Es (T:G0 mg) (TS:mg "set"=none) (F:Fun K "are_named" "are_named" eR f fd) (D_is_tuple_of:Cal P w K mg base 1 "is_tuple_of" ["thing", "least", "most"] zE) (D_is_name:Cal P w K mg base 1 "is_name" ["thing"] mU) (D_is_kind:Cal P w K mg base 1 "is_kind" ["records", "thing"] mw):bj P w K mg base CX0 2 f fd ["records", "thing", "least", "most"] Bz:=by
 obtain ⟨g_is_kind,gd_is_kind,G_is_kind,b_is_kind,k_is_kind,m_is_kind⟩:=D_is_kind.ex
 obtain ⟨g_is_name,gd_is_name,G_is_name,b_is_name,k_is_name,m_is_name⟩:=D_is_name.ex
 obtain ⟨g_is_tuple_of,gd_is_tuple_of,G_is_tuple_of,b_is_tuple_of,k_is_tuple_of,m_is_tuple_of⟩:=D_is_tuple_of.ex
 refine F.ok jR (fun vs H Q EX h=>?_) (fun cdv A outer s H vs Q EX hr h=>?_)
 ·obtain ⟨ra,rx,R,fa,fx,fs,lo,hi,rfl,_⟩:=h
  rfl
 obtain ⟨ra,rx,R,fa,fx,fs,lo,hi,rfl,hra,pR,lR,hfa,pF,h1,h2,l10,hok,hnd,q⟩:=h
 have lF:=Paired.length pF
 refine ⟨_,(@am _ _ _ _ _ (@aR _ _ _ _ _ _ _ _ (bE (bt (@aq _ _ _ _ _ _ _ _ _ _ _ _ _ _ _ _ G_is_tuple_of (hr.mono (by omega)) rfl m_is_tuple_of k_is_tuple_of b_is_tuple_of .nil aC (@ad _ _ _ _ _ (pv 1) (@ad _ _ _ _ _ (pv 2) (@ad _ _ _ _ _ (pv 3) ah (ac rfl)) (ac rfl)) (ac rfl)) (by decide) (ac rfl) (aj rfl)))) (@ap _ _ _ (@ay _ _ _ _ bP)) aF) (@am _ _ _ _ _ (@cg _ _ _ _ _ _ _ _ PassesOwn.never rfl (bJ (pv 1)) (aH (i:=4) jR.nd rfl (Or.inl rfl)) (@ap _ _ _ (@aR _ _ _ _ _ _ _ _ (PW.pt (cw (bE (bt (@aq _ _ _ _ _ _ _ _ _ _ _ _ _ _ _ _ G_is_tuple_of (hr.mono (by omega)) rfl m_is_tuple_of k_is_tuple_of b_is_tuple_of .nil aC (@ad _ _ _ _ _ (pv 4) (@ad _ _ _ _ _ ak (@ad _ _ _ _ _ ak ah (ac rfl)) (ac rfl)) (ac rfl)) (by decide) (ac rfl) (aj rfl)))) (cw (bE (bt (@aq _ _ _ _ _ _ _ _ _ _ _ _ _ _ _ _ G_is_name (hr.mono (by omega)) rfl m_is_name k_is_name b_is_name .nil aC (@ad _ _ _ _ _ (@aA _ _ _ _ _ _ _ aI (pv 4) ak (fun _ _=>rfl)) ah (ac rfl)) (by decide) (ac rfl) (aj rfl)))) (cr (bE (bt (@aq _ _ _ _ _ _ _ _ _ _ _ _ _ _ _ _ G_is_kind (hr.mono (by omega)) rfl m_is_kind k_is_kind b_is_kind .nil aC (@ad _ _ _ _ _ (pv 0) (@ad _ _ _ _ _ (@aA _ _ _ _ _ _ _ aI (pv 4) ak (fun _ _=>rfl)) ah (ac rfl)) (ac rfl)) (by decide) (ac rfl) (aj rfl)))))))) (@ap _ _ _ (@ay _ _ _ _ bP)) aF)) (fun _=>rfl)) (@ap _ _ _ (@ay _ _ _ _ (@bW _ _ _ _ _ _ _ _ bg (oK rfl rfl T.len rfl TS (bH (N':=gI) (ρ:=[none]) (m:=1) (bI.of (fs:=defScope eR) (N:=kD) rfl rfl (by decide +kernel)) rfl (bJ (pv 1)) (fun _ _ _ _=>(aH (i:=0) kR rfl (Or.inl rfl))) (fun _ _ _ _=>bC) (fun _ _ _ _=>(aA (cx (K:=K) rfl) (pv 0) ak (fun _ _=>rfl))))) (@aK _ _ _ _ _ _ _ _ _ aU rfl T.len cv (@ad _ _ _ _ _ (pv 1) ah (ac rfl)) (by decide) (by decide) (ac rfl) (aj rfl)) (aG _)))))),?_⟩
 refine ⟨_,rfl,_,rfl,_,rfl,fa,lo,hi,fx,rfl,hfa,by rw [lF]; exact h1,by rw [lF]; exact h2,_,rfl,bL ?_⟩
 refine ⟨_,rfl,fa,rfl,⟨fx,SqT.of hfa⟩,eU (xs:=fx) (fun i σ H'=>∃ m4,σ=[some (.ref ra),some (.ref fa),some (.int lo),some (.int hi),m4]∧aZ H H') ⟨none,rfl,aZ.refl _⟩ (fun i σ H' _ p=>?_) (fun i x σ H' hx p=>?_) (fun σ H' p=>?_)⟩
 ·obtain ⟨_,rfl,g⟩:=p
  exact SqT.of (g _ _ hfa)
 ·obtain ⟨m4,rfl,g⟩:=p
  obtain ⟨p,hp,c,rfl,hc⟩:=aY pF i x hx
  obtain ⟨o1,o2⟩:=hok p (List.mem_of_getElem? hp)
  have hc':=g _ _ hc
  refine ⟨_,rfl,c,2,2,_,rfl,hc',by simp,by simp,_,rfl,bL ?_⟩
  refine ⟨_,rfl,c,_,_,_,rfl,rfl,SqT.of hc',rfl,p.1,rfl,o1,fun H2 g2=>⟨_,rfl,bL ?_⟩⟩
  refine ⟨_,rfl,_,rfl,c,_,_,_,rfl,rfl,SqT.of (g2 _ _ hc'),rfl,ra,rx,R,p.2,rfl,g2 _ _ (g _ _ hra),Paired.mapP pR fun _ _ z=>cC.mono (av (g.trans g2)) z,lR,o2,fun H3 g3=>⟨_,rfl,bL ?_⟩⟩
  exact ⟨_,rfl,(g.trans g2).trans g3⟩
 ·obtain ⟨m4,rfl,g⟩:=p
  refine ⟨_,rfl,fa,rfl,⟨fx,SqT.of (g _ _ hfa)⟩,bO (xs:=fx) fx.length rfl (by omega) (fun i acc H2=>H2=H'∧acc=((fs.take i).map (·.1)).map V.str) ⟨rfl,rfl⟩ (fun i acc H2 p=>by rw [p.1]; exact SqT.of (g _ _ hfa)) (fun i acc H2 x hi la hx p=>?_) (fun acc H2 p la D hD=>?_)⟩
  ·obtain ⟨rfl,rfl⟩:=p
   obtain ⟨p,hp,c,rfl,hc⟩:=aY pF i x hx
   refine ⟨⟨rfl,rfl⟩,bD ⟨_,rfl,c,_,_,_,rfl,rfl,SqT.of (g _ _ hc),rfl,nxT (by omega) hi la ⟨rfl,?_⟩⟩⟩
   rw [List.take_add_one,hp,List.map_append,List.map_append]
   rfl
  ·obtain ⟨rfl,rfl⟩:=p
   rw [lF,List.take_length]
   refine ⟨D,fs.map (·.1),rfl,SqL.of ag,hnd,by rw [List.length_map]; omega,_,rfl,fa,fx,rfl,.inr (SqT.of (ao hD _ _ _ (g _ _ hfa))),rfl,?_⟩
   have e:decide (V.int (((fs.map (·.1)).length:Nat):Int)=V.int ((fx.length:Nat):Int))=true:=decide_eq_true (by rw [List.length_map,lF])
   show Q (.bl (decide _)) _
   rw [e]
   exact q _ (g.trans (ao hD _))
end
open PySem L2
noncomputable def PLC:List (Str×List Int):=[("num",[]),("text",[]),("var",[]),("of",[1]),("with",[1,3]),("add",[1,2]),("sub",[1,2]),("times",[2]),("div",[1]),("rest",[1]),("len",[1]),("at",[1,2]),("put",[1,2,3]),("more",[1,2]),("signs",[1]),("less",[1,2]),("same",[1,2]),("and",[1,2]),("or",[1,2]),("not",[1])]
structure GP (K:Frag) (w:World) (mg:Str→Option Value):Prop where
 sh:∃ aS,mg "SHAPES"=some (.ref aS)∧KDv K w aS∧∀ p∈PLC,∃ a b s n,PySem.W.nsIn K aS p.1=some (some (.ref a))∧(∀ H,SqT K H a [.str s,.int n,.ref b])∧∀ H,SqT K H b (p.2.map V.int)
 li:∃ aL,mg "LISTED"=some (.ref aL)∧KDv K w aL∧(∀ p∈LIT,∃ t,PySem.W.nsIn K aL p.1=some (some (.int p.2 t)))∧∀ p∈PLC,PySem.W.nsIn K aL p.1=some none
theorem qE {K:Frag} {H:Hp} {u:V} {e:E} (h:DT K H u (E.d e)):∃ a z rs,u=.ref a∧H a=some (.tup (.str z::rs))∧(z,("expression":Str),((rs.length+1:Nat):Int))∈SH4 ∧
  (((∀ q∈LIT,q.1≠z)∧∃ (ps:List Int) (L:List V),(z,ps)∈PLC∧ps.length≤10∧L.length=ps.length∧(∀ (i:Nat) (p:Int),ps[i]?=some p→∃ y,atI (.str z::rs) p=some y∧L[i]?=some y)∧DTs K H L (E.ds (inner e))) ∨
   (∃ p al ys,(z,p)∈LIT∧atI (.str z::rs) p=some (.ref al)∧H al=some (.tup ys)∧DTs K H ys (E.ds (inner e))))∧cD (E.d e)=1+cDs (E.ds (inner e)):=by
 cases e with
 | num y1 =>
  simp only [E.d] at h ⊢
  obtain ⟨a,xs,rfl,ha,dx0⟩:=h.open
  obtain ⟨x0,r0,rfl,h0,dx1⟩:=dx0.open
  obtain rfl:=h0.str_inv
  obtain ⟨x1,r1,rfl,h1,dx2⟩:=dx1.open
  cases dx2
  exact ⟨a,_,_,rfl,ha,(show (("num":Str),("expression":Str),(2:Int))∈SH4 by decide +kernel),.inl ⟨by decide +kernel,[],[],by decide +kernel,by decide,rfl,fun i p h=>match i,h with | n,h=>by simp at h,by simp only [inner,E.ds]; exact .nil⟩,by simp [cD,cDs,isS,inner,E.ds]⟩
 | text y1 =>
  simp only [E.d] at h ⊢
  obtain ⟨a,xs,rfl,ha,dx0⟩:=h.open
  obtain ⟨x0,r0,rfl,h0,dx1⟩:=dx0.open
  obtain rfl:=h0.str_inv
  obtain ⟨x1,r1,rfl,h1,dx2⟩:=dx1.open
  cases dx2
  exact ⟨a,_,_,rfl,ha,(show (("text":Str),("expression":Str),(2:Int))∈SH4 by decide +kernel),.inl ⟨by decide +kernel,[],[],by decide +kernel,by decide,rfl,fun i p h=>match i,h with | n,h=>by simp at h,by simp only [inner,E.ds]; exact .nil⟩,by simp [cD,cDs,isS,inner,E.ds]⟩
 | var y1 =>
  simp only [E.d] at h ⊢
  obtain ⟨a,xs,rfl,ha,dx0⟩:=h.open
  obtain ⟨x0,r0,rfl,h0,dx1⟩:=dx0.open
  obtain rfl:=h0.str_inv
  obtain ⟨x1,r1,rfl,h1,dx2⟩:=dx1.open
  cases dx2
  exact ⟨a,_,_,rfl,ha,(show (("var":Str),("expression":Str),(2:Int))∈SH4 by decide +kernel),.inl ⟨by decide +kernel,[],[],by decide +kernel,by decide,rfl,fun i p h=>match i,h with | n,h=>by simp at h,by simp only [inner,E.ds]; exact .nil⟩,by simp [cD,cDs,isS,inner,E.ds]⟩
 | of_ y1 y2 =>
  simp only [E.d] at h ⊢
  obtain ⟨a,xs,rfl,ha,dx0⟩:=h.open
  obtain ⟨x0,r0,rfl,h0,dx1⟩:=dx0.open
  obtain rfl:=h0.str_inv
  obtain ⟨x1,r1,rfl,h1,dx2⟩:=dx1.open
  obtain ⟨x2,r2,rfl,h2,dx3⟩:=dx2.open
  cases dx3
  exact ⟨a,_,_,rfl,ha,(show (("of":Str),("expression":Str),(3:Int))∈SH4 by decide +kernel),.inl ⟨by decide +kernel,[1],[x1],by decide +kernel,by decide,rfl,fun i p h=>match i,h with | 0,h=>by cases h; exact ⟨_,rfl,rfl⟩ | n+1,h=>by simp at h,by simp only [inner,E.ds]; exact (.cons h1 .nil)⟩,by simp [cD,cDs,isS,inner,E.ds]⟩
 | with_ y1 y2 y3 =>
  simp only [E.d] at h ⊢
  obtain ⟨a,xs,rfl,ha,dx0⟩:=h.open
  obtain ⟨x0,r0,rfl,h0,dx1⟩:=dx0.open
  obtain rfl:=h0.str_inv
  obtain ⟨x1,r1,rfl,h1,dx2⟩:=dx1.open
  obtain ⟨x2,r2,rfl,h2,dx3⟩:=dx2.open
  obtain ⟨x3,r3,rfl,h3,dx4⟩:=dx3.open
  cases dx4
  exact ⟨a,_,_,rfl,ha,(show (("with":Str),("expression":Str),(4:Int))∈SH4 by decide +kernel),.inl ⟨by decide +kernel,[1,3],[x1,x3],by decide +kernel,by decide,rfl,fun i p h=>match i,h with | 0,h=>by cases h; exact ⟨_,rfl,rfl⟩ | 1,h=>by cases h; exact ⟨_,rfl,rfl⟩ | n+2,h=>by simp at h,by simp only [inner,E.ds]; exact (.cons h1 (.cons h3 .nil))⟩,by simp [cD,cDs,isS,inner,E.ds]⟩
 | new y1 y2 =>
  simp only [E.d] at h ⊢
  obtain ⟨a,xs,rfl,ha,dx0⟩:=h.open
  obtain ⟨x0,r0,rfl,h0,dx1⟩:=dx0.open
  obtain rfl:=h0.str_inv
  obtain ⟨x1,r1,rfl,h1,dx2⟩:=dx1.open
  obtain ⟨x2,r2,rfl,h2,dx3⟩:=dx2.open
  cases dx3
  obtain ⟨al,ys,rfl,hal,dys⟩:=h2.open
  exact ⟨a,_,_,rfl,ha,(show (("new":Str),("expression":Str),(3:Int))∈SH4 by decide +kernel),.inr ⟨2,al,ys,by decide +kernel,rfl,hal,by simp only [inner]; exact dys⟩,by have e0:=AC y2; simp only [cD,cDs,inner,e0]; simp [isS]⟩
 | add y1 y2 =>
  simp only [E.d] at h ⊢
  obtain ⟨a,xs,rfl,ha,dx0⟩:=h.open
  obtain ⟨x0,r0,rfl,h0,dx1⟩:=dx0.open
  obtain rfl:=h0.str_inv
  obtain ⟨x1,r1,rfl,h1,dx2⟩:=dx1.open
  obtain ⟨x2,r2,rfl,h2,dx3⟩:=dx2.open
  cases dx3
  exact ⟨a,_,_,rfl,ha,(show (("add":Str),("expression":Str),(3:Int))∈SH4 by decide +kernel),.inl ⟨by decide +kernel,[1,2],[x1,x2],by decide +kernel,by decide,rfl,fun i p h=>match i,h with | 0,h=>by cases h; exact ⟨_,rfl,rfl⟩ | 1,h=>by cases h; exact ⟨_,rfl,rfl⟩ | n+2,h=>by simp at h,by simp only [inner,E.ds]; exact (.cons h1 (.cons h2 .nil))⟩,by simp [cD,cDs,isS,inner,E.ds]⟩
 | sub y1 y2 =>
  simp only [E.d] at h ⊢
  obtain ⟨a,xs,rfl,ha,dx0⟩:=h.open
  obtain ⟨x0,r0,rfl,h0,dx1⟩:=dx0.open
  obtain rfl:=h0.str_inv
  obtain ⟨x1,r1,rfl,h1,dx2⟩:=dx1.open
  obtain ⟨x2,r2,rfl,h2,dx3⟩:=dx2.open
  cases dx3
  exact ⟨a,_,_,rfl,ha,(show (("sub":Str),("expression":Str),(3:Int))∈SH4 by decide +kernel),.inl ⟨by decide +kernel,[1,2],[x1,x2],by decide +kernel,by decide,rfl,fun i p h=>match i,h with | 0,h=>by cases h; exact ⟨_,rfl,rfl⟩ | 1,h=>by cases h; exact ⟨_,rfl,rfl⟩ | n+2,h=>by simp at h,by simp only [inner,E.ds]; exact (.cons h1 (.cons h2 .nil))⟩,by simp [cD,cDs,isS,inner,E.ds]⟩
 | times y1 y2 =>
  simp only [E.d] at h ⊢
  obtain ⟨a,xs,rfl,ha,dx0⟩:=h.open
  obtain ⟨x0,r0,rfl,h0,dx1⟩:=dx0.open
  obtain rfl:=h0.str_inv
  obtain ⟨x1,r1,rfl,h1,dx2⟩:=dx1.open
  obtain ⟨x2,r2,rfl,h2,dx3⟩:=dx2.open
  cases dx3
  exact ⟨a,_,_,rfl,ha,(show (("times":Str),("expression":Str),(3:Int))∈SH4 by decide +kernel),.inl ⟨by decide +kernel,[2],[x2],by decide +kernel,by decide,rfl,fun i p h=>match i,h with | 0,h=>by cases h; exact ⟨_,rfl,rfl⟩ | n+1,h=>by simp at h,by simp only [inner,E.ds]; exact (.cons h2 .nil)⟩,by simp [cD,cDs,isS,inner,E.ds]⟩
 | div y1 y2 =>
  simp only [E.d] at h ⊢
  obtain ⟨a,xs,rfl,ha,dx0⟩:=h.open
  obtain ⟨x0,r0,rfl,h0,dx1⟩:=dx0.open
  obtain rfl:=h0.str_inv
  obtain ⟨x1,r1,rfl,h1,dx2⟩:=dx1.open
  obtain ⟨x2,r2,rfl,h2,dx3⟩:=dx2.open
  cases dx3
  exact ⟨a,_,_,rfl,ha,(show (("div":Str),("expression":Str),(3:Int))∈SH4 by decide +kernel),.inl ⟨by decide +kernel,[1],[x1],by decide +kernel,by decide,rfl,fun i p h=>match i,h with | 0,h=>by cases h; exact ⟨_,rfl,rfl⟩ | n+1,h=>by simp at h,by simp only [inner,E.ds]; exact (.cons h1 .nil)⟩,by simp [cD,cDs,isS,inner,E.ds]⟩
 | rest y1 y2 =>
  simp only [E.d] at h ⊢
  obtain ⟨a,xs,rfl,ha,dx0⟩:=h.open
  obtain ⟨x0,r0,rfl,h0,dx1⟩:=dx0.open
  obtain rfl:=h0.str_inv
  obtain ⟨x1,r1,rfl,h1,dx2⟩:=dx1.open
  obtain ⟨x2,r2,rfl,h2,dx3⟩:=dx2.open
  cases dx3
  exact ⟨a,_,_,rfl,ha,(show (("rest":Str),("expression":Str),(3:Int))∈SH4 by decide +kernel),.inl ⟨by decide +kernel,[1],[x1],by decide +kernel,by decide,rfl,fun i p h=>match i,h with | 0,h=>by cases h; exact ⟨_,rfl,rfl⟩ | n+1,h=>by simp at h,by simp only [inner,E.ds]; exact (.cons h1 .nil)⟩,by simp [cD,cDs,isS,inner,E.ds]⟩
 | len y1 =>
  simp only [E.d] at h ⊢
  obtain ⟨a,xs,rfl,ha,dx0⟩:=h.open
  obtain ⟨x0,r0,rfl,h0,dx1⟩:=dx0.open
  obtain rfl:=h0.str_inv
  obtain ⟨x1,r1,rfl,h1,dx2⟩:=dx1.open
  cases dx2
  exact ⟨a,_,_,rfl,ha,(show (("len":Str),("expression":Str),(2:Int))∈SH4 by decide +kernel),.inl ⟨by decide +kernel,[1],[x1],by decide +kernel,by decide,rfl,fun i p h=>match i,h with | 0,h=>by cases h; exact ⟨_,rfl,rfl⟩ | n+1,h=>by simp at h,by simp only [inner,E.ds]; exact (.cons h1 .nil)⟩,by simp [cD,cDs,isS,inner,E.ds]⟩
 | at_ y1 y2 =>
  simp only [E.d] at h ⊢
  obtain ⟨a,xs,rfl,ha,dx0⟩:=h.open
  obtain ⟨x0,r0,rfl,h0,dx1⟩:=dx0.open
  obtain rfl:=h0.str_inv
  obtain ⟨x1,r1,rfl,h1,dx2⟩:=dx1.open
  obtain ⟨x2,r2,rfl,h2,dx3⟩:=dx2.open
  cases dx3
  exact ⟨a,_,_,rfl,ha,(show (("at":Str),("expression":Str),(3:Int))∈SH4 by decide +kernel),.inl ⟨by decide +kernel,[1,2],[x1,x2],by decide +kernel,by decide,rfl,fun i p h=>match i,h with | 0,h=>by cases h; exact ⟨_,rfl,rfl⟩ | 1,h=>by cases h; exact ⟨_,rfl,rfl⟩ | n+2,h=>by simp at h,by simp only [inner,E.ds]; exact (.cons h1 (.cons h2 .nil))⟩,by simp [cD,cDs,isS,inner,E.ds]⟩
 | rows y1 =>
  simp only [E.d] at h ⊢
  obtain ⟨a,xs,rfl,ha,dx0⟩:=h.open
  obtain ⟨x0,r0,rfl,h0,dx1⟩:=dx0.open
  obtain rfl:=h0.str_inv
  obtain ⟨x1,r1,rfl,h1,dx2⟩:=dx1.open
  cases dx2
  obtain ⟨al,ys,rfl,hal,dys⟩:=h1.open
  exact ⟨a,_,_,rfl,ha,(show (("rows":Str),("expression":Str),(2:Int))∈SH4 by decide +kernel),.inr ⟨1,al,ys,by decide +kernel,rfl,hal,by simp only [inner]; exact dys⟩,by have e0:=AC y1; simp only [cD,cDs,inner,e0]; simp [isS]⟩
 | put y1 y2 y3 =>
  simp only [E.d] at h ⊢
  obtain ⟨a,xs,rfl,ha,dx0⟩:=h.open
  obtain ⟨x0,r0,rfl,h0,dx1⟩:=dx0.open
  obtain rfl:=h0.str_inv
  obtain ⟨x1,r1,rfl,h1,dx2⟩:=dx1.open
  obtain ⟨x2,r2,rfl,h2,dx3⟩:=dx2.open
  obtain ⟨x3,r3,rfl,h3,dx4⟩:=dx3.open
  cases dx4
  exact ⟨a,_,_,rfl,ha,(show (("put":Str),("expression":Str),(4:Int))∈SH4 by decide +kernel),.inl ⟨by decide +kernel,[1,2,3],[x1,x2,x3],by decide +kernel,by decide,rfl,fun i p h=>match i,h with | 0,h=>by cases h; exact ⟨_,rfl,rfl⟩ | 1,h=>by cases h; exact ⟨_,rfl,rfl⟩ | 2,h=>by cases h; exact ⟨_,rfl,rfl⟩ | n+3,h=>by simp at h,by simp only [inner,E.ds]; exact (.cons h1 (.cons h2 (.cons h3 .nil)))⟩,by simp [cD,cDs,isS,inner,E.ds]⟩
 | more y1 y2 =>
  simp only [E.d] at h ⊢
  obtain ⟨a,xs,rfl,ha,dx0⟩:=h.open
  obtain ⟨x0,r0,rfl,h0,dx1⟩:=dx0.open
  obtain rfl:=h0.str_inv
  obtain ⟨x1,r1,rfl,h1,dx2⟩:=dx1.open
  obtain ⟨x2,r2,rfl,h2,dx3⟩:=dx2.open
  cases dx3
  exact ⟨a,_,_,rfl,ha,(show (("more":Str),("expression":Str),(3:Int))∈SH4 by decide +kernel),.inl ⟨by decide +kernel,[1,2],[x1,x2],by decide +kernel,by decide,rfl,fun i p h=>match i,h with | 0,h=>by cases h; exact ⟨_,rfl,rfl⟩ | 1,h=>by cases h; exact ⟨_,rfl,rfl⟩ | n+2,h=>by simp at h,by simp only [inner,E.ds]; exact (.cons h1 (.cons h2 .nil))⟩,by simp [cD,cDs,isS,inner,E.ds]⟩
 | signs y1 =>
  simp only [E.d] at h ⊢
  obtain ⟨a,xs,rfl,ha,dx0⟩:=h.open
  obtain ⟨x0,r0,rfl,h0,dx1⟩:=dx0.open
  obtain rfl:=h0.str_inv
  obtain ⟨x1,r1,rfl,h1,dx2⟩:=dx1.open
  cases dx2
  exact ⟨a,_,_,rfl,ha,(show (("signs":Str),("expression":Str),(2:Int))∈SH4 by decide +kernel),.inl ⟨by decide +kernel,[1],[x1],by decide +kernel,by decide,rfl,fun i p h=>match i,h with | 0,h=>by cases h; exact ⟨_,rfl,rfl⟩ | n+1,h=>by simp at h,by simp only [inner,E.ds]; exact (.cons h1 .nil)⟩,by simp [cD,cDs,isS,inner,E.ds]⟩
section
variable {P:Program} {w:World} {K:Frag} {mg:Str→Option Value} {base:Heap} {f g:Addr} {fd gd:FuncData}
noncomputable def yJ:Sp:=fun vs H Q _=>∃ a z rs,vs=[.ref a]∧H a=some (.tup (.str z::rs)) ∧
 ((∃ ps L,(z,ps)∈PLC∧ps.length≤10∧L.length=ps.length∧(∀ (i:Nat) (p:Int),ps[i]?=some p→∃ y,atI (.str z::rs) p=some y∧L[i]?=some y)∧∀ r H',aZ H H'→H r=none→H' r=some (.lst L)→Q (.ref r) H') ∨
  (∃ p al ys,(z,p)∈LIT∧atI (.str z::rs) p=some (.ref al)∧H al=some (.tup ys)∧∀ r H',aZ H H'→H r=none→H' r=some (.lst ys)→Q (.ref r) H'))
theorem AE (TP:GP K w mg) (T:G0 mg) (F:Fun K "inner_of" "inner_of" eu f fd):bj P w K mg base CX0 1 f fd ["shaped"] yJ:=by
 obtain ⟨aS,mS_,kS,hS⟩:=TP.sh
 obtain ⟨aL,mL,kL,hLs,hLn⟩:=TP.li
 refine F.ok kE (fun vs H Q EX h=>?_) (fun cdv A outer s H vs Q EX hr h=>?_)
 ·obtain ⟨a,z,rs,rfl,_⟩:=h
  rfl
 obtain ⟨a,z,rs,rfl,ha,h⟩:=h
 refine ⟨_,(@am _ _ _ _ _ (@aM _ _ 1 _ _ _ _ kE.nd rfl (Or.inl rfl) (@aA _ _ _ _ _ _ _ aI (pv 0) ak (fun _ _=>rfl)) (aD rfl) (.inr rfl)) (@am _ _ _ _ _ (@aR _ _ _ _ _ _ _ _ (@az _ _ _ _ _ _ _ _ (Ay kL) (pv 1) (bv (v:=.ref aL) rfl mL rfl) rfl) (@ap _ _ _ (@ay _ _ _ _ (@bK _ _ _ _ _ _ _ _ _ gc rfl T.list wm (@ad _ _ _ _ _ (@aA _ _ _ _ _ _ _ aI (pv 0) (@aA _ _ _ _ _ _ _ (zX kL) (bv (v:=.ref aL) rfl mL rfl) (pv 1) (fun _ _=>rfl)) (fun _ _=>rfl)) ah (ac rfl)) (by decide) (by decide) (ac rfl) (aj rfl)))) aF) (@ap _ _ _ (@ay _ _ _ _ (bH (N':=iF) (ρ:=[none,some 0]) (m:=1) (bI.of (fs:=defScope eu) (N:=mQ) rfl rfl (by decide +kernel)) rfl (bJ (aA aI (aA (zX kS) (bv (v:=.ref aS) rfl mS_ rfl) (pv 1) (fun _ _=>rfl)) ak (fun _ _=>rfl))) (fun _ _ _ _=>(aH (i:=0) lS rfl (Or.inl rfl))) (fun _ _ _ _=>bC) (fun _ _ _ _=>(aA (cx (K:=K) rfl) (pv 1) (pv 0) (fun _ _=>rfl)))))))),?_⟩
 refine ⟨_,rfl,a,_,_,_,rfl,rfl,SqT.of ha,at0 _ _,?_⟩
 rcases h with ⟨ps,L,hm,lp,lL,hp,q⟩ | ⟨p,al,ys,hm,hp,hal,q⟩
 ·obtain ⟨aw,bw,sw,nw,g1,g2,g3⟩:=hS (z,ps) hm
  refine ⟨_,rfl,_,none,rfl,rfl,hLn (z,ps) hm,_,rfl,bL ⟨_,rfl,_,_,.ref aw,rfl,rfl,g1,rfl,aw,_,_,_,rfl,rfl,g2 _,rfl,bw,rfl,⟨_,g3 _⟩,?_⟩⟩
  refine bO (xs:=ps.map V.int) ps.length (by rw [List.length_map]) (by omega) (fun i acc H4=>H4=H∧acc=L.take i) ⟨rfl,rfl⟩ (fun i acc H4 p=>g3 _) (fun i acc H4 x hi la hx p=>?_) (fun acc H4 p la D hD=>?_)
  ·obtain ⟨rfl,rfl⟩:=p
   rw [List.getElem?_map] at hx
   obtain ⟨pp,hpp,rfl⟩:=Option.map_eq_some_iff.mp hx
   obtain ⟨y,hy1,hy2⟩:=hp i pp hpp
   exact ⟨⟨rfl,rfl⟩,bD ⟨_,rfl,_,rfl,a,_,_,_,rfl,rfl,SqT.of ha,hy1,nxT (by omega) hi la ⟨rfl,by rw [List.take_add_one,hy2]; rfl⟩⟩⟩
  ·obtain ⟨rfl,rfl⟩:=p
   rw [← lL,List.take_length]
   exact q D _ (ao hD _) hD ag
 ·obtain ⟨t,ht⟩:=hLs (z,p) hm
  exact ⟨_,rfl,_,_,rfl,rfl,ht,_,rfl,cO ⟨_,rfl,_,rfl,_,_,.int p,rfl,rfl,ht,⟨_,rfl⟩,a,_,_,_,rfl,rfl,SqT.of ha,hp,al,_,rfl,.inr (SqT.of hal),fun l hl2=>q l _ (ao hl2 _) hl2 ag⟩⟩
theorem zc (TP:GP K w mg) (T:G0 mg) (F:Fun K "inner_of" "inner_of" eu f fd):bj P w K mg base CX0 1 f fd ["shaped"] (rB K) :=
 (AE TP T F).imp fun vs H Q E ⟨u,e,hv,hu,_,q⟩=>by
  obtain ⟨a,z,rs,rfl,ha,_,hw,_⟩:=qE hu
  refine ⟨a,z,rs,hv,ha,?_⟩
  rcases hw with ⟨_,ps,L,h1,h2,h3,h4,h5⟩ | ⟨p,al,ys,h1,h2,h3,h4⟩
  ·exact .inl ⟨ps,L,h1,h2,h3,h4,fun r H' g hr hr'=>q r L H' g hr hr' (h5.mono (av g))⟩
  ·exact .inr ⟨p,al,ys,h1,h2,h3,fun r H' g hr hr'=>q r ys H' g hr hr' (h4.mono (av g))⟩
end
open PySem L2
theorem jT {l:Addr} {H H':Hp} {o:HO} (hl:H l=none) (x:Ext l (upd H l o) H'):aZ H H':=fun b u e=>x b u (aJ e hl) (by rw [aV (aJ e hl)]; exact e)
theorem E.ds_app:∀ a b:List E,E.ds (a++b)=E.ds a++E.ds b
 | [],b=>by simp [E.ds]
 | e::r,b=>by simp only [List.cons_append,E.ds,E.ds_app r b]
theorem jl:∀ es:List E,es.length≤cDs (E.ds es)
 | []=>Nat.zero_le _
 | e::r=>by
  have h1:=jl r
  have h2:1≤cD e.d:=by cases e<;>simp [E.d,cD,isS]
  simp only [E.ds,cDs,List.length_cons]
  omega
section
variable {P:Program} {w:World} {K:Frag} {mg:Str→Option Value} {base:Heap} {f g:Addr} {fd gd:FuncData}
noncomputable abbrev uA:List Str:=["thing", "waiting", "count", "one"]
theorem dO:aO uA ["thing"] (defScope iQ):=⟨rfl,rfl,rfl,by decide +kernel,rfl,by decide +kernel,by decide +kernel⟩
noncomputable def yQ (K:Frag):Sp:=fun vs H Q _=>∃ u e,vs=[u]∧DT K H u (E.d e)∧cD (E.d e)≤12∧∀ H',aZ H H'→Q (.bl true) H'
noncomputable def Fo (K:Frag) (u:V) (l:Addr) (H0:Hp) (m:Nat) (σ:St) (H':Hp):Prop :=
 ∃ c:Nat,∃ ys es m3,σ=[some u,some (.ref l),some (.int (c:Int)),m3]∧Ext l H0 H'∧H' l=some (.lst ys)∧DTs K H' ys (E.ds es)∧m=cDs (E.ds es)∧c+cDs (E.ds es)≤12
theorem AM (T:G0 mg) (mEx:∃ t,mg "MOST_EXPRESSIONS"=some (.int 12 t)) (F:Fun K "is_small" "is_small" iQ f fd) (D_is_shaped:Cal P w K mg base 1 "is_shaped" ["thing", "sort"] jd) (D_inner_of:Cal P w K mg base 1 "inner_of" ["shaped"] yJ):bj P w K mg base CX0 2 f fd ["thing"] (yQ K):=by
 obtain ⟨g_inner_of,gd_inner_of,G_inner_of,b_inner_of,k_inner_of,m_inner_of⟩:=D_inner_of.ex
 obtain ⟨g_is_shaped,gd_is_shaped,G_is_shaped,b_is_shaped,k_is_shaped,m_is_shaped⟩:=D_is_shaped.ex
 obtain ⟨tE,mE⟩:=mEx
 refine F.ok dO (fun vs H Q EX h=>?_) (fun cdv A outer s H vs Q EX hr h=>?_)
 ·obtain ⟨u,e,rfl,_⟩:=h
  rfl
 obtain ⟨u,e0,rfl,hu,h12,q⟩:=h
 refine ⟨_,(@am _ _ _ _ _ (@aM _ _ 1 _ _ _ _ dO.nd rfl (Or.inl rfl) (@bo _ _ _ _ (@ad _ _ _ _ _ (pv 0) ah (ac rfl))) (aD rfl) (.inr rfl)) (@am _ _ _ _ _ (@aM _ _ 2 _ _ _ _ dO.nd rfl (Or.inl rfl) ak (aD rfl) (.inr rfl)) (@am _ _ _ _ _ (ie PassesOwn.never (jt (pv 1) (fun _=>rfl)) (@am _ _ _ _ _ (@aM _ _ 3 _ _ _ _ dO.nd rfl (Or.inl rfl) (mK PySem.F.plainAttrs_list PySem.F.slot_list_pop PySem.F.type_list_pop lX (pv 1)) (aD rfl) (.inr rfl)) (@am _ _ _ _ _ (wZ (i:=2) dO.nd rfl (Or.inl rfl) ak uH) (@am _ _ _ _ _ (@aR _ _ _ _ _ _ _ _ (PW.pt (cw (@az _ _ _ _ _ _ _ _ gu (pv 2) (bv (v:=.int 12) rfl mE ⟨_,rfl⟩) (aG _)) (cr (bE (bt (@aq _ _ _ _ _ _ _ _ _ _ _ _ _ _ _ _ G_is_shaped (hr.mono (by omega)) rfl m_is_shaped k_is_shaped b_is_shaped .nil aC (@ad _ _ _ _ _ (pv 3) (@ad _ _ _ _ _ au ah (ac rfl)) (ac rfl)) (by decide) (ac rfl) (aj rfl))))))) (@ap _ _ _ (@ay _ _ _ _ bP)) aF) (@ap _ _ _ (@cM _ _ _ _ (@fG _ _ _ _ _ _ _ _ _ _ _ _ PySem.F.plainAttrs_list PySem.F.slot_list_extend PySem.F.type_list_extend dA (pv 1) (@ad _ _ _ _ _ (@aq _ _ _ _ _ _ _ _ _ _ _ _ _ _ _ _ G_inner_of (hr.mono (by omega)) rfl m_inner_of k_inner_of b_inner_of .nil aC (@ad _ _ _ _ _ (pv 3) ah (ac rfl)) (by decide) (ac rfl) (aj rfl)) ah (ac rfl)) rfl (du rfl rfl) rfl (ac rfl) (aj rfl)) (aD rfl))))))) (@ap _ _ _ (@ay _ _ _ _ bP))))),?_⟩
 refine ⟨_,rfl,(by show 1≤sizeLine; decide),fun l hl=>?_⟩
 have g0:=ao hl (.lst [u])
 have hl0:(upd H l (.lst [u])) l=some (.lst [u]):=ag
 refine ⟨Fo K u l (upd H l (.lst [u])),⟨_,0,[u],[e0],none,rfl,Ext.refl _ _,hl0,.cons (hu.mono (av g0)) .nil,rfl,by simp [E.ds,cDs]; exact h12⟩,?_⟩
 rintro m σ H' ⟨c,ys,es,m3,rfl,x1,hy,dy,em,ez⟩
 refine ⟨_,rfl,_,.inl ⟨ys,SqL.of hy,rfl⟩,?_⟩
 refine aE (fun cc=>?_) (fun cc=>?_)
 ·obtain ⟨zs,y,rfl⟩:∃ zs y,ys=zs++[y]:=by
   rcases List.eq_nil_or_concat ys with rfl | ⟨zs,y,e⟩
   ·exact absurd cc (by decide)
   ·exact ⟨zs,y,by rw [e,List.concat_eq_append]⟩
  obtain ⟨es1,e1,rfl⟩:∃ es1 e1,es=es1++[e1]:=by
   rcases List.eq_nil_or_concat es with rfl | ⟨es1,e1,e⟩
   ·have:=dy.len; simp [E.ds] at this
   ·exact ⟨es1,e1,by rw [e,List.concat_eq_append]⟩
  rw [E.ds_snoc] at dy em ez
  obtain ⟨q1,q2,eq,dz,d1⟩:=dy.snoc_inv
  obtain ⟨rfl,e2⟩:=List.append_inj' eq (by simp)
  obtain rfl:E.d e1=q2:=by simpa using e2
  rw [dC] at em ez
  simp only [cDs,Nat.add_zero] at em ez
  refine ⟨fun σ' H'=>∃ m',m'<m∧Fo K u l (upd H l (.lst [u])) m' σ' H',fun _ _ z=>z,?_⟩
  refine ⟨_,rfl,.inl ⟨rfl,_,SqL.of hy⟩,l,_,y,rfl,rfl,hy,by simp,?_⟩
  rw [List.dropLast_concat]
  have kT:Tk H' (upd H' l (.lst zs)):=cQ hy _
  have x2:Ext l (upd H l (.lst [u])) (upd H' l (.lst zs)):=x1.trans Ext.upd
  have hy2:(upd H' l (.lst zs)) l=some (.lst zs):=ag
  have dz2:=dz.mono kT
  have d2:=d1.mono kT
  generalize hH:(upd H' l (.lst zs))=H2 at x2 hy2 dz2 d2
  obtain ⟨a,z,rs,rfl,ha,hsh,hv,hcd⟩:=qE d2
  refine ⟨_,rfl,_,_,rfl,rfl,?_⟩
  have ec:(c:Int)+1=((c+1:Nat):Int):=by omega
  generalize hc':c+1=c' at ec
  dsimp only
  rw [ec]
  refine ⟨_,rfl,_,_,rfl,rfl,_,rfl,?_⟩
  refine aE (fun c=>absurd (of_decide_eq_true c) (by omega)) (fun c=>?_)
  refine ⟨_,rfl,a,z,rs, "expression",rfl,ha,hsh,(hv.imp (fun h=>h.1) fun ⟨p,al,ys,h1,h2,h3,_⟩=>⟨p,al,ys,h1,h2,h3⟩),_,rfl,bL ?_⟩
  have lz:=dz2.len
  rw [E.ds_len] at lz
  have cl:=jl es1
  have fin:∀ (r:Addr) (L:List V) (H4:Hp),aZ H2 H4→DTs K H2 L (E.ds (inner e1))→zs.length+L.length≤sizeLine ∧
    ∃ m',m'<m∧Fo K u l (upd H l (.lst [u])) m' [some u,some (.ref l),some (.int ((c':Nat):Int)),some (.ref a)] (upd H4 l (.lst (zs++L))):=by
   intro r L H4 g4 dL
   have hy4:=g4 _ _ hy2
   have kL:=(av g4).trans (cQ hy4 (.lst (zs++L)))
   have lL:=dL.len
   rw [E.ds_len] at lL
   have cl':=jl (inner e1)
   refine ⟨by rw [sizeLine_eq]; omega,cDs (E.ds es1)+cDs (E.ds (inner e1)),by omega,c',zs++L,es1++inner e1,_,rfl,(x2.trans (aZ.ext g4)).trans Ext.upd,ag,by rw [E.ds_app]; exact DTs.append (dz2.mono kL) (dL.mono kL),by rw [E.ds_app,dC],by rw [E.ds_app,dC]; omega⟩
  refine ⟨_,rfl,.inl ⟨rfl,_,SqL.of hy2⟩,_,rfl,a,z,rs,rfl,ha,?_⟩
  rcases hv with ⟨_,ps,L,hm,lp,lL,hp,dL⟩ | ⟨p,al,ys',hm,hp,hal,dL⟩
  ·exact .inl ⟨ps,L,hm,lp,lL,hp,fun r H4 g4 hr0 hr4=>⟨l,r,_,_,rfl,rfl,g4 _ _ hy2,hr4,(fin r L H4 g4 dL).1,(fin r L H4 g4 dL).2⟩⟩
  ·exact .inr ⟨p,al,ys',hm,hp,hal,fun r H4 g4 hr0 hr4=>⟨l,r,_,_,rfl,rfl,g4 _ _ hy2,hr4,(fin r ys' H4 g4 dL).1,(fin r ys' H4 g4 dL).2⟩⟩
 ·exact q _ (jT hl x1)
noncomputable abbrev jn:List Str:=["program", "kinds", "thing"]
theorem iO:aO jn ["program", "kinds", "thing"] (defScope df):=⟨rfl,rfl,rfl,by decide +kernel,rfl,by decide +kernel,by decide +kernel⟩
noncomputable def Dm (K:Frag):Sp:=fun vs H Q _=>∃ v kk u e R Vs k,vs=[v,.ref kk,u]∧da H v R∧gJ R∧H kk=some (.dK (sX Vs))∧(Vs.map (·.1)).Nodup∧DT K H u (E.d e)∧e.d.depth≤23∧Ok R Vs e k∧cD (E.d e)≤12∧∀ H',aZ H H'→Q (.str k) H'
theorem GR (F:Fun K "expression_kind" "expression_kind" df f fd) (D_kind_in:Cal P w K mg base 28 "kind_in" ["program", "kinds", "e"] (uf K 23)) (D_is_small:Cal P w K mg base 2 "is_small" ["thing"] (yQ K)):bj P w K mg base CX0 29 f fd ["program", "kinds", "thing"] (Dm K):=by
 obtain ⟨g_is_small,gd_is_small,G_is_small,b_is_small,k_is_small,m_is_small⟩:=D_is_small.ex
 obtain ⟨g_kind_in,gd_kind_in,G_kind_in,b_kind_in,k_kind_in,m_kind_in⟩:=D_kind_in.ex
 refine F.ok iO (fun vs H Q EX h=>?_) (fun cdv A outer s H vs Q EX hr h=>?_)
 ·obtain ⟨v,kk,u,e,R,Vs,k,rfl,_⟩:=h
  rfl
 obtain ⟨v,kk,u,e,R,Vs,k,rfl,hv,hlk,hkk,hnd,hu,hdp,hok,hc,q⟩:=h
 refine ⟨_,(@ap _ _ _ (@ay _ _ _ _ (@cR _ _ _ _ _ _ _ _ (bt (@aq _ _ _ _ _ _ _ _ _ _ _ _ _ _ _ _ G_is_small (hr.mono (by omega)) rfl m_is_small k_is_small b_is_small .nil aC (@ad _ _ _ _ _ (pv 2) ah (ac rfl)) (by decide) (ac rfl) (aj rfl))) (@aq _ _ _ _ _ _ _ _ _ _ _ _ _ _ _ _ G_kind_in (hr.mono (by omega)) rfl m_kind_in k_kind_in b_kind_in .nil aC (@ad _ _ _ _ _ (pv 0) (@ad _ _ _ _ _ (pv 1) (@ad _ _ _ _ _ (pv 2) ah (ac rfl)) (ac rfl)) (ac rfl)) (by decide) (ac rfl) (aj rfl)) cu))),?_⟩
 refine ⟨_,rfl,u,e,rfl,hu,hc,fun H2 g2=>⟨_,rfl,cO ?_⟩⟩
 exact ⟨_,rfl,_,rfl,_,rfl,v,kk,u,e,R,Vs,k,rfl,hv.mono (av g2),hlk,g2 _ _ hkk,hnd,hu.mono (av g2),hdp,hok,fun H3 g3=>q _ (g2.trans g3)⟩
end
open PySem L2
theorem CO {K:Frag} {H:Hp} {a:Addr} {z:Str} {rs:List V} {e:E} (h:DT K H (.ref a) (E.d e)) (ha:H a=some (.tup (.str z::rs))) (hn:e.na=true):z ≠ "at"∧z ≠ "put":=by
 have key:∀ {y:Str} {ds:List PyData},E.d e=.tuple (.str y::ds)→z=y:=fun {y ds} he=>by
  rw [he] at h
  obtain ⟨b,xs,eb,hb,d0⟩:=h.open
  cases eb
  obtain ⟨x0,r0,rfl,h0,_⟩:=d0.open
  obtain rfl:=h0.str_inv
  rw [ha] at hb
  cases hb
  rfl
 cases e<;>first
  | (simp [E.na] at hn; done)
  | (have:=key (by simp only [E.d]; rfl); subst this; exact ⟨by decide +kernel,by decide +kernel⟩)
theorem vZ:∀ es:List E,E.nas es=true→∀ x∈es,x.na=true
 | [],_,x,h=>nomatch h
 | e::r,h,x,hx=>by
  simp only [E.nas,Bool.and_eq_true] at h
  rcases List.mem_cons.mp hx with rfl | hx
  ·exact h.1
  ·exact vZ r h.2 x hx
theorem Bf {e:E} (h:e.na=true):∀ x∈inner e,x.na=true:=by
 cases e with
 | new r es=>simp only [E.na] at h; simp only [inner]; exact vZ es h
 | rows es=>simp only [E.na] at h; simp only [inner]; exact vZ es h
 | _=>simp_all [E.na,inner]
section
variable {P:Program} {w:World} {K:Frag} {mg:Str→Option Value} {base:Heap} {f g:Addr} {fd gd:FuncData}
noncomputable abbrev tw:List Str:=["shaped", "waiting", "one"]
theorem fU:aO tw ["shaped"] (defScope hX):=⟨rfl,rfl,rfl,by decide +kernel,rfl,by decide +kernel,by decide +kernel⟩
noncomputable def DV (K:Frag):Sp:=fun vs H Q _=>∃ u e,vs=[u]∧DT K H u (E.d e)∧e.na=true∧cD (E.d e)≤12∧∀ H',aZ H H'→Q (.bl false) H'
noncomputable def Ek (K:Frag) (u:V) (l:Addr) (H0:Hp) (m:Nat) (σ:St) (H':Hp):Prop :=
 ∃ ys es m2,σ=[some u,some (.ref l),m2]∧Ext l H0 H'∧H' l=some (.lst ys)∧DTs K H' ys (E.ds es)∧(∀ x∈es,x.na=true)∧m=cDs (E.ds es)∧cDs (E.ds es)≤12
theorem EM (F:Fun K "may_break" "may_break" hX f fd) (D_inner_of:Cal P w K mg base 1 "inner_of" ["shaped"] yJ):bj P w K mg base CX0 2 f fd ["shaped"] (DV K):=by
 obtain ⟨g_inner_of,gd_inner_of,G_inner_of,b_inner_of,k_inner_of,m_inner_of⟩:=D_inner_of.ex
 refine F.ok fU (fun vs H Q EX h=>?_) (fun cdv A outer s H vs Q EX hr h=>?_)
 ·obtain ⟨u,e,rfl,_⟩:=h
  rfl
 obtain ⟨u,e0,rfl,hu,hna,h12,q⟩:=h
 refine ⟨_,(@am _ _ _ _ _ (@aM _ _ 1 _ _ _ _ fU.nd rfl (Or.inl rfl) (@bo _ _ _ _ (@ad _ _ _ _ _ (pv 0) ah (ac rfl))) (aD rfl) (.inr rfl)) (@am _ _ _ _ _ (ie PassesOwn.never (jt (pv 1) (fun _=>rfl)) (@am _ _ _ _ _ (@aM _ _ 2 _ _ _ _ fU.nd rfl (Or.inl rfl) (mK PySem.F.plainAttrs_list PySem.F.slot_list_pop PySem.F.type_list_pop lX (pv 1)) (aD rfl) (.inr rfl)) (@am _ _ _ _ _ (@aR _ _ _ _ _ _ _ _ (@az _ _ _ _ _ _ _ _ cN (@aA _ _ _ _ _ _ _ aI (pv 2) ak (fun _ _=>rfl)) (@aT _ _ _ _ _ (@ad _ _ _ _ _ au (@ad _ _ _ _ _ au ah (ac rfl)) (ac rfl))) rfl) (@ap _ _ _ (@ay _ _ _ _ bP)) aF) (@ap _ _ _ (@cM _ _ _ _ (@fG _ _ _ _ _ _ _ _ _ _ _ _ PySem.F.plainAttrs_list PySem.F.slot_list_extend PySem.F.type_list_extend dA (pv 1) (@ad _ _ _ _ _ (@aq _ _ _ _ _ _ _ _ _ _ _ _ _ _ _ _ G_inner_of (hr.mono (by omega)) rfl m_inner_of k_inner_of b_inner_of .nil aC (@ad _ _ _ _ _ (pv 2) ah (ac rfl)) (by decide) (ac rfl) (aj rfl)) ah (ac rfl)) rfl (du rfl rfl) rfl (ac rfl) (aj rfl)) (aD rfl)))))) (@ap _ _ _ (@ay _ _ _ _ bP)))),?_⟩
 refine ⟨_,rfl,(by show 1≤sizeLine; decide),fun l hl=>?_⟩
 have g0:=ao hl (.lst [u])
 have hl0:(upd H l (.lst [u])) l=some (.lst [u]):=ag
 refine ⟨Ek K u l (upd H l (.lst [u])),⟨_,[u],[e0],none,rfl,Ext.refl _ _,hl0,.cons (hu.mono (av g0)) .nil,(fun x hx=>by rw [List.mem_singleton.mp hx]; exact hna),rfl,by simp [E.ds,cDs]; exact h12⟩,?_⟩
 rintro m σ H' ⟨ys,es,m3,rfl,x1,hy,dy,sp,em,ez⟩
 refine ⟨_,rfl,_,.inl ⟨ys,SqL.of hy,rfl⟩,?_⟩
 refine aE (fun cc=>?_) (fun cc=>?_)
 ·obtain ⟨zs,y,rfl⟩:∃ zs y,ys=zs++[y]:=by
   rcases List.eq_nil_or_concat ys with rfl | ⟨zs,y,e⟩
   ·exact absurd cc (by decide)
   ·exact ⟨zs,y,by rw [e,List.concat_eq_append]⟩
  obtain ⟨es1,e1,rfl⟩:∃ es1 e1,es=es1++[e1]:=by
   rcases List.eq_nil_or_concat es with rfl | ⟨es1,e1,e⟩
   ·have:=dy.len; simp [E.ds] at this
   ·exact ⟨es1,e1,by rw [e,List.concat_eq_append]⟩
  rw [E.ds_snoc] at dy em ez
  obtain ⟨q1,q2,eq,dz,d1⟩:=dy.snoc_inv
  obtain ⟨rfl,e2⟩:=List.append_inj' eq (by simp)
  obtain rfl:E.d e1=q2:=by simpa using e2
  rw [dC] at em ez
  simp only [cDs,Nat.add_zero] at em ez
  refine ⟨fun σ' H'=>∃ m',m'<m∧Ek K u l (upd H l (.lst [u])) m' σ' H',fun _ _ z=>z,?_⟩
  refine ⟨_,rfl,.inl ⟨rfl,_,SqL.of hy⟩,l,_,y,rfl,rfl,hy,by simp,?_⟩
  rw [List.dropLast_concat]
  have kT:Tk H' (upd H' l (.lst zs)):=cQ hy _
  have x2:Ext l (upd H l (.lst [u])) (upd H' l (.lst zs)):=x1.trans Ext.upd
  have hy2:(upd H' l (.lst zs)) l=some (.lst zs):=ag
  have dz2:=dz.mono kT
  have d2:=d1.mono kT
  generalize hH:(upd H' l (.lst zs))=H2 at x2 hy2 dz2 d2
  have n1:=sp e1 (by simp)
  obtain ⟨a,z,rs,rfl,ha,hsh,hv,hcd⟩:=qE d2
  obtain ⟨z1,z2⟩:=CO d2 ha n1
  refine ⟨_,rfl,a,_,_,_,rfl,rfl,SqT.of ha,at0 _ _,(by show 2≤sizeLine; decide),fun pl hpl=>⟨pl,_,rfl,.inr (SqT.of ag),rfl,rfl,_,rfl,?_⟩⟩
  have g3:=ao hpl (.tup [.str "at",.str "put"])
  refine aE (fun c=>?_) (fun c=>?_)
  ·have c':((Str.ofString "at"==z)||(Str.ofString "put"==z))=true:=by simpa [inV,eqV] using c
   rcases Bool.or_eq_true_iff.mp c' with h | h
   ·exact absurd (eq_of_beq h).symm z1
   ·exact absurd (eq_of_beq h).symm z2
  have lz:=dz2.len
  rw [E.ds_len] at lz
  have cl:=jl es1
  have fin:∀ (r:Addr) (L:List V) (H4:Hp),aZ (upd H2 pl (.tup [.str "at",.str "put"])) H4→DTs K H2 L (E.ds (inner e1))→zs.length+L.length≤sizeLine ∧
    ∃ m',m'<m∧Ek K u l (upd H l (.lst [u])) m' [some u,some (.ref l),some (.ref a)] (upd H4 l (.lst (zs++L))):=by
   intro r L H4 g4 dL
   have g5:=g3.trans g4
   have hy4:=g5 _ _ hy2
   have kL:=(av g5).trans (cQ hy4 (.lst (zs++L)))
   have lL:=dL.len
   rw [E.ds_len] at lL
   have cl':=jl (inner e1)
   refine ⟨by rw [sizeLine_eq]; omega,cDs (E.ds es1)+cDs (E.ds (inner e1)),by omega,zs++L,es1++inner e1,_,rfl,(x2.trans (aZ.ext g5)).trans Ext.upd,ag,by rw [E.ds_app]; exact DTs.append (dz2.mono kL) (dL.mono kL),(fun x hx=>(List.mem_append.mp hx).elim (fun h=>sp x (List.mem_append.mpr (.inl h))) (Bf n1 x)),by rw [E.ds_app,dC],by rw [E.ds_app,dC]; omega⟩
  refine ⟨_,rfl,.inl ⟨rfl,_,SqL.of (g3 _ _ hy2)⟩,_,rfl,a,z,rs,rfl,g3 _ _ ha,?_⟩
  rcases hv with ⟨_,ps,L,hm,lp,lL,hp,dL⟩ | ⟨p,al,ys',hm,hp,hal,dL⟩
  ·exact .inl ⟨ps,L,hm,lp,lL,hp,fun r H4 g4 hr0 hr4=>⟨l,r,_,_,rfl,rfl,g4 _ _ (g3 _ _ hy2),hr4,(fin r L H4 g4 dL).1,(fin r L H4 g4 dL).2⟩⟩
  ·exact .inr ⟨p,al,ys',hm,hp,g3 _ _ hal,fun r H4 g4 hr0 hr4=>⟨l,r,_,_,rfl,rfl,g4 _ _ (g3 _ _ hy2),hr4,(fin r ys' H4 g4 dL).1,(fin r ys' H4 g4 dL).2⟩⟩
 ·exact q _ (jT hl x1)
noncomputable abbrev nk:List Str:=["program", "kinds", "thing"]
theorem mH:aO nk ["program", "kinds", "thing"] (defScope fh):=⟨rfl,rfl,rfl,by decide +kernel,rfl,by decide +kernel,by decide +kernel⟩
noncomputable def Ea (K:Frag):Sp:=fun vs H Q _=>∃ v kk u e R Vs,vs=[v,.ref kk,u]∧da H v R∧gJ R∧H kk=some (.dK (sX Vs))∧(Vs.map (·.1)).Nodup∧DT K H u (E.d e)∧e.d.depth≤23∧Ok R Vs e "num"∧cD (E.d e)≤12∧e.na=true∧∀ H',aZ H H'→Q (.bl true) H'
theorem En (F:Fun K "is_compared" "is_compared" fh f fd) (D_expression_kind:Cal P w K mg base 29 "expression_kind" ["program", "kinds", "thing"] (Dm K)) (D_may_break:Cal P w K mg base 2 "may_break" ["shaped"] (DV K)):bj P w K mg base CX0 30 f fd ["program", "kinds", "thing"] (Ea K):=by
 obtain ⟨g_may_break,gd_may_break,G_may_break,b_may_break,k_may_break,m_may_break⟩:=D_may_break.ex
 obtain ⟨g_expression_kind,gd_expression_kind,G_expression_kind,b_expression_kind,k_expression_kind,m_expression_kind⟩:=D_expression_kind.ex
 refine F.ok mH (fun vs H Q EX h=>?_) (fun cdv A outer s H vs Q EX hr h=>?_)
 ·obtain ⟨v,kk,u,e,R,Vs,rfl,_⟩:=h
  rfl
 obtain ⟨v,kk,u,e,R,Vs,rfl,hv,hlk,hkk,hnd,hu,hdp,hok,hc,hna,q⟩:=h
 refine ⟨_,(@ap _ _ _ (@ay _ _ _ _ (dw (@bW _ _ _ _ _ _ _ _ bg (@aq _ _ _ _ _ _ _ _ _ _ _ _ _ _ _ _ G_expression_kind (hr.mono (by omega)) rfl m_expression_kind k_expression_kind b_expression_kind .nil aC (@ad _ _ _ _ _ (pv 0) (@ad _ _ _ _ _ (pv 1) (@ad _ _ _ _ _ (pv 2) ah (ac rfl)) (ac rfl)) (ac rfl)) (by decide) (ac rfl) (aj rfl)) au (aG _)) (cS (Ce (@aq _ _ _ _ _ _ _ _ _ _ _ _ _ _ _ _ G_may_break (hr.mono (by omega)) rfl m_may_break k_may_break b_may_break .nil aC (@ad _ _ _ _ _ (pv 2) ah (ac rfl)) (by decide) (ac rfl) (aj rfl))))))),?_⟩
 refine ⟨_,rfl,_,rfl,_,rfl,v,kk,u,e,R,Vs, "num",rfl,hv,hlk,hkk,hnd,hu,hdp,hok,hc,fun H2 g2=>⟨rfl,_,rfl,?_⟩⟩
 refine aE (fun c=>?_) (fun c=>absurd (by decide +kernel) c)
 refine ⟨_,rfl,u,e,rfl,hu.mono (av g2),hna,hc,fun H3 g3=>⟨_,rfl,?_⟩⟩
 exact q _ (g2.trans g3)
end
open PySem L2
theorem lq {α:Type} {K:Frag} {H:Hp} {F:V→α→Prop} {f:α→PyData} (h:∀ x a,F x a→DT K H x (f a)):∀ {xs:List V} {l:List α},Paired F xs l→DTs K H xs (l.map f)
 | _,_,.nil=>.nil
 | _,_,.cons a b=>.cons (h _ _ a) (lq h b)
noncomputable def El (p:Fld):PyData:=.tuple [.str p.1,.str p.2]
noncomputable def sk (fs:List Fld):PyData:=.tuple (fs.map El)
noncomputable def wT (r:Rec):PyData:=.tuple [.str r.1,sk r.2]
noncomputable def kh (F:fB):PyData:=.tuple [.str F.1.1,sk F.1.2.1,sk F.1.2.2.1,.str F.1.2.2.2,.tuple (S.ds F.2)]
noncomputable def pgD (R:List Rec) (FS:List fB):PyData:=.tuple [.tuple (R.map wT),.tuple (FS.map kh)]
section
variable {K:Frag} {H:Hp} {v:V}
theorem cy.dt {p:Fld} (h:cy H v p):DT K H v (El p):=by
 obtain ⟨a,rfl,h⟩:=h
 exact .tup (.inl h) (.cons (.str _) (.cons (.str _) .nil))
theorem cV.dt {p:List Fld} (h:cV H v p):DT K H v (sk p):=by
 obtain ⟨a,xs,rfl,h,q⟩:=h
 exact .tup (.inl h) (lq (fun _ _ z=>cy.dt z) q)
theorem cC.dt {p:Rec} (h:cC H v p):DT K H v (wT p):=by
 obtain ⟨a,y,rfl,h,q⟩:=h
 exact .tup (.inl h) (.cons (.str _) (.cons q.dt .nil))
theorem dR.dt {p:List Rec} (h:dR H v p):DT K H v (.tuple (p.map wT)):=by
 obtain ⟨a,xs,rfl,h,q⟩:=h
 exact .tup (.inl h) (lq (fun _ _ z=>cC.dt z) q)
theorem eE.dt {F:fB} (h:eE K H v F):DT K H v (kh F):=by
 obtain ⟨a,p,q,bb,xs,rfl,h1,h2,h3,h4,h5⟩:=h
 exact .tup (.inl h1) (.cons (.str _) (.cons h2.dt (.cons h3.dt (.cons (.str _) (.cons (.tup (.inl h4) h5) .nil)))))
theorem jU.dt {R:List Rec} {FS:List fB} (h:jU K H v R FS):DT K H v (pgD R FS):=by
 obtain ⟨a,y,z,fx,rfl,h1,h2,h3,h4⟩:=h
 exact .tup (.inl h1) (.cons h2.dt (.cons (.tup (.inl h3) (lq (fun _ _ z=>eE.dt z) h4)) .nil))
end
theorem yi {α:Type} {f:α→PyData} {m b:Nat}:∀ {l:List α},(∀ a∈l,bA m b (f a))→br m (l.length*(b+2)) (l.map f)
 | [],_=>nz.mono (Nat.le_refl _) (Nat.zero_le _)
 | a::r,h=>by
  have:=br.cons (h a List.mem_cons_self) (yi (l:=r) fun x hx=>h x (List.mem_cons_of_mem _ hx))
  refine this.mono (Nat.le_refl _) ?_
  rw [List.length_cons,Nat.add_mul]
  omega
theorem DH {z:Str} (h:z∈PL):z∈WD:=by
 unfold WD
 simp only [List.mem_append]
 exact .inr h
theorem GW {p:Fld} (h1:p.1∈WD) (h2:p.2∈WD):bA 1 31 (El p):=(br.cons (nW h1) (br.cons (nW h2) nz)).tup
theorem wj {l:List Fld} (hl:l.length≤5) (h:∀ p∈l,p.1∈WD∧p.2∈WD):bA 2 168 (sk l):=by
 refine (yi fun p hp=>GW (h p hp).1 (h p hp).2).tup.mono (Nat.le_refl _) ?_
 have:=Nat.mul_le_mul_right 33 hl
 omega
theorem Gg {r:Rec} (h0:r.1∈WD) (hl:r.2.length≤5) (h:∀ p∈r.2,p.1∈WD∧p.2∈WD):bA 3 187 (wT r) :=
 (br.cons ((nW h0).mono (Nat.zero_le _) (Nat.le_refl _)) (br.cons (wj hl h) nz)).tup
theorem Gh {F:fB} (h0:F.1.1∈WD) (h3:F.1.2.2.2∈WD) (hl:(F.1.2.1++F.1.2.2.1).length≤5) (h:∀ p∈F.1.2.1++F.1.2.2.1,p.1∈WD∧p.2∈WD) (hb:br 23 (8*BS) (S.ds F.2)):bA 25 (8*BS+376) (kh F):=by
 rw [List.length_append] at hl
 have n1:=wj (l:=F.1.2.1) (by omega) fun p hp=>h p (List.mem_append_left _ hp)
 have n2:=wj (l:=F.1.2.2.1) (by omega) fun p hp=>h p (List.mem_append_right _ hp)
 refine (br.cons ((nW h0).mono (Nat.zero_le 24) (Nat.le_refl _)) (br.cons (n1.mono (by omega) (Nat.le_refl _)) (br.cons (n2.mono (by omega) (Nat.le_refl _)) (br.cons ((nW h3).mono (Nat.zero_le _) (Nat.le_refl _)) (br.cons hb.tup nz))))).tup.mono (Nat.le_refl _) (by omega)
theorem HW {B:Nat} {x y:PyData} (n1:bA 26 570 x) (n2:bA 26 (3*(B+378)+3) y):bA 27 (570+2+(3*(B+378)+3+2)+3) (.tuple [x,y]):=(br.cons n1 (br.cons n2 nz)).tup.mono (Nat.le_refl _) (by omega)
noncomputable def BP:Nat:=570+2+(3*(8*BS+378)+3+2)+3
theorem FW:BP≤sizeLine:=by rw [sizeLine_eq]; decide +kernel
theorem DF {R:List Rec} (g:cG R) {k:Str} (h:k∈KS R):k∈WD:=by
 rcases List.mem_append.mp h with h | h
 ·exact DH h
 ·obtain ⟨r,hr,rfl⟩:=List.mem_map.mp h
  obtain ⟨i,hi⟩:=List.mem_iff_getElem?.mp hr
  exact cH (g i r hi).1
theorem uY.nice {R:List Rec} {HS:List cI} {FS:List fB} (o:uY R HS FS):bA 27 BP (pgD R FS):=by
 have nR:br 3 (R.length*189) (R.map wT):=yi fun r hr=>by
  obtain ⟨i,hi⟩:=List.mem_iff_getElem?.mp hr
  obtain ⟨h1,⟨⟨_,h3⟩,_,h4,_⟩,h5⟩:=o.g i r hi
  refine Gg (cH h1) (by omega) fun p hp=>⟨cH (h4 p hp),?_⟩
  rcases h5 p hp with h | ⟨j,r',_,hj,h⟩
  ·exact DH h
  ·rw [← h]; exact cH (o.g j r' hj).1
 have nF:br 25 (FS.length*(8*BS+378)) (FS.map kh):=yi fun F hF=>by
  have hm:F.1∈HS:=by rw [← o.eh]; exact List.mem_map.mpr ⟨F,hF,rfl⟩
  have ho:=o.hs.ok F.1 hm
  have fo:=o.ok F hF
  refine Gh (cH ho.nm) (DF o.g ho.gv) ho.l5 (fun p hp=>⟨cH (ho.vs p hp).1,DF o.g (ho.vs p hp).2⟩) ?_
  exact (gC fo.ns).mono (by decide) (Nat.mul_le_mul_right _ fo.c8)
 have lF:FS.length≤3:=by
  have:=o.hs.l3
  rw [← o.eh,List.length_map] at this
  exact this
 have m1:=Nat.mul_le_mul_right 189 o.rl
 have m2:=Nat.mul_le_mul_right (8*BS+378) lF
 have n1:bA 26 570 (.tuple (R.map wT)):=nR.tup.mono (by omega) (by omega)
 have n2:bA 26 (3*(8*BS+378)+3) (.tuple (FS.map kh)):=nF.tup.mono (by omega) (by omega)
 unfold BP pgD
 exact HW n1 n2
open PySem L2
noncomputable def C.inner:C→List C
 | .and_ c d=>[c,d]
 | .or_ c d=>[c,d]
 | .not_ c=>[c]
 | _=>[]
noncomputable def cnC:List C→Nat
 | []=>0
 | c::r=>c.cnt+cnC r
theorem lC:∀ a b:List C,cnC (a++b)=cnC a+cnC b
 | [],b=>by simp [cnC]
 | c::r,b=>by simp only [List.cons_append,cnC,lC r b]; omega
theorem C.cnt_inner (c:C):c.cnt=1+cnC c.inner:=by cases c<;>simp [C.cnt,C.inner,cnC]<;>omega
theorem yb:∀ cs:List C,cs.length≤cnC cs
 | []=>Nat.zero_le _
 | c::r=>by
  have h1:=yb r
  have h2:=c.cnt_inner
  simp only [cnC,List.length_cons]
  omega
theorem CW {K:Frag} {H:Hp} {u:V} {c:C} (h:DT K H u (C.d c)):∃ (a:Addr) (z:Str) (rs:List V) (ps:List Int) (L:List V),u=.ref a∧H a=some (.tup (.str z::rs))∧(z,("condition":Str),((rs.length+1:Nat):Int))∈SH4∧(∀ q∈LIT,q.1≠z) ∧
  (z,ps)∈PLC∧ps.length≤10∧L.length=ps.length∧(∀ (i:Nat) (p:Int),ps[i]?=some p→∃ y,atI (.str z::rs) p=some y∧L[i]?=some y) ∧
  ((∃ x1 x2 e1 e2,L=[x1,x2]∧(z = "less"∨z = "same")∧(c=.less e1 e2∨c=.same e1 e2)∧DT K H x1 e1.d∧DT K H x2 e2.d)∨((z ≠ "less"∧z ≠ "same")∧DTs K H L (c.inner.map C.d))):=by
 cases c with
 | less y1 y2 =>
  simp only [C.d] at h ⊢
  obtain ⟨a,xs,rfl,ha,dx0⟩:=h.open
  obtain ⟨x0,r0,rfl,h0,dx1⟩:=dx0.open
  obtain rfl:=h0.str_inv
  obtain ⟨x1,r1,rfl,h1,dx2⟩:=dx1.open
  obtain ⟨x2,r2,rfl,h2,dx3⟩:=dx2.open
  cases dx3
  exact ⟨a,_,_,[1,2],[x1,x2],rfl,ha,(show (("less":Str),("condition":Str),(3:Int))∈SH4 by decide +kernel),by decide +kernel,by decide +kernel,by decide,rfl,(fun i p h=>match i,h with | 0,h=>by cases h; exact ⟨_,rfl,rfl⟩ | 1,h=>by cases h; exact ⟨_,rfl,rfl⟩ | n+2,h=>by simp at h),.inl ⟨x1,x2,y1,y2,rfl,.inl rfl,.inl rfl,h1,h2⟩⟩
 | same y1 y2 =>
  simp only [C.d] at h ⊢
  obtain ⟨a,xs,rfl,ha,dx0⟩:=h.open
  obtain ⟨x0,r0,rfl,h0,dx1⟩:=dx0.open
  obtain rfl:=h0.str_inv
  obtain ⟨x1,r1,rfl,h1,dx2⟩:=dx1.open
  obtain ⟨x2,r2,rfl,h2,dx3⟩:=dx2.open
  cases dx3
  exact ⟨a,_,_,[1,2],[x1,x2],rfl,ha,(show (("same":Str),("condition":Str),(3:Int))∈SH4 by decide +kernel),by decide +kernel,by decide +kernel,by decide,rfl,(fun i p h=>match i,h with | 0,h=>by cases h; exact ⟨_,rfl,rfl⟩ | 1,h=>by cases h; exact ⟨_,rfl,rfl⟩ | n+2,h=>by simp at h),.inl ⟨x1,x2,y1,y2,rfl,.inr rfl,.inr rfl,h1,h2⟩⟩
 | and_ y1 y2 =>
  simp only [C.d] at h ⊢
  obtain ⟨a,xs,rfl,ha,dx0⟩:=h.open
  obtain ⟨x0,r0,rfl,h0,dx1⟩:=dx0.open
  obtain rfl:=h0.str_inv
  obtain ⟨x1,r1,rfl,h1,dx2⟩:=dx1.open
  obtain ⟨x2,r2,rfl,h2,dx3⟩:=dx2.open
  cases dx3
  exact ⟨a,_,_,[1,2],[x1,x2],rfl,ha,(show (("and":Str),("condition":Str),(3:Int))∈SH4 by decide +kernel),by decide +kernel,by decide +kernel,by decide,rfl,(fun i p h=>match i,h with | 0,h=>by cases h; exact ⟨_,rfl,rfl⟩ | 1,h=>by cases h; exact ⟨_,rfl,rfl⟩ | n+2,h=>by simp at h),.inr ⟨⟨by decide +kernel,by decide +kernel⟩,(.cons h1 (.cons h2 .nil))⟩⟩
 | or_ y1 y2 =>
  simp only [C.d] at h ⊢
  obtain ⟨a,xs,rfl,ha,dx0⟩:=h.open
  obtain ⟨x0,r0,rfl,h0,dx1⟩:=dx0.open
  obtain rfl:=h0.str_inv
  obtain ⟨x1,r1,rfl,h1,dx2⟩:=dx1.open
  obtain ⟨x2,r2,rfl,h2,dx3⟩:=dx2.open
  cases dx3
  exact ⟨a,_,_,[1,2],[x1,x2],rfl,ha,(show (("or":Str),("condition":Str),(3:Int))∈SH4 by decide +kernel),by decide +kernel,by decide +kernel,by decide,rfl,(fun i p h=>match i,h with | 0,h=>by cases h; exact ⟨_,rfl,rfl⟩ | 1,h=>by cases h; exact ⟨_,rfl,rfl⟩ | n+2,h=>by simp at h),.inr ⟨⟨by decide +kernel,by decide +kernel⟩,(.cons h1 (.cons h2 .nil))⟩⟩
 | not_ y1 =>
  simp only [C.d] at h ⊢
  obtain ⟨a,xs,rfl,ha,dx0⟩:=h.open
  obtain ⟨x0,r0,rfl,h0,dx1⟩:=dx0.open
  obtain rfl:=h0.str_inv
  obtain ⟨x1,r1,rfl,h1,dx2⟩:=dx1.open
  cases dx2
  exact ⟨a,_,_,[1],[x1],rfl,ha,(show (("not":Str),("condition":Str),(2:Int))∈SH4 by decide +kernel),by decide +kernel,by decide +kernel,by decide,rfl,(fun i p h=>match i,h with | 0,h=>by cases h; exact ⟨_,rfl,rfl⟩ | n+1,h=>by simp at h),.inr ⟨⟨by decide +kernel,by decide +kernel⟩,(.cons h1 .nil)⟩⟩
theorem zu {R:List Rec} {Vs:List Fld} {c:C} (h:OkC R Vs c):∀ x∈c.inner,OkC R Vs x:=by
 cases c with
 | less a b=>intro x hx; cases hx
 | same a b=>intro x hx; cases hx
 | not_ c=>intro x hx; rw [List.mem_singleton.mp hx]; exact h
 | and_ c d=>intro x hx; simp only [OkC] at h; simp only [C.inner,List.mem_cons,List.not_mem_nil,or_false] at hx; rcases hx with rfl | rfl; exact h.1; exact h.2
 | or_ c d=>intro x hx; simp only [OkC] at h; simp only [C.inner,List.mem_cons,List.not_mem_nil,or_false] at hx; rcases hx with rfl | rfl; exact h.1; exact h.2
theorem C.dep_inner {c:C} {n:Nat} (h:c.d.depth≤n):∀ x∈c.inner,x.d.depth≤n:=by
 cases c with
 | less a b=>intro x hx; cases hx
 | same a b=>intro x hx; cases hx
 | not_ c=>intro x hx; rw [List.mem_singleton.mp hx]; simp only [C.d,PyData.depth,PyData.depthAll] at h; omega
 | and_ c d=>intro x hx; simp only [C.d,PyData.depth,PyData.depthAll] at h; simp only [C.inner,List.mem_cons,List.not_mem_nil,or_false] at hx; rcases hx with rfl | rfl<;>omega
 | or_ c d=>intro x hx; simp only [C.d,PyData.depth,PyData.depthAll] at h; simp only [C.inner,List.mem_cons,List.not_mem_nil,or_false] at hx; rcases hx with rfl | rfl<;>omega
theorem C.ls {R:List Rec} {Vs:List Fld} {c:C} {a b:E} {n:Nat} (h:c=.less a b∨c=.same a b) (o:OkC R Vs c) (d:c.d.depth≤n):(Ok R Vs a "num"∧a.na=true∧Ok R Vs b "num"∧b.na=true∧cD a.d≤12∧cD b.d≤12)∧a.d.depth≤n∧b.d.depth≤n:=by
 rcases h with rfl | rfl<;>(simp only [OkC] at o; simp only [C.d,PyData.depth,PyData.depthAll] at d; exact ⟨o,by omega,by omega⟩)
section
variable {P:Program} {w:World} {K:Frag} {mg:Str→Option Value} {base:Heap} {f g:Addr} {fd gd:FuncData}
noncomputable abbrev gX:List Str:=["program", "kinds", "thing", "waiting", "count", "c"]
noncomputable abbrev eT:List Str:=["e", "program", "kinds"]
theorem iS:eT.Nodup:=by decide +kernel
theorem cz:aO gX ["program", "kinds", "thing"] (defScope cW):=⟨rfl,rfl,rfl,by decide +kernel,rfl,by decide +kernel,by decide +kernel⟩
noncomputable def FD (K:Frag):Sp:=fun vs H Q _=>∃ v kk u c R Vs,vs=[v,.ref kk,u]∧da H v R∧gJ R∧H kk=some (.dK (sX Vs))∧(Vs.map (·.1)).Nodup∧DT K H u (C.d c)∧c.d.depth≤23∧OkC R Vs c∧c.cnt≤6∧∀ H',aZ H H'→Q (.bl true) H'
noncomputable def Hf (K:Frag) (R:List Rec) (Vs:List Fld) (v u:V) (kk l:Addr) (H0:Hp) (m:Nat) (σ:St) (H':Hp):Prop :=
 ∃ n:Nat,∃ ys cs m5,σ=[some v,some (.ref kk),some u,some (.ref l),some (.int (n:Int)),m5]∧Ext l H0 H'∧H' l=some (.lst ys)∧DTs K H' ys (cs.map C.d)∧(∀ x∈cs,OkC R Vs x∧x.d.depth≤23)∧m=cnC cs∧n+cnC cs≤6
theorem Gs (T:G0 mg) (mCx:∃ t,mg "MOST_CONDITIONS"=some (.int 6 t)) (F:Fun K "is_condition" "is_condition" cW f fd) (D_is_shaped:Cal P w K mg base 1 "is_shaped" ["thing", "sort"] jd) (D_inner_of:Cal P w K mg base 1 "inner_of" ["shaped"] yJ) (D_is_compared:Cal P w K mg base 30 "is_compared" ["program", "kinds", "thing"] (Ea K)):bj P w K mg base CX0 31 f fd ["program", "kinds", "thing"] (FD K):=by
 obtain ⟨g_inner_of,gd_inner_of,G_inner_of,b_inner_of,k_inner_of,m_inner_of⟩:=D_inner_of.ex
 obtain ⟨g_is_compared,gd_is_compared,G_is_compared,b_is_compared,k_is_compared,m_is_compared⟩:=D_is_compared.ex
 obtain ⟨g_is_shaped,gd_is_shaped,G_is_shaped,b_is_shaped,k_is_shaped,m_is_shaped⟩:=D_is_shaped.ex
 obtain ⟨tC,mC⟩:=mCx
 refine F.ok cz (fun vs H Q EX h=>?_) (fun cdv A outer s H vs Q EX hr h=>?_)
 ·obtain ⟨v,kk,u,c,R,Vs,rfl,_⟩:=h
  rfl
 obtain ⟨v,kk,u,c0,R,Vs,rfl,hv,hlk,hkk,hnd,hu,hdp,hok,hc,q⟩:=h
 refine ⟨_,(@am _ _ _ _ _ (@aM _ _ 3 _ _ _ _ cz.nd rfl (Or.inl rfl) (@bo _ _ _ _ (@ad _ _ _ _ _ (pv 2) ah (ac rfl))) (aD rfl) (.inr rfl)) (@am _ _ _ _ _ (@aM _ _ 4 _ _ _ _ cz.nd rfl (Or.inl rfl) ak (aD rfl) (.inr rfl)) (@am _ _ _ _ _ (ie PassesOwn.never (jt (pv 3) (fun _=>rfl)) (@am _ _ _ _ _ (@aM _ _ 5 _ _ _ _ cz.nd rfl (Or.inl rfl) (mK PySem.F.plainAttrs_list PySem.F.slot_list_pop PySem.F.type_list_pop lX (pv 3)) (aD rfl) (.inr rfl)) (@am _ _ _ _ _ (wZ (i:=4) cz.nd rfl (Or.inl rfl) ak uH) (@am _ _ _ _ _ (@aR _ _ _ _ _ _ _ _ (PW.pt (cw (@az _ _ _ _ _ _ _ _ gu (pv 4) (bv (v:=.int 6) rfl mC ⟨_,rfl⟩) (aG _)) (cr (bE (bt (@aq _ _ _ _ _ _ _ _ _ _ _ _ _ _ _ _ G_is_shaped (hr.mono (by omega)) rfl m_is_shaped k_is_shaped b_is_shaped .nil aC (@ad _ _ _ _ _ (pv 5) (@ad _ _ _ _ _ au ah (ac rfl)) (ac rfl)) (by decide) (ac rfl) (aj rfl))))))) (@ap _ _ _ (@ay _ _ _ _ bP)) aF) (@ap _ _ _ (@aR _ _ _ _ _ _ _ _ (@az _ _ _ _ _ _ _ _ jB (@aA _ _ _ _ _ _ _ aI (pv 5) ak (fun _ _=>rfl)) (@aT _ _ _ _ _ (@ad _ _ _ _ _ au (@ad _ _ _ _ _ au ah (ac rfl)) (ac rfl))) rfl) (@ap _ _ _ (@cM _ _ _ _ (@fG _ _ _ _ _ _ _ _ _ _ _ _ PySem.F.plainAttrs_list PySem.F.slot_list_extend PySem.F.type_list_extend dA (pv 3) (@ad _ _ _ _ _ (@aq _ _ _ _ _ _ _ _ _ _ _ _ _ _ _ _ G_inner_of (hr.mono (by omega)) rfl m_inner_of k_inner_of b_inner_of .nil aC (@ad _ _ _ _ _ (pv 5) ah (ac rfl)) (by decide) (ac rfl) (aj rfl)) ah (ac rfl)) rfl (du rfl rfl) rfl (ac rfl) (aj rfl)) (aD rfl))) (@ap _ _ _ (@aR _ _ _ _ _ _ _ _ (bE (bt (@aK _ _ _ _ _ _ _ _ _ (gY rfl) rfl T.all tI (@ad _ _ _ _ _ (bH (N':=eT) (ρ:=[none,some 0,some 1]) (m:=1) (bI.of (fs:=defScope cW) (N:=gX) rfl rfl (by decide +kernel)) rfl (dD (aq G_inner_of (hr.mono (by omega)) rfl m_inner_of k_inner_of b_inner_of .nil aC (ad (pv 5) ah))) (fun _ _ _ _=>(aH (i:=0) iS rfl (Or.inl rfl))) (fun _ _ _ _=>bC) (fun _ _ _ _=>(aq G_is_compared (hr.mono (by omega)) rfl m_is_compared k_is_compared b_is_compared .nil aC (ad (pv 1) (ad (pv 2) (ad (pv 0) ah)))))) ah (ac rfl)) (by decide) (by decide) (ac rfl) (aj rfl)))) (@ap _ _ _ (@ay _ _ _ _ bP)) aF)))))))) (@ap _ _ _ (@ay _ _ _ _ bP))))),?_⟩
 refine ⟨_,rfl,(by show 1≤sizeLine; decide),fun l hl=>?_⟩
 have g0:=ao hl (.lst [u])
 have hl0:(upd H l (.lst [u])) l=some (.lst [u]):=ag
 refine ⟨Hf K R Vs v u kk l (upd H l (.lst [u])),⟨_,0,[u],[c0],none,rfl,Ext.refl _ _,hl0,.cons (hu.mono (av g0)) .nil,(fun x hx=>by rw [List.mem_singleton.mp hx]; exact ⟨hok,hdp⟩),rfl,by simp [cnC]; exact hc⟩,?_⟩
 rintro m σ H' ⟨n,ys,cs,m5,rfl,x1,hy,dy,oks,em,ez⟩
 refine ⟨_,rfl,_,.inl ⟨ys,SqL.of hy,rfl⟩,?_⟩
 refine aE (fun cc=>?_) (fun cc=>?_)
 ·obtain ⟨zs,y,rfl⟩:∃ zs y,ys=zs++[y]:=by
   rcases List.eq_nil_or_concat ys with rfl | ⟨zs,y,e⟩
   ·exact absurd cc (by decide)
   ·exact ⟨zs,y,by rw [e,List.concat_eq_append]⟩
  obtain ⟨cs1,c1,rfl⟩:∃ cs1 c1,cs=cs1++[c1]:=by
   rcases List.eq_nil_or_concat cs with rfl | ⟨cs1,c1,e⟩
   ·have:=dy.len; simp at this
   ·exact ⟨cs1,c1,by rw [e,List.concat_eq_append]⟩
  rw [List.map_append] at dy
  obtain ⟨q1,q2,eq,dz,d1⟩:=dy.snoc_inv
  obtain ⟨rfl,e2⟩:=List.append_inj' eq (by simp)
  obtain rfl:C.d c1=q2:=by simpa using e2
  rw [lC] at em ez
  simp only [cnC,Nat.add_zero] at em ez
  refine ⟨fun σ' H'=>∃ m',m'<m∧Hf K R Vs v u kk l (upd H l (.lst [u])) m' σ' H',fun _ _ z=>z,?_⟩
  refine ⟨_,rfl,.inl ⟨rfl,_,SqL.of hy⟩,l,_,y,rfl,rfl,hy,by simp,?_⟩
  rw [List.dropLast_concat]
  have kT:Tk H' (upd H' l (.lst zs)):=cQ hy _
  have x2:Ext l (upd H l (.lst [u])) (upd H' l (.lst zs)):=x1.trans Ext.upd
  have hy2:(upd H' l (.lst zs)) l=some (.lst zs):=ag
  have dz2:=dz.mono kT
  have d2:=d1.mono kT
  generalize hH:(upd H' l (.lst zs))=H2 at x2 hy2 dz2 d2
  have hcn:=c1.cnt_inner
  obtain ⟨ok1,dp1⟩:=oks c1 (by simp)
  have oks1:∀ x∈cs1,OkC R Vs x∧x.d.depth≤23:=fun x hx=>oks x (List.mem_append.mpr (.inl hx))
  obtain ⟨a,z,rs,ps,L,rfl,ha,hsh,hli,hm,lp,lL,hp,hv1⟩:=CW d2
  refine ⟨_,rfl,_,_,rfl,rfl,?_⟩
  have ec:(n:Int)+1=((n+1:Nat):Int):=by omega
  generalize hn':n+1=n' at ec
  dsimp only
  rw [ec]
  refine ⟨_,rfl,_,_,rfl,rfl,_,rfl,?_⟩
  refine aE (fun c=>absurd (of_decide_eq_true c) (by omega)) (fun c=>?_)
  refine ⟨_,rfl,a,z,rs, "condition",rfl,ha,hsh,.inl hli,_,rfl,bL ?_⟩
  have lz:=dz2.len
  rw [List.length_map] at lz
  have cl:=yb cs1
  have sm:aZ H H2:=jT hl x2
  refine ⟨_,rfl,a,_,_,_,rfl,rfl,SqT.of ha,at0 _ _,(by show 2≤sizeLine; decide),fun pl hpl=>⟨pl,_,rfl,.inr (SqT.of ag),rfl,rfl,_,rfl,?_⟩⟩
  have g3:=ao hpl (.tup [.str "less",.str "same"])
  have einV:inV (.str z) [.str "less",.str "same"]=((Str.ofString "less"==z)||(Str.ofString "same"==z)):=by simp [inV,eqV]
  rcases hv1 with ⟨x1',x2',e1,e2,rfl,hz,hcc,dx1,dx2⟩ | ⟨⟨hz1,hz2⟩,dL⟩
  ·obtain ⟨⟨o1,o2,o3,o4,o5,o6⟩,o7,o8⟩:=C.ls hcc ok1 dp1
   refine aE (fun c=>absurd c ?_) (fun c=>?_)
   ·rcases hz with rfl | rfl<;>decide +kernel
   refine ⟨_,rfl,a,z,rs,rfl,g3 _ _ ha,.inl ⟨ps,_,hm,lp,lL,hp,fun r H4 g4 hr0 hr4=>⟨r,rfl,⟨_,SqL.of hr4⟩,?_⟩⟩⟩
   have G4:=(sm.trans g3).trans g4
   refine fJ (xs:=[x1',x2']) 2 rfl (by omega) (fun i acc H5=>aZ H4 H5∧acc=(List.replicate i true).map V.bl) ⟨aZ.refl _,rfl⟩ (fun i acc H5 p=>SqL.of (p.1 _ _ hr4)) (fun i acc H5 x hi la hx p=>?_) (fun acc H5 p la D hD=>?_)
   ·obtain ⟨g5,rfl⟩:=p
    have ga:=(g3.trans g4).trans g5
    have gh:=G4.trans g5
    refine ⟨⟨rfl,rfl⟩,bD ?_⟩
    obtain ⟨e,ee,de,oe,ne,ce⟩:∃ e,e.d.depth≤23∧DT K H2 x e.d∧Ok R Vs e "num"∧e.na=true∧cD e.d≤12:=by
     match i,hx with
     | 0,hx=>cases hx; exact ⟨e1,o7,dx1,o1,o2,o5⟩
     | 1,hx=>cases hx; exact ⟨e2,o8,dx2,o3,o4,o6⟩
     | n+2,hx=>simp at hx
    refine ⟨_,rfl,_,rfl,_,rfl,v,kk,x,e,R,Vs,rfl,hv.mono (av gh),hlk,gh _ _ hkk,hnd,de.mono (av ga),ee,oe,ce,ne,fun H6 g6=>nxT (by omega) hi la ⟨g5.trans g6,?_⟩⟩
    rw [List.replicate_succ',List.map_append]
    rfl
   ·obtain ⟨g5,rfl⟩:=p
    refine ⟨D,_,rfl,SqL.of ag,_,rfl,bL ?_⟩
    have gz:=((g3.trans g4).trans g5).trans (ao hD (.lst ((List.replicate 2 true).map V.bl)))
    refine ⟨cnC cs1,by omega,n',zs,cs1,_,rfl,x2.trans (aZ.ext gz),gz _ _ hy2,dz2.mono (av gz),oks1,rfl,by omega⟩
  ·have nn:(!inV (.str z) [.str "less",.str "same"])=true:=by
    rw [einV]
    simp only [Bool.not_or,Bool.and_eq_true,Bool.not_eq_true',beq_eq_false_iff_ne]
    exact ⟨fun h=>hz1 h.symm,fun h=>hz2 h.symm⟩
   refine aE (fun c=>?_) (fun c=>absurd nn c)
   refine ⟨_,rfl,.inl ⟨rfl,_,SqL.of (g3 _ _ hy2)⟩,_,rfl,a,z,rs,rfl,g3 _ _ ha,.inl ⟨ps,L,hm,lp,lL,hp,fun r H4 g4 hr0 hr4=>?_⟩⟩
   have g5:=g3.trans g4
   have hy4:=g5 _ _ hy2
   have kL:=(av g5).trans (cQ hy4 (.lst (zs++L)))
   refine ⟨l,r,_,_,rfl,rfl,hy4,hr4,by rw [sizeLine_eq]; omega,?_⟩
   refine ⟨cnC (cs1++c1.inner),by rw [lC]; omega,n',zs++L,cs1++c1.inner,_,rfl,(x2.trans (aZ.ext g5)).trans Ext.upd,ag,by rw [List.map_append]; exact DTs.append (dz2.mono kL) (dL.mono kL),(fun x hx=>(List.mem_append.mp hx).elim (oks1 x) fun h=>⟨zu ok1 x h,C.dep_inner dp1 x h⟩),rfl,by rw [lC]; omega⟩
 ·exact q _ (jT hl x1)
end
open PySem L2
noncomputable def S.bods:S→List (List S)
 | .if_ _ a b=>[a,b]
 | .while_ _ a=>[a]
 | _=>[]
theorem EN (s:S):s.cnt=1+S.cnts s.bods.flatten:=by
 cases s<;>simp [S.cnt,S.bods,S.cnts,S.cnts_app,Nat.add_assoc]
noncomputable def Bt (b:List S):PyData:=.tuple (S.ds b)
theorem DTs.rev {K:Frag} {H:Hp} {xs:List V} {ds:List PyData} (h:DTs K H xs ds):DTs K H xs.reverse ds.reverse:=by
 induction xs generalizing ds with
 | nil=>cases h; exact .nil
 | cons x r ih =>
  cases h with
  | cons h1 h2=>rw [List.reverse_cons,List.reverse_cons]; exact DTs.snoc h1 (ih h2)
theorem ml {t:Addr} {H H1:Hp} {o:HO} (h:H t=none) (g:aZ H H1):aZ H (upd H1 t o):=fun b u q=>by rw [aV (aJ q h)]; exact g b u q
theorem CZ {K:Frag} {H:Hp} {u:V} {s:S} (h:DT K H u (S.d s)):∃ a z rs,u=.ref a∧H a=some (.tup (.str z::rs)) ∧
  ((∃ c' b1 b2 A B,z = "if"∧rs=[c',b1,b2]∧s.bods=[A,B]∧DT K H b1 (Bt A)∧DT K H b2 (Bt B))∨(∃ c' b1 A,z = "while"∧rs=[c',b1]∧s.bods=[A]∧DT K H b1 (Bt A))∨(z ≠ "if"∧z ≠ "while"∧s.bods=[])):=by
 cases s with
 | if_ c A B =>
  simp only [S.d] at h
  obtain ⟨a,xs,rfl,ha,d0⟩:=h.open
  obtain ⟨x0,r0,rfl,h0,d1⟩:=d0.open
  obtain rfl:=h0.str_inv
  obtain ⟨x1,r1,rfl,h1,d2⟩:=d1.open
  obtain ⟨x2,r2,rfl,h2,d3⟩:=d2.open
  obtain ⟨x3,r3,rfl,h3,d4⟩:=d3.open
  cases d4
  exact ⟨a,_,_,rfl,ha,.inl ⟨x1,x2,x3,A,B,rfl,rfl,rfl,h2,h3⟩⟩
 | while_ c A =>
  simp only [S.d] at h
  obtain ⟨a,xs,rfl,ha,d0⟩:=h.open
  obtain ⟨x0,r0,rfl,h0,d1⟩:=d0.open
  obtain rfl:=h0.str_inv
  obtain ⟨x1,r1,rfl,h1,d2⟩:=d1.open
  obtain ⟨x2,r2,rfl,h2,d3⟩:=d2.open
  cases d3
  exact ⟨a,_,_,rfl,ha,.inr (.inl ⟨x1,x2,A,rfl,rfl,rfl,h2⟩)⟩
 | let_ x e =>
  simp only [S.d] at h
  obtain ⟨a,xs,rfl,ha,d0⟩:=h.open
  obtain ⟨x0,r0,rfl,h0,d1⟩:=d0.open
  obtain rfl:=h0.str_inv
  exact ⟨a,_,_,rfl,ha,.inr (.inr ⟨by decide +kernel,by decide +kernel,rfl⟩)⟩
 | say y c =>
  simp only [S.d] at h
  obtain ⟨a,xs,rfl,ha,d0⟩:=h.open
  obtain ⟨x0,r0,rfl,h0,d1⟩:=d0.open
  obtain rfl:=h0.str_inv
  exact ⟨a,_,_,rfl,ha,.inr (.inr ⟨by decide +kernel,by decide +kernel,rfl⟩)⟩
 | call x y es =>
  simp only [S.d] at h
  obtain ⟨a,xs,rfl,ha,d0⟩:=h.open
  obtain ⟨x0,r0,rfl,h0,d1⟩:=d0.open
  obtain rfl:=h0.str_inv
  exact ⟨a,_,_,rfl,ha,.inr (.inr ⟨by decide +kernel,by decide +kernel,rfl⟩)⟩
 | give e =>
  simp only [S.d] at h
  obtain ⟨a,xs,rfl,ha,d0⟩:=h.open
  obtain ⟨x0,r0,rfl,h0,d1⟩:=d0.open
  obtain rfl:=h0.str_inv
  exact ⟨a,_,_,rfl,ha,.inr (.inr ⟨by decide +kernel,by decide +kernel,rfl⟩)⟩
theorem Ct {R:List Rec} (g:cG R) {k:Str} (h:k∈KS R):PyData.strOk k=true:=by
 rcases List.mem_append.mp h with h | h
 ·exact DK _ h
 ·obtain ⟨r,hr,rfl⟩:=List.mem_map.mp h
  obtain ⟨i,hi⟩:=List.mem_iff_getElem?.mp hr
  exact yn _ (g i r hi).1
theorem E.dep_ds:∀ {es:List E} {e:E},e∈es→e.d.depth≤PyData.depthAll (E.ds es)
 | a::r,e,h=>by
  simp only [E.ds,PyData.depthAll]
  rcases List.mem_cons.mp h with rfl | h
  ·omega
  ·have:=E.dep_ds h; omega
section
variable {P:Program} {w:World} {K:Frag} {mg:Str→Option Value} {base:Heap} {f g:Addr} {fd gd:FuncData}
noncomputable abbrev uj:List Str:=["statement"]
theorem pL:aO uj ["statement"] (defScope gK):=⟨rfl,rfl,rfl,by decide +kernel,rfl,by decide +kernel,by decide +kernel⟩
noncomputable def vR (K:Frag):Sp:=fun vs H Q _=>∃ u s,vs=[u]∧DT K H u (S.d s)∧∀ r ys H',aZ H H'→H r=none→H' r=some (.lst ys)→DTs K H' ys (s.bods.map Bt)→Q (.ref r) H'
theorem Ds (F:Fun K "bodies_of" "bodies_of" gK f fd):bj P w K mg base CX0 1 f fd ["statement"] (vR K):=by
 refine F.ok pL (fun vs H Q EX h=>?_) (fun cdv A outer s H vs Q EX hr h=>?_)
 ·obtain ⟨u,s,rfl,_⟩:=h
  rfl
 obtain ⟨u,s,rfl,hu,q⟩:=h
 obtain ⟨a,z,rs,rfl,ha,hv⟩:=CZ hu
 refine ⟨_,(@am _ _ _ _ _ (@aR _ _ _ _ _ _ _ _ (@az _ _ _ _ _ _ _ _ bg (@aA _ _ _ _ _ _ _ aI (pv 0) ak (fun _ _=>rfl)) au (aG _)) (@ap _ _ _ (@ay _ _ _ _ (@bo _ _ _ _ (@ad _ _ _ _ _ (@aA _ _ _ _ _ _ _ aI (pv 0) ak (fun _ _=>rfl)) (@ad _ _ _ _ _ (@aA _ _ _ _ _ _ _ aI (pv 0) ak (fun _ _=>rfl)) ah (ac rfl)) (ac rfl))))) aF) (@am _ _ _ _ _ (@aR _ _ _ _ _ _ _ _ (@az _ _ _ _ _ _ _ _ bg (@aA _ _ _ _ _ _ _ aI (pv 0) ak (fun _ _=>rfl)) au (aG _)) (@ap _ _ _ (@ay _ _ _ _ (@bo _ _ _ _ (@ad _ _ _ _ _ (@aA _ _ _ _ _ _ _ aI (pv 0) ak (fun _ _=>rfl)) ah (ac rfl))))) aF) (@ap _ _ _ (@ay _ _ _ _ (@bo _ _ _ _ ah))))),?_⟩
 refine ⟨_,rfl,a,_,_,_,rfl,rfl,SqT.of ha,at0 _ _,rfl,_,rfl,?_⟩
 rcases hv with ⟨c',b1,b2,A,B,rfl,rfl,hb,d1,d2⟩ | ⟨c',b1,A,rfl,rfl,hb,d1⟩ | ⟨z1,z2,hb⟩
 ·refine aE (fun c=>?_) (fun c=>absurd (by decide +kernel) c)
  refine ⟨_,rfl,a,_,_,_,rfl,rfl,SqT.of ha,rfl,_,rfl,a,_,_,_,rfl,rfl,SqT.of ha,rfl,(by show 2≤sizeLine; decide),fun l hl=>?_⟩
  exact q l _ _ (ao hl _) hl ag (by rw [hb]; exact .cons (d1.mono (bd hl _)) (.cons (d2.mono (bd hl _)) .nil))
 ·refine aE (fun c=>absurd c (by decide +kernel)) (fun c=>?_)
  refine ⟨_,rfl,a,_,_,_,rfl,rfl,SqT.of ha,rfl,rfl,_,rfl,?_⟩
  refine aE (fun c=>?_) (fun c=>absurd (by decide +kernel) c)
  refine ⟨_,rfl,a,_,_,_,rfl,rfl,SqT.of ha,rfl,(by show 1≤sizeLine; decide),fun l hl=>?_⟩
  exact q l _ _ (ao hl _) hl ag (by rw [hb]; exact .cons (d1.mono (bd hl _)) .nil)
 ·refine aE (fun c=>absurd (V.str.inj (of_decide_eq_true c)) z1) (fun c=>?_)
  refine ⟨_,rfl,a,_,_,_,rfl,rfl,SqT.of ha,at0 _ _,rfl,_,rfl,?_⟩
  refine aE (fun c=>absurd (V.str.inj (of_decide_eq_true c)) z2) (fun c=>?_)
  refine ⟨(by show 0≤sizeLine; decide),fun l hl=>?_⟩
  exact q l _ _ (ao hl _) hl ag (by rw [hb]; exact .nil)
noncomputable abbrev ke:List Str:=["program", "kinds", "statement", "function", "told"]
noncomputable abbrev jx:List Str:=["param"]
theorem nr:jx.Nodup:=by decide +kernel
noncomputable abbrev jS:List Str:=["e", "program", "kinds"]
theorem nV:jS.Nodup:=by decide +kernel
theorem iV:aO ke ["program", "kinds", "statement"] (defScope fF):=⟨rfl,rfl,rfl,by decide +kernel,rfl,by decide +kernel,by decide +kernel⟩
noncomputable def BF (K:Frag):Sp:=fun vs H Q _=>∃ v kk u R FS Vs x fn es F,vs=[v,.ref kk,u]∧jU K H v R FS∧(FS.map (·.1.1)).Nodup∧gJ R∧H kk=some (.dK (sX Vs))∧(Vs.map (·.1)).Nodup∧DT K H u (S.d (.call x fn es))∧(S.d (.call x fn es)).depth≤23 ∧
 F∈FS∧F.1.1=fn∧(x,F.1.2.2.2)∈Vs∧F.1.2.1.length≤10∧(∀ p∈F.1.2.1,PyData.strOk p.2=true)∧OkL R Vs es (F.1.2.1.map (·.2))∧(∀ e∈es,cD e.d≤12)∧∀ H',aZ H H'→Q (.bl true) H'
theorem Dg (F:Fun K "is_call" "is_call" fF f fd) (D_function_of:Cal P w K mg base 1 "function_of" ["program", "f"] (iK K)) (D_named_kind:Cal P w K mg base 1 "named_kind" ["kinds", "thing"] lr) (D_expression_kind:Cal P w K mg base 29 "expression_kind" ["program", "kinds", "thing"] (Dm K)):bj P w K mg base CX0 30 f fd ["program", "kinds", "statement"] (BF K):=by
 obtain ⟨g_expression_kind,gd_expression_kind,G_expression_kind,b_expression_kind,k_expression_kind,m_expression_kind⟩:=D_expression_kind.ex
 obtain ⟨g_named_kind,gd_named_kind,G_named_kind,b_named_kind,k_named_kind,m_named_kind⟩:=D_named_kind.ex
 obtain ⟨g_function_of,gd_function_of,G_function_of,b_function_of,k_function_of,m_function_of⟩:=D_function_of.ex
 refine F.ok iV (fun vs H Q EX h=>?_) (fun cdv A outer s H vs Q EX hr h=>?_)
 ·obtain ⟨v,kk,u,R,FS,Vs,x,fn,es,F,rfl,_⟩:=h
  rfl
 obtain ⟨v,kk,u,R,FS,Vs,x,fn,es,FF,rfl,hv,hfn,hlk,hkk,hnd,hu,hdp,hF,hz,hx,hl10,hso,hok,hc,q⟩:=h
 simp only [S.d] at hu
 obtain ⟨a,xs,rfl,ha,d0⟩:=hu.open
 obtain ⟨x0,r0,rfl,h0,d1⟩:=d0.open
 obtain rfl:=h0.str_inv
 obtain ⟨x1,r1,rfl,h1,d2⟩:=d1.open
 obtain rfl:=h1.str_inv
 obtain ⟨x2,r2,rfl,h2,d3⟩:=d2.open
 obtain rfl:=h2.str_inv
 obtain ⟨x3,r3,rfl,h3,d4⟩:=d3.open
 cases d4
 obtain ⟨al,ys,rfl,hal,dys⟩:=h3.open
 have ly:=dys.len
 rw [E.ds_len] at ly
 have lk:=hok.len
 rw [List.length_map] at lk
 have hde:∀ e∈es,e.d.depth≤23:=fun e he=>by
  have:=E.dep_ds he
  simp only [S.d,PyData.depth,PyData.depthAll] at hdp
  omega
 refine ⟨_,(@am _ _ _ _ _ (@aM _ _ 3 _ _ _ _ iV.nd rfl (Or.inl rfl) (@aq _ _ _ _ _ _ _ _ _ _ _ _ _ _ _ _ G_function_of (hr.mono (by omega)) rfl m_function_of k_function_of b_function_of .nil aC (@ad _ _ _ _ _ (pv 0) (@ad _ _ _ _ _ (@aA _ _ _ _ _ _ _ aI (pv 2) ak (fun _ _=>rfl)) ah (ac rfl)) (ac rfl)) (by decide) (ac rfl) (aj rfl)) (aD rfl) (.inr rfl)) (@am _ _ _ _ _ (@aR _ _ _ _ _ _ _ _ (PW.pt (cw (@az _ _ _ _ _ _ _ _ xg (pv 3) cu (aG _)) (cr (@az _ _ _ _ _ _ _ _ oW (@aq _ _ _ _ _ _ _ _ _ _ _ _ _ _ _ _ G_named_kind (hr.mono (by omega)) rfl m_named_kind k_named_kind b_named_kind .nil aC (@ad _ _ _ _ _ (pv 1) (@ad _ _ _ _ _ (@aA _ _ _ _ _ _ _ aI (pv 2) ak (fun _ _=>rfl)) ah (ac rfl)) (ac rfl)) (by decide) (ac rfl) (aj rfl)) (@aA _ _ _ _ _ _ _ aI (pv 3) ak (fun _ _=>rfl)) (aG _))))) (@ap _ _ _ (@ay _ _ _ _ bP)) aF) (@am _ _ _ _ _ (dW (i:=4) (N':=jS) (ρ:=[none,some 0,some 1]) (m:=1) (bI.of (fs:=defScope fF) (N:=ke) rfl rfl (by decide +kernel)) iV.nd rfl (Or.inl rfl) rfl (bJ (aA aI (pv 2) ak (fun _ _=>rfl))) (fun _ _ _ _=>(aH (i:=0) nV rfl (Or.inl rfl))) (fun _ _ _ _=>bC) (fun _ _ _ _=>(aq G_expression_kind (hr.mono (by omega)) rfl m_expression_kind k_expression_kind b_expression_kind .nil aC (ad (pv 1) (ad (pv 2) (ad (pv 0) ah)))))) (@ap _ _ _ (@ay _ _ _ _ (@bW _ _ _ _ _ _ _ _ (uS hr.units) (pv 4) (bH (N':=jx) (ρ:=[none]) (m:=1) (bI.of (fs:=defScope fF) (N:=ke) rfl rfl (by decide +kernel)) rfl (bJ (aA aI (pv 3) ak (fun _ _=>rfl))) (fun _ _ _ _=>(aH (i:=0) nr rfl (Or.inl rfl))) (fun _ _ _ _=>bC) (fun _ _ _ _=>(aA (cx (K:=K) rfl) (pv 0) ak (fun _ _=>rfl)))) (aG _))))))),?_⟩
 refine ⟨_,rfl,_,rfl,a,_,_,_,rfl,rfl,SqT.of ha,rfl,v,fn,R,FS,FF,rfl,hv,hfn,hF,hz,fun fu hfu=>?_⟩
 obtain ⟨fa,p,p',bb,xs',rfl,hfa,⟨pa,px,rfl,hpa,ppx⟩,_⟩:=hfu
 refine ⟨_,rfl,rfl,_,rfl,bL ?_⟩
 refine ⟨_,rfl,_,rfl,a,_,_,_,rfl,rfl,SqT.of ha,rfl,kk,x,FF.1.2.2.2,Vs,rfl,hkk,hnd,hx,_,rfl,fa,_,_,_,rfl,rfl,SqT.of hfa,rfl,rfl,_,rfl,?_⟩
 refine aE (fun c=>absurd c (by simp)) (fun c=>?_)
 refine ⟨_,rfl,a,_,_,_,rfl,rfl,SqT.of ha,rfl,al,rfl,⟨ys,SqT.of hal⟩,bO (xs:=ys) ys.length rfl (by omega) (fun i acc H'=>aZ H H'∧acc=((FF.1.2.1.map (·.2)).take i).map V.str) ⟨aZ.refl _,rfl⟩ (fun i acc H' p=>SqT.of (p.1 _ _ hal)) (fun i acc H' x hi la hx p=>?_) (fun acc H' p la D hD=>?_)⟩
 ·obtain ⟨g1,rfl⟩:=p
  obtain ⟨e,he,de⟩:=xR dys hx
  obtain ⟨k,hk,oe⟩:=hok.at he
  have hm:=List.mem_of_getElem? he
  refine ⟨⟨rfl,rfl⟩,bD ⟨_,rfl,_,rfl,_,rfl,v,kk,x,e,R,Vs,k,rfl,hv.prog.mono (av g1),hlk,g1 _ _ hkk,hnd,de.mono (av g1),hde e hm,oe,hc e hm,fun H2 g2=>nxT (by omega) hi la ⟨g1.trans g2,?_⟩⟩⟩
  rw [List.take_add_one,hk,List.map_append]
  rfl
 obtain ⟨g1,rfl⟩:=p
 have lp:=Paired.length ppx
 rw [ly,lk,← List.length_map (f:=fun p:Fld=>p.2),List.take_length]
 have gD:=ao hD (.lst ((FF.1.2.1.map (·.2)).map V.str))
 have G2:=g1.trans gD
 dsimp only [iJ]
 refine ⟨_,rfl,_,rfl,fa,_,_,_,rfl,rfl,SqT.of (G2 _ _ hfa),rfl,pa,rfl,⟨px,SqT.of (G2 _ _ hpa)⟩,bO (xs:=px) px.length rfl (by omega) (fun i acc H3=>H3=_∧acc=((FF.1.2.1.map (·.2)).take i).map V.str) ⟨rfl,rfl⟩ (fun i acc H3 p=>by rw [p.1]; exact SqT.of (G2 _ _ hpa)) (fun i acc H3 x hi la hx p=>?_) (fun acc H3 p la D2 hD2=>?_)⟩
 ·obtain ⟨rfl,rfl⟩:=p
  obtain ⟨fl,hfl,hfa2⟩:=aY ppx i x hx
  obtain ⟨c,rfl,hc⟩:=hfa2.mono (av G2)
  refine ⟨⟨rfl,rfl⟩,bD ⟨_,rfl,c,_,_,_,rfl,rfl,SqT.of hc,rfl,nxT (by omega) hi la ⟨rfl,?_⟩⟩⟩
  rw [List.take_add_one,List.getElem?_map,hfl,List.map_append]
  rfl
 obtain ⟨rfl,rfl⟩:=p
 rw [lp,← List.length_map (f:=fun p:Fld=>p.2),List.take_length]
 have gE:=ao hD2 (.lst ((FF.1.2.1.map (·.2)).map V.str))
 have so:∀ z∈FF.1.2.1.map (·.2),PyData.strOk z=true:=fun z hz=>by
  obtain ⟨p,hp2,rfl⟩:=List.mem_map.mp hz
  exact hso p hp2
 refine ⟨.list ((FF.1.2.1.map (·.2)).map PyData.str),.list ((FF.1.2.1.map (·.2)).map PyData.str),.lst (SqL.of (gE _ _ ag)) (bx _),.lst (SqL.of ag) (bx _),(lj so).1,(lj so).1,?_⟩
 show Q (.bl (PyData.eqv _ _)) _
 rw [(sf so).1]
 exact q _ (G2.trans gE)
end
end K6
namespace L2
open PySem
theorem zw {X:Cx} {K:Frag} (h:X.K=K):eX X (.builtin "isinstance") (Eu K):=h ▸ bQ
end L2
namespace K6
open PySem L2
section
variable {P:Program} {w:World} {K:Frag} {mg:Str→Option Value} {base:Heap} {f g:Addr} {fd gd:FuncData}
theorem tT {bs:List (List S)} {H3:Hp} {r:Addr} {ys:List V} {Z:List V→Hp→Prop} (db:DTs K H3 ys (bs.map Bt)) (hb:bs.length≤2) (hr3:H3 r=some (.lst ys)) (q:Z ((List.replicate ys.length true).map V.bl) H3) :
  iE (Itl K r) 1 (iJ 0) yk (tCB (Eu K) (Br (Dq 0) (Br (tC (.ty "tuple")) Hd))) [none] Z H3:=by
 have ly:=db.len
 rw [List.length_map] at ly
 refine fJ (xs:=ys) ys.length rfl (by omega) (fun i acc H4=>H4=H3∧acc=(List.replicate i true).map V.bl) ⟨rfl,rfl⟩ (fun i acc H4 p=>by rw [p.1]; exact SqL.of hr3) (fun i acc H4 x hi la hx p=>?_) (fun acc H4 p la=>?_)
 ·obtain ⟨rfl,rfl⟩:=p
  obtain ⟨d,hd,dx⟩:=db.get i x hx
  rw [List.getElem?_map] at hd
  obtain ⟨B,hB,rfl⟩:=Option.map_eq_some_iff.mp hd
  obtain ⟨p,xp,rfl,hp,dp⟩:=DT.open dx
  refine ⟨⟨rfl,rfl⟩,bD ⟨_,rfl,_,_,_,true,rfl,.tup hp,rfl,nxT (by omega) hi la ⟨rfl,?_⟩⟩⟩
  rw [List.replicate_succ',List.map_append]
  rfl
 ·obtain ⟨rfl,rfl⟩:=p
  exact q
noncomputable abbrev om:List Str:=["program", "function", "thing", "kinds", "word", "kind"]
noncomputable abbrev jh:List Str:=["body"]
theorem nB:jh.Nodup:=by decide +kernel
theorem gm:aO om ["program", "function", "thing"] (defScope iA):=⟨rfl,rfl,rfl,by decide +kernel,rfl,by decide +kernel,by decide +kernel⟩
noncomputable def Af (K:Frag):Sp:=fun vs H Q _=>∃ v fu u R FS F s,vs=[v,fu,u]∧jU K H v R FS∧(FS.map (·.1.1)).Nodup∧gJ R∧eE K H fu F∧((F.1.2.1++F.1.2.2.1).map (·.1)).Nodup∧(F.1.2.1++F.1.2.2.1).length≤5 ∧
 (∀ F'∈FS,F'.1.2.1.length≤10∧∀ p∈F'.1.2.1,PyData.strOk p.2=true)∧DT K H u (S.d s)∧s.d.depth≤23∧OkS R (FS.map (·.1)) (F.1.2.1++F.1.2.2.1) F.1.2.2.2 s∧∀ H',aZ H H'→Q (.bl true) H'
theorem Cz (T:G0 mg) (F:Fun K "is_line" "is_line" iA f fd) (D_is_shaped:Cal P w K mg base 1 "is_shaped" ["thing", "sort"] jd) (D_variable_kinds:Cal P w K mg base 1 "variable_kinds" ["function"] (Ac K)) (D_named_kind:Cal P w K mg base 1 "named_kind" ["kinds", "thing"] lr)
  (D_expression_kind:Cal P w K mg base 29 "expression_kind" ["program", "kinds", "thing"] (Dm K)) (D_is_call:Cal P w K mg base 30 "is_call" ["program", "kinds", "statement"] (BF K)) (D_is_name:Cal P w K mg base 1 "is_name" ["thing"] mU) (D_is_condition:Cal P w K mg base 31 "is_condition" ["program", "kinds", "thing"] (FD K))
  (D_bodies_of:Cal P w K mg base 1 "bodies_of" ["statement"] (vR K)):bj P w K mg base CX0 32 f fd ["program", "function", "thing"] (Af K):=by
 obtain ⟨g_bodies_of,gd_bodies_of,G_bodies_of,b_bodies_of,k_bodies_of,m_bodies_of⟩:=D_bodies_of.ex
 obtain ⟨g_is_condition,gd_is_condition,G_is_condition,b_is_condition,k_is_condition,m_is_condition⟩:=D_is_condition.ex
 obtain ⟨g_is_name,gd_is_name,G_is_name,b_is_name,k_is_name,m_is_name⟩:=D_is_name.ex
 obtain ⟨g_is_call,gd_is_call,G_is_call,b_is_call,k_is_call,m_is_call⟩:=D_is_call.ex
 obtain ⟨g_expression_kind,gd_expression_kind,G_expression_kind,b_expression_kind,k_expression_kind,m_expression_kind⟩:=D_expression_kind.ex
 obtain ⟨g_named_kind,gd_named_kind,G_named_kind,b_named_kind,k_named_kind,m_named_kind⟩:=D_named_kind.ex
 obtain ⟨g_variable_kinds,gd_variable_kinds,G_variable_kinds,b_variable_kinds,k_variable_kinds,m_variable_kinds⟩:=D_variable_kinds.ex
 obtain ⟨g_is_shaped,gd_is_shaped,G_is_shaped,b_is_shaped,k_is_shaped,m_is_shaped⟩:=D_is_shaped.ex
 refine F.ok gm (fun vs H Q EX h=>?_) (fun cdv A outer s H vs Q EX hr h=>?_)
 ·obtain ⟨v,fu,u,R,FS,F,s,rfl,_⟩:=h
  rfl
 obtain ⟨v,fu,u,R,FS,F,s,rfl,hp,hfn,hlk,hfu,hvn,h5,hps,hu,hdp,hok,q⟩:=h
 refine ⟨_,(@am _ _ _ _ _ (@aR _ _ _ _ _ _ _ _ (bE (bt (@aq _ _ _ _ _ _ _ _ _ _ _ _ _ _ _ _ G_is_shaped (hr.mono (by omega)) rfl m_is_shaped k_is_shaped b_is_shaped .nil aC (@ad _ _ _ _ _ (pv 2) (@ad _ _ _ _ _ au ah (ac rfl)) (ac rfl)) (by decide) (ac rfl) (aj rfl)))) (@ap _ _ _ (@ay _ _ _ _ bP)) aF) (@am _ _ _ _ _ (@aM _ _ 3 _ _ _ _ gm.nd rfl (Or.inl rfl) (@aq _ _ _ _ _ _ _ _ _ _ _ _ _ _ _ _ G_variable_kinds (hr.mono (by omega)) rfl m_variable_kinds k_variable_kinds b_variable_kinds .nil aC (@ad _ _ _ _ _ (pv 1) ah (ac rfl)) (by decide) (ac rfl) (aj rfl)) (aD rfl) (.inr rfl)) (@am _ _ _ _ _ (@aM _ _ 4 _ _ _ _ gm.nd rfl (Or.inl rfl) (@aA _ _ _ _ _ _ _ aI (pv 2) ak (fun _ _=>rfl)) (aD rfl) (.inr rfl)) (@am _ _ _ _ _ (@aR _ _ _ _ _ _ _ _ (@az _ _ _ _ _ _ _ _ bg (pv 4) au (aG _)) (@am _ _ _ _ _ (@aM _ _ 5 _ _ _ _ gm.nd rfl (Or.inl rfl) (@aq _ _ _ _ _ _ _ _ _ _ _ _ _ _ _ _ G_named_kind (hr.mono (by omega)) rfl m_named_kind k_named_kind b_named_kind .nil aC (@ad _ _ _ _ _ (pv 3) (@ad _ _ _ _ _ (@aA _ _ _ _ _ _ _ aI (pv 2) ak (fun _ _=>rfl)) ah (ac rfl)) (ac rfl)) (by decide) (ac rfl) (aj rfl)) (aD rfl) (.inr rfl)) (@ap _ _ _ (@ay _ _ _ _ (dw (@bW _ _ _ _ _ _ _ _ qr (pv 5) cu (aG _)) (cS (@bW _ _ _ _ _ _ _ _ bg (@aq _ _ _ _ _ _ _ _ _ _ _ _ _ _ _ _ G_expression_kind (hr.mono (by omega)) rfl m_expression_kind k_expression_kind b_expression_kind .nil aC (@ad _ _ _ _ _ (pv 0) (@ad _ _ _ _ _ (pv 3) (@ad _ _ _ _ _ (@aA _ _ _ _ _ _ _ aI (pv 2) ak (fun _ _=>rfl)) ah (ac rfl)) (ac rfl)) (ac rfl)) (by decide) (ac rfl) (aj rfl)) (pv 5) (aG _))))))) aF) (@am _ _ _ _ _ (@aR _ _ _ _ _ _ _ _ (@az _ _ _ _ _ _ _ _ bg (pv 4) au (aG _)) (@ap _ _ _ (@ay _ _ _ _ (@bW _ _ _ _ _ _ _ _ bg (@aq _ _ _ _ _ _ _ _ _ _ _ _ _ _ _ _ G_expression_kind (hr.mono (by omega)) rfl m_expression_kind k_expression_kind b_expression_kind .nil aC (@ad _ _ _ _ _ (pv 0) (@ad _ _ _ _ _ (pv 3) (@ad _ _ _ _ _ (@aA _ _ _ _ _ _ _ aI (pv 2) ak (fun _ _=>rfl)) ah (ac rfl)) (ac rfl)) (ac rfl)) (by decide) (ac rfl) (aj rfl)) (@aA _ _ _ _ _ _ _ aI (pv 1) ak (fun _ _=>rfl)) (aG _)))) aF) (@am _ _ _ _ _ (@aR _ _ _ _ _ _ _ _ (@az _ _ _ _ _ _ _ _ bg (pv 4) au (aG _)) (@ap _ _ _ (@ay _ _ _ _ (@aq _ _ _ _ _ _ _ _ _ _ _ _ _ _ _ _ G_is_call (hr.mono (by omega)) rfl m_is_call k_is_call b_is_call .nil aC (@ad _ _ _ _ _ (pv 0) (@ad _ _ _ _ _ (pv 3) (@ad _ _ _ _ _ (pv 2) ah (ac rfl)) (ac rfl)) (ac rfl)) (by decide) (ac rfl) (aj rfl)))) aF) (@am _ _ _ _ _ (@aR _ _ _ _ _ _ _ _ (@az _ _ _ _ _ _ _ _ bg (pv 4) au (aG _)) (@ap _ _ _ (@ay _ _ _ _ (dw (@aq _ _ _ _ _ _ _ _ _ _ _ _ _ _ _ _ G_is_name (hr.mono (by omega)) rfl m_is_name k_is_name b_is_name .nil aC (@ad _ _ _ _ _ (@aA _ _ _ _ _ _ _ aI (pv 2) ak (fun _ _=>rfl)) ah (ac rfl)) (by decide) (ac rfl) (aj rfl)) (cS (@aq _ _ _ _ _ _ _ _ _ _ _ _ _ _ _ _ G_is_condition (hr.mono (by omega)) rfl m_is_condition k_is_condition b_is_condition .nil aC (@ad _ _ _ _ _ (pv 0) (@ad _ _ _ _ _ (pv 3) (@ad _ _ _ _ _ (@aA _ _ _ _ _ _ _ aI (pv 2) ak (fun _ _=>rfl)) ah (ac rfl)) (ac rfl)) (ac rfl)) (by decide) (ac rfl) (aj rfl)))))) aF) (@ap _ _ _ (@ay _ _ _ _ (dw (@aq _ _ _ _ _ _ _ _ _ _ _ _ _ _ _ _ G_is_condition (hr.mono (by omega)) rfl m_is_condition k_is_condition b_is_condition .nil aC (@ad _ _ _ _ _ (pv 0) (@ad _ _ _ _ _ (pv 3) (@ad _ _ _ _ _ (@aA _ _ _ _ _ _ _ aI (pv 2) ak (fun _ _=>rfl)) ah (ac rfl)) (ac rfl)) (ac rfl)) (by decide) (ac rfl) (aj rfl)) (cS (@aK _ _ _ _ _ _ _ _ _ (gY rfl) rfl T.all tI (@ad _ _ _ _ _ (bH (N':=jh) (ρ:=[none]) (m:=1) (bI.of (fs:=defScope iA) (N:=om) rfl rfl (by decide +kernel)) rfl (dD (aq G_bodies_of (hr.mono (by omega)) rfl m_bodies_of k_bodies_of b_bodies_of .nil aC (ad (pv 2) ah))) (fun _ _ _ _=>(aH (i:=0) nB rfl (Or.inl rfl))) (fun _ _ _ _=>bC) (fun _ _ _ _=>(aK (zw (K:=K) rfl) rfl T.isi dS (ad (pv 0) (ad (cm (v:=.ty "tuple") rfl T.tuple cb rfl) ah))))) ah (ac rfl)) (by decide) (by decide) (ac rfl) (aj rfl))))))))))))),?_⟩
 cases s with
 | let_ x e =>
  simp only [OkS] at hok
  obtain ⟨k,hx,oe,ce⟩:=hok
  simp only [S.d] at hu hdp
  obtain ⟨a,xs,rfl,ha,dx0⟩:=hu.open
  obtain ⟨x0,r0,rfl,h0,dx1⟩:=dx0.open
  obtain rfl:=h0.str_inv
  obtain ⟨x1,r1,rfl,h1,dx2⟩:=dx1.open
  obtain rfl:=h1.str_inv
  obtain ⟨x2,r2,rfl,h2,dx3⟩:=dx2.open
  cases dx3
  refine ⟨_,rfl,a,_,_, "statement",rfl,ha,(show (("let":Str),("statement":Str),(3:Int))∈SH4 by decide +kernel),.inl (by decide +kernel),_,rfl,bL ?_⟩
  refine ⟨_,rfl,fu,F,rfl,hfu,hvn,h5,fun kk H1 g1 hk=>?_⟩
  have ha1:=g1 _ _ ha
  have hp1:=hp.mono (av g1)
  refine ⟨_,rfl,a,_,_,_,rfl,rfl,SqT.of ha1,rfl,?_⟩
  refine ⟨_,rfl,rfl,_,rfl,?_⟩
  refine aE (fun c9=>?_) (fun c9=>absurd (by decide +kernel) c9)
  refine ⟨_,rfl,_,rfl,a,_,_,_,rfl,rfl,SqT.of ha1,rfl,kk,x,k,_,rfl,hk,hvn,hx,?_⟩
  refine ⟨_,rfl,rfl,_,rfl,?_⟩
  refine aE (fun c9=>?_) (fun c9=>absurd (by simp) c9)
  refine ⟨_,rfl,_,rfl,_,rfl,a,_,_,_,rfl,rfl,SqT.of ha1,rfl,v,kk,x2,e,R,_,k,rfl,hp1.prog,hlk,hk,hvn,h2.mono (av g1),by simp only [PyData.depth,PyData.depthAll] at hdp; omega,oe,ce,fun H2 g2=>⟨_,rfl,rfl,?_⟩⟩
  show Q (.bl (decide (V.str k=V.str k))) H2
  rw [decide_eq_true (rfl:V.str k=V.str k)]
  exact q _ (g1.trans g2)
 | give e =>
  simp only [OkS] at hok
  obtain ⟨oe,ce⟩:=hok
  simp only [S.d] at hu hdp
  obtain ⟨a,xs,rfl,ha,dx0⟩:=hu.open
  obtain ⟨x0,r0,rfl,h0,dx1⟩:=dx0.open
  obtain rfl:=h0.str_inv
  obtain ⟨x1,r1,rfl,h1,dx2⟩:=dx1.open
  cases dx2
  refine ⟨_,rfl,a,_,_, "statement",rfl,ha,(show (("give":Str),("statement":Str),(2:Int))∈SH4 by decide +kernel),.inl (by decide +kernel),_,rfl,bL ?_⟩
  refine ⟨_,rfl,fu,F,rfl,hfu,hvn,h5,fun kk H1 g1 hk=>?_⟩
  have ha1:=g1 _ _ ha
  have hp1:=hp.mono (av g1)
  refine ⟨_,rfl,a,_,_,_,rfl,rfl,SqT.of ha1,rfl,?_⟩
  refine ⟨_,rfl,rfl,_,rfl,?_⟩
  refine aE (fun c9=>absurd c9 (by decide +kernel)) (fun c9=>?_)
  refine ⟨_,rfl,rfl,_,rfl,?_⟩
  refine aE (fun c9=>?_) (fun c9=>absurd (by decide +kernel) c9)
  refine ⟨_,rfl,_,rfl,_,rfl,a,_,_,_,rfl,rfl,SqT.of ha1,rfl,v,kk,x1,e,R,_,_,rfl,hp1.prog,hlk,hk,hvn,h1.mono (av g1),by simp only [PyData.depth,PyData.depthAll] at hdp; omega,oe,ce,fun H2 g2=>?_⟩
  obtain ⟨fa,p1,p2,bb,xb,rfl,hfa,_⟩:=hfu
  refine ⟨_,rfl,fa,_,_,_,rfl,rfl,SqT.of (g2 _ _ (g1 _ _ hfa)),rfl,rfl,?_⟩
  show Q (.bl (decide (V.str F.1.2.2.2=V.str F.1.2.2.2))) H2
  rw [decide_eq_true (rfl:V.str F.1.2.2.2=V.str F.1.2.2.2)]
  exact q _ (g1.trans g2)
 | call x fn es =>
  simp only [OkS] at hok
  obtain ⟨h,hh,hz,hx,ol,cl⟩:=hok
  obtain ⟨F',hF',rfl⟩:=List.mem_map.mp hh
  have hu0:=hu
  have hdp0:=hdp
  simp only [S.d] at hu hdp
  obtain ⟨a,xs,rfl,ha,dx0⟩:=hu.open
  obtain ⟨x0,r0,rfl,h0,dx1⟩:=dx0.open
  obtain rfl:=h0.str_inv
  obtain ⟨x1,r1,rfl,h1,dx2⟩:=dx1.open
  obtain rfl:=h1.str_inv
  obtain ⟨x2,r2,rfl,h2,dx3⟩:=dx2.open
  obtain rfl:=h2.str_inv
  obtain ⟨x3,r3,rfl,h3,dx4⟩:=dx3.open
  obtain ⟨al,ys,rfl,hal,dys⟩:=h3.open
  cases dx4
  refine ⟨_,rfl,a,_,_, "statement",rfl,ha,(show (("call":Str),("statement":Str),(4:Int))∈SH4 by decide +kernel),.inr ⟨3,al,ys,by decide +kernel,rfl,hal⟩,_,rfl,bL ?_⟩
  refine ⟨_,rfl,fu,F,rfl,hfu,hvn,h5,fun kk H1 g1 hk=>?_⟩
  have ha1:=g1 _ _ ha
  have hp1:=hp.mono (av g1)
  refine ⟨_,rfl,a,_,_,_,rfl,rfl,SqT.of ha1,rfl,?_⟩
  refine ⟨_,rfl,rfl,_,rfl,?_⟩
  refine aE (fun c9=>absurd c9 (by decide +kernel)) (fun c9=>?_)
  refine ⟨_,rfl,rfl,_,rfl,?_⟩
  refine aE (fun c9=>absurd c9 (by decide +kernel)) (fun c9=>?_)
  refine ⟨_,rfl,rfl,_,rfl,?_⟩
  refine aE (fun c9=>?_) (fun c9=>absurd (by decide +kernel) c9)
  exact ⟨_,rfl,_,rfl,_,rfl,v,kk,.ref a,R,FS,_,x,fn,es,F',rfl,hp1,hfn,hlk,hk,hvn,hu0.mono (av g1),hdp0,hF',hz,hx,(hps F' hF').1,(hps F' hF').2,ol,cl,fun H2 g2=>q _ (g1.trans g2)⟩
 | say y c =>
  simp only [OkS] at hok
  obtain ⟨hy,oc,cc⟩:=hok
  simp only [S.d] at hu hdp
  obtain ⟨a,xs,rfl,ha,dx0⟩:=hu.open
  obtain ⟨x0,r0,rfl,h0,dx1⟩:=dx0.open
  obtain rfl:=h0.str_inv
  obtain ⟨x1,r1,rfl,h1,dx2⟩:=dx1.open
  obtain rfl:=h1.str_inv
  obtain ⟨x2,r2,rfl,h2,dx3⟩:=dx2.open
  cases dx3
  refine ⟨_,rfl,a,_,_, "statement",rfl,ha,(show (("say":Str),("statement":Str),(3:Int))∈SH4 by decide +kernel),.inl (by decide +kernel),_,rfl,bL ?_⟩
  refine ⟨_,rfl,fu,F,rfl,hfu,hvn,h5,fun kk H1 g1 hk=>?_⟩
  have ha1:=g1 _ _ ha
  have hp1:=hp.mono (av g1)
  refine ⟨_,rfl,a,_,_,_,rfl,rfl,SqT.of ha1,rfl,?_⟩
  refine ⟨_,rfl,rfl,_,rfl,?_⟩
  refine aE (fun c9=>absurd c9 (by decide +kernel)) (fun c9=>?_)
  refine ⟨_,rfl,rfl,_,rfl,?_⟩
  refine aE (fun c9=>absurd c9 (by decide +kernel)) (fun c9=>?_)
  refine ⟨_,rfl,rfl,_,rfl,?_⟩
  refine aE (fun c9=>absurd c9 (by decide +kernel)) (fun c9=>?_)
  refine ⟨_,rfl,rfl,_,rfl,?_⟩
  refine aE (fun c9=>?_) (fun c9=>absurd (by decide +kernel) c9)
  refine ⟨_,rfl,a,_,_,_,rfl,rfl,SqT.of ha1,rfl,y,rfl,hy,fun H2 g2=>⟨_,rfl,cO ?_⟩⟩
  have G2:=g1.trans g2
  exact ⟨_,rfl,_,rfl,_,rfl,a,_,_,_,rfl,rfl,SqT.of (g2 _ _ ha1),rfl,v,kk,x2,c,R,_,rfl,hp1.prog.mono (av g2),hlk,g2 _ _ hk,hvn,h2.mono (av G2),by simp only [PyData.depth,PyData.depthAll] at hdp; omega,oc,cc,fun H3 g3=>q _ (G2.trans g3)⟩
 | if_ c A B =>
  simp only [OkS] at hok
  obtain ⟨⟨oc,cc⟩,_⟩:=hok
  have hu0:=hu
  simp only [S.d] at hu hdp
  obtain ⟨a,xs,rfl,ha,dx0⟩:=hu.open
  obtain ⟨x0,r0,rfl,h0,dx1⟩:=dx0.open
  obtain rfl:=h0.str_inv
  obtain ⟨x1,r1,rfl,h1,dx2⟩:=dx1.open
  obtain ⟨x2,r2,rfl,h2,dx3⟩:=dx2.open
  obtain ⟨x3,r3,rfl,h3,dx4⟩:=dx3.open
  cases dx4
  refine ⟨_,rfl,a,_,_, "statement",rfl,ha,(show (("if":Str),("statement":Str),(4:Int))∈SH4 by decide +kernel),.inl (by decide +kernel),_,rfl,bL ?_⟩
  refine ⟨_,rfl,fu,F,rfl,hfu,hvn,h5,fun kk H1 g1 hk=>?_⟩
  have ha1:=g1 _ _ ha
  have hp1:=hp.mono (av g1)
  refine ⟨_,rfl,a,_,_,_,rfl,rfl,SqT.of ha1,rfl,?_⟩
  refine ⟨_,rfl,rfl,_,rfl,?_⟩
  refine aE (fun c9=>absurd c9 (by decide +kernel)) (fun c9=>?_)
  refine ⟨_,rfl,rfl,_,rfl,?_⟩
  refine aE (fun c9=>absurd c9 (by decide +kernel)) (fun c9=>?_)
  refine ⟨_,rfl,rfl,_,rfl,?_⟩
  refine aE (fun c9=>absurd c9 (by decide +kernel)) (fun c9=>?_)
  refine ⟨_,rfl,rfl,_,rfl,?_⟩
  refine aE (fun c9=>absurd c9 (by decide +kernel)) (fun c9=>?_)
  refine ⟨_,rfl,_,rfl,_,rfl,a,_,_,_,rfl,rfl,SqT.of ha1,rfl,v,kk,x1,c,R,_,rfl,hp1.prog,hlk,hk,hvn,h1.mono (av g1),by simp only [PyData.depth,PyData.depthAll] at hdp; omega,oc,cc,fun H2 g2=>⟨_,rfl,cO ?_⟩⟩
  have G2:=g1.trans g2
  refine ⟨_,rfl,.ref a,.if_ c A B,rfl,hu0.mono (av G2),fun r ys H3 g3 hr0 hr3 db=>⟨r,rfl,⟨_,SqL.of hr3⟩,tT db (by simp [S.bods]) hr3 fun D hD=>⟨D,_,rfl,SqL.of ag,?_⟩⟩⟩
  have e:((List.replicate ys.length true)).all id=true:=by simp
  rw [e]
  exact q _ ((G2.trans g3).trans (ao hD _))
 | while_ c A =>
  simp only [OkS] at hok
  obtain ⟨⟨oc,cc⟩,_⟩:=hok
  have hu0:=hu
  simp only [S.d] at hu hdp
  obtain ⟨a,xs,rfl,ha,dx0⟩:=hu.open
  obtain ⟨x0,r0,rfl,h0,dx1⟩:=dx0.open
  obtain rfl:=h0.str_inv
  obtain ⟨x1,r1,rfl,h1,dx2⟩:=dx1.open
  obtain ⟨x2,r2,rfl,h2,dx3⟩:=dx2.open
  cases dx3
  refine ⟨_,rfl,a,_,_, "statement",rfl,ha,(show (("while":Str),("statement":Str),(3:Int))∈SH4 by decide +kernel),.inl (by decide +kernel),_,rfl,bL ?_⟩
  refine ⟨_,rfl,fu,F,rfl,hfu,hvn,h5,fun kk H1 g1 hk=>?_⟩
  have ha1:=g1 _ _ ha
  have hp1:=hp.mono (av g1)
  refine ⟨_,rfl,a,_,_,_,rfl,rfl,SqT.of ha1,rfl,?_⟩
  refine ⟨_,rfl,rfl,_,rfl,?_⟩
  refine aE (fun c9=>absurd c9 (by decide +kernel)) (fun c9=>?_)
  refine ⟨_,rfl,rfl,_,rfl,?_⟩
  refine aE (fun c9=>absurd c9 (by decide +kernel)) (fun c9=>?_)
  refine ⟨_,rfl,rfl,_,rfl,?_⟩
  refine aE (fun c9=>absurd c9 (by decide +kernel)) (fun c9=>?_)
  refine ⟨_,rfl,rfl,_,rfl,?_⟩
  refine aE (fun c9=>absurd c9 (by decide +kernel)) (fun c9=>?_)
  refine ⟨_,rfl,_,rfl,_,rfl,a,_,_,_,rfl,rfl,SqT.of ha1,rfl,v,kk,x1,c,R,_,rfl,hp1.prog,hlk,hk,hvn,h1.mono (av g1),by simp only [PyData.depth,PyData.depthAll] at hdp; omega,oc,cc,fun H2 g2=>⟨_,rfl,cO ?_⟩⟩
  have G2:=g1.trans g2
  refine ⟨_,rfl,.ref a,.while_ c A,rfl,hu0.mono (av G2),fun r ys H3 g3 hr0 hr3 db=>⟨r,rfl,⟨_,SqL.of hr3⟩,tT db (by simp [S.bods]) hr3 fun D hD=>⟨D,_,rfl,SqL.of ag,?_⟩⟩⟩
  have e:((List.replicate ys.length true)).all id=true:=by simp
  rw [e]
  exact q _ ((G2.trans g3).trans (ao hD _))
end
open PySem L2
noncomputable abbrev sL:=S×Nat
noncomputable def hJ (K:Frag) (H:Hp) (v:V) (t:sL):Prop:=∃ a x,v=.ref a∧H a=some (.tup [x,.int (t.2:Int)])∧DT K H x t.1.d
theorem hJ.mono {K:Frag} {H H':Hp} (k:Tk H H') {v:V} {t:sL} (h:hJ K H v t):hJ K H' v t:=let ⟨a,x,e,h1,h2⟩:=h; ⟨a,x,e,k _ _ h1,h2.mono k⟩
noncomputable def cT:List sL→Nat
 | []=>0
 | t::r=>t.1.cnt+cT r
theorem xT:∀ a b:List sL,cT (a++b)=cT a+cT b
 | [],b=>by simp [cT]
 | t::r,b=>by simp only [List.cons_append,cT,xT r b]; omega
theorem xh:∀ a:List sL,a.length≤cT a
 | []=>Nat.zero_le _
 | t::r=>by
  have:=xh r
  have:=t.1.cnt_pos
  simp only [List.length_cons,cT]
  omega
noncomputable def tks (B:List S) (d:Nat):List sL:=B.reverse.map fun s=>(s,d)
theorem As (d:Nat):∀ B:List S,cT (B.map fun s=>(s,d))=S.cnts B
 | []=>rfl
 | s::r=>by simp only [List.map_cons,cT,S.cnts,As d r]
theorem tQ:∀ B:List S,S.cnts B.reverse=S.cnts B
 | []=>rfl
 | s::r=>by rw [List.reverse_cons,S.cnts_snoc,tQ r]; simp only [S.cnts]; omega
theorem AZ (B:List S) (d:Nat):cT (tks B d)=S.cnts B:=by unfold tks; rw [As,tQ]
noncomputable def ic:List (List S)→Nat
 | []=>0
 | b::r=>S.cnts b+ic r
theorem jb:∀ a b:List (List S),ic (a++b)=ic a+ic b
 | [],b=>by simp [ic]
 | t::r,b=>by simp only [List.cons_append,ic,jb r b]; omega
theorem mx:∀ a:List (List S),ic a.reverse=ic a
 | []=>rfl
 | b::r=>by rw [List.reverse_cons,jb,mx r]; simp only [ic]; omega
theorem ou:∀ a:List (List S),S.cnts a.flatten=ic a
 | []=>rfl
 | b::r=>by rw [List.flatten_cons,S.cnts_app,ou r]; rfl
theorem zn (l:List (List S)) (i:Nat):ic (l.take i)≤ic l:=by
 conv=>rhs; rw [← List.take_append_drop i l]
 rw [jb]; omega
theorem Paired.snoc_inv {α β:Type} {F:α→β→Prop}:∀ {l:List α} {x:α} {m:List β},Paired F (l++[x]) m→∃ m' b,m=m'++[b]∧Paired F l m'∧F x b
 | [],x,_,.cons h .nil=>⟨[],_,rfl,.nil,h⟩
 | y::l,x,_,.cons h r=>by
  obtain ⟨m',b,rfl,p,q⟩:=Paired.snoc_inv r
  exact ⟨_::m',b,rfl,.cons h p,q⟩
theorem S.ds_rev_at {K:Frag} {H:Hp} {xs:List V} {B:List S} {i:Nat} {x:V} (h:DTs K H xs (S.ds B)) (hx:xs.reverse[i]?=some x):∃ s,B.reverse[i]?=some s∧DT K H x s.d:=by
 obtain ⟨d,hd,dx⟩:=(h.rev).get i x hx
 have e:S.ds B=B.map S.d:=by
  clear h hx hd dx
  induction B with
  | nil=>rfl
  | cons a r ih=>simp only [S.ds,List.map_cons,ih]
 rw [e,← List.map_reverse,List.getElem?_map] at hd
 obtain ⟨s,hs,rfl⟩:=Option.map_eq_some_iff.mp hd
 exact ⟨s,hs,dx⟩
structure LI (R:List Rec) (HS:List cI) (Vs:List Fld) (gv:Str) (t:sL):Prop where
 ok:OkS R HS Vs gv t.1
 dp:t.1.d.depth≤23
 ns:t.1.nest+t.2≤4
theorem cJ.all {R:List Rec} {HS:List cI} {Vs:List Fld} {gv:Str}:∀ {ss:List S},cJ R HS Vs gv ss→∀ s∈ss,OkS R HS Vs gv s
 | [],_,s,h=>nomatch h
 | a::r,h,s,hs=>by
  simp only [cJ] at h
  rcases List.mem_cons.mp hs with rfl | hs
  ·exact h.1
  ·exact cJ.all h.2 s hs
theorem S.dep_ds:∀ {ss:List S} {s:S},s∈ss→s.d.depth≤PyData.depthAll (S.ds ss)
 | a::r,e,h=>by
  simp only [S.ds,PyData.depthAll]
  rcases List.mem_cons.mp h with rfl | h
  ·omega
  ·have:=S.dep_ds h; omega
theorem S.nest_mem:∀ {ss:List S} {s:S},s∈ss→s.nest≤S.nests ss
 | a::r,e,h=>by
  simp only [S.nests]
  rcases List.mem_cons.mp h with rfl | h
  ·omega
  ·have:=S.nest_mem h; omega
theorem LI.inner {R:List Rec} {HS:List cI} {Vs:List Fld} {gv:Str} {s:S} {d:Nat} (h:LI R HS Vs gv (s,d)):∀ B∈s.bods,∀ x∈B,LI R HS Vs gv (x,d+1):=by
 obtain ⟨ok,dp,ns⟩:=h
 cases s with
 | if_ c A C =>
  simp only [OkS] at ok
  simp only [S.d,PyData.depth,PyData.depthAll] at dp
  simp only [S.nest] at ns
  intro B hB x hx
  simp only [S.bods,List.mem_cons,List.not_mem_nil,or_false] at hB
  have h1:=S.dep_ds hx
  have h2:=S.nest_mem hx
  rcases hB with rfl | rfl
  ·exact ⟨cJ.all ok.2.1 x hx,by show x.d.depth≤23; omega,by show x.nest+(d+1)≤4; omega⟩
  ·exact ⟨cJ.all ok.2.2 x hx,by show x.d.depth≤23; omega,by show x.nest+(d+1)≤4; omega⟩
 | while_ c A =>
  simp only [OkS] at ok
  simp only [S.d,PyData.depth,PyData.depthAll] at dp
  simp only [S.nest] at ns
  intro B hB x hx
  simp only [S.bods,List.mem_cons,List.not_mem_nil,or_false] at hB
  subst hB
  have h1:=S.dep_ds hx
  have h2:=S.nest_mem hx
  exact ⟨cJ.all ok.2 x hx,by show x.d.depth≤23; omega,by show x.nest+(d+1)≤4; omega⟩
 | let_ x e=>intro B hB; cases hB
 | say x e=>intro B hB; cases hB
 | call x y e=>intro B hB; cases hB
 | give e=>intro B hB; cases hB
section
variable {P:Program} {w:World} {K:Frag} {mg:Str→Option Value} {base:Heap} {f g:Addr} {fd gd:FuncData}
noncomputable abbrev cU:List Str:=["program", "function", "waiting", "k", "task", "deep", "body"]
noncomputable abbrev dj:List Str:=["thing", "deep"]
theorem fQ:dj.Nodup:=by decide +kernel
noncomputable abbrev dh:List Str:=["thing"]
theorem fZ:dh.Nodup:=by decide +kernel
theorem bz:aO cU ["program", "function"] (defScope bV):=⟨rfl,rfl,rfl,by decide +kernel,rfl,by decide +kernel,by decide +kernel⟩
noncomputable def Gq (K:Frag):Sp:=fun vs H Q _=>∃ v fu R FS F,vs=[v,fu]∧jU K H v R FS∧(FS.map (·.1.1)).Nodup∧gJ R∧eE K H fu F∧((F.1.2.1++F.1.2.2.1).map (·.1)).Nodup∧(F.1.2.1++F.1.2.2.1).length≤5 ∧
 (∀ F'∈FS,F'.1.2.1.length≤10∧∀ p∈F'.1.2.1,PyData.strOk p.2=true)∧cJ R (FS.map (·.1)) (F.1.2.1++F.1.2.2.1) F.1.2.2.2 F.2∧S.cnts F.2≤8∧(∀ s∈F.2,NS 3 s)∧∀ H',aZ H H'→Q .non H'
noncomputable def Gr (K:Frag) (H:Hp) (v fu:V) (LI':sL→Prop) (m:Nat) (σ:St) (H':Hp):Prop :=
 ∃ n:Nat,∃ wl ys ts m4 m5 m6,σ=[some v,some fu,some (.ref wl),some (.int (n:Int)),m4,m5,m6]∧aZ H H'∧H wl=none∧H' wl=some (.lst ys)∧Paired (hJ K H') ys ts∧(∀ t∈ts,LI' t)∧n+cT ts≤8∧m=cT ts
theorem FR (T:G0 mg) (TR:mg "reversed"=none) (mLx:∃ t,mg "MOST_LINES"=some (.int 30 t)) (mDx:∃ t,mg "MOST_DEEP"=some (.int 5 t)) (F:Fun K "first_wrong_line" "first_wrong_line" bV f fd) (D_is_line:Cal P w K mg base 32 "is_line" ["program", "function", "thing"] (Af K))
  (D_bodies_of:Cal P w K mg base 1 "bodies_of" ["statement"] (vR K)):bj P w K mg base CX0 33 f fd ["program", "function"] (Gq K):=by
 obtain ⟨g_bodies_of,gd_bodies_of,G_bodies_of,b_bodies_of,k_bodies_of,m_bodies_of⟩:=D_bodies_of.ex
 obtain ⟨g_is_line,gd_is_line,G_is_line,b_is_line,k_is_line,m_is_line⟩:=D_is_line.ex
 obtain ⟨tL,mL⟩:=mLx
 obtain ⟨tD,mD⟩:=mDx
 refine F.ok bz (fun vs H Q EX h=>?_) (fun cdv A outer s H vs Q EX hr h=>?_)
 ·obtain ⟨v,fu,R,FS,F,rfl,_⟩:=h
  rfl
 obtain ⟨v,fu,R,FS,F,rfl,hp,hfn,hlk,hfu,hvn,h5,hps,hok,hc8,hns,q⟩:=h
 obtain ⟨fa,p1,p2,bb,xs,rfl,hfa,hf1,hf2,hbb,dxs⟩:=id hfu
 have lx:=dxs.len
 rw [S.ds_len] at lx
 have lc:=gN F.2
 refine ⟨_,(@am _ _ _ _ _ (dW (i:=2) (N':=dh) (ρ:=[none]) (m:=1) (bI.of (fs:=defScope bV) (N:=cU) rfl rfl (by decide +kernel)) bz.nd rfl (Or.inl rfl) rfl (yq rfl TR (aA aI (pv 1) ak (fun _ _=>rfl))) (fun _ _ _ _=>(aH (i:=0) fZ rfl (Or.inl rfl))) (fun _ _ _ _=>bC) (fun _ _ _ _=>(aT (ad (pv 0) (ad ak ah))))) (@am _ _ _ _ _ (@aM _ _ 3 _ _ _ _ bz.nd rfl (Or.inl rfl) ak (aD rfl) (.inr rfl)) (@am _ _ _ _ _ (ie PassesOwn.never (jt (pv 2) (fun _=>rfl)) (@am _ _ _ _ _ (@aM _ _ 4 _ _ _ _ bz.nd rfl (Or.inl rfl) (mK PySem.F.plainAttrs_list PySem.F.slot_list_pop PySem.F.type_list_pop lX (pv 2)) (aD rfl) (.inr rfl)) (@am _ _ _ _ _ (@aM _ _ 5 _ _ _ _ bz.nd rfl (Or.inr rfl) (@aA _ _ _ _ _ _ _ aI (pv 4) ak (fun _ _=>rfl)) (aD rfl) (.inl rfl)) (@am _ _ _ _ _ (@aR _ _ _ _ _ _ _ _ (PW.pt (cw (@az _ _ _ _ _ _ _ _ bg (pv 3) (bv (v:=.int 30) rfl mL ⟨_,rfl⟩) (aG _)) (cw (@az _ _ _ _ _ _ _ _ gu (pv 5) (bv (v:=.int 5) rfl mD ⟨_,rfl⟩) (aG _)) (cr (bE (bt (@aq _ _ _ _ _ _ _ _ _ _ _ _ _ _ _ _ G_is_line (hr.mono (by omega)) rfl m_is_line k_is_line b_is_line .nil aC (@ad _ _ _ _ _ (pv 0) (@ad _ _ _ _ _ (pv 1) (@ad _ _ _ _ _ (@aA _ _ _ _ _ _ _ aI (pv 4) ak (fun _ _=>rfl)) ah (ac rfl)) (ac rfl)) (ac rfl)) (by decide) (ac rfl) (aj rfl)))))))) (@ap _ _ _ (@ay _ _ _ _ (pv 3))) aF) (@am _ _ _ _ _ (@cg _ _ _ _ _ _ _ _ PassesOwn.never rfl (Fw rfl TR (@aq _ _ _ _ _ _ _ _ _ _ _ _ _ _ _ _ G_bodies_of (hr.mono (by omega)) rfl m_bodies_of k_bodies_of b_bodies_of .nil aC (@ad _ _ _ _ _ (@aA _ _ _ _ _ _ _ aI (pv 4) ak (fun _ _=>rfl)) ah (ac rfl)) (by decide) (ac rfl) (aj rfl))) (aH (i:=6) bz.nd rfl (Or.inl rfl)) (@ap _ _ _ (@cM _ _ _ _ (@fG _ _ _ _ _ _ _ _ _ _ _ _ PySem.F.plainAttrs_list PySem.F.slot_list_extend PySem.F.type_list_extend dA (pv 2) (@ad _ _ _ _ _ (bH (N':=dj) (ρ:=[none,some 5]) (m:=1) (bI.of (fs:=defScope bV) (N:=cU) rfl rfl (by decide +kernel)) rfl (yq rfl TR (pv 6)) (fun _ _ _ _=>(aH (i:=0) fQ rfl (Or.inl rfl))) (fun _ _ _ _=>bC) (fun _ _ _ _=>(aT (ad (pv 0) (ad (ba eK (pv 1) ak) ah))))) ah (ac rfl)) rfl (du rfl rfl) rfl (ac rfl) (aj rfl)) (aD rfl))) (fun _=>rfl)) (@ap _ _ _ (wZ (i:=3) bz.nd rfl (Or.inl rfl) ak uH))))))) (@ap _ _ _ (@ay _ _ _ _ cu))))),?_⟩
 refine ⟨_,rfl,fa,_,_,_,rfl,rfl,SqT.of hfa,rfl,bb,xs,rfl,SqT.of hbb,oj (xs:=xs) xs.length rfl (by omega) (fun i acc H'=>aZ H H'∧Paired (hJ K H') acc ((F.2.reverse.take i).map fun s=>(s,1))) ⟨aZ.refl _,.nil⟩ (fun i acc H' p=>SqT.of (p.1 _ _ hbb)) (fun i acc H' x hi la hx p=>?_) (fun acc H' p la D hD=>?_)⟩
 ·obtain ⟨g1,pa⟩:=p
  obtain ⟨s1,hs1,ds1⟩:=S.ds_rev_at dxs hx
  refine ⟨⟨rfl,rfl⟩,bD ⟨_,rfl,(by show 2≤sizeLine; decide),fun p hp=>nxT (by omega) hi la ⟨g1.trans (ao hp _),?_⟩⟩⟩
  rw [List.take_add_one,hs1,List.map_append]
  exact Paired.snoc (Paired.mapP pa fun _ _ z=>z.mono (bd hp _)) ⟨p,x,rfl,ag,ds1.mono (av (g1.trans (ao hp _)))⟩
 obtain ⟨g1,pa⟩:=p
 rw [lx,← List.length_reverse (as:=F.2),List.take_length] at pa
 have hDH:H D=none:=g1.free hD
 dsimp only [iJ]
 refine ⟨Gr K H v (.ref fa) (LI R (FS.map (·.1)) (F.1.2.1++F.1.2.2.1) F.1.2.2.2),⟨_,0,D,acc,tks F.2 1,none,none,none,rfl,g1.trans (ao hD _),hDH,ag,Paired.mapP pa fun _ _ z=>z.mono (bd hD _),fun t ht=>?_,by rw [AZ]; omega,rfl⟩,?_⟩
 ·obtain ⟨s1,hs1,rfl⟩:=List.mem_map.mp ht
  have hm:=List.mem_reverse.mp hs1
  obtain ⟨n1,n2⟩:=hns s1 hm
  exact ⟨cJ.all hok s1 hm,n1.dp,by show s1.nest+1≤4; omega⟩
 rintro m σ H' ⟨n,wl,ys,ts,m4,m5,m6,rfl,G1,hwl,hy,py,lis,e8,em⟩
 refine ⟨_,rfl,_,.inl ⟨ys,SqL.of hy,rfl⟩,?_⟩
 refine aE (fun cc=>?_) (fun cc=>?_)
 ·obtain ⟨zs,y,rfl⟩:∃ zs y,ys=zs++[y]:=by
   rcases List.eq_nil_or_concat ys with rfl | ⟨zs,y,e⟩
   ·exact absurd cc (by decide)
   ·exact ⟨zs,y,by rw [e,List.concat_eq_append]⟩
  obtain ⟨tz,⟨s1,d1⟩,rfl,pz,ta,x,rfl,hta,dx⟩:=Paired.snoc_inv py
  rw [xT] at e8 em
  simp only [cT,Nat.add_zero] at e8 em
  have li1:=lis (s1,d1) (by simp)
  have lisz:∀ t∈tz,LI R (FS.map (·.1)) (F.1.2.1++F.1.2.2.1) F.1.2.2.2 t:=fun t ht=>lis t (List.mem_append.mpr (.inl ht))
  have ce:=EN s1
  rw [ou] at ce
  have lz:=Paired.length pz
  have lt:=xh tz
  refine ⟨fun σ' H'=>∃ m',m'<m∧Gr K H v (.ref fa) (LI R (FS.map (·.1)) (F.1.2.1++F.1.2.2.1) F.1.2.2.2) m' σ' H',fun _ _ z=>z,?_⟩
  refine ⟨_,rfl,.inl ⟨rfl,_,SqL.of hy⟩,wl,_,.ref ta,rfl,rfl,hy,by simp,?_⟩
  rw [List.dropLast_concat]
  have kT:Tk H' (upd H' wl (.lst zs)):=cQ hy _
  have G2:aZ H (upd H' wl (.lst zs)):=ml hwl G1
  have hy2:(upd H' wl (.lst zs)) wl=some (.lst zs):=ag
  have pz2:=Paired.mapP pz fun _ _ z=>hJ.mono kT z
  have hta2:=kT _ _ hta
  have dx2:=dx.mono kT
  generalize hH:(upd H' wl (.lst zs))=H2 at G2 hy2 pz2 hta2 dx2
  refine ⟨_,rfl,ta,_,_,_,rfl,rfl,SqT.of hta2,rfl,?_⟩
  have ns1:=li1.ns
  have ns1':s1.nest+d1≤4:=ns1
  refine ⟨_,rfl,rfl,_,rfl,?_⟩
  refine aE (fun c=>absurd (V.int.inj (of_decide_eq_true c)) (by omega)) (fun c=>?_)
  refine ⟨_,rfl,_,_,rfl,rfl,_,rfl,?_⟩
  refine aE (fun c=>absurd (of_decide_eq_true c) (by omega)) (fun c=>?_)
  refine ⟨_,rfl,_,rfl,_,rfl,ta,_,_,_,rfl,rfl,SqT.of hta2,rfl,v,.ref fa,x,R,FS,F,s1,rfl,hp.mono (av G2),hfn,hlk,hfu.mono (av G2),hvn,h5,hps,dx2,li1.dp,li1.ok,fun H3 g3=>⟨_,rfl,bL ?_⟩⟩
  have G3:=G2.trans g3
  refine ⟨_,rfl,ta,_,_,_,rfl,rfl,SqT.of (g3 _ _ hta2),rfl,x,s1,rfl,dx2.mono (av g3),fun r bs H4 g4 hr0 hr4 db=>?_⟩
  have hwl3:=g3 _ _ hy2
  have hrw:r≠wl:=fun z=>by rw [z,hwl3] at hr0; cases hr0
  have lb:bs.length=s1.bods.length:=by rw [db.len,List.length_map]
  refine ⟨r,bs,rfl,SqL.of hr4,Dn (xs:=bs) (fun i σ H5=>∃ m6' vs5 ts5,σ=[some v,some (.ref fa),some (.ref wl),some (.int (n:Int)),some (.ref ta),some (.int (d1:Int)),m6']∧aZ H H5∧Tk H4 H5∧H5 r=some (.lst bs)∧H5 wl=some (.lst vs5)∧Paired (hJ K H5) vs5 ts5 ∧
   (∀ t∈ts5,LI R (FS.map (·.1)) (F.1.2.1++F.1.2.2.1) F.1.2.2.2 t)∧cT ts5=cT tz+ic (s1.bods.reverse.take i)) ⟨m6,zs,tz,rfl,G3.trans g4,fun _ _ z=>z,hr4,g4 _ _ hwl3,Paired.mapP pz2 fun _ _ z=>z.mono (av (g3.trans g4)),lisz,by simp [ic]⟩ (fun i σ H5 _ p=>?_) (fun i x' σ H5 hx p=>?_) (fun σ H5 p=>?_)⟩
  ·obtain ⟨_,_,_,rfl,_,_,h,_⟩:=p
   exact SqL.of h
  ·obtain ⟨m6',vs5,ts5,rfl,G5,k5,hr5,hw5,pv5,li5,ec5⟩:=p
   obtain ⟨dd,hdd,dxx⟩:=((db.mono k5).rev).get i x' hx
   rw [← List.map_reverse,List.getElem?_map] at hdd
   obtain ⟨B,hB,rfl⟩:=Option.map_eq_some_iff.mp hdd
   have hBm:B∈s1.bods:=List.mem_reverse.mp (List.mem_of_getElem? hB)
   obtain ⟨pp,xp,rfl,hpp,dpp⟩:=DT.open dxx
   have lxp:=dpp.len
   rw [S.ds_len] at lxp
   have lB:=gN B
   have ctk:=zn s1.bods.reverse (i+1)
   rw [mx] at ctk
   have ect:ic (s1.bods.reverse.take (i+1))=ic (s1.bods.reverse.take i)+S.cnts B:=by
    rw [List.take_add_one,hB,jb]
    simp [ic]
   have lv5:=Paired.length pv5
   have lt5:=xh ts5
   refine ⟨_,rfl,.inl ⟨rfl,_,SqL.of hw5⟩,_,rfl,pp,xp,rfl,SqT.of hpp,oj (xs:=xp) xp.length rfl (by omega) (fun j acc H6=>aZ H5 H6∧Paired (hJ K H6) acc ((B.reverse.take j).map fun s=>(s,d1+1))) ⟨aZ.refl _,.nil⟩ (fun j acc H6 p=>SqT.of (p.1 _ _ hpp)) (fun j acc H6 y hj la hy' p=>?_) (fun acc H6 p la D2 hD2=>?_)⟩
   ·obtain ⟨g6,pa6⟩:=p
    obtain ⟨s2,hs2,ds2⟩:=S.ds_rev_at dpp hy'
    have ed:(d1:Int)+1=((d1+1:Nat):Int):=by omega
    refine ⟨⟨rfl,rfl⟩,bD ⟨_,rfl,_,rfl,_,_,rfl,rfl,(by show 2≤sizeLine; decide),fun p hp=>nxT (by omega) hj la ⟨g6.trans (ao hp _),?_⟩⟩⟩
    rw [List.take_add_one,hs2,List.map_append]
    exact Paired.snoc (Paired.mapP pa6 fun _ _ z=>z.mono (bd hp _)) ⟨p,y,rfl,ag.trans (by show some (HO.tup [y,V.int ((d1:Int)+1)])=_; rw [ed]),ds2.mono (av (g6.trans (ao hp _)))⟩
   obtain ⟨g6,pa6⟩:=p
   rw [lxp,← List.length_reverse (as:=B),List.take_length] at pa6
   have la6:=Paired.length pa6
   rw [List.length_map,List.length_reverse] at la6
   have g7:=g6.trans (ao hD2 (.lst acc))
   have hw7:=g7 _ _ hw5
   refine ⟨wl,D2,_,_,rfl,rfl,hw7,ag,by rw [sizeLine_eq]; omega,?_⟩
   have kL:=cQ hw7 (.lst (vs5++acc))
   have k7:=(av g7).trans kL
   refine ⟨_,vs5++acc,ts5++tks B (d1+1),rfl,ml hwl (G5.trans g7),k5.trans k7,by rw [aV hrw]; exact g7 _ _ hr5,ag,Paired.app' (Paired.mapP pv5 fun _ _ z=>z.mono k7) (Paired.mapP pa6 fun _ _ z=>z.mono ((bd hD2 _).trans kL)),fun t ht=>?_,by rw [xT,AZ,ec5,ect]; omega⟩
   rcases List.mem_append.mp ht with h | h
   ·exact li5 t h
   ·obtain ⟨s2,hs2,rfl⟩:=List.mem_map.mp h
    exact LI.inner li1 B hBm s2 (List.mem_reverse.mp hs2)
  ·obtain ⟨m6',vs5,ts5,rfl,G5,k5,hr5,hw5,pv5,li5,ec5⟩:=p
   rw [lb,← List.length_reverse (as:=s1.bods),List.take_length,mx] at ec5
   have en:(n:Int)+1=((n+1:Nat):Int):=by omega
   refine ⟨_,rfl,_,_,rfl,rfl,?_⟩
   dsimp only
   rw [en]
   exact ⟨cT ts5,by omega,n+1,wl,vs5,ts5,_,_,_,rfl,G5,hwl,hw5,pv5,li5,by omega,rfl⟩
 ·exact q _ G1
end
end K6
namespace L2
open PySem
theorem yI {K:Frag} {H:Hp} {a:Addr} {xs:List V} {k:Nat} {Q:VK} (ha:H a=some (.tup xs)) (q:∀ p H',aZ H H'→H' p=some (.tup (xs.take k))→Q (.ref p) H') :
  Ej K (.ref a) none (some (k:Int)) H Q∨FA K (.ref a) none (some (k:Int)) H Q:=by
 by_cases h:xs.length≤k
 ·refine .inr ⟨a,xs,rfl,SqT.of ha,⟨HT.sIx_none _ _,by rw [HT.sIx_nat]; omega⟩,q a H (aZ.refl _) ?_⟩
  rw [ha,List.take_of_length_le h]
 ·refine .inl ⟨a,xs,rfl,SqT.of ha,fun z=>?_,fun p hp=>q p _ (fun c o e=>by rw [aV (aJ e hp)]; exact e) ?_⟩
  ·have:=z.2
   rw [HT.sIx_nat] at this
   omega
  ·rw [Fp _ _ (by omega)]
   exact ag
end L2
namespace K6
open PySem L2
noncomputable def PC (n i c:Nat):Prop:=(i=0∧c=0)∨(1≤i∧c+1≤2*n - 1+i)
theorem PC.step {n i c d:Nat} (h:PC n i c) (hn:1≤n) (hd:d≤2*n - 1) (h1:1≤i→d≤1):PC n (i+1) (c+d):=by
 rcases h with ⟨a,b⟩ | ⟨a,b⟩
 ·exact .inr ⟨by omega,by omega⟩
 ·have:=h1 a
  exact .inr ⟨by omega,by omega⟩
noncomputable def zx (H:Hp) (n:Nat) (v:V):Prop:=∃ a p xs z,v=.ref a∧H a=some (.tup [.ref p,z])∧H p=some (.tup xs)∧xs.length≤n
theorem zx.mono {H H':Hp} (k:Tk H H') {n:Nat} {v:V} (h:zx H n v):zx H' n v:=let ⟨a,p,xs,z,e,h1,h2,h3⟩:=h; ⟨a,p,xs,z,e,k _ _ h1,k _ _ h2,h3⟩
noncomputable def DW (R:List Rec):Prop:=∀ k,∀ p∈(look R k).drop 1,p.2∈PL
theorem cG.first {R:List Rec} (g:cG R):DW R:=by
 intro k
 unfold look
 cases e:R.find? fun r=>decide (r.1=k) with
 | none=>intro p h; simp at h
 | some r =>
  obtain ⟨i,hi⟩:=List.mem_iff_getElem?.mp (List.mem_of_find?_eq_some e)
  exact (g i r hi).2.1.2.2.2
theorem cG.take {R:List Rec} (g:cG R) (n:Nat):cG (R.take n):=by
 intro i r h
 have hi:i<n:=by
  have:=(List.getElem?_eq_some_iff.mp h).1
  rw [List.length_take] at this
  omega
 rw [List.getElem?_take_of_lt hi] at h
 obtain ⟨a,b,c⟩:=g i r h
 refine ⟨a,b,fun p hp=>?_⟩
 rcases c p hp with z | ⟨j,r',l,e1,e2⟩
 ·exact .inl z
 ·exact .inr ⟨j,r',l,by rw [List.getElem?_take_of_lt (by omega)]; exact e1,e2⟩
section
variable {P:Program} {w:World} {K:Frag} {mg:Str→Option Value} {base:Heap} {f g:Addr} {fd gd:FuncData}
noncomputable abbrev Dr:List Str:=["program", "kind", "told", "field", "inner", "path", "sort"]
theorem fI:aO Dr ["program", "kind"] (defScope lm):=⟨rfl,rfl,rfl,by decide +kernel,rfl,by decide +kernel,by decide +kernel⟩
noncomputable def CL (n:Nat):Sp:=fun vs H Q _=>∃ v k R,vs=[v,.str k]∧da H v R∧me R n k∧DW R∧n≤10∧∀ r ys H',aZ H H'→H r=none→H' r=some (.lst ys)→(∀ y∈ys,zx H' n y)→ys.length≤2*n - 1→(k∈PL→ys.length≤1)→Q (.ref r) H'
theorem AV {n:Nat} (TN:GN K mg) (F:Fun K "parts" "parts" lm f fd) (D_fields_of:Cal P w K mg base 1 "fields_of" ["program", "kind"] hZ) (D_parts:Cal P w K mg base (n+1) "parts" ["program", "kind"] (CL n)):bj P w K mg base CX0 (n+2) f fd ["program", "kind"] (CL (n+1)):=by
 obtain ⟨g_fields_of,gd_fields_of,G_fields_of,b_fields_of,k_fields_of,m_fields_of⟩:=D_fields_of.ex
 obtain ⟨g_parts,gd_parts,G_parts,b_parts,k_parts,m_parts⟩:=D_parts.ex
 refine F.ok fI (fun vs H Q EX h=>?_) (fun cdv A outer s H vs Q EX hr h=>?_)
 ·obtain ⟨v,k,R,rfl,_⟩:=h
  rfl
 obtain ⟨v,k,R,rfl,hv,hk,hF,hn,q⟩:=h
 obtain ⟨aP,mP,sP⟩:=TN.pk
 refine ⟨_,(@am _ _ _ _ _ (@aR _ _ _ _ _ _ _ _ (@az _ _ _ _ _ _ _ _ cN (pv 1) (bv (v:=.ref aP) rfl mP rfl) rfl) (@ap _ _ _ (@ay _ _ _ _ (@bo _ _ _ _ (@ad _ _ _ _ _ (@aT _ _ _ _ _ (@ad _ _ _ _ _ (@aT _ _ _ _ _ ah) (@ad _ _ _ _ _ (pv 1) ah (ac rfl)) (ac rfl))) ah (ac rfl))))) aF) (@am _ _ _ _ _ (@aM _ _ 2 _ _ _ _ fI.nd rfl (Or.inl rfl) (@bo _ _ _ _ ah) (aD rfl) (.inr rfl)) (@am _ _ _ _ _ (@cg _ _ _ _ _ _ _ _ PassesOwn.never rfl (bJ (@aq _ _ _ _ _ _ _ _ _ _ _ _ _ _ _ _ G_fields_of (hr.mono (by omega)) rfl m_fields_of k_fields_of b_fields_of .nil aC (@ad _ _ _ _ _ (pv 0) (@ad _ _ _ _ _ (pv 1) ah (ac rfl)) (ac rfl)) (by decide) (ac rfl) (aj rfl))) (cZ rfl (aW (aH (i:=3) fI.nd rfl (Or.inl rfl)) (aW (aH (i:=4) fI.nd rfl (Or.inl rfl)) bS))) (@ap _ _ _ (@cg _ _ _ _ _ _ _ _ PassesOwn.never rfl (dD (@aq _ _ _ _ _ _ _ _ _ _ _ _ _ _ _ _ G_parts (hr.mono (by omega)) rfl m_parts k_parts b_parts .nil aC (@ad _ _ _ _ _ (pv 0) (@ad _ _ _ _ _ (pv 4) ah (ac rfl)) (ac rfl)) (by decide) (ac rfl) (aj rfl))) (cZ rfl (aW (aH (i:=5) fI.nd rfl (Or.inl rfl)) (aW (aH (i:=6) fI.nd rfl (Or.inl rfl)) bS))) (@ap _ _ _ (@cM _ _ _ _ (@fG _ _ _ _ _ _ _ _ _ _ _ _ PySem.F.plainAttrs_list PySem.F.slot_list_append PySem.F.type_list_append dY (pv 2) (@ad _ _ _ _ _ (@aT _ _ _ _ _ (@ad _ _ _ _ _ (@ba _ _ _ _ _ _ _ _ (fR.or eM) (@aT _ _ _ _ _ (@ad _ _ _ _ _ (pv 3) ah (ac rfl))) (pv 5)) (@ad _ _ _ _ _ (pv 6) ah (ac rfl)) (ac rfl))) ah (ac rfl)) rfl (du rfl rfl) rfl (ac rfl) (aj rfl)) (aD rfl))) (fun _=>rfl))) (fun _=>rfl)) (@ap _ _ _ (@ay _ _ _ _ (pv 2)))))),?_⟩
 refine ⟨_,rfl,aP,_,rfl,.inr (sP _),rfl,Cn,_,rfl,?_⟩
 refine aE (fun c=>?_) (fun c=>?_)
 ·refine ⟨(by show 0≤sizeLine; decide),fun p0 hp0=>⟨_,rfl,(by show 2≤sizeLine; decide),fun p1 hp1=>⟨(by show 1≤sizeLine; decide),fun l hl=>?_⟩⟩⟩
  have g0:=ao hp0 (.tup [])
  have g1:=ao hp1 (.tup [.ref p0,.str k])
  have g2:=ao hl (.lst [.ref p1])
  refine q l _ _ ((g0.trans g1).trans g2) ((g0.trans g1).free hl) ag (fun y hy=>?_) (by show 1≤_; omega) (fun _=>Nat.le_refl _)
  rw [List.mem_singleton.mp hy]
  exact ⟨p1,p0,[],_,rfl,g2 _ _ ag,g2 _ _ (g1 _ _ ag),Nat.zero_le _⟩
 obtain ⟨npl,kin,hl13,hdp⟩:k∉PL∧k∈R.map (·.1)∧(1≤(look R k).length∧(look R k).length≤3)∧∀ p∈look R k,me R n p.2:=by
  rcases hk with hk | hk
  ·exact absurd (by show inV (.str k) (PL.map V.str)=true; rw [jI]; exact decide_eq_true hk) c
  ·exact hk
 have hn1:1≤n:=by
  rcases Nat.eq_zero_or_pos n with h0 | h0
  ·obtain ⟨p,hp⟩:=List.exists_mem_of_length_pos (show 0<(look R k).length by omega)
   have:=hdp p hp
   rw [h0] at this
   exact (show False from this).elim
  ·exact h0
 refine ⟨(by show 0≤sizeLine; decide),fun tl htl=>?_⟩
 have g0:=ao htl (.lst [])
 refine ⟨_,rfl,_,rfl,v,k,R,rfl,hv.mono (av g0),fun y H1 g1 hy=>?_⟩
 obtain ⟨fa,fx,rfl,hfa,pf⟩:=hy
 have lf:=Paired.length pf
 have ht1:H1 tl=some (.lst []):=g1 _ _ ag
 refine ⟨fa,rfl,⟨fx,SqT.of hfa⟩,eU (xs:=fx) (fun i σ H'=>∃ m3 m4 m5 m6 ys,σ=[some v,some (.str k),some (.ref tl),m3,m4,m5,m6]∧aZ H H'∧Tk H1 H'∧H' tl=some (.lst ys)∧(∀ y∈ys,zx H' (n+1) y)∧PC n i ys.length) ⟨none,none,none,none,[],rfl,g0.trans g1,fun _ _ z=>z,ht1,(fun _ z=>nomatch z),.inl ⟨rfl,rfl⟩⟩ (fun i σ H' _ p=>?_) (fun i x σ H' hx p=>?_) (fun σ H' p=>?_)⟩
 ·obtain ⟨_,_,_,_,_,rfl,_,k',_⟩:=p
  exact SqT.of (k' _ _ hfa)
 ·obtain ⟨m3,m4,m5,m6,ys,rfl,G,k',ht,pys,hpc⟩:=p
  obtain ⟨fl,hfl,hfa'⟩:=aY pf i x hx
  obtain ⟨c,rfl,hc⟩:=hfa'.mono k'
  have hi3:i<3:=by
   have:=(List.getElem?_eq_some_iff.mp hfl).1
   omega
  have hys:ys.length≤2*n+3:=by rcases hpc with ⟨_,h⟩ | ⟨_,h⟩<;>omega
  refine ⟨c,_,rfl,SqT.of hc,rfl,_,_,rfl,_,_,rfl,rfl,?_⟩
  refine ⟨_,rfl,_,rfl,v,fl.2,R,rfl,hv.mono (av G),hdp fl (List.mem_of_getElem? hfl),hF,by omega,fun r zs H2 g2 hr0 hr2 pz lz lz1=>?_⟩
  have ht2:=g2 _ _ ht
  have hrt:r≠tl:=fun z=>by rw [z,ht] at hr0; cases hr0
  refine ⟨r,rfl,⟨_,SqL.of hr2⟩,gZ (xs:=zs) (fun j σ H3=>∃ m5 m6 ys',σ=[some v,some (.str k),some (.ref tl),some (.str fl.1),some (.str fl.2),m5,m6]∧aZ H H3∧Tk H2 H3∧H3 r=some (.lst zs)∧H3 tl=some (.lst ys')∧(∀ y∈ys',zx H3 (n+1) y)∧ys'.length=ys.length+j) ⟨m5,m6,ys,rfl,G.trans g2,fun _ _ z=>z,hr2,ht2,fun y hy=>(pys y hy).mono (av g2),rfl⟩ (fun j σ H3 _ p=>?_) (fun j z σ H3 hz p=>?_) (fun σ H3 p=>?_)⟩
  ·obtain ⟨_,_,_,rfl,_,_,h,_⟩:=p
   exact SqL.of h
  ·obtain ⟨m5',m6',ys',rfl,G3,k3,hr3,ht3,py3,ly3⟩:=p
   obtain ⟨a,pp,xs,zz,rfl,ha,hpp,lxs⟩:=(pz z (List.mem_of_getElem? hz)).mono k3
   have hj:j<zs.length:=(List.getElem?_eq_some_iff.mp hz).1
   refine ⟨a,_,rfl,SqT.of ha,rfl,_,_,rfl,_,_,rfl,rfl,?_⟩
   refine ⟨_,rfl,.inl ⟨rfl,_,SqL.of ht3⟩,_,rfl,(by show 1≤sizeLine; decide),fun p1 hp1=>⟨_,rfl,?_⟩⟩
   have s1:=ao hp1 (.tup [.str fl.1])
   refine iR ag (s1 _ _ hpp) (by show 1+xs.length≤1000; omega) fun pc H4 g4 hpc4=>?_
   refine ⟨_,rfl,(by show 2≤sizeLine; decide),fun p2 hp2=>?_⟩
   have s2:=ao hp2 (.tup [.ref pc,zz])
   have gA:=(s1.trans g4).trans s2
   have ht4:=gA _ _ ht3
   refine ⟨tl,ys',_,rfl,rfl,ht4,bU (by omega),?_⟩
   have kL:=cQ ht4 (.lst (ys'++[.ref p2]))
   have kA:=(av gA).trans kL
   refine ⟨_,_,ys'++[.ref p2],rfl,ml htl (G3.trans gA),k3.trans kA,by rw [aV hrt]; exact gA _ _ hr3,ag,fun y hy=>?_,by rw [List.length_append,ly3]; rfl⟩
   rcases List.mem_append.mp hy with h | h
   ·exact (py3 y h).mono kA
   ·rw [List.mem_singleton.mp h]
    exact ⟨p2,pc,_,_,rfl,kL _ _ ag,kL _ _ (s2 _ _ hpc4),by rw [List.length_append]; show 1+xs.length≤n+1; omega⟩
  ·obtain ⟨m5',m6',ys',rfl,G3,k3,hr3,ht3,py3,ly3⟩:=p
   exact ⟨_,_,_,_,ys',rfl,G3,k'.trans ((av g2).trans k3),ht3,py3,by rw [ly3]; exact hpc.step hn1 lz fun h1=>lz1 (hF k fl (oa hfl h1))⟩
 ·obtain ⟨m3,m4,m5,m6,ys,rfl,G,k',ht,pys,hpc⟩:=p
  exact ⟨_,rfl,q tl ys H' G htl ht pys (by rcases hpc with ⟨_,h⟩ | ⟨_,h⟩<;>omega) (fun h=>absurd h npl)⟩
theorem oN (TN:GN K mg) (F:Fun K "parts" "parts" lm f fd) (b:dU K fd ["program", "kind"] []) (m:mg "parts"=some (.ref f)) (D:Cal P w K mg base 1 "fields_of" ["program", "kind"] hZ):∀ n:Nat,bj P w K mg base CX0 (n+1) f fd ["program", "kind"] (CL n)
 | 0=>kw fun vs H Q E h=>by
  obtain ⟨v,k,R,_,_,h1,_⟩:=h
  exact h1
 | n+1=>AV TN F D ⟨f,fd,oN TN F b m D n,b,F.kp,m⟩
noncomputable abbrev ku:List Str:=["ahead", "thing"]
noncomputable abbrev im:List Str:=["record"]
theorem kY:im.Nodup:=by decide +kernel
theorem pb:aO ku ["ahead", "thing"] (defScope eY):=⟨rfl,rfl,rfl,by decide +kernel,rfl,by decide +kernel,by decide +kernel⟩
noncomputable def FG:Sp:=fun vs H Q _=>∃ aa ax R1 u r,vs=[.ref aa,u]∧H aa=some (.tup ax)∧Paired (cC H) ax R1∧cC H u r∧cG (R1++[r])∧((R1++[r]).map (·.1)).Nodup∧(R1++[r]).length≤3∧∀ H',aZ H H'→Q (.bl true) H'
theorem Gy (T:G0 mg) (mFx:∃ t,mg "MOST_FIELDS"=some (.int 4 t)) (mPx:∃ t,mg "MOST_PARTS"=some (.int 8 t)) (F:Fun K "is_record" "is_record" eY f fd) (D_is_tuple_of:Cal P w K mg base 1 "is_tuple_of" ["thing", "least", "most"] zE) (D_is_name:Cal P w K mg base 1 "is_name" ["thing"] mU)
  (D_are_named:Cal P w K mg base 2 "are_named" ["records", "thing", "least", "most"] Bz) (D_parts:Cal P w K mg base 5 "parts" ["program", "kind"] (CL 4)):bj P w K mg base CX0 6 f fd ["ahead", "thing"] FG:=by
 obtain ⟨g_parts,gd_parts,G_parts,b_parts,k_parts,m_parts⟩:=D_parts.ex
 obtain ⟨g_are_named,gd_are_named,G_are_named,b_are_named,k_are_named,m_are_named⟩:=D_are_named.ex
 obtain ⟨g_is_name,gd_is_name,G_is_name,b_is_name,k_is_name,m_is_name⟩:=D_is_name.ex
 obtain ⟨g_is_tuple_of,gd_is_tuple_of,G_is_tuple_of,b_is_tuple_of,k_is_tuple_of,m_is_tuple_of⟩:=D_is_tuple_of.ex
 obtain ⟨tF,mF⟩:=mFx
 obtain ⟨tP,mPt⟩:=mPx
 refine F.ok pb (fun vs H Q EX h=>?_) (fun cdv A outer s H vs Q EX hr h=>?_)
 ·obtain ⟨aa,ax,R1,u,r,rfl,_⟩:=h
  rfl
 obtain ⟨aa,ax,R1,u,r,rfl,haa,pR,⟨ua,y,rfl,hua,fa,fx,rfl,hfa,pF⟩,hg,hnd,hl3,q⟩:=h
 have lR:=Paired.length pR
 rw [List.length_append,List.length_singleton] at hl3
 have hat:(R1++[r])[R1.length]?=some r:=by rw [List.getElem?_append_right (Nat.le_refl _),Nat.sub_self]; rfl
 obtain ⟨hnm,⟨⟨f1,f3⟩,fnd,fpl,_⟩,fk⟩:=hg _ _ hat
 have hni:r.1∉R1.map (·.1):=by
  rw [List.map_append,List.nodup_append] at hnd
  exact fun h=>hnd.2.2 _ h _ (by simp) rfl
 refine ⟨_,(@am _ _ _ _ _ (@aR _ _ _ _ _ _ _ _ (PW.pt (cw (bE (bt (@aq _ _ _ _ _ _ _ _ _ _ _ _ _ _ _ _ G_is_tuple_of (hr.mono (by omega)) rfl m_is_tuple_of k_is_tuple_of b_is_tuple_of .nil aC (@ad _ _ _ _ _ (pv 1) (@ad _ _ _ _ _ ak (@ad _ _ _ _ _ ak ah (ac rfl)) (ac rfl)) (ac rfl)) (by decide) (ac rfl) (aj rfl)))) (cr (bE (bt (@aq _ _ _ _ _ _ _ _ _ _ _ _ _ _ _ _ G_is_name (hr.mono (by omega)) rfl m_is_name k_is_name b_is_name .nil aC (@ad _ _ _ _ _ (@aA _ _ _ _ _ _ _ aI (pv 1) ak (fun _ _=>rfl)) ah (ac rfl)) (by decide) (ac rfl) (aj rfl))))))) (@ap _ _ _ (@ay _ _ _ _ bP)) aF) (@am _ _ _ _ _ (@aR _ _ _ _ _ _ _ _ (PW.pt (cw (@az _ _ _ _ _ _ _ _ cN (@aA _ _ _ _ _ _ _ aI (pv 1) ak (fun _ _=>rfl)) (bH (N':=im) (ρ:=[none]) (m:=1) (bI.of (fs:=defScope eY) (N:=ku) rfl rfl (by decide +kernel)) rfl (bJ (pv 0)) (fun _ _ _ _=>(aH (i:=0) kY rfl (Or.inl rfl))) (fun _ _ _ _=>bC) (fun _ _ _ _=>(aA (cx (K:=K) rfl) (pv 0) ak (fun _ _=>rfl)))) rfl) (cr (bE (bt (@aq _ _ _ _ _ _ _ _ _ _ _ _ _ _ _ _ G_are_named (hr.mono (by omega)) rfl m_are_named k_are_named b_are_named .nil aC (@ad _ _ _ _ _ (pv 0) (@ad _ _ _ _ _ (@aA _ _ _ _ _ _ _ aI (pv 1) ak (fun _ _=>rfl)) (@ad _ _ _ _ _ ak (@ad _ _ _ _ _ (bv (v:=.int 4) rfl mF ⟨_,rfl⟩) ah (ac rfl)) (ac rfl)) (ac rfl)) (ac rfl)) (by decide) (ac rfl) (aj rfl))))))) (@ap _ _ _ (@ay _ _ _ _ bP)) aF) (@ap _ _ _ (@ay _ _ _ _ (@bW _ _ _ _ _ _ _ _ ii (@aK _ _ _ _ _ _ _ _ _ aU rfl T.len cv (@ad _ _ _ _ _ (@aq _ _ _ _ _ _ _ _ _ _ _ _ _ _ _ _ G_parts (hr.mono (by omega)) rfl m_parts k_parts b_parts .nil aC (@ad _ _ _ _ _ (@aT _ _ _ _ _ (@ad _ _ _ _ _ (@ba _ _ _ _ _ _ _ _ (fR.or eM) (pv 0) (@aT _ _ _ _ _ (@ad _ _ _ _ _ (pv 1) ah (ac rfl)))) (@ad _ _ _ _ _ (@aT _ _ _ _ _ ah) ah (ac rfl)) (ac rfl))) (@ad _ _ _ _ _ (@aA _ _ _ _ _ _ _ aI (pv 1) ak (fun _ _=>rfl)) ah (ac rfl)) (ac rfl)) (by decide) (ac rfl) (aj rfl)) ah (ac rfl)) (by decide) (by decide) (ac rfl) (aj rfl)) (bv (v:=.int 8) rfl mPt ⟨_,rfl⟩) (aG _)))))),?_⟩
 refine ⟨_,rfl,ua,2,2,_,rfl,hua,by simp,by simp,_,rfl,bL ?_⟩
 refine ⟨_,rfl,ua,_,_,_,rfl,rfl,SqT.of hua,rfl,r.1,rfl,hnm,fun H2 g2=>⟨_,rfl,bL ?_⟩⟩
 have haa2:=g2 _ _ haa
 have hua2:=g2 _ _ hua
 refine ⟨_,rfl,ua,_,_,_,rfl,rfl,SqT.of hua2,rfl,_,rfl,aa,rfl,⟨ax,SqT.of haa2⟩,bO (xs:=ax) ax.length rfl (by omega) (fun i acc H'=>H'=H2∧acc=((R1.take i).map (·.1)).map V.str) ⟨rfl,rfl⟩ (fun i acc H' p=>by rw [p.1]; exact SqT.of haa2) (fun i acc H' x hi la hx p=>?_) (fun acc H' p la D hD=>?_)⟩
 ·obtain ⟨rfl,rfl⟩:=p
  obtain ⟨r1,hr1,hra⟩:=aY pR i x hx
  obtain ⟨c,y1,rfl,hc,_⟩:=hra.mono (av g2)
  refine ⟨⟨rfl,rfl⟩,bD ⟨_,rfl,c,_,_,_,rfl,rfl,SqT.of hc,rfl,nxT (by omega) hi la ⟨rfl,?_⟩⟩⟩
  rw [List.take_add_one,hr1,List.map_append,List.map_append]
  rfl
 obtain ⟨rfl,rfl⟩:=p
 rw [lR,List.take_length]
 refine ⟨D,_,rfl,.inl (SqL.of ag),rfl,gf _,_,rfl,?_⟩
 refine aE (fun c=>?_) (fun c=>?_)
 ·exact absurd (show inV (.str r.1) ((R1.map (·.1)).map V.str)=true from c) (by rw [jI]; simp only [decide_eq_true_eq]; exact hni)
 have gD:=ao hD (.lst ((R1.map (·.1)).map V.str))
 have G3:=g2.trans gD
 have pR3:=Paired.mapP pR fun _ _ z=>cC.mono (av G3) z
 have pF3:=Paired.mapP pF fun _ _ z=>cy.mono (av G3) z
 refine ⟨_,rfl,_,rfl,ua,_,_,_,rfl,rfl,SqT.of (gD _ _ hua2),rfl,aa,ax,R1,fa,fx,r.2,1,4,rfl,gD _ _ haa2,pR3,by omega,G3 _ _ hfa,pF3,by omega,by omega,by omega,fun p hp=>⟨fpl p hp,?_⟩,fnd,fun H4 g4=>⟨_,rfl,bL ?_⟩⟩
 ·rcases fk p hp with h | ⟨j,r',hj,e1,e2⟩
  ·exact List.mem_append_left _ h
  ·rw [List.getElem?_append_left hj] at e1
   exact List.mem_append_right _ (List.mem_map.mpr ⟨r',List.mem_of_getElem? e1,e2⟩)
 have G4:=G3.trans g4
 refine ⟨_,rfl,_,rfl,(by show 1≤sizeLine; decide),fun p1 hp1=>?_⟩
 have s1:=ao hp1 (.tup [.ref ua])
 refine iR (s1 _ _ (G4 _ _ haa)) ag (by show ax.length+1≤1000; omega) fun pc H5 g5 hpc=>?_
 refine ⟨(by show 0≤sizeLine; decide),fun p2 hp2=>⟨(by show 2≤sizeLine; decide),fun p3 hp3=>?_⟩⟩
 have s2:=ao hp2 (.tup [])
 have s3:=ao hp3 (.tup [.ref pc,.ref p2])
 have GA:=((G4.trans s1).trans g5).trans (s2.trans s3)
 have pRA:=Paired.mapP pR fun _ _ z=>cC.mono (av GA) z
 have ra:cC _ (.ref ua) r:=cC.mono (av GA) ⟨ua,.ref fa,rfl,hua,fa,fx,rfl,hfa,pF⟩
 refine ⟨_,rfl,ua,_,_,_,rfl,rfl,SqT.of (GA _ _ hua),rfl,.ref p3,r.1,R1++[r],rfl,⟨p3,.ref pc,.ref p2,rfl,ag,pc,_,rfl,(s2.trans s3) _ _ hpc,Paired.snoc pRA ra⟩,(hg.deep _ hat).mono (by omega),hg.first,by decide,fun rr ys H6 g6 _ hrr _ ly _=>⟨rr,_,rfl,.inl (SqL.of hrr),_,_,rfl,rfl,?_⟩⟩
 have e:decide (((ys.length:Nat):Int)≤8)=true:=decide_eq_true (by omega)
 show Q (.bl (decide (((ys.length:Nat):Int)≤8))) H6
 rw [e]
 exact q _ (GA.trans g6)
noncomputable abbrev nK:List Str:=["thing", "place", "record"]
theorem eg:aO nK ["thing"] (defScope eZ):=⟨rfl,rfl,rfl,by decide +kernel,rfl,by decide +kernel,by decide +kernel⟩
noncomputable def DD:Sp:=fun vs H Q _=>∃ ra rx R,vs=[.ref ra]∧H ra=some (.tup rx)∧Paired (cC H) rx R∧R.length≤3∧cG R∧(R.map (·.1)).Nodup∧∀ H',aZ H H'→Q (.bl true) H'
theorem Fv (TE:mg "enumerate"=none) (mRx:∃ t,mg "MOST_RECORDS"=some (.int 4 t)) (F:Fun K "are_records" "are_records" eZ f fd) (D_is_tuple_of:Cal P w K mg base 1 "is_tuple_of" ["thing", "least", "most"] zE) (D_is_record:Cal P w K mg base 6 "is_record" ["ahead", "thing"] FG):bj P w K mg base CX0 7 f fd ["thing"] DD:=by
 obtain ⟨g_is_record,gd_is_record,G_is_record,b_is_record,k_is_record,m_is_record⟩:=D_is_record.ex
 obtain ⟨g_is_tuple_of,gd_is_tuple_of,G_is_tuple_of,b_is_tuple_of,k_is_tuple_of,m_is_tuple_of⟩:=D_is_tuple_of.ex
 obtain ⟨tR,mR⟩:=mRx
 refine F.ok eg (fun vs H Q EX h=>?_) (fun cdv A outer s H vs Q EX hr h=>?_)
 ·obtain ⟨ra,rx,R,rfl,_⟩:=h
  rfl
 obtain ⟨ra,rx,R,rfl,hra,pR,hl3,hg,hnd,q⟩:=h
 have lR:=Paired.length pR
 refine ⟨_,(@am _ _ _ _ _ (@aR _ _ _ _ _ _ _ _ (bE (bt (@aq _ _ _ _ _ _ _ _ _ _ _ _ _ _ _ _ G_is_tuple_of (hr.mono (by omega)) rfl m_is_tuple_of k_is_tuple_of b_is_tuple_of .nil aC (@ad _ _ _ _ _ (pv 0) (@ad _ _ _ _ _ ak (@ad _ _ _ _ _ (bv (v:=.int 4) rfl mR ⟨_,rfl⟩) ah (ac rfl)) (ac rfl)) (ac rfl)) (by decide) (ac rfl) (aj rfl)))) (@ap _ _ _ (@ay _ _ _ _ bP)) aF) (@am _ _ _ _ _ (@cg _ _ _ _ _ _ _ _ PassesOwn.never rfl (lM rfl TE (pv 0)) (cZ rfl (aW (aH (i:=1) eg.nd rfl (Or.inl rfl)) (aW (aH (i:=2) eg.nd rfl (Or.inl rfl)) bS))) (@ap _ _ _ (@aR _ _ _ _ _ _ _ _ (bE (bt (@aq _ _ _ _ _ _ _ _ _ _ _ _ _ _ _ _ G_is_record (hr.mono (by omega)) rfl m_is_record k_is_record b_is_record .nil aC (@ad _ _ _ _ _ (@dI _ _ _ _ _ _ _ _ _ _ (uC.or qt) (pv 0) eS (eO (pv 1))) (@ad _ _ _ _ _ (pv 2) ah (ac rfl)) (ac rfl)) (by decide) (ac rfl) (aj rfl)))) (@ap _ _ _ (@ay _ _ _ _ bP)) aF)) (fun _=>rfl)) (@ap _ _ _ (@ay _ _ _ _ bP)))),?_⟩
 refine ⟨_,rfl,ra,0,4,rx,rfl,hra,by omega,by omega,_,rfl,bL ?_⟩
 refine ⟨_,rfl,ra,rfl,⟨rx,SqT.of hra⟩,jY (xs:=rx) (fun i σ H'=>∃ m1 m2,σ=[some (.ref ra),m1,m2]∧aZ H H') ⟨none,none,rfl,aZ.refl _⟩ (fun i σ H' _ p=>?_) (fun i x σ H' p hx hh hp=>?_) (fun σ H' p=>?_)⟩
 ·obtain ⟨_,_,rfl,g⟩:=p
  exact SqT.of (g _ _ hra)
 ·obtain ⟨m1,m2,rfl,g⟩:=hh
  have s1:=ao hp (.tup [.int (i:Int),x])
  have g1:=g.trans s1
  obtain ⟨r,hr',hrec⟩:=aY pR i x hx
  have et:R.take (i+1)=R.take i++[r]:=by rw [List.take_add_one,hr']; rfl
  have hi:i<R.length:=(List.getElem?_eq_some_iff.mp hr').1
  refine ⟨p,_,rfl,SqT.of ag,rfl,_,_,rfl,_,_,rfl,rfl,?_⟩
  refine ⟨_,rfl,_,rfl,_,rfl,?_⟩
  refine yI (g1 _ _ hra) fun pc H2 g2 hpc=>?_
  have G2:=g1.trans g2
  refine ⟨_,rfl,pc,_,R.take i,x,r,rfl,hpc,Paired.mapP (Paired.take' i pR) fun _ _ z=>cC.mono (av G2) z,cC.mono (av G2) hrec,by rw [← et]; exact hg.take _,by rw [← et,List.map_take]; exact hnd.sublist (List.take_sublist _ _),by rw [← et,List.length_take]; omega,fun H3 g3=>⟨_,rfl,bL ⟨_,_,rfl,G2.trans g3⟩⟩⟩
 ·obtain ⟨_,_,rfl,g⟩:=p
  exact q _ g
end
end K6
namespace L2
open PySem
theorem bj.or {P:Program} {w:World} {K:Frag} {mg:Str→Option Value} {base:Heap} {CX:CXT} {k:Nat} {f:Addr} {fd:FuncData} {ps:List Str} {sp sp':Sp} (F:bj P w K mg base CX k f fd ps sp) (G:bj P w K mg base CX k f fd ps sp'):bj P w K mg base CX k f fd ps (fun vs H Q E=>sp vs H Q E∨sp' vs H Q E) :=
 ⟨fun vs H Q E q=>q.elim (F.len vs H Q E) (G.len vs H Q E),fun A outer s H args us vs Q E hr he hb hv hs=>hs.elim (F.run A outer s H args us vs Q E hr he hb hv) (G.run A outer s H args us vs Q E hr he hb hv)⟩
end L2
namespace K6
open PySem L2
section
variable {P:Program} {w:World} {K:Frag} {mg:Str→Option Value} {base:Heap} {f g:Addr} {fd gd:FuncData}
noncomputable def DG (K:Frag):Sp:=fun vs H Q _=>∃ v z R FS,vs=[v,.str z]∧jU K H v R FS∧(∀ F∈FS,F.1.1≠z)∧Q .non H
theorem qN (F:Fun K "function_of" "function_of" dG f fd):bj P w K mg base CX0 1 f fd ["program", "f"] (DG K):=by
 refine F.ok cY (fun vs H Q EX h=>?_) (fun cdv A outer s H vs Q EX hr h=>?_)
 ·obtain ⟨v,z,R,FS,rfl,_⟩:=h
  rfl
 obtain ⟨v,z,R,FS,rfl,hp,hno,q⟩:=h
 obtain ⟨a,y,zz,fx,rfl,ha,hR,hzz,pf⟩:=hp
 refine ⟨_,(@am _ _ _ _ _ (@cg _ _ _ _ _ _ _ _ PassesOwn.never rfl (bJ (@aA _ _ _ _ _ _ _ aI (pv 0) ak (fun _ _=>rfl))) (aH (i:=2) cY.nd rfl (Or.inl rfl)) (@ap _ _ _ (@aR _ _ _ _ _ _ _ _ (@az _ _ _ _ _ _ _ _ bg (@aA _ _ _ _ _ _ _ aI (pv 2) ak (fun _ _=>rfl)) (pv 1) (aG _)) (@ap _ _ _ (@ay _ _ _ _ (pv 2))) aF)) (fun _=>rfl)) (@ap _ _ _ (@ay _ _ _ _ cu))),?_⟩
 refine ⟨_,rfl,a,_,_,_,rfl,rfl,SqT.of ha,rfl,zz,rfl,⟨fx,SqT.of hzz⟩,eU (xs:=fx) (fun i σ H'=>∃ m,σ=[some (.ref a),some (.str z),m]∧H'=H) ⟨none,rfl,rfl⟩ (fun i σ H' _ p=>?_) (fun i x σ H' hx p=>?_) (fun σ H' p=>?_)⟩
 ·obtain ⟨_,_,rfl⟩:=p
  exact SqT.of hzz
 ·obtain ⟨m,rfl,rfl⟩:=p
  obtain ⟨G,hG,hGa⟩:=aY pf i x hx
  obtain ⟨c,p1,q1,bb,xs,rfl,hc,r1,r2,r3,r4⟩:=id hGa
  refine ⟨_,rfl,c,_,_,_,rfl,rfl,SqT.of hc,rfl,_,rfl,rfl,_,rfl,?_⟩
  exact aE (fun cc=>absurd (eqS cc) (hno G (List.mem_of_getElem? hG))) (fun cc=>⟨_,rfl,rfl⟩)
 ·obtain ⟨m,rfl,rfl⟩:=p
  exact q
noncomputable abbrev gL:List Str:=["records", "ahead", "thing", "names"]
noncomputable abbrev gQ:List Str:=["pair"]
theorem ld:gQ.Nodup:=by decide +kernel
noncomputable abbrev gS:List Str:=["function"]
theorem kM:gS.Nodup:=by decide +kernel
theorem jC:aO gL ["records", "ahead", "thing"] (defScope dH):=⟨rfl,rfl,rfl,by decide +kernel,rfl,by decide +kernel,by decide +kernel⟩
structure HP (R:List Rec) (h:cI):Prop where
 nm:h.1∈cX
 p2:h.2.1.length≤2
 l5:(h.2.1++h.2.2.1).length≤5
 nd:((h.2.1++h.2.2.1).map (·.1)).Nodup
 vs:∀ p∈h.2.1++h.2.2.1,p.1∈cX∧p.2∈KS R
 gv:h.2.2.2∈KS R
noncomputable def GG (K:Frag):Sp:=fun vs H Q _=>∃ ra rx R aa ax F1 u F,vs=[.ref ra,.ref aa,u]∧H ra=some (.tup rx)∧Paired (cC H) rx R∧R.length≤10∧H aa=some (.tup ax)∧Paired (eE K H) ax F1∧F1.length≤10∧eE K H u F∧F.1.1∉F1.map (·.1.1)∧HP R F.1∧∀ H',aZ H H'→Q (.bl true) H'
theorem Hi (T:G0 mg) (TS:mg "set"=none) (mPx:∃ t,mg "MOST_PARAMS"=some (.int 4 t)) (mLx:∃ t,mg "MOST_LOCALS"=some (.int 6 t)) (F:Fun K "is_headed" "is_headed" dH f fd) (D_is_tuple_of:Cal P w K mg base 1 "is_tuple_of" ["thing", "least", "most"] zE) (D_is_name:Cal P w K mg base 1 "is_name" ["thing"] mU)
  (D_is_kind:Cal P w K mg base 1 "is_kind" ["records", "thing"] mw) (D_are_named:Cal P w K mg base 2 "are_named" ["records", "thing", "least", "most"] Bz):bj P w K mg base CX0 3 f fd ["records", "ahead", "thing"] (GG K):=by
 obtain ⟨g_are_named,gd_are_named,G_are_named,b_are_named,k_are_named,m_are_named⟩:=D_are_named.ex
 obtain ⟨g_is_kind,gd_is_kind,G_is_kind,b_is_kind,k_is_kind,m_is_kind⟩:=D_is_kind.ex
 obtain ⟨g_is_name,gd_is_name,G_is_name,b_is_name,k_is_name,m_is_name⟩:=D_is_name.ex
 obtain ⟨g_is_tuple_of,gd_is_tuple_of,G_is_tuple_of,b_is_tuple_of,k_is_tuple_of,m_is_tuple_of⟩:=D_is_tuple_of.ex
 obtain ⟨tP,mPm⟩:=mPx
 obtain ⟨tL,mLo⟩:=mLx
 refine F.ok jC (fun vs H Q EX h=>?_) (fun cdv A outer s H vs Q EX hr h=>?_)
 ·obtain ⟨ra,rx,R,aa,ax,F1,u,F,rfl,_⟩:=h
  rfl
 obtain ⟨ra,rx,R,aa,ax,F1,u,FF,rfl,hra,pR,lR,haa,pA,lA,⟨fa,p,p',bb,xs,rfl,hfa,⟨pa,px,rfl,hpa,ppx⟩,⟨qa,qx,rfl,hqa,pqx⟩,hbb,dxs⟩,hni,hp,q⟩:=h
 have lax:=Paired.length pA
 have lpx:=Paired.length ppx
 have lqx:=Paired.length pqx
 have l5:=hp.l5
 rw [List.length_append] at l5
 have nd:=hp.nd
 rw [List.map_append,List.nodup_append] at nd
 refine ⟨_,(@am _ _ _ _ _ (@aR _ _ _ _ _ _ _ _ (PW.pt (cw (bE (bt (@aq _ _ _ _ _ _ _ _ _ _ _ _ _ _ _ _ G_is_tuple_of (hr.mono (by omega)) rfl m_is_tuple_of k_is_tuple_of b_is_tuple_of .nil aC (@ad _ _ _ _ _ (pv 2) (@ad _ _ _ _ _ ak (@ad _ _ _ _ _ ak ah (ac rfl)) (ac rfl)) (ac rfl)) (by decide) (ac rfl) (aj rfl)))) (cw (bE (bt (@aq _ _ _ _ _ _ _ _ _ _ _ _ _ _ _ _ G_is_name (hr.mono (by omega)) rfl m_is_name k_is_name b_is_name .nil aC (@ad _ _ _ _ _ (@aA _ _ _ _ _ _ _ aI (pv 2) ak (fun _ _=>rfl)) ah (ac rfl)) (by decide) (ac rfl) (aj rfl)))) (cr (bE (bt (@aK _ _ _ _ _ _ _ _ _ bQ rfl T.isi dS (@ad _ _ _ _ _ (@aA _ _ _ _ _ _ _ aI (pv 2) ak (fun _ _=>rfl)) (@ad _ _ _ _ _ (cm (v:=.ty "tuple") rfl T.tuple cb rfl) ah (ac rfl)) (ac rfl)) (by decide) (by decide) (ac rfl) (aj rfl)))))))) (@ap _ _ _ (@ay _ _ _ _ bP)) aF) (@am _ _ _ _ _ (@aR _ _ _ _ _ _ _ _ (PW.pt (cw (@az _ _ _ _ _ _ _ _ cN (@aA _ _ _ _ _ _ _ aI (pv 2) ak (fun _ _=>rfl)) (bH (N':=gS) (ρ:=[none]) (m:=1) (bI.of (fs:=defScope dH) (N:=gL) rfl rfl (by decide +kernel)) rfl (bJ (pv 1)) (fun _ _ _ _=>(aH (i:=0) kM rfl (Or.inl rfl))) (fun _ _ _ _=>bC) (fun _ _ _ _=>(aA (cx (K:=K) rfl) (pv 0) ak (fun _ _=>rfl)))) rfl) (cr (bE (bt (@aq _ _ _ _ _ _ _ _ _ _ _ _ _ _ _ _ G_is_kind (hr.mono (by omega)) rfl m_is_kind k_is_kind b_is_kind .nil aC (@ad _ _ _ _ _ (pv 0) (@ad _ _ _ _ _ (@aA _ _ _ _ _ _ _ aI (pv 2) ak (fun _ _=>rfl)) ah (ac rfl)) (ac rfl)) (by decide) (ac rfl) (aj rfl))))))) (@ap _ _ _ (@ay _ _ _ _ bP)) aF) (@am _ _ _ _ _ (@aR _ _ _ _ _ _ _ _ (PW.pt (cw (bE (bt (@aq _ _ _ _ _ _ _ _ _ _ _ _ _ _ _ _ G_are_named (hr.mono (by omega)) rfl m_are_named k_are_named b_are_named .nil aC (@ad _ _ _ _ _ (pv 0) (@ad _ _ _ _ _ (@aA _ _ _ _ _ _ _ aI (pv 2) ak (fun _ _=>rfl)) (@ad _ _ _ _ _ ak (@ad _ _ _ _ _ (bv (v:=.int 4) rfl mPm ⟨_,rfl⟩) ah (ac rfl)) (ac rfl)) (ac rfl)) (ac rfl)) (by decide) (ac rfl) (aj rfl)))) (cr (bE (bt (@aq _ _ _ _ _ _ _ _ _ _ _ _ _ _ _ _ G_are_named (hr.mono (by omega)) rfl m_are_named k_are_named b_are_named .nil aC (@ad _ _ _ _ _ (pv 0) (@ad _ _ _ _ _ (@aA _ _ _ _ _ _ _ aI (pv 2) ak (fun _ _=>rfl)) (@ad _ _ _ _ _ ak (@ad _ _ _ _ _ (bv (v:=.int 6) rfl mLo ⟨_,rfl⟩) ah (ac rfl)) (ac rfl)) (ac rfl)) (ac rfl)) (by decide) (ac rfl) (aj rfl))))))) (@ap _ _ _ (@ay _ _ _ _ bP)) aF) (@am _ _ _ _ _ (dW (i:=3) (N':=gQ) (ρ:=[none]) (m:=1) (bI.of (fs:=defScope dH) (N:=gL) rfl rfl (by decide +kernel)) jC.nd rfl (Or.inl rfl) rfl (bJ (ba (fR.or eM) (aA aI (pv 2) ak (fun _ _=>rfl)) (aA aI (pv 2) ak (fun _ _=>rfl)))) (fun _ _ _ _=>(aH (i:=0) ld rfl (Or.inl rfl))) (fun _ _ _ _=>bC) (fun _ _ _ _=>(aA (cx (K:=K) rfl) (pv 0) ak (fun _ _=>rfl)))) (@ap _ _ _ (@ay _ _ _ _ (@bW _ _ _ _ _ _ _ _ bg (oK rfl rfl T.len rfl TS (pv 3)) (@aK _ _ _ _ _ _ _ _ _ aU rfl T.len cv (@ad _ _ _ _ _ (pv 3) ah (ac rfl)) (by decide) (by decide) (ac rfl) (aj rfl)) (aG _)))))))),?_⟩
 refine ⟨_,rfl,fa,5,5,_,rfl,hfa,by simp,by simp,_,rfl,bL ?_⟩
 refine ⟨_,rfl,fa,_,_,_,rfl,rfl,SqT.of hfa,rfl,FF.1.1,rfl,hp.nm,fun H2 g2=>⟨_,rfl,bL ?_⟩⟩
 refine ⟨_,rfl,fa,_,_,_,rfl,rfl,SqT.of (g2 _ _ hfa),rfl,_,_,_,true,rfl,.tup (g2 _ _ hbb),rfl,_,rfl,bL ?_⟩
 have haa2:=g2 _ _ haa
 refine ⟨_,rfl,fa,_,_,_,rfl,rfl,SqT.of (g2 _ _ hfa),rfl,_,rfl,aa,rfl,⟨ax,SqT.of haa2⟩,bO (xs:=ax) ax.length rfl (by omega) (fun i acc H'=>H'=H2∧acc=((F1.take i).map (·.1.1)).map V.str) ⟨rfl,rfl⟩ (fun i acc H' p=>by rw [p.1]; exact SqT.of haa2) (fun i acc H' x hi la hx p=>?_) (fun acc H' p la D hD=>?_)⟩
 ·obtain ⟨rfl,rfl⟩:=p
  obtain ⟨r1,hr1,hra1⟩:=aY pA i x hx
  obtain ⟨c,_,_,_,_,rfl,hc,_⟩:=hra1.mono (av g2)
  refine ⟨⟨rfl,rfl⟩,bD ⟨_,rfl,c,_,_,_,rfl,rfl,SqT.of hc,rfl,nxT (by omega) hi la ⟨rfl,?_⟩⟩⟩
  rw [List.take_add_one,hr1,List.map_append,List.map_append]
  rfl
 obtain ⟨rfl,rfl⟩:=p
 rw [lax,List.take_length]
 refine ⟨D,_,rfl,.inl (SqL.of ag),rfl,gf _,_,rfl,?_⟩
 refine aE (fun c=>?_) (fun c=>?_)
 ·exact absurd (show inV (.str FF.1.1) ((F1.map (·.1.1)).map V.str)=true from c) (by rw [jI]; simp only [decide_eq_true_eq]; exact hni)
 have G3:=g2.trans (ao hD (.lst ((F1.map (·.1.1)).map V.str)))
 have rec_:∀ {Hx:Hp},aZ H Hx→Paired (cC Hx) rx R:=fun gx=>Paired.mapP pR fun _ _ z=>cC.mono (av gx) z
 refine ⟨_,rfl,_,rfl,fa,_,_,_,rfl,rfl,SqT.of (G3 _ _ hfa),rfl,ra,rx,R,FF.1.2.2.2,rfl,G3 _ _ hra,rec_ G3,lR,hp.gv,fun H4 g4=>⟨_,rfl,bL ?_⟩⟩
 have G4:=G3.trans g4
 refine ⟨_,rfl,_,rfl,fa,_,_,_,rfl,rfl,SqT.of (G4 _ _ hfa),rfl,ra,rx,R,pa,px,FF.1.2.1,0,4,rfl,G4 _ _ hra,rec_ G4,lR,G4 _ _ hpa,Paired.mapP ppx fun _ _ z=>cy.mono (av G4) z,by omega,by have:=hp.p2; omega,by omega,fun p hp'=>hp.vs p (List.mem_append_left _ hp'),nd.1,fun H5 g5=>⟨_,rfl,bL ?_⟩⟩
 have G5:=G4.trans g5
 refine ⟨_,rfl,_,rfl,fa,_,_,_,rfl,rfl,SqT.of (G5 _ _ hfa),rfl,ra,rx,R,qa,qx,FF.1.2.2.1,0,6,rfl,G5 _ _ hra,rec_ G5,lR,G5 _ _ hqa,Paired.mapP pqx fun _ _ z=>cy.mono (av G5) z,by omega,by omega,by omega,fun p hp'=>hp.vs p (List.mem_append_right _ hp'),nd.2.1,fun H6 g6=>⟨_,rfl,bL ?_⟩⟩
 have G6:=G5.trans g6
 refine ⟨_,rfl,fa,_,_,_,rfl,rfl,SqT.of (G6 _ _ hfa),rfl,_,rfl,fa,_,_,_,rfl,rfl,SqT.of (G6 _ _ hfa),rfl,?_⟩
 refine iR (G6 _ _ hpa) (G6 _ _ hqa) (by omega) fun pc H7 g7 hpc=>?_
 have G7:=G6.trans g7
 have pv7:=Paired.app' (Paired.mapP ppx fun _ _ z=>cy.mono (av G7) z) (Paired.mapP pqx fun _ _ z=>cy.mono (av G7) z)
 have lv:=Paired.length pv7
 rw [List.length_append,List.length_append] at lv
 refine ⟨pc,rfl,⟨_,SqT.of hpc⟩,bO (xs:=px++qx) (px++qx).length rfl (by rw [List.length_append]; omega) (fun i acc H'=>H'=H7∧acc=(((FF.1.2.1++FF.1.2.2.1).take i).map (·.1)).map V.str) ⟨rfl,rfl⟩ (fun i acc H' p=>by rw [p.1]; exact SqT.of hpc) (fun i acc H' x hi la hx p=>?_) (fun acc H' p la D2 hD2=>?_)⟩
 ·obtain ⟨rfl,rfl⟩:=p
  obtain ⟨fl,hfl,c,rfl,hc⟩:=aY pv7 i x hx
  refine ⟨⟨rfl,rfl⟩,bD ⟨_,rfl,c,_,_,_,rfl,rfl,SqT.of hc,rfl,nxT (by rw [List.length_append]; omega) hi la ⟨rfl,?_⟩⟩⟩
  rw [List.take_add_one,hfl,List.map_append,List.map_append]
  rfl
 obtain ⟨rfl,rfl⟩:=p
 rw [List.length_append,lv,← List.length_append,List.take_length]
 dsimp only [iJ]
 refine ⟨_,rfl,D2,_,rfl,SqL.of ag,hp.nd,by rw [List.length_map,List.length_append]; omega,_,rfl,D2,_,rfl,.inl (SqL.of ag),rfl,?_⟩
 have e:decide (V.int ((((FF.1.2.1++FF.1.2.2.1).map (·.1)).length:Nat):Int)=V.int (((((FF.1.2.1++FF.1.2.2.1).map (·.1)).map V.str).length:Nat):Int))=true:=decide_eq_true (by rw [List.length_map (as:=(FF.1.2.1++FF.1.2.2.1).map (·.1))])
 show Q (.bl (decide _)) _
 rw [e]
 exact q _ (G7.trans (ao hD2 _))
noncomputable abbrev kX:List Str:=["thing", "number", "function", "k"]
theorem bT:aO kX ["thing"] (defScope dQ):=⟨rfl,rfl,rfl,by decide +kernel,rfl,by decide +kernel,by decide +kernel⟩
structure RP (R:List Rec) (FS:List fB):Prop where
 g:cG R
 nd:(R.map (·.1)).Nodup
 rl:R.length≤3
 f1:1≤FS.length
 f3:FS.length≤3
 fn:(FS.map (·.1.1)).Nodup
 hd:∀ F∈FS,HP R F.1
 ok:∀ F∈FS,cJ R (FS.map (·.1)) (F.1.2.1++F.1.2.2.1) F.1.2.2.2 F.2∧S.cnts F.2≤8∧∀ s∈F.2,NS 3 s
noncomputable def yZ (K:Frag):Sp:=fun vs H Q _=>∃ v R FS,vs=[v]∧jU K H v R FS∧RP R FS∧∀ H',aZ H H'→Q (.bl true) H'
theorem Cw (TE:mg "enumerate"=none) (mFx:∃ t,mg "MOST_FUNCTIONS"=some (.int 6 t)) (F:Fun K "right_program" "right_program" dQ f fd) (D_is_tuple_of:Cal P w K mg base 1 "is_tuple_of" ["thing", "least", "most"] zE) (D_are_records:Cal P w K mg base 7 "are_records" ["thing"] DD)
  (D_is_headed:Cal P w K mg base 3 "is_headed" ["records", "ahead", "thing"] (GG K)) (D_first_wrong_line:Cal P w K mg base 33 "first_wrong_line" ["program", "function"] (Gq K)):bj P w K mg base CX0 34 f fd ["thing"] (yZ K):=by
 obtain ⟨g_first_wrong_line,gd_first_wrong_line,G_first_wrong_line,b_first_wrong_line,k_first_wrong_line,m_first_wrong_line⟩:=D_first_wrong_line.ex
 obtain ⟨g_is_headed,gd_is_headed,G_is_headed,b_is_headed,k_is_headed,m_is_headed⟩:=D_is_headed.ex
 obtain ⟨g_is_tuple_of,gd_is_tuple_of,G_is_tuple_of,b_is_tuple_of,k_is_tuple_of,m_is_tuple_of⟩:=D_is_tuple_of.ex
 obtain ⟨g_are_records,gd_are_records,G_are_records,b_are_records,k_are_records,m_are_records⟩:=D_are_records.ex
 obtain ⟨tF,mFu⟩:=mFx
 refine F.ok bT (fun vs H Q EX h=>?_) (fun cdv A outer s H vs Q EX hr h=>?_)
 ·obtain ⟨v,R,FS,rfl,_⟩:=h
  rfl
 obtain ⟨v,R,FS,rfl,hpg,rp,q⟩:=h
 obtain ⟨a,y,z,fx,rfl,ha,⟨ra,rx,rfl,hra,pR⟩,hz,pf⟩:=id hpg
 have lfx:=Paired.length pf
 have lR:=rp.rl
 have l1:=rp.f1
 have l3:=rp.f3
 have hps:∀ F'∈FS,F'.1.2.1.length≤10∧∀ p∈F'.1.2.1,PyData.strOk p.2=true:=fun F' hF'=>⟨by have:=(rp.hd F' hF').p2; omega,fun p hp=>Ct rp.g ((rp.hd F' hF').vs p (List.mem_append_left _ hp)).2⟩
 refine ⟨_,(@am _ _ _ _ _ (@aR _ _ _ _ _ _ _ _ (PW.pt (cw (bE (bt (@aq _ _ _ _ _ _ _ _ _ _ _ _ _ _ _ _ G_is_tuple_of (hr.mono (by omega)) rfl m_is_tuple_of k_is_tuple_of b_is_tuple_of .nil aC (@ad _ _ _ _ _ (pv 0) (@ad _ _ _ _ _ ak (@ad _ _ _ _ _ ak ah (ac rfl)) (ac rfl)) (ac rfl)) (by decide) (ac rfl) (aj rfl)))) (cw (bE (bt (@aq _ _ _ _ _ _ _ _ _ _ _ _ _ _ _ _ G_are_records (hr.mono (by omega)) rfl m_are_records k_are_records b_are_records .nil aC (@ad _ _ _ _ _ (@aA _ _ _ _ _ _ _ aI (pv 0) ak (fun _ _=>rfl)) ah (ac rfl)) (by decide) (ac rfl) (aj rfl)))) (cr (bE (bt (@aq _ _ _ _ _ _ _ _ _ _ _ _ _ _ _ _ G_is_tuple_of (hr.mono (by omega)) rfl m_is_tuple_of k_is_tuple_of b_is_tuple_of .nil aC (@ad _ _ _ _ _ (@aA _ _ _ _ _ _ _ aI (pv 0) ak (fun _ _=>rfl)) (@ad _ _ _ _ _ ak (@ad _ _ _ _ _ (bv (v:=.int 6) rfl mFu ⟨_,rfl⟩) ah (ac rfl)) (ac rfl)) (ac rfl)) (by decide) (ac rfl) (aj rfl)))))))) (@ap _ _ _ nj) aF) (@am _ _ _ _ _ (@cg _ _ _ _ _ _ _ _ PassesOwn.never rfl (lM rfl TE (@aA _ _ _ _ _ _ _ aI (pv 0) ak (fun _ _=>rfl))) (cZ rfl (aW (aH (i:=1) bT.nd rfl (Or.inl rfl)) (aW (aH (i:=2) bT.nd rfl (Or.inl rfl)) bS))) (@ap _ _ _ (@aR _ _ _ _ _ _ _ _ (bE (bt (@aq _ _ _ _ _ _ _ _ _ _ _ _ _ _ _ _ G_is_headed (hr.mono (by omega)) rfl m_is_headed k_is_headed b_is_headed .nil aC (@ad _ _ _ _ _ (@aA _ _ _ _ _ _ _ aI (pv 0) ak (fun _ _=>rfl)) (@ad _ _ _ _ _ (@dI _ _ _ _ _ _ _ _ _ _ (uC.or qt) (@aA _ _ _ _ _ _ _ aI (pv 0) ak (fun _ _=>rfl)) eS (eO (pv 1))) (@ad _ _ _ _ _ (pv 2) ah (ac rfl)) (ac rfl)) (ac rfl)) (by decide) (ac rfl) (aj rfl)))) (@ap _ _ _ nj) aF)) (fun _=>rfl)) (@am _ _ _ _ _ (@cg _ _ _ _ _ _ _ _ PassesOwn.never rfl (lM rfl TE (@aA _ _ _ _ _ _ _ aI (pv 0) ak (fun _ _=>rfl))) (cZ rfl (aW (aH (i:=1) bT.nd rfl (Or.inl rfl)) (aW (aH (i:=2) bT.nd rfl (Or.inl rfl)) bS))) (@am _ _ _ _ _ (@aM _ _ 3 _ _ _ _ bT.nd rfl (Or.inl rfl) (@aq _ _ _ _ _ _ _ _ _ _ _ _ _ _ _ _ G_first_wrong_line (hr.mono (by omega)) rfl m_first_wrong_line k_first_wrong_line b_first_wrong_line .nil aC (@ad _ _ _ _ _ (pv 0) (@ad _ _ _ _ _ (pv 2) ah (ac rfl)) (ac rfl)) (by decide) (ac rfl) (aj rfl)) (aD rfl) (.inr rfl)) (@ap _ _ _ (@aR _ _ _ _ _ _ _ _ (@az _ _ _ _ _ _ _ _ qr (pv 3) cu (aG _)) (@ap _ _ _ nj) aF))) (fun _=>rfl)) (@ap _ _ _ (@ay _ _ _ _ bP))))),?_⟩
 refine ⟨_,rfl,a,2,2,_,rfl,ha,by simp,by simp,_,rfl,bL ?_⟩
 refine ⟨_,rfl,a,_,_,_,rfl,rfl,SqT.of ha,rfl,ra,rx,R,rfl,hra,pR,rp.rl,rp.g,rp.nd,fun H2 g2=>⟨_,rfl,bL ?_⟩⟩
 refine ⟨_,rfl,a,_,_,_,rfl,rfl,SqT.of (g2 _ _ ha),rfl,z,1,6,fx,rfl,g2 _ _ hz,by omega,by omega,_,rfl,bL ?_⟩
 refine ⟨_,rfl,a,_,_,_,rfl,rfl,SqT.of (g2 _ _ ha),rfl,z,rfl,⟨fx,SqT.of (g2 _ _ hz)⟩,jY (xs:=fx) (fun i σ H'=>∃ m1 m2,σ=[some (.ref a),m1,m2,none]∧aZ H H') ⟨none,none,rfl,g2⟩ (fun i σ H' _ p=>?_) (fun i x σ H' p hx hh hp=>?_) (fun σ H' p=>?_)⟩
 ·obtain ⟨_,_,rfl,g⟩:=p
  exact SqT.of (g _ _ hz)
 ·obtain ⟨m1,m2,rfl,g⟩:=hh
  have g1:=g.trans (ao hp (.tup [.int (i:Int),x]))
  obtain ⟨F1,hF1,hfun⟩:=aY pf i x hx
  refine ⟨p,_,rfl,SqT.of ag,rfl,_,_,rfl,_,_,rfl,rfl,?_⟩
  refine ⟨_,rfl,a,_,_,_,rfl,rfl,SqT.of (g1 _ _ ha),rfl,_,rfl,a,_,_,_,rfl,rfl,SqT.of (g1 _ _ ha),rfl,_,rfl,_,rfl,?_⟩
  refine yI (g1 _ _ hz) fun pc H2 g2 hpc=>?_
  have G2:=g1.trans g2
  refine ⟨_,rfl,ra,rx,R,pc,_,FS.take i,x,F1,rfl,G2 _ _ hra,Paired.mapP pR fun _ _ z=>cC.mono (av G2) z,by omega,hpc,Paired.mapP (Paired.take' i pf) fun _ _ z=>eE.mono (av G2) z,by rw [List.length_take]; omega,hfun.mono (av G2),?_,rp.hd F1 (List.mem_of_getElem? hF1),fun H3 g3=>⟨_,rfl,bL ⟨_,_,rfl,G2.trans g3⟩⟩⟩
  have fn:=rp.fn
  obtain ⟨hi,ee⟩:=List.getElem?_eq_some_iff.mp hF1
  rw [← List.take_append_drop i FS,List.map_append,List.nodup_append] at fn
  intro hm
  refine fn.2.2 _ hm _ ?_ rfl
  rw [List.drop_eq_getElem_cons hi,ee]
  exact List.mem_cons_self ..
 ·obtain ⟨m1,m2,rfl,g⟩:=p
  refine ⟨_,rfl,a,_,_,_,rfl,rfl,SqT.of (g _ _ ha),rfl,z,rfl,⟨fx,SqT.of (g _ _ hz)⟩,jY (xs:=fx) (fun i σ H'=>∃ m1 m2 m3,σ=[some (.ref a),m1,m2,m3]∧aZ H H') ⟨m1,m2,none,rfl,g⟩ (fun i σ H' _ p=>?_) (fun i x σ H' p hx hh hp=>?_) (fun σ H' p=>?_)⟩
  ·obtain ⟨_,_,_,rfl,g⟩:=p
   exact SqT.of (g _ _ hz)
  ·obtain ⟨m1,m2,m3,rfl,g⟩:=hh
   have g1:=g.trans (ao hp (.tup [.int (i:Int),x]))
   obtain ⟨F1,hF1,hfun⟩:=aY pf i x hx
   have hm:=List.mem_of_getElem? hF1
   have hd1:=rp.hd F1 hm
   obtain ⟨o1,o2,o3⟩:=rp.ok F1 hm
   refine ⟨p,_,rfl,SqT.of ag,rfl,_,_,rfl,_,_,rfl,rfl,?_⟩
   refine ⟨_,rfl,_,rfl,.ref a,x,R,FS,F1,rfl,hpg.mono (av g1),rp.fn,rp.g.looks,hfun.mono (av g1),hd1.nd,hd1.l5,hps,o1,o2,o3,fun H3 g3=>?_⟩
   refine ⟨_,rfl,rfl,_,rfl,bL ?_⟩
   exact ⟨_,_,_,rfl,g1.trans g3⟩
  ·obtain ⟨_,_,_,rfl,g⟩:=p
   exact q _ g
end
end K6
namespace L2
open PySem PySem.Spec PyProof.Rows
theorem Dy {X:Cx}:OpR X (compareOp .IsNot) (fun x y H Q=>∃ b c,x=.bl b∧y=.bl c∧Q (.bl (!(b==c))) H):=by
 intro pins s σ H x y v u Q I rx ry h
 obtain ⟨b,c,rfl,rfl,q⟩:=h
 cases rx
 cases ry
 refine wpAny_pure (bh I q ?_)
 cases b<;>cases c<;>first | rfl | decide
end L2
namespace K6
open PySem L2
theorem zg:∀ z∈cX,z ≠ "nobody":=by decide +kernel
theorem uY.rp {R:List Rec} {HS:List cI} {FS:List fB} (o:uY R HS FS):RP R FS:=by
 have lf:FS.length=HS.length:=by rw [← o.eh,List.length_map]
 have hm:∀ F∈FS,F.1∈HS:=fun F hF=>by rw [← o.eh]; exact List.mem_map.mpr ⟨F,hF,rfl⟩
 refine ⟨o.g,o.nd,o.rl,by rw [lf]; exact o.hs.l1,by rw [lf]; exact o.hs.l3,?_,fun F hF=>?_,fun F hF=>?_⟩
 ·have:=o.hs.nd
  rw [← o.eh,List.map_map] at this
  exact this
 ·have h:=o.hs.ok F.1 (hm F hF)
  exact ⟨h.nm,h.p2,h.l5,h.nd,h.vs,h.gv⟩
 ·have h:=o.ok F hF
  exact ⟨by rw [o.eh]; exact h.ok,h.c8,h.ns⟩
theorem rp0:RP [] [(("a",[],[], "num"),[])]:=by
 refine ⟨fun i r h=>by simp at h,List.nodup_nil,Nat.zero_le _,Nat.le_refl _,by simp,by simp,fun F hF=>?_,fun F hF=>?_⟩
 ·rw [List.mem_singleton.mp hF]
  exact ⟨by decide +kernel,by simp,by simp,by simp,(fun p hp=>by simp at hp),by decide +kernel⟩
 ·rw [List.mem_singleton.mp hF]
  exact ⟨by simp only [cJ],by simp [S.cnts],fun s hs=>by simp at hs⟩
theorem bA.d60 {m b:Nat} {d:PyData} (n:bA m b d) (hm:m≤60):d.depth≤60:=Nat.le_trans n.dp hm
theorem bA.szl {m b:Nat} {d:PyData} (n:bA m b d) (hb:b≤sizeLine):d.shown.length≤sizeLine:=Nat.le_trans (uq d n.nd) (Nat.le_trans n.sz hb)
theorem uY.fun_nice {R:List Rec} {HS:List cI} {FS:List fB} (o:uY R HS FS) {F:fB} (hF:F∈FS):bA 25 BP (kh F):=by
 have n0:bA (26+1) BP (.tuple [.tuple (R.map wT),.tuple (FS.map kh)]):=o.nice
 have n1:=n0.of_tup.1.get (i:=1) (d:=.tuple (FS.map kh)) rfl
 have n1':bA (25+1) (BP - 3) (.tuple (FS.map kh)):=n1
 obtain ⟨i,hi⟩:=List.mem_iff_getElem?.mp hF
 exact (n1'.of_tup.1.get (i:=i) (d:=kh F) (by rw [List.getElem?_map,hi]; rfl)).mono (Nat.le_refl _) (by generalize BP=B; omega)
section
variable {P:Program} {w:World} {K:Frag} {mg:Str→Option Value} {base:Heap} {f g:Addr} {fd gd:FuncData}
noncomputable def Ag (K:Frag):Sp:=fun vs H Q _=>∃ (a:Addr) (ns:List Int),vs=[.ref a]∧SqL K H a (ns.map V.int)∧∀ H',Q (.bl true) H'
noncomputable abbrev GL:List Str:=["_law_script", "_law_tape_here", "_law_turn", "_law_program_here", "_law_kept", "_law_function"]
theorem jZ:aO GL ["_law_script"] (defScope yo):=⟨rfl,rfl,rfl,by decide +kernel,rfl,by decide +kernel,by decide +kernel⟩
noncomputable def FL (K:Frag):Sp:=fun vs H Q E=>iK K vs H Q E∨DG K vs H Q E
theorem Eh (T:G0 mg) (F:Fun K "law" "law" yo f fd) (D_right_program:Cal P w K mg base 34 "right_program" ["thing"] (yZ K)) (D_function_of:Cal P w K mg base 1 "function_of" ["program", "f"] (FL K))
  (D_l_program:Cal P w K mg base 23 "_law_program" ["_law_tape_here"] (oI K)) (D_l_tape:Cal P w K mg base 1 "_law_tape" ["_law_script"] (Bu K)):bj P w K mg base CX0 35 f fd ["_law_script"] (Ag K):=by
 obtain ⟨g_right_program,gd_right_program,G_right_program,b_right_program,k_right_program,m_right_program⟩:=D_right_program.ex
 obtain ⟨g_function_of,gd_function_of,G_function_of,b_function_of,k_function_of,m_function_of⟩:=D_function_of.ex
 obtain ⟨g_l_program,gd_l_program,G_l_program,b_l_program,k_l_program,m_l_program⟩:=D_l_program.ex
 obtain ⟨g_l_tape,gd_l_tape,G_l_tape,b_l_tape,k_l_tape,m_l_tape⟩:=D_l_tape.ex
 refine F.ok jZ (fun vs H Q EX h=>?_) (fun cdv A outer s H vs Q EX hr h=>?_)
 ·obtain ⟨a,ns,rfl,_⟩:=h
  rfl
 obtain ⟨a,ns,rfl,hS,q⟩:=h
 have hbp:=FW
 refine ⟨_,(@am _ _ _ _ _ (@aM _ _ 1 _ _ _ _ jZ.nd rfl (Or.inl rfl) (@aq _ _ _ _ _ _ _ _ _ _ _ _ _ _ _ _ G_l_tape (hr.mono (by omega)) rfl m_l_tape k_l_tape b_l_tape .nil aC (@ad _ _ _ _ _ (pv 0) ah (ac rfl)) (by decide) (ac rfl) (aj rfl)) (aD rfl) (.inr rfl)) (@am _ _ _ _ _ (@cg _ _ _ _ _ _ _ _ PassesOwn.never rfl (dB rfl T.range (@ad _ _ _ _ _ ak ah (ac rfl))) (aH (i:=2) jZ.nd rfl (Or.inl rfl)) (@am _ _ _ _ _ (@aM _ _ 3 _ _ _ _ jZ.nd rfl (Or.inl rfl) (@aq _ _ _ _ _ _ _ _ _ _ _ _ _ _ _ _ G_l_program (hr.mono (by omega)) rfl m_l_program k_l_program b_l_program .nil aC (@ad _ _ _ _ _ (pv 1) ah (ac rfl)) (by decide) (ac rfl) (aj rfl)) (aD rfl) (.inr rfl)) (@am _ _ _ _ _ (@aM _ _ 4 _ _ _ _ jZ.nd rfl (Or.inl rfl) (@aK _ _ _ _ _ _ _ _ _ (fN hr.units hr.gd) rfl T.repr rj (@ad _ _ _ _ _ (pv 3) ah (ac rfl)) (by decide) (by decide) (ac rfl) (aj rfl)) (aD rfl) (.inr rfl)) (@am _ _ _ _ _ (@aR _ _ _ _ _ _ _ _ (@az _ _ _ _ _ _ _ _ Dy (@aq _ _ _ _ _ _ _ _ _ _ _ _ _ _ _ _ G_right_program (hr.mono (by omega)) rfl m_right_program k_right_program b_right_program .nil aC (@ad _ _ _ _ _ (pv 3) ah (ac rfl)) (by decide) (ac rfl) (aj rfl)) bP (aG _)) (@ap _ _ _ (@ay _ _ _ _ bP)) aF) (@am _ _ _ _ _ (@cg _ _ _ _ _ _ _ _ PassesOwn.never rfl (bJ (@aA _ _ _ _ _ _ _ aI (pv 3) ak (fun _ _=>rfl))) (aH (i:=5) jZ.nd rfl (Or.inl rfl)) (@ap _ _ _ (@aR _ _ _ _ _ _ _ _ (@az _ _ _ _ _ _ _ _ oW (@aK _ _ _ _ _ _ _ _ _ (fN hr.units hr.gd) rfl T.repr rj (@ad _ _ _ _ _ (@aq _ _ _ _ _ _ _ _ _ _ _ _ _ _ _ _ G_function_of (hr.mono (by omega)) rfl m_function_of k_function_of b_function_of .nil aC (@ad _ _ _ _ _ (pv 3) (@ad _ _ _ _ _ (@aA _ _ _ _ _ _ _ aI (pv 5) ak (fun _ _=>rfl)) ah (ac rfl)) (ac rfl)) (by decide) (ac rfl) (aj rfl)) ah (ac rfl)) (by decide) (by decide) (ac rfl) (aj rfl)) (@aK _ _ _ _ _ _ _ _ _ (fN hr.units hr.gd) rfl T.repr rj (@ad _ _ _ _ _ (pv 5) ah (ac rfl)) (by decide) (by decide) (ac rfl) (aj rfl)) (aG _)) (@ap _ _ _ (@ay _ _ _ _ bP)) aF)) (fun _=>rfl)) (@ap _ _ _ (@aR _ _ _ _ _ _ _ _ (PW.pt (cw (@az _ _ _ _ _ _ _ _ qr (@aq _ _ _ _ _ _ _ _ _ _ _ _ _ _ _ _ G_function_of (hr.mono (by omega)) rfl m_function_of k_function_of b_function_of .nil aC (@ad _ _ _ _ _ (pv 3) (@ad _ _ _ _ _ au ah (ac rfl)) (ac rfl)) (by decide) (ac rfl) (aj rfl)) cu (aG _)) (cr (@az _ _ _ _ _ _ _ _ oW (@aK _ _ _ _ _ _ _ _ _ (fN hr.units hr.gd) rfl T.repr rj (@ad _ _ _ _ _ (pv 3) ah (ac rfl)) (by decide) (by decide) (ac rfl) (aj rfl)) (pv 4) (aG _))))) (@ap _ _ _ (@ay _ _ _ _ bP)) aF)))))) (fun _=>rfl)) (@ap _ _ _ (@ay _ _ _ _ (@bW _ _ _ _ _ _ _ _ EY (@aq _ _ _ _ _ _ _ _ _ _ _ _ _ _ _ _ G_right_program (hr.mono (by omega)) rfl m_right_program k_right_program b_right_program .nil aC (@ad _ _ _ _ _ (@aT _ _ _ _ _ (@ad _ _ _ _ _ (@aT _ _ _ _ _ ah) (@ad _ _ _ _ _ (@aT _ _ _ _ _ (@ad _ _ _ _ _ (@aT _ _ _ _ _ (@ad _ _ _ _ _ au (@ad _ _ _ _ _ (@aT _ _ _ _ _ ah) (@ad _ _ _ _ _ (@aT _ _ _ _ _ ah) (@ad _ _ _ _ _ au (@ad _ _ _ _ _ (@aT _ _ _ _ _ ah) ah (ac rfl)) (ac rfl)) (ac rfl)) (ac rfl)) (ac rfl))) ah (ac rfl))) ah (ac rfl)) (ac rfl))) ah (ac rfl)) (by decide) (ac rfl) (aj rfl)) bP (aG _)))))),?_⟩
 refine ⟨_,rfl,a,ns,rfl,hS,fun tp H1 g1 t1=>?_⟩
 refine ⟨4,rfl,by decide,by decide,km (n:=4) (fun i σ H'=>∃ m2 m3 m4 m5,σ=[some (.ref a),some (.ref tp),m2,m3,m4,m5]∧Tp H' tp) ⟨none,none,none,none,rfl,t1⟩ (fun i0 σ H' hi pv=>?_) (fun σ H' pv=>?_)⟩
 ·obtain ⟨m2,m3,m4,m5,rfl,t0⟩:=pv
  refine ⟨_,rfl,tp,rfl,t0,fun v R HS FS B G2 hP oP=>?_⟩
  have tB:=G2.t
  have rp:=oP.rp
  have hn:=oP.nice
  obtain ⟨pa,py,pz,fx,rfl,hpa,hRs,hpz,pf⟩:=id hP
  have lfx:=Paired.length pf
  refine ⟨_,rfl,_,pgD R FS,rfl,hP.dt.rd,hn.sh,hn.nd,hn.d60 (by decide),hn.szl hbp,?_⟩
  refine ⟨_,rfl,.ref pa,R,FS,rfl,hP,rp,fun H3 g3=>⟨_,_,rfl,rfl,_,rfl,bL ?_⟩⟩
  refine ⟨_,rfl,pa,_,_,_,rfl,rfl,SqT.of (g3 _ _ hpa),rfl,pz,rfl,⟨fx,SqT.of (g3 _ _ hpz)⟩,eU (xs:=fx) (fun i σ H'=>∃ m5,σ=[some (.ref a),some (.ref tp),some (.int (0+(i0:Int))),some (.ref pa),some (.str (pgD R FS).shown),m5]∧aZ B H') ⟨m5,rfl,g3⟩ (fun i σ H' _ p=>?_) (fun i x σ H' hx p=>?_) (fun σ H' p=>?_)⟩
  ·obtain ⟨_,rfl,g⟩:=p
   exact SqT.of (g _ _ hpz)
  ·obtain ⟨m5,rfl,g⟩:=p
   obtain ⟨FF,hFF,hfa⟩:=aY pf i x hx
   have hm:=List.mem_of_getElem? hFF
   have hfn:=oP.fun_nice hm
   have hfa':=hfa.mono (av g)
   obtain ⟨af,p1,p2,bb,xs,rfl,haf,_⟩:=id hfa'
   refine ⟨_,rfl,_,rfl,af,_,_,_,rfl,rfl,SqT.of haf,rfl,.inl ⟨.ref pa,FF.1.1,R,FS,FF,rfl,hP.mono (av g),rp.fn,hm,rfl,fun u hu=>⟨_,kh FF,rfl,hu.dt.rd,hfn.sh,hfn.nd,hfn.d60 (by decide),hfn.szl hbp,?_⟩⟩⟩
   refine ⟨_,rfl,_,kh FF,rfl,hfa'.dt.rd,hfn.sh,hfn.nd,hfn.d60 (by decide),hfn.szl hbp,rfl,_,rfl,?_⟩
   generalize (kh FF).shown=Z
   exact aE (fun c=>absurd c (by simp)) (fun c=>⟨_,rfl,g⟩)
  ·obtain ⟨m5,rfl,g⟩:=p
   refine ⟨_,rfl,.inr ⟨.ref pa, "nobody",R,FS,rfl,hP.mono (av g),fun F hF=>zg _ (rp.hd F hF).nm,rfl,_,rfl,bL ?_⟩⟩
   refine ⟨_,rfl,_,pgD R FS,rfl,(hP.dt.mono (av g)).rd,hn.sh,hn.nd,hn.d60 (by decide),hn.szl hbp,_,rfl,rfl,_,rfl,?_⟩
   generalize (pgD R FS).shown=Z
   exact aE (fun c=>absurd c (by simp)) (fun c=>⟨_,_,_,_,rfl,tB.same g⟩)
 ·obtain ⟨m2,m3,m4,m5,rfl,t0⟩:=pv
  refine ⟨(by show 0≤sizeLine; decide),fun q0 hq0=>⟨(by show 0≤sizeLine; decide),fun q1 hq1=>⟨(by show 0≤sizeLine; decide),fun q2 hq2=>⟨(by show 0≤sizeLine; decide),fun q3 hq3=>⟨(by show 5≤sizeLine; decide),fun q4 hq4=>⟨(by show 1≤sizeLine; decide),fun q5 hq5=>⟨(by show 2≤sizeLine; decide),fun q6 hq6=>?_⟩⟩⟩⟩⟩⟩⟩
  have s1:=ao hq1 (.tup [])
  have s2:=ao hq2 (.tup [])
  have s3:=ao hq3 (.tup [])
  have s4:=ao hq4 (.tup [.str "a",.ref q1,.ref q2,.str "num",.ref q3])
  have s5:=ao hq5 (.tup [.ref q4])
  have s6:=ao hq6 (.tup [.ref q0,.ref q5])
  refine ⟨.ref q6,[],[(("a",[],[], "num"),[])],rfl,⟨q6,.ref q0,q5,_,rfl,ag,⟨q0,[],rfl,(((((s1.trans s2).trans s3).trans s4).trans s5).trans s6) _ _ ag,.nil⟩,s6 _ _ ag,.cons ⟨q4,.ref q1,.ref q2,q3,[],rfl,(s5.trans s6) _ _ ag,⟨q1,[],rfl,((((s2.trans s3).trans s4).trans s5).trans s6) _ _ ag,.nil⟩,⟨q2,[],rfl,(((s3.trans s4).trans s5).trans s6) _ _ ag,.nil⟩,((s4.trans s5).trans s6) _ _ ag,.nil⟩ .nil⟩,rp0,fun H2 g2=>⟨_,_,rfl,rfl,q _⟩⟩
end
open PySem L2
noncomputable def SHX:List (Str×Str×Int×List Int):=[("let", "statement",3,[2]),("say", "statement",3,[2]),("if", "statement",4,[1]),("while", "statement",3,[1]),("call", "statement",4,[]),("give", "statement",2,[1]),("num", "expression",2,[]),("text", "expression",2,[]),("var", "expression",2,[]),("of", "expression",3,[1]),("with", "expression",4,[1,3]),("new", "expression",3,[]),("add", "expression",3,[1,2]),("sub", "expression",3,[1,2]),("times", "expression",3,[2]),("div", "expression",3,[1]),("rest", "expression",3,[1]),("len", "expression",2,[1]),("at", "expression",3,[1,2]),("rows", "expression",2,[]),("put", "expression",4,[1,2,3]),("more", "expression",3,[1,2]),("signs", "expression",2,[1]),("less", "condition",3,[1,2]),("same", "condition",3,[1,2]),("and", "condition",3,[1,2]),("or", "condition",3,[1,2]),("not", "condition",2,[1])]
theorem DQ:∀ p∈SH4,p∈SHX.map fun q=>(q.1,q.2.1,q.2.2.1):=by decide +kernel
theorem Eb:∀ p∈PLC,p∈SHX.map fun q=>(q.1,q.2.2.2):=by decide +kernel
theorem FO:∀ p∈PLC,∀ q∈LIT,q.1≠p.1:=by decide +kernel
structure GX (K:Frag) (w:World) (mg:Str→Option Value):Prop where
 sh:∃ aS,mg "SHAPES"=some (.ref aS)∧KDv K w aS∧∀ q∈SHX,∃ a b,PySem.W.nsIn K aS q.1=some (some (.ref a))∧(∀ H,SqT K H a [.str q.2.1,.int q.2.2.1,.ref b])∧∀ H,SqT K H b (q.2.2.2.map V.int)
 li:∃ aL,mg "LISTED"=some (.ref aL)∧KDv K w aL∧(∀ p∈LIT,∃ t,PySem.W.nsIn K aL p.1=some (some (.int p.2 t)))∧∀ q∈SHX,(∀ p∈LIT,p.1≠q.1)→PySem.W.nsIn K aL q.1=some none
theorem GX.gs {K:Frag} {w:World} {mg:Str→Option Value} (x:GX K w mg):GS K w mg:=by
 obtain ⟨aS,m1,k1,h1⟩:=x.sh
 obtain ⟨aL,m2,k2,h2,h3⟩:=x.li
 refine ⟨⟨aS,m1,k1,fun p hp=>?_⟩,⟨aL,m2,k2,h2,fun p hp hn=>?_⟩⟩
 ·obtain ⟨q,hq,rfl⟩:=List.mem_map.mp (DQ p hp)
  obtain ⟨a,b,e1,e2,_⟩:=h1 q hq
  exact ⟨a,b,e1,e2⟩
 ·obtain ⟨q,hq,rfl⟩:=List.mem_map.mp (DQ p hp)
  exact h3 q hq hn
theorem GX.gp {K:Frag} {w:World} {mg:Str→Option Value} (x:GX K w mg):GP K w mg:=by
 obtain ⟨aS,m1,k1,h1⟩:=x.sh
 obtain ⟨aL,m2,k2,h2,h3⟩:=x.li
 refine ⟨⟨aS,m1,k1,fun p hp=>?_⟩,⟨aL,m2,k2,h2,fun p hp=>?_⟩⟩
 ·obtain ⟨q,hq,rfl⟩:=List.mem_map.mp (Eb p hp)
  obtain ⟨a,b,e1,e2,e3⟩:=h1 q hq
  exact ⟨a,b,_,_,e1,e2,e3⟩
 ·have hn:=FO p hp
  obtain ⟨q,hq,rfl⟩:=List.mem_map.mp (Eb p hp)
  exact h3 q hq hn
end K6
namespace L2
open PySem
structure Df (K:Frag) (mg:Str→Option Value) (x:Str) (st:Stmt) (ps:List Str) (f:Addr) (fd:FuncData):Prop where
 F:Fun K x x st f fd
 b:dU K fd ps []
 m:mg x=some (.ref f)
noncomputable def fdA (K:Frag) (f:Addr):FuncData:=match K.lookup f with | some ⟨_,_,.func d,_⟩=>d | _=>default
noncomputable abbrev fdO (K:Frag) (f:Addr) (x:Str) (st:Stmt):FuncData:=PySem.W.fnOf x x (defArgs st) (defBody st) (defScope st) .none (fdA K f).kwdefaults (fdA K f).doc (fdA K f).pyModule (fdA K f).annotations (fdA K f).code (fdA K f).closureTuple
noncomputable abbrev DfE (K:Frag) (x:Str) (f:Addr) (st:Stmt):Prop:=(PySem.W.nsIn K mainGlobals x,K.lookup f,PySem.W.codeIn K (fdA K f).code x,keepIn K (.ref f))=(some (some (.ref f)),some ⟨.type "function",none,.func (fdO K f x st),#[]⟩,true,true)
section
variable {K:Frag} {mg:Str→Option Value} {h:Heap}
theorem bl1 {α:Type} {C:List α→Prop} (h:∀ a,C [a]) (us:List α) (hl:us.length=1):C us:=by
 obtain ⟨a,rfl⟩:=List.length_eq_one_iff.mp hl
 exact h a
theorem blc {α:Type} {n:Nat} {us:List α} (hl:us.length=n+1):∃ a r,us=a::r∧r.length=n:=by
 cases us with
 | nil=>cases hl
 | cons a r=>exact ⟨a,r,rfl,Nat.succ.inj hl⟩
theorem bl2 {α:Type} {C:List α→Prop} (h:∀ a b,C [a,b]) (us:List α) (hl:us.length=2):C us:=by
 obtain ⟨a,r,rfl,e⟩:=blc hl
 exact bl1 (C:=fun r=>C (a::r)) (h a) r e
theorem bl3 {α:Type} {C:List α→Prop} (h:∀ a b c,C [a,b,c]) (us:List α) (hl:us.length=3):C us:=by
 obtain ⟨a,r,rfl,e⟩:=blc hl
 exact bl2 (C:=fun r=>C (a::r)) (h a) r e
theorem bl4 {α:Type} {C:List α→Prop} (h:∀ a b c d,C [a,b,c,d]) (us:List α) (hl:us.length=4):C us:=by
 obtain ⟨a,r,rfl,e⟩:=blc hl
 exact bl3 (C:=fun r=>C (a::r)) (h a) r e
theorem bi (X:K.In h) (G:h.Ns mainGlobals mg) {x:Str} {f:Addr} {st:Stmt} {ps:List Str} (e:DfE K x f st)
  (hb:∀ (kV doc pm:Value) (an:Option Addr) (cdv ct:Value) (us:List Value),us.length=ps.length→bindArgs (PySem.W.fnOf x x (defArgs st) (defBody st) (defScope st) .none kV doc pm an cdv ct) ⟨us,[]⟩=pure (ps.zip us)):Df K mg x st ps f (fdO K f x st):=by
 obtain ⟨e1,e⟩:=Prod.mk.inj e
 obtain ⟨e2,e⟩:=Prod.mk.inj e
 obtain ⟨e3,e4⟩:=Prod.mk.inj e
 have F:Fun K x x st f (fdO K f x st):=Ez e2 e3 e4
 exact ⟨F,F.binds hb,mg_of X G e1⟩
theorem Df.cal {P:Program} {w:World} {base:Heap} {x:Str} {st:Stmt} {ps:List Str} {f:Addr} {fd:FuncData} {k:Nat} {sp:Sp} (D:Df K mg x st ps f fd) (o:bj P w K mg base CX0 k f fd ps sp):K6.Cal P w K mg base k x ps sp:=⟨f,fd,o,D.b,D.F.kp,D.m⟩
noncomputable def BE (K:Frag) (a:Addr):Array Value:=match K.lookup a with | some ⟨_,_,.seq xs _,_⟩=>xs | _=>#[]
noncomputable def esA (K:Frag) (a:Addr):Array DictEntry:=match K.lookup a with | some ⟨_,_,.dict xs _,_⟩=>xs | _=>#[]
noncomputable def nA (K:Frag) (a:Addr):Nat:=match K.lookup a with | some ⟨_,_,.dict _ n,_⟩=>n | _=>0
noncomputable abbrev tO (K:Frag) (a:Addr):Obj:=⟨.type "tuple",none,.seq (BE K a) 0,#[]⟩
noncomputable def vIs:V→Value→Bool
 | .int i,.int j _=>i==j
 | .str z,.str y _=>z==y
 | .ref a,.ref b=>a==b
 | _,_=>false
theorem Eo {v:V} {u:Value} (h:vIs v u=true):bu v u:=by
 unfold vIs at h
 split at h
 ·exact ⟨_,by rw [eq_of_beq h]⟩
 ·exact ⟨_,by rw [eq_of_beq h]⟩
 ·show _=_
  rw [eq_of_beq h]
 ·cases h
noncomputable def mZ:List V→List Value→Bool
 | [],[]=>true
 | v::vs,u::us=>vIs v u&&mZ vs us
 | _,_=>false
theorem sC:∀ {vs:List V} {us:List Value},mZ vs us=true→bq vs us
 | [],[],_=>.nil
 | v::vs,u::us,h=>by
  simp only [mZ,Bool.and_eq_true] at h
  exact .cons (Eo h.1) (sC h.2)
 | [],_::_,h=>by cases h
 | _::_,[],h=>by cases h
theorem tq {a:Addr} {xs:List V} (e:K.lookup a=some (tO K a)) (hl:xs.length≤1000) (h:mZ xs (BE K a).toList=true):∀ H,SqT K H a xs:=fun H=>by
 have r:=sC h
 have:=bq.length r
 refine .inr ⟨_,_,0,e,rfl,rfl,?_,r⟩
 have:=bU hl
 rw [← Array.length_toList]
 omega
noncomputable def kx (e:DictEntry):Str:=match e.key with | .str x _=>x | _=>Str.empty
noncomputable def kt (e:DictEntry):Tok:=match e.key with | .str _ t=>t | _=>0
theorem yU {P:Params}:∀ {l:List DictEntry},l.map (fun e=>(e.key,e.hash))=l.map (fun e=>(.str (kx e) (kt e),PyData.keyHash P (kx e)))→KeysLit P l
 | [],_=>trivial
 | e::r,h=>by
  rw [List.map_cons,List.map_cons] at h
  obtain ⟨h1,h2⟩:=List.cons.inj h
  obtain ⟨h3,h4⟩:=Prod.mk.inj h1
  exact ⟨⟨_,_,h3,h4⟩,yU h2⟩
noncomputable abbrev KdE (K:Frag) (P:Params) (a:Addr):Prop:=(K.lookup a,(esA K a).toList.map (fun e=>(e.key,e.hash)))=(some ⟨.type "dict",none,.dict (esA K a) (nA K a),#[]⟩,(esA K a).toList.map fun e=>(.str (kx e) (kt e),PyData.keyHash P (kx e)))
theorem vX {w:World} {a:Addr} (e:KdE K w.params a) (lo:(a==sysModules)=false):KDv K w a:=⟨⟨_,_,(Prod.mk.inj e).1,yU (Prod.mk.inj e).2⟩,lo⟩
noncomputable abbrev Cy:=Str×Addr×Addr×List V×List V
noncomputable abbrev TbE (K:Frag) (a:Addr) (q:List Cy):Prop:=(q.map fun r=>(PySem.W.nsIn K a r.1,K.lookup r.2.1,K.lookup r.2.2.1),q.all fun r=>r.2.2.2.1.length≤1000&&r.2.2.2.2.length≤1000&&mZ r.2.2.2.1 (BE K r.2.1).toList&&mZ r.2.2.2.2 (BE K r.2.2.1).toList)=(q.map fun r=>(some (some (.ref r.2.1)),some (tO K r.2.1),some (tO K r.2.2.1)),true)
theorem Bw {a:Addr} {q:List Cy} (e:TbE K a q):∀ r∈q,PySem.W.nsIn K a r.1=some (some (.ref r.2.1))∧(∀ H,SqT K H r.2.1 r.2.2.2.1)∧∀ H,SqT K H r.2.2.1 r.2.2.2.2:=fun r hr=>by
 obtain ⟨e1,e2⟩:=Prod.mk.inj e
 have h1:=List.map_inj_left.mp e1 r hr
 have h2:=List.all_eq_true.mp e2 r hr
 simp only [Bool.and_eq_true,decide_eq_true_eq] at h2
 obtain ⟨a1,a2⟩:=Prod.mk.inj h1
 obtain ⟨a2,a3⟩:=Prod.mk.inj a2
 exact ⟨a1,tq a2 h2.1.1.1 h2.1.2,tq a3 h2.1.1.2 h2.2⟩
theorem uZ {α β:Type}:∀ {l:List α} {m:List β},l.length=m.length→∀ x∈l,∃ y,(x,y)∈l.zip m
 | a::l,b::m,h,x,hx=>by
  rcases List.mem_cons.mp hx with rfl | hx
  ·exact ⟨b,List.mem_cons_self ..⟩
  ·obtain ⟨y,hy⟩:=uZ (by simpa using h) x hx
   exact ⟨y,List.mem_cons_of_mem _ hy⟩
noncomputable def EH (K:Frag) (a:Addr) (x:Str):Tok:=match PySem.W.nsIn K a x with | some (some (.int _ t))=>t | some (some (.str _ t))=>t | _=>0
theorem mI (X:K.In h) (G:h.Ns mainGlobals mg) {x:Str} {i:Int} (e:PySem.W.nsIn K mainGlobals x=some (some (.int i (EH K mainGlobals x)))):∃ t,mg x=some (.int i t):=⟨_,mg_of X G e⟩
theorem mS' (X:K.In h) (G:h.Ns mainGlobals mg) {x z:Str} (e:PySem.W.nsIn K mainGlobals x=some (some (.str z (EH K mainGlobals x)))):∃ t,mg x=some (.str z t):=⟨_,mg_of X G e⟩
noncomputable abbrev TuE (K:Frag) (x:Str) (a:Addr) (xs:List V):Prop:=(PySem.W.nsIn K mainGlobals x,K.lookup a,mZ xs (BE K a).toList)=(some (some (.ref a)),some (tO K a),true)
theorem mT (X:K.In h) (G:h.Ns mainGlobals mg) {x:Str} {a:Addr} {xs:List V} (e:TuE K x a xs) (hl:xs.length≤1000):∃ a,mg x=some (.ref a)∧∀ H,SqT K H a xs:=by
 obtain ⟨e1,e⟩:=Prod.mk.inj e
 obtain ⟨e2,e3⟩:=Prod.mk.inj e
 exact ⟨a,mg_of X G e1,tq e2 hl e3⟩
end
end L2
namespace K6
open PySem L2
noncomputable def qSh (l:List (Addr×Addr)):List Cy:=(SHX.zip l).map fun p=>(p.1.1,p.2.1,p.2.2,[.str p.1.2.1,.int p.1.2.2.1,.ref p.2.2],p.1.2.2.2.map V.int)
noncomputable def qGb (l:List (Addr×Addr)):List Cy:=(GBT.zip l).map fun p=>(p.1.1,p.2.1,p.2.2,[.ref p.2.2,.str p.1.2.2],p.1.2.1.map V.str)
noncomputable abbrev LiE (K:Frag) (a:Addr):Prop:=(LIT.map fun p=>PySem.W.nsIn K a p.1,(SHX.filter fun q=>LIT.all fun p=>!(p.1==q.1)).map fun q=>PySem.W.nsIn K a q.1)=(LIT.map fun p=>some (some (.int p.2 (EH K a p.1))),(SHX.filter fun q=>LIT.all fun p=>!(p.1==q.1)).map fun _=>some none)
section
variable {K:Frag} {mg:Str→Option Value} {h:Heap} {w:World}
theorem GO (X:K.In h) (G:h.Ns mainGlobals mg) {aS aL:Addr} {l:List (Addr×Addr)} (hl:l.length=28) (mS:PySem.W.nsIn K mainGlobals "SHAPES"=some (some (.ref aS))) (mL:PySem.W.nsIn K mainGlobals "LISTED"=some (some (.ref aL))) (kS:KDv K w aS) (kL:KDv K w aL) (tS:TbE K aS (qSh l)) (tL:LiE K aL):GX K w mg:=by
 refine ⟨⟨aS,mg_of X G mS,kS,fun q hq=>?_⟩,⟨aL,mg_of X G mL,kL,fun p hp=>?_,fun q hq hn=>?_⟩⟩
 ·obtain ⟨y,hy⟩:=uZ (m:=l) (by rw [hl]; rfl) q hq
  obtain ⟨e1,e2,e3⟩:=Bw tS _ (List.mem_map.mpr ⟨_,hy,rfl⟩)
  exact ⟨_,_,e1,e2,e3⟩
 ·exact ⟨_,List.map_inj_left.mp (Prod.mk.inj tL).1 p hp⟩
 ·refine List.map_inj_left.mp (Prod.mk.inj tL).2 q (List.mem_filter.mpr ⟨hq,List.all_eq_true.mpr fun p hp=>?_⟩)
  simp only [Bool.not_eq_true',beq_eq_false_iff_ne]
  exact hn p hp
noncomputable abbrev GbE (K:Frag) (a:Addr):Prop:=GBN.map (fun z=>PySem.W.nsIn K a z)=GBN.map fun _=>some none
theorem GU (X:K.In h) (G:h.Ns mainGlobals mg) {aB:Addr} {l:List (Addr×Addr)} (hl:l.length=8) (mB:PySem.W.nsIn K mainGlobals "GOES_BY"=some (some (.ref aB))) (kB:KDv K w aB) (tB:TbE K aB (qGb l)) (tN:GbE K aB) :
  ∃ aB,mg "GOES_BY"=some (.ref aB)∧KDv K w aB∧(∀ p∈GBT,∃ a b,PySem.W.nsIn K aB p.1=some (some (.ref a))∧(∀ H,SqT K H a [.ref b,.str p.2.2])∧∀ H,SqT K H b (p.2.1.map V.str))∧∀ z∈GBN,PySem.W.nsIn K aB z=some none:=by
 refine ⟨aB,mg_of X G mB,kB,fun q hq=>?_,fun z hz=>List.map_inj_left.mp tN z hz⟩
 obtain ⟨y,hy⟩:=uZ (m:=l) (by rw [hl]; rfl) q hq
 obtain ⟨e1,e2,e3⟩:=Bw tB _ (List.mem_map.mpr ⟨_,hy,rfl⟩)
 exact ⟨_,_,e1,e2,e3⟩
end
end K6
namespace HD
open PySem PySem.W
noncomputable abbrev pE:Program:=PySem.Challenge.pw_everyfork_k04_right_programs
noncomputable abbrev top:Nat→Stmt:=K6.top
noncomputable abbrev sx:String→Str:=Str.ofString
noncomputable abbrev de (P:Params) (x:Str) (t:Nat) (v:Value):DictEntry:=⟨PyData.keyHash P x,.str x t,v⟩
noncomputable abbrev fd (i:Nat) (x qual:Str) (dV kV doc pm:Value) (an:Option Addr) (cdv ct:Value):FuncData:=fnOf x qual (L2.defArgs (top i)) (L2.defBody (top i)) (L2.defScope (top i)) dV kV doc pm an cdv ct
noncomputable abbrev fd0 (i:Nat) (x qual:Str) (dV kV doc pm:Value) (an:Option Addr) (cdv ct:Value):FuncData:={ fd i x qual dV kV doc pm an cdv ct with globals:=0 }
noncomputable abbrev Fq (i j:Nat):Stmt:=match top i with | .ClassDef (body:=b) ..=>b.getD j (.Pass ⟨0,0,0,0⟩) | s=>s
noncomputable abbrev fdm (i j:Nat) (x qual:Str) (dV kV doc pm:Value) (an:Option Addr) (cdv ct:Value):FuncData:=fnOf x qual (L2.defArgs (Fq i j)) (L2.defBody (Fq i j)) (L2.defScope (Fq i j)) dV kV doc pm an cdv ct
noncomputable abbrev HU (i j:Nat) (x qual:Str) (dV kV doc pm:Value) (an:Option Addr) (cdv ct:Value):FuncData:={ fdm i j x qual dV kV doc pm an cdv ct with globals:=0 }
noncomputable abbrev st (x:String) (t:Nat):Value:=.str (sx x) t
noncomputable abbrev i0 (i:Int):Value:=.int i 0
noncomputable abbrev tu (l:List Value):Obj:=⟨.type "tuple",none,.seq ⟨l⟩ 0,#[]⟩
noncomputable abbrev co (l:List Value):Obj:=⟨.type "code",none,.fields ⟨l⟩,#[]⟩
noncomputable abbrev dr (P:Params) (x:String) (t r:Nat):DictEntry:=de P (sx x) t (.ref r)
noncomputable abbrev fu (i:Nat) (x q m:String) (t c:Nat):Obj:=⟨.type "function",none,.func (fd i (sx x) (sx q) .none .none .none (st m t) none (.ref c) .none),#[]⟩
noncomputable abbrev fv (i:Nat) (x m:String) (t c:Nat):Obj:=fu i x x m t c
noncomputable abbrev fw (i:Nat) (x:String):Obj:=⟨.none,none,.func (fd0 i (sx x) (sx x) .none .none .none .none none .none .none),#[]⟩
noncomputable section
noncomputable def m0:Nat:=11
noncomputable def ann:Option Value:=some (.ref 6)
noncomputable def env:Env:={ scope:=pE.main.scope,locals:=mainNs,globals:=mainNs,cells:=[],code:=.ref 13,frame:=some 14 }
noncomputable abbrev cE:Code:=.body (behindTheImports pE) env
noncomputable abbrev B:List Frame:=[topFrame ⟨0,0,0,0⟩]
noncomputable def s0 (w:World) (os:OsState):Shared:=⟨boot_heap w.params,Array.mk [],boot_drawn,boot_toks,os⟩
noncomputable def ar:Obj:=tu []
noncomputable def aQ:Obj:=⟨.none,none,.fields #[],#[]⟩
noncomputable def zq:Obj:=co [st "<module>" 182,st "<module>" 183,st "/claim/cut.py" 184,i0 1,i0 0,i0 0,i0 0,i0 0,.ref 11,.bool false,i0 181,.ref 12,.none,.none,.none,.none,i0 185,i0 1,st "/claim/cut.py" 186]
noncomputable def zm:Obj:=⟨.type "frame",none,.plain,#[some (.ref 13),some (.ref 3),some (.ref 3),none,some (st "__main__" 164),none,some (.ref 0)]⟩
noncomputable def ha (P:Params):Heap:=⟨⟨[(boot_o_0 P),(boot_o_1 P),(boot_o_2 P),(boot_o_3 P),(boot_o_4 P),(boot_o_5 P),(boot_o_6 P),(boot_o_7 P),(boot_o_8 P),(boot_o_9 P),(boot_o_10 P),ar,aQ,zq,zm]⟩,{ :Life }⟩
noncomputable def sa (w:World) (os:OsState):Shared:=⟨ha w.params,#[],⟨0,0,0,0⟩,187,os⟩
theorem GV:∀ (w:World) (os:OsState),topGo treeTable pE w m0 ann 12 (s0 w os) (topStub pE)=some (sa w os,Thread.mk (denote treeTable cE) cE ⟨0,0,0,0⟩ B):=fun w os=>by kernel_rfl
noncomputable def tb (P:Params):BT:=(.node (boot_o_0 P) (.node (boot_o_1 P) (.node (boot_o_3 P) (.node (boot_o_7 P) .nil .nil) (.node ar .nil .nil)) (.node (boot_o_5 P) (.node (boot_o_9 P) .nil .nil) (.node zq .nil .nil))) (.node (boot_o_2 P) (.node (boot_o_4 P) (.node (boot_o_8 P) .nil .nil) (.node aQ .nil .nil)) (.node (boot_o_6 P) (.node (boot_o_10 P) .nil .nil) (.node zm .nil .nil))))
noncomputable def sb (w:World) (os:OsState):SharedT:=⟨tb w.params,15,{ :Life },#[],⟨0,0,0,0⟩,187,os⟩
theorem Di:∀ (w:World) (os:OsState),segRun treeTable pE w m0 ann 1 1 (sa w os) (blockOf (behindTheImports pE) env cE ⟨0,0,0,0⟩ B)=some (.next,(sb w os).abs,cE,⟨0,0,0,0⟩):=fun w os=>by kernel_rfl
noncomputable def HJ (P:Params):Obj:=⟨.type "dict",none,.dict #[de P (sx "__name__") 165 (st "everyfork.shapes" 322),de P (sx "__doc__") 166 .none,de P (sx "__package__") 167 .none,de P (sx "__loader__") 168 (.builtin "__main__.__loader__#opaque"),de P (sx "__spec__") 169 .none,dr P "__annotations__" 170 6,dr P "__builtins__" 171 4,de P (sx "__file__") 173 (st "/claim/cut.py" 172),de P (sx "__cached__") 174 .none,dr P "ForkError" 206 24,dr P "NoProgram" 233 44,dr P "PLAIN_KINDS" 239 47,dr P "NO_NAMES" 246 48,de P (sx "LETTERS") 248 (st "abcdefghijklmnopqrstuvwxyz" 247),dr P "is_whole" 255 55,dr P "is_between" 264 62,dr P "is_sign_number" 271 69,dr P "is_text" 277 74,dr P "is_name" 283 79,dr P "fields_of" 292 86,dr P "field_kinds" 298 91,dr P "field_kind" 308 98,dr P "parts" 321 105] 23,#[]⟩
noncomputable def DM:Obj:=⟨.none,none,.fields #[i0 2,i0 0,.ref 20,i0 4,i0 0,.ref 33,i0 14,i0 0,.ref 54,i0 16,i0 0,.ref 61,i0 18,i0 0,.ref 68,i0 20,i0 0,.ref 73,i0 22,i0 0,.ref 78,i0 26,i0 0,.ref 85,i0 31,i0 0,.ref 90,i0 33,i0 0,.ref 97,i0 38,i0 0,.ref 104],#[]⟩
noncomputable def su:Obj:=tu [.type "ValueError"]
noncomputable def kr:Obj:=⟨.type "builtin_function_or_method",none,.fields #[.builtin "type.__prepare__",.type "type"],#[]⟩
noncomputable def yA (P:Params):Obj:=⟨.type "dict",none,.dict #[de P (sx "__module__") 196 (st "everyfork.errors" 187),de P (sx "__qualname__") 198 (st "ForkError" 197),de P (sx "__firstlineno__") 200 (.int 2 199),dr P "__static_attributes__" 201 22] 4,#[]⟩
noncomputable def za:Obj:=co [st "ForkError" 191,st "ForkError" 192,st "/claim/cut.py" 193,i0 2,i0 0,i0 0,i0 0,i0 0,.ref 18,.bool false,i0 181,.ref 19,.none,.none,.none,.none,i0 194,i0 2,st "/claim/cut.py" 195]
noncomputable def yt:Obj:=⟨.type "frame",none,.plain,#[some (.ref 20),some (.ref 3),some (.ref 17),none,some (st "everyfork.errors" 187),none,some (.ref 0)]⟩
noncomputable def sG (P:Params):Obj:=⟨.type "dict",none,.dict #[de P (sx "__module__") 196 (st "everyfork.errors" 187),de P (sx "__firstlineno__") 200 (.int 2 199),dr P "__static_attributes__" 201 22,dr P "__weakref__" 203 25,de P (sx "__doc__") 204 .none] 3,#[]⟩
noncomputable def sJ:Obj:=⟨.type "type",none,.cls ⟨(sx "ForkError"),[.type "ValueError"],[.ref 24,.type "ValueError",.type "Exception",.type "BaseException",.type "object"],23,(sx "ForkError"),true,[],[.ref 44],false,none,false⟩,#[some (.ref 15),none,some (st "ForkError" 189),some (st "ForkError" 197),some (.builtin "ValueError.__new__"),some (.bool true)]⟩
noncomputable def uk:Obj:=⟨.type "getset_descriptor",none,.fields #[st "__weakref__" 202,.ref 24,.builtin "ExceptionGroup.__weakref__",.none],#[]⟩
noncomputable def yE:Obj:=⟨.type "super",none,.fields #[.ref 24,.ref 24,.ref 24],#[]⟩
noncomputable def yN:Obj:=⟨.type "builtin_function_or_method",none,.fields #[.builtin "object.__init_subclass__",.ref 24],#[]⟩
noncomputable def ud:Obj:=tu [.ref 24]
noncomputable def xY (P:Params):Obj:=⟨.type "dict",none,.dict #[de P (sx "__module__") 214 (st "everyfork.errors" 187),de P (sx "__qualname__") 216 (st "NoProgram" 215),de P (sx "__firstlineno__") 218 (.int 4 217),dr P "__init__" 227 41,dr P "__static_attributes__" 230 42] 5,#[]⟩
noncomputable def yS:Obj:=⟨.none,none,.fields #[i0 6,i0 4,.ref 40],#[]⟩
noncomputable def yz:Obj:=co [st "NoProgram" 209,st "NoProgram" 210,st "/claim/cut.py" 211,i0 4,i0 0,i0 0,i0 0,i0 0,.ref 31,.bool false,i0 181,.ref 32,.none,.none,.none,.none,i0 212,i0 4,st "/claim/cut.py" 213]
noncomputable def xW:Obj:=⟨.type "frame",none,.plain,#[some (.ref 33),some (.ref 3),some (.ref 30),none,some (st "everyfork.errors" 187),none,some (.ref 0)]⟩
noncomputable def tH:Obj:=tu [st "self" 222,st "function" 223,st "line" 224]
noncomputable def ya:Obj:=⟨.none,none,.func (HU 2 0 (sx "__init__") (sx "NoProgram.__init__") .none .none .none .none none .none .none),#[]⟩
noncomputable def ug:Obj:=co [st "__init__" 219,st "NoProgram.__init__" 220,st "/claim/cut.py" 221,i0 6,i0 3,i0 0,i0 0,i0 3,.ref 35,.bool true,i0 181,.ref 36,.none,.ref 37,.ref 38,.ref 39,i0 225,i0 6,st "/claim/cut.py" 226]
noncomputable def tf:Obj:=⟨.type "function",none,.func (fdm 2 0 (sx "__init__") (sx "NoProgram.__init__") .none .none .none (st "everyfork.errors" 187) none (.ref 40) .none),#[]⟩
noncomputable def sO:Obj:=tu [st "function" 228,st "line" 229]
noncomputable def um (P:Params):Obj:=⟨.type "dict",none,.dict #[de P (sx "__module__") 214 (st "everyfork.errors" 187),de P (sx "__firstlineno__") 218 (.int 4 217),dr P "__init__" 227 41,dr P "__static_attributes__" 230 42,de P (sx "__doc__") 231 .none] 2,#[]⟩
noncomputable def sy:Obj:=⟨.type "type",none,.cls ⟨(sx "NoProgram"),[.ref 24],[.ref 44,.ref 24,.type "ValueError",.type "Exception",.type "BaseException",.type "object"],43,(sx "NoProgram"),true,[],[],false,none,false⟩,#[some (.ref 28),none,some (st "NoProgram" 207),some (st "NoProgram" 215),some (.builtin "ValueError.__new__"),some (.bool true)]⟩
noncomputable def yT:Obj:=⟨.type "super",none,.fields #[.ref 44,.ref 44,.ref 44],#[]⟩
noncomputable def yP:Obj:=⟨.type "builtin_function_or_method",none,.fields #[.builtin "object.__init_subclass__",.ref 44],#[]⟩
noncomputable def sE:Obj:=tu [st "num" 236,st "text" 237,st "row" 238]
noncomputable def sF:Obj:=tu [st "num" 240,st "text" 241,st "row" 242,st "gives" 243,st "rounds" 244,st "range" 245]
noncomputable def tW:Obj:=tu [st "thing" 252]
noncomputable def yC:Obj:=fw 7 "is_whole"
noncomputable def ub:Obj:=co [st "is_whole" 249,st "is_whole" 250,st "/claim/cut.py" 251,i0 14,i0 1,i0 0,i0 0,i0 3,.ref 49,.bool true,i0 181,.ref 50,.none,.ref 51,.ref 52,.ref 53,i0 253,i0 14,st "/claim/cut.py" 254]
noncomputable def sI:Obj:=fv 7 "is_whole" "everyfork.kinds" 234 54
noncomputable def tV:Obj:=tu [st "thing" 259,st "least" 260,st "most" 261]
noncomputable def yR:Obj:=fw 8 "is_between"
noncomputable def uc:Obj:=co [st "is_between" 256,st "is_between" 257,st "/claim/cut.py" 258,i0 16,i0 3,i0 0,i0 0,i0 3,.ref 56,.bool true,i0 181,.ref 57,.none,.ref 58,.ref 59,.ref 60,i0 262,i0 16,st "/claim/cut.py" 263]
noncomputable def sj:Obj:=fv 8 "is_between" "everyfork.kinds" 234 61
noncomputable def sY:Obj:=tu [st "number" 268]
noncomputable def yF:Obj:=fw 9 "is_sign_number"
noncomputable def sK:Obj:=co [st "is_sign_number" 265,st "is_sign_number" 266,st "/claim/cut.py" 267,i0 18,i0 1,i0 0,i0 0,i0 3,.ref 63,.bool true,i0 181,.ref 64,.none,.ref 65,.ref 66,.ref 67,i0 269,i0 18,st "/claim/cut.py" 270]
noncomputable def tj:Obj:=fv 9 "is_sign_number" "everyfork.kinds" 234 68
noncomputable def yr:Obj:=fw 10 "is_text"
noncomputable def tU:Obj:=co [st "is_text" 272,st "is_text" 273,st "/claim/cut.py" 274,i0 20,i0 1,i0 0,i0 0,i0 3,.ref 70,.bool true,i0 181,.ref 71,.none,.none,.none,.ref 72,i0 275,i0 20,st "/claim/cut.py" 276]
noncomputable def rQ:Obj:=fv 10 "is_text" "everyfork.kinds" 234 73
noncomputable def yj:Obj:=fw 11 "is_name"
noncomputable def tJ:Obj:=co [st "is_name" 278,st "is_name" 279,st "/claim/cut.py" 280,i0 22,i0 1,i0 0,i0 0,i0 3,.ref 75,.bool true,i0 181,.ref 76,.none,.none,.none,.ref 77,i0 281,i0 22,st "/claim/cut.py" 282]
noncomputable def sS:Obj:=fv 11 "is_name" "everyfork.kinds" 234 78
noncomputable def sn:Obj:=tu [st "program" 287,st "kind" 288,st "record" 289]
noncomputable def yY:Obj:=fw 12 "fields_of"
noncomputable def uo:Obj:=co [st "fields_of" 284,st "fields_of" 285,st "/claim/cut.py" 286,i0 26,i0 2,i0 0,i0 0,i0 3,.ref 80,.bool true,i0 181,.ref 81,.none,.ref 82,.ref 83,.ref 84,i0 290,i0 26,st "/claim/cut.py" 291]
noncomputable def sV:Obj:=fv 12 "fields_of" "everyfork.kinds" 234 85
noncomputable def yH:Obj:=fw 13 "field_kinds"
noncomputable def tY:Obj:=co [st "field_kinds" 293,st "field_kinds" 294,st "/claim/cut.py" 295,i0 31,i0 2,i0 0,i0 0,i0 3,.ref 87,.bool true,i0 181,.ref 88,.none,.none,.none,.ref 89,i0 296,i0 31,st "/claim/cut.py" 297]
noncomputable def sr:Obj:=fv 13 "field_kinds" "everyfork.kinds" 234 90
noncomputable def rV:Obj:=tu [st "program" 302,st "kind" 303,st "field" 304,st "pair" 305]
noncomputable def yW:Obj:=fw 14 "field_kind"
noncomputable def sg:Obj:=co [st "field_kind" 299,st "field_kind" 300,st "/claim/cut.py" 301,i0 33,i0 3,i0 0,i0 0,i0 3,.ref 92,.bool true,i0 181,.ref 93,.none,.ref 94,.ref 95,.ref 96,i0 306,i0 33,st "/claim/cut.py" 307]
noncomputable def rX:Obj:=fv 14 "field_kind" "everyfork.kinds" 234 97
noncomputable def lU:Obj:=tu [st "program" 312,st "kind" 313,st "told" 314,st "field" 315,st "inner" 316,st "path" 317,st "sort" 318]
noncomputable def qy:Obj:=fw 15 "parts"
noncomputable def lI:Obj:=co [st "parts" 309,st "parts" 310,st "/claim/cut.py" 311,i0 38,i0 2,i0 0,i0 0,i0 3,.ref 99,.bool true,i0 181,.ref 100,.none,.ref 101,.ref 102,.ref 103,i0 319,i0 38,st "/claim/cut.py" 320]
noncomputable def md:Obj:=fv 15 "parts" "everyfork.kinds" 234 104
noncomputable def t_0 (P:Params):BT:=(.node (boot_o_0 P) (.node (boot_o_1 P) (.node (HJ P) (.node (boot_o_7 P) (.node su (.node ar (.node ar .nil .nil) (.node ar .nil .nil)) (.node sE (.node sS .nil .nil) .nil)) (.node (sG P) (.node ya (.node aQ .nil .nil) (.node qy .nil .nil)) (.node sI (.node ar .nil .nil) .nil))) (.node ar (.node aQ (.node ar (.node yF .nil .nil) (.node ar .nil .nil)) (.node tW (.node ar .nil .nil) .nil)) (.node yN (.node (um P) (.node ar .nil .nil) .nil) (.node ar (.node sr .nil .nil) .nil)))) (.node (boot_o_5 P) (.node (boot_o_9 P) (.node (yA P) (.node yz (.node sY .nil .nil) (.node sg .nil .nil)) (.node ar (.node aQ .nil .nil) .nil)) (.node uk (.node tf (.node tU .nil .nil) (.node md .nil .nil)) (.node aQ (.node yH .nil .nil) .nil))) (.node zq (.node yt (.node tH (.node tj .nil .nil) (.node lU .nil .nil)) (.node yC (.node uo .nil .nil) .nil)) (.node kr (.node yT (.node yj .nil .nil) .nil) (.node uc (.node aQ .nil .nil) .nil))))) (.node (boot_o_2 P) (.node (boot_o_4 P) (.node (boot_o_8 P) (.node kr (.node yS (.node aQ .nil .nil) (.node yW .nil .nil)) (.node sF (.node ar .nil .nil) .nil)) (.node sJ (.node ug (.node yr .nil .nil) (.node lI .nil .nil)) (.node ar (.node aQ .nil .nil) .nil))) (.node DM (.node za (.node aQ (.node sK .nil .nil) (.node aQ .nil .nil)) (.node ar (.node yY .nil .nil) .nil)) (.node ud (.node sy (.node aQ .nil .nil) .nil) (.node yR (.node ar .nil .nil) .nil)))) (.node (boot_o_6 P) (.node (boot_o_10 P) (.node ar (.node xW (.node ar .nil .nil) (.node rX .nil .nil)) (.node aQ (.node sn .nil .nil) .nil)) (.node yE (.node sO (.node rQ .nil .nil) .nil) (.node tV (.node tY .nil .nil) .nil))) (.node zm (.node ar (.node ar (.node ar .nil .nil) (.node ar .nil .nil)) (.node ub (.node sV .nil .nil) .nil)) (.node (xY P) (.node yP (.node tJ .nil .nil) .nil) (.node sj (.node rV .nil .nil) .nil))))))
noncomputable def s_0 (w:World) (os:OsState):SharedT:=⟨t_0 w.params,106,{ :Life },#[],⟨0,0,0,0⟩,324,os⟩
noncomputable def q0:List Stmt:=(pE.main.body.drop 0).take 17
theorem l_0:∀ (w:World) (os:OsState),segRunT treeTable pE w m0 ann 1 764 (sb w os) (piecesOf q0 env cE ⟨0,0,0,0⟩ B)=some (.next,s_0 w os,cE,⟨46,0,46,8⟩):=fun w os=>by kernel_rfl
noncomputable def HN (P:Params):Obj:=⟨.type "dict",none,.dict #[de P (sx "__name__") 165 (st "everyfork.shapes" 322),de P (sx "__doc__") 166 .none,de P (sx "__package__") 167 .none,de P (sx "__loader__") 168 (.builtin "__main__.__loader__#opaque"),de P (sx "__spec__") 169 .none,dr P "__annotations__" 170 6,dr P "__builtins__" 171 4,de P (sx "__file__") 173 (st "/claim/cut.py" 172),de P (sx "__cached__") 174 .none,dr P "ForkError" 206 24,dr P "NoProgram" 233 44,dr P "PLAIN_KINDS" 239 47,dr P "NO_NAMES" 246 48,de P (sx "LETTERS") 248 (st "abcdefghijklmnopqrstuvwxyz" 247),dr P "is_whole" 255 55,dr P "is_between" 264 62,dr P "is_sign_number" 271 69,dr P "is_text" 277 74,dr P "is_name" 283 79,dr P "fields_of" 292 86,dr P "field_kinds" 298 91,dr P "field_kind" 308 98,dr P "parts" 321 105,dr P "SHAPES" 469 106,dr P "LISTED" 479 164,dr P "GOES_BY" 517 165] 26,#[]⟩
noncomputable def re (P:Params):Obj:=⟨.type "dict",none,.dict #[dr P "let" 324 108,dr P "say" 329 110,dr P "if" 334 112,dr P "while" 339 114,dr P "call" 344 116,dr P "give" 348 118,dr P "num" 353 120,dr P "text" 357 122,dr P "var" 361 124,dr P "of" 365 126,dr P "with" 370 128,dr P "new" 376 130,dr P "add" 380 132,dr P "sub" 386 134,dr P "times" 392 136,dr P "div" 397 138,dr P "rest" 402 140,dr P "len" 407 143,dr P "at" 411 145,dr P "rows" 416 147,dr P "put" 419 149,dr P "more" 425 151,dr P "signs" 430 153,dr P "less" 434 155,dr P "same" 439 157,dr P "and" 444 159,dr P "or" 449 161,dr P "not" 454 163] 28,#[]⟩
noncomputable def ql:Obj:=tu [.int 2 327]
noncomputable def qS:Obj:=tu [st "statement" 325,.int 3 326,.ref 107]
noncomputable def qH:Obj:=tu [.int 2 332]
noncomputable def qu:Obj:=tu [st "statement" 330,.int 3 331,.ref 109]
noncomputable def pj:Obj:=tu [.int 1 337]
noncomputable def qz:Obj:=tu [st "statement" 335,.int 4 336,.ref 111]
noncomputable def pX:Obj:=tu [.int 1 342]
noncomputable def pK:Obj:=tu [st "statement" 340,.int 3 341,.ref 113]
noncomputable def pZ:Obj:=tu [st "statement" 345,.int 4 346,.ref 115]
noncomputable def pW:Obj:=tu [.int 1 351]
noncomputable def pG:Obj:=tu [st "statement" 349,.int 2 350,.ref 117]
noncomputable def qb:Obj:=tu [st "expression" 354,.int 2 355,.ref 119]
noncomputable def rN:Obj:=tu [st "expression" 358,.int 2 359,.ref 121]
noncomputable def qR:Obj:=tu [st "expression" 362,.int 2 363,.ref 123]
noncomputable def pD:Obj:=tu [.int 1 368]
noncomputable def qB:Obj:=tu [st "expression" 366,.int 3 367,.ref 125]
noncomputable def rD:Obj:=tu [.int 1 373,.int 3 374]
noncomputable def qI:Obj:=tu [st "expression" 371,.int 4 372,.ref 127]
noncomputable def rJ:Obj:=tu [st "expression" 377,.int 3 378,.ref 129]
noncomputable def qi:Obj:=tu [.int 1 383,.int 2 384]
noncomputable def rL:Obj:=tu [st "expression" 381,.int 3 382,.ref 131]
noncomputable def pS:Obj:=tu [.int 1 389,.int 2 390]
noncomputable def qX:Obj:=tu [st "expression" 387,.int 3 388,.ref 133]
noncomputable def qC:Obj:=tu [.int 2 395]
noncomputable def qD:Obj:=tu [st "expression" 393,.int 3 394,.ref 135]
noncomputable def rh:Obj:=tu [.int 1 400]
noncomputable def pQ:Obj:=tu [st "expression" 398,.int 3 399,.ref 137]
noncomputable def rn:Obj:=tu [.int 1 405]
noncomputable def rO:Obj:=tu [st "expression" 403,.int 3 404,.ref 139]
noncomputable def wR (P:Params):Obj:=⟨.type "dict",none,.dict #[dr P "len" 407 143,dr P "at" 411 145,dr P "rows" 416 147,dr P "put" 419 149,dr P "more" 425 151,dr P "signs" 430 153,dr P "less" 434 155,dr P "same" 439 157,dr P "and" 444 159,dr P "or" 449 161,dr P "not" 454 163] 11,#[]⟩
noncomputable def pO:Obj:=tu [.int 1 410]
noncomputable def rH:Obj:=tu [st "expression" 408,.int 2 409,.ref 142]
noncomputable def rG:Obj:=tu [.int 1 414,.int 2 415]
noncomputable def pV:Obj:=tu [st "expression" 412,.int 3 413,.ref 144]
noncomputable def qd:Obj:=tu [st "expression" 417,.int 2 418,.ref 146]
noncomputable def qe:Obj:=tu [.int 1 422,.int 2 423,.int 3 424]
noncomputable def qq:Obj:=tu [st "expression" 420,.int 4 421,.ref 148]
noncomputable def qJ:Obj:=tu [.int 1 428,.int 2 429]
noncomputable def oY:Obj:=tu [st "expression" 426,.int 3 427,.ref 150]
noncomputable def qf:Obj:=tu [.int 1 433]
noncomputable def ph:Obj:=tu [st "expression" 431,.int 2 432,.ref 152]
noncomputable def qp:Obj:=tu [.int 1 437,.int 2 438]
noncomputable def pq:Obj:=tu [st "condition" 435,.int 3 436,.ref 154]
noncomputable def qP:Obj:=tu [.int 1 442,.int 2 443]
noncomputable def oZ:Obj:=tu [st "condition" 440,.int 3 441,.ref 156]
noncomputable def rP:Obj:=tu [.int 1 447,.int 2 448]
noncomputable def qk:Obj:=tu [st "condition" 445,.int 3 446,.ref 158]
noncomputable def qA:Obj:=tu [.int 1 452,.int 2 453]
noncomputable def pi:Obj:=tu [st "condition" 450,.int 3 451,.ref 160]
noncomputable def qY:Obj:=tu [.int 1 457]
noncomputable def qj:Obj:=tu [st "condition" 455,.int 2 456,.ref 162]
noncomputable def pw (P:Params):Obj:=⟨.type "dict",none,.dict #[de P (sx "call") 470 (.int 3 471),de P (sx "new") 472 (.int 2 473),de P (sx "rows") 474 (.int 1 475)] 3,#[]⟩
noncomputable def rg (P:Params):Obj:=⟨.type "dict",none,.dict #[dr P "add" 480 167,dr P "sub" 484 169,dr P "times" 488 171,dr P "div" 491 173,dr P "rest" 494 175,dr P "put" 497 177,dr P "more" 502 179,dr P "signs" 506 181] 8,#[]⟩
noncomputable def qG:Obj:=tu [st "num" 481,st "num" 482]
noncomputable def pM:Obj:=tu [.ref 166,st "num" 483]
noncomputable def qU:Obj:=tu [st "num" 485,st "num" 486]
noncomputable def rz:Obj:=tu [.ref 168,st "num" 487]
noncomputable def qQ:Obj:=tu [st "num" 489]
noncomputable def rK:Obj:=tu [.ref 170,st "num" 490]
noncomputable def qo:Obj:=tu [st "num" 492]
noncomputable def pN:Obj:=tu [.ref 172,st "num" 493]
noncomputable def qw:Obj:=tu [st "num" 495]
noncomputable def rf:Obj:=tu [.ref 174,st "num" 496]
noncomputable def pY:Obj:=tu [st "row" 498,st "num" 499,st "num" 500]
noncomputable def qh:Obj:=tu [.ref 176,st "row" 501]
noncomputable def rF:Obj:=tu [st "row" 503,st "num" 504]
noncomputable def pJ:Obj:=tu [.ref 178,st "row" 505]
noncomputable def qF:Obj:=tu [st "text" 507]
noncomputable def qO:Obj:=tu [.ref 180,st "row" 508]
noncomputable def t_1 (P:Params):BT:=(.node (boot_o_0 P) (.node (boot_o_1 P) (.node (HN P) (.node (boot_o_7 P) (.node su (.node ar (.node ar (.node rD .nil .nil) .nil) (.node ar (.node qk .nil .nil) .nil)) (.node sE (.node sS (.node rH .nil .nil) .nil) (.node pj (.node rf .nil .nil) .nil))) (.node (sG P) (.node ya (.node aQ (.node qC .nil .nil) .nil) (.node qy (.node pM .nil .nil) .nil)) (.node sI (.node ar (.node oY .nil .nil) .nil) (.node ar .nil .nil)))) (.node ar (.node aQ (.node ar (.node yF (.node qi .nil .nil) .nil) (.node ar (.node qj .nil .nil) .nil)) (.node tW (.node ar (.node qd .nil .nil) .nil) (.node ar (.node pJ .nil .nil) .nil))) (.node yN (.node (um P) (.node ar (.node rn .nil .nil) .nil) (.node ql (.node rK .nil .nil) .nil)) (.node ar (.node sr (.node pq .nil .nil) .nil) (.node ar .nil .nil))))) (.node (boot_o_5 P) (.node (boot_o_9 P) (.node (yA P) (.node yz (.node sY (.node ar .nil .nil) .nil) (.node sg (.node pi .nil .nil) .nil)) (.node ar (.node aQ (.node pV .nil .nil) .nil) (.node pX (.node qh .nil .nil) .nil))) (.node uk (.node tf (.node tU (.node rh .nil .nil) .nil) (.node md (.node rz .nil .nil) .nil)) (.node aQ (.node yH (.node ph .nil .nil) .nil) (.node ar .nil .nil)))) (.node zq (.node yt (.node tH (.node tj (.node pS .nil .nil) .nil) (.node lU (.node (rg P) .nil .nil) .nil)) (.node yC (.node uo (.node qq .nil .nil) .nil) (.node pW (.node qO .nil .nil) .nil))) (.node kr (.node yT (.node yj (.node (wR P) .nil .nil) .nil) (.node qH (.node pN .nil .nil) .nil)) (.node uc (.node aQ (.node oZ .nil .nil) .nil) (.node pD .nil .nil)))))) (.node (boot_o_2 P) (.node (boot_o_4 P) (.node (boot_o_8 P) (.node kr (.node yS (.node aQ (.node qI .nil .nil) .nil) (.node yW (.node qA .nil .nil) .nil)) (.node sF (.node ar (.node rG .nil .nil) .nil) (.node qz (.node pY .nil .nil) .nil))) (.node sJ (.node ug (.node yr (.node qD .nil .nil) .nil) (.node lI (.node qU .nil .nil) .nil)) (.node ar (.node aQ (.node qf .nil .nil) .nil) (.node qb .nil .nil)))) (.node DM (.node za (.node aQ (.node sK (.node rL .nil .nil) .nil) (.node aQ (.node (pw P) .nil .nil) .nil)) (.node ar (.node yY (.node qe .nil .nil) .nil) (.node pZ (.node qF .nil .nil) .nil))) (.node ud (.node sy (.node aQ (.node rO .nil .nil) .nil) (.node qS (.node qo .nil .nil) .nil)) (.node yR (.node ar (.node qP .nil .nil) .nil) (.node qR .nil .nil))))) (.node (boot_o_6 P) (.node (boot_o_10 P) (.node ar (.node xW (.node ar (.node rJ .nil .nil) .nil) (.node rX (.node qY .nil .nil) .nil)) (.node aQ (.node sn (.node ar .nil .nil) .nil) (.node pK (.node rF .nil .nil) .nil))) (.node yE (.node sO (.node rQ (.node pQ .nil .nil) .nil) (.node (re P) (.node qQ .nil .nil) .nil)) (.node tV (.node tY (.node qp .nil .nil) .nil) (.node rN .nil .nil)))) (.node zm (.node ar (.node ar (.node ar (.node qX .nil .nil) .nil) (.node ar (.node qG .nil .nil) .nil)) (.node ub (.node sV (.node qJ .nil .nil) .nil) (.node pG .nil .nil))) (.node (xY P) (.node yP (.node tJ (.node pO .nil .nil) .nil) (.node qu (.node qw .nil .nil) .nil)) (.node sj (.node rV (.node rP .nil .nil) .nil) (.node qB .nil .nil)))))))
noncomputable def s_1 (w:World) (os:OsState):SharedT:=⟨t_1 w.params,182,{ :Life },#[],⟨0,0,0,0⟩,518,os⟩
noncomputable def q1:List Stmt:=(pE.main.body.drop 17).take 3
theorem FN:∀ (v:World) (os:OsState),(fun w=>segRunT treeTable pE w m0 ann 1 907 (s_0 w os) (piecesOf q1 env cE ⟨46,0,46,8⟩ B)=some (.next,s_1 w os,cE,⟨49,0,49,7⟩)) (v.withFollow "special-get-raises" false):=fun v os=>by kernel_rfl
theorem FM:∀ (v:World) (os:OsState),(fun w=>segRunT treeTable pE w m0 ann 1 907 (s_0 w os) (piecesOf q1 env cE ⟨46,0,46,8⟩ B)=some (.next,s_1 w os,cE,⟨49,0,49,7⟩)) (v.withFollow "special-get-raises" true):=fun v os=>by kernel_rfl
theorem l_1:∀ (w:World) (os:OsState),segRunT treeTable pE w m0 ann 1 907 (s_0 w os) (piecesOf q1 env cE ⟨46,0,46,8⟩ B)=some (.next,s_1 w os,cE,⟨49,0,49,7⟩):=fun w os=>byRow2 "special-get-raises" (P:=fun w=>segRunT treeTable pE w m0 ann 1 907 (s_0 w os) (piecesOf q1 env cE ⟨46,0,46,8⟩ B)=some (.next,s_1 w os,cE,⟨49,0,49,7⟩)) (fun v=>FN v os) (fun v=>FM v os) w
noncomputable def EB (P:Params):Obj:=⟨.type "dict",none,.dict #[de P (sx "__name__") 165 (st "law_everyfork_k04_right_programs" 741),de P (sx "__doc__") 166 .none,de P (sx "__package__") 167 .none,de P (sx "__loader__") 168 (.builtin "__main__.__loader__#opaque"),de P (sx "__spec__") 169 .none,dr P "__annotations__" 170 6,dr P "__builtins__" 171 4,de P (sx "__file__") 173 (st "/claim/cut.py" 172),de P (sx "__cached__") 174 .none,dr P "ForkError" 206 24,dr P "NoProgram" 233 44,dr P "PLAIN_KINDS" 239 47,dr P "NO_NAMES" 246 48,de P (sx "LETTERS") 248 (st "abcdefghijklmnopqrstuvwxyz" 247),dr P "is_whole" 255 55,dr P "is_between" 264 62,dr P "is_sign_number" 271 69,dr P "is_text" 277 74,dr P "is_name" 283 79,dr P "fields_of" 292 86,dr P "field_kinds" 298 91,dr P "field_kind" 308 98,dr P "parts" 321 105,dr P "SHAPES" 469 106,dr P "LISTED" 479 164,dr P "GOES_BY" 517 165,de P (sx "MOST_NUMBER") 519 (.int 1000000 518),de P (sx "MOST_SIGNS") 521 (.int 40 520),de P (sx "MOST_IN_ROWS") 523 (.int 8 522),de P (sx "MOST_EXPRESSIONS") 525 (.int 12 524),de P (sx "MOST_CONDITIONS") 527 (.int 6 526),dr P "is_shaped" 536 188,dr P "inner_of" 542 193,dr P "may_break" 551 200,dr P "is_small" 561 207,dr P "own_right" 569 214,dr P "named_kind" 577 221,dr P "record_kind" 587 228,dr P "kind_by" 593 233,dr P "kind_in" 605 240,dr P "expression_kind" 614 247,dr P "is_compared" 623 254,dr P "is_condition" 629 259,de P (sx "MOST_RECORDS") 633 (.int 4 632),de P (sx "MOST_FUNCTIONS") 635 (.int 6 634),de P (sx "MOST_FIELDS") 637 (.int 4 636),de P (sx "MOST_PARTS") 639 (.int 8 638),de P (sx "MOST_PARAMS") 641 (.int 4 640),de P (sx "MOST_LOCALS") 643 (.int 6 642),de P (sx "MOST_LINES") 645 (.int 30 644),de P (sx "MOST_DEEP") 647 (.int 5 646),dr P "function_of" 656 266,dr P "variable_kinds" 663 273,dr P "bodies_of" 670 280,dr P "is_tuple_of" 679 287,dr P "is_kind" 685 292,dr P "are_named" 691 297,dr P "is_record" 697 302,dr P "are_records" 706 309,dr P "is_headed" 712 314,dr P "is_call" 718 319,dr P "is_line" 724 324,dr P "first_wrong_line" 730 329,dr P "right_program" 740 336,dr P "_law_tape" 749 343,dr P "_law_draw" 760 350,dr P "_law_names" 766 355,dr P "_law_records" 772 360,dr P "_law_kind" 778 365,dr P "_law_heads" 784 370,dr P "_law_count" 790 375,dr P "_law_leaf" 796 380,dr P "_law_num" 809 387,dr P "_law_row" 815 392,dr P "_law_e" 821 397,dr P "_law_bounded" 832 404,dr P "_law_condition" 844 411,dr P "_law_body" 855 418,dr P "_law_statement" 861 423,dr P "_law_kit" 871 430,dr P "_law_program" 883 437,dr P "law" 895 444] 82,#[]⟩
noncomputable def DI:Obj:=⟨.none,none,.fields #[i0 2,i0 0,.ref 20,i0 4,i0 0,.ref 33,i0 14,i0 0,.ref 54,i0 16,i0 0,.ref 61,i0 18,i0 0,.ref 68,i0 20,i0 0,.ref 73,i0 22,i0 0,.ref 78,i0 26,i0 0,.ref 85,i0 31,i0 0,.ref 90,i0 33,i0 0,.ref 97,i0 38,i0 0,.ref 104,i0 55,i0 0,.ref 187,i0 62,i0 0,.ref 192,i0 67,i0 0,.ref 199,i0 75,i0 0,.ref 206,i0 85,i0 0,.ref 213,i0 94,i0 0,.ref 220,i0 96,i0 0,.ref 227,i0 103,i0 0,.ref 232,i0 118,i0 0,.ref 239,i0 126,i0 0,.ref 246,i0 128,i0 0,.ref 253,i0 130,i0 0,.ref 258,i0 152,i0 0,.ref 265,i0 157,i0 0,.ref 272,i0 159,i0 0,.ref 279,i0 165,i0 0,.ref 286,i0 167,i0 0,.ref 291,i0 169,i0 0,.ref 296,i0 176,i0 0,.ref 301,i0 182,i0 0,.ref 308,i0 189,i0 0,.ref 313,i0 198,i0 0,.ref 318,i0 204,i0 0,.ref 323,i0 219,i0 0,.ref 328,i0 231,i0 0,.ref 335,i0 243,i0 0,.ref 342,i0 245,i0 0,.ref 349,i0 259,i0 0,.ref 354,i0 264,i0 0,.ref 359,i0 273,i0 0,.ref 364,i0 276,i0 0,.ref 369,i0 284,i0 0,.ref 374,i0 294,i0 0,.ref 379,i0 306,i0 0,.ref 386,i0 318,i0 0,.ref 391,i0 329,i0 0,.ref 396,i0 347,i0 0,.ref 403,i0 353,i0 0,.ref 410,i0 363,i0 0,.ref 417,i0 370,i0 0,.ref 422,i0 391,i0 0,.ref 429,i0 394,i0 0,.ref 436,i0 402,i0 0,.ref 443],#[]⟩
noncomputable def uN:Obj:=tu [st "thing" 531,st "sort" 532,st "shape" 533]
noncomputable def Al:Obj:=fw 25 "is_shaped"
noncomputable def vf:Obj:=co [st "is_shaped" 528,st "is_shaped" 529,st "/claim/cut.py" 530,i0 55,i0 2,i0 0,i0 0,i0 3,.ref 182,.bool true,i0 181,.ref 183,.none,.ref 184,.ref 185,.ref 186,i0 534,i0 55,st "/claim/cut.py" 535]
noncomputable def wN:Obj:=fv 25 "is_shaped" "everyfork.shapes" 322 187
noncomputable def Be:Obj:=fw 26 "inner_of"
noncomputable def vw:Obj:=co [st "inner_of" 537,st "inner_of" 538,st "/claim/cut.py" 539,i0 62,i0 1,i0 0,i0 0,i0 3,.ref 189,.bool true,i0 181,.ref 190,.none,.none,.none,.ref 191,i0 540,i0 62,st "/claim/cut.py" 541]
noncomputable def uz:Obj:=fv 26 "inner_of" "everyfork.shapes" 322 192
noncomputable def xn:Obj:=tu [st "shaped" 546,st "waiting" 547,st "one" 548]
noncomputable def AU:Obj:=fw 27 "may_break"
noncomputable def wM:Obj:=co [st "may_break" 543,st "may_break" 544,st "/claim/cut.py" 545,i0 67,i0 1,i0 0,i0 0,i0 3,.ref 194,.bool true,i0 181,.ref 195,.none,.ref 196,.ref 197,.ref 198,i0 549,i0 67,st "/claim/cut.py" 550]
noncomputable def uD:Obj:=fv 27 "may_break" "everyfork.shapes" 322 199
noncomputable def wu:Obj:=tu [st "thing" 555,st "waiting" 556,st "count" 557,st "one" 558]
noncomputable def Ch:Obj:=fw 28 "is_small"
noncomputable def wb:Obj:=co [st "is_small" 552,st "is_small" 553,st "/claim/cut.py" 554,i0 75,i0 1,i0 0,i0 0,i0 3,.ref 201,.bool true,i0 181,.ref 202,.none,.ref 203,.ref 204,.ref 205,i0 559,i0 75,st "/claim/cut.py" 560]
noncomputable def vY:Obj:=fv 28 "is_small" "everyfork.shapes" 322 206
noncomputable def xB:Obj:=tu [st "e" 565,st "word" 566]
noncomputable def AA:Obj:=fw 29 "own_right"
noncomputable def xS:Obj:=co [st "own_right" 562,st "own_right" 563,st "/claim/cut.py" 564,i0 85,i0 1,i0 0,i0 0,i0 3,.ref 208,.bool true,i0 181,.ref 209,.none,.ref 210,.ref 211,.ref 212,i0 567,i0 85,st "/claim/cut.py" 568]
noncomputable def vg:Obj:=fv 29 "own_right" "everyfork.shapes" 322 213
noncomputable def uu:Obj:=tu [st "kinds" 573,st "thing" 574]
noncomputable def Aj:Obj:=fw 30 "named_kind"
noncomputable def xD:Obj:=co [st "named_kind" 570,st "named_kind" 571,st "/claim/cut.py" 572,i0 94,i0 2,i0 0,i0 0,i0 3,.ref 215,.bool true,i0 181,.ref 216,.none,.ref 217,.ref 218,.ref 219,i0 575,i0 94,st "/claim/cut.py" 576]
noncomputable def wJ:Obj:=fv 30 "named_kind" "everyfork.shapes" 322 220
noncomputable def wo:Obj:=tu [st "program" 581,st "e" 582,st "inner" 583,st "wanted" 584]
noncomputable def Cr:Obj:=fw 31 "record_kind"
noncomputable def vx:Obj:=co [st "record_kind" 578,st "record_kind" 579,st "/claim/cut.py" 580,i0 96,i0 3,i0 0,i0 0,i0 3,.ref 222,.bool true,i0 181,.ref 223,.none,.ref 224,.ref 225,.ref 226,i0 585,i0 96,st "/claim/cut.py" 586]
noncomputable def uO:Obj:=fv 31 "record_kind" "everyfork.shapes" 322 227
noncomputable def Ab:Obj:=fw 32 "kind_by"
noncomputable def xy:Obj:=co [st "kind_by" 588,st "kind_by" 589,st "/claim/cut.py" 590,i0 103,i0 4,i0 0,i0 0,i0 3,.ref 229,.bool true,i0 181,.ref 230,.none,.none,.none,.ref 231,i0 591,i0 103,st "/claim/cut.py" 592]
noncomputable def xN:Obj:=fv 32 "kind_by" "everyfork.shapes" 322 232
noncomputable def vh:Obj:=tu [st "program" 597,st "kinds" 598,st "e" 599,st "inner" 600,st "one" 601,st "kind" 602]
noncomputable def Bn:Obj:=fw 33 "kind_in"
noncomputable def wL:Obj:=co [st "kind_in" 594,st "kind_in" 595,st "/claim/cut.py" 596,i0 118,i0 3,i0 0,i0 0,i0 3,.ref 234,.bool true,i0 181,.ref 235,.none,.ref 236,.ref 237,.ref 238,i0 603,i0 118,st "/claim/cut.py" 604]
noncomputable def xO:Obj:=fv 33 "kind_in" "everyfork.shapes" 322 239
noncomputable def xm:Obj:=tu [st "program" 609,st "kinds" 610,st "thing" 611]
noncomputable def Am:Obj:=fw 34 "expression_kind"
noncomputable def xP:Obj:=co [st "expression_kind" 606,st "expression_kind" 607,st "/claim/cut.py" 608,i0 126,i0 3,i0 0,i0 0,i0 3,.ref 241,.bool true,i0 181,.ref 242,.none,.ref 243,.ref 244,.ref 245,i0 612,i0 126,st "/claim/cut.py" 613]
noncomputable def vW:Obj:=fv 34 "expression_kind" "everyfork.shapes" 322 246
noncomputable def wc:Obj:=tu [st "program" 618,st "kinds" 619,st "thing" 620]
noncomputable def AK:Obj:=fw 35 "is_compared"
noncomputable def xf:Obj:=co [st "is_compared" 615,st "is_compared" 616,st "/claim/cut.py" 617,i0 128,i0 3,i0 0,i0 0,i0 3,.ref 248,.bool true,i0 181,.ref 249,.none,.ref 250,.ref 251,.ref 252,i0 621,i0 128,st "/claim/cut.py" 622]
noncomputable def wH:Obj:=fv 35 "is_compared" "everyfork.shapes" 322 253
noncomputable def Cb:Obj:=fw 36 "is_condition"
noncomputable def wn:Obj:=co [st "is_condition" 624,st "is_condition" 625,st "/claim/cut.py" 626,i0 130,i0 3,i0 0,i0 0,i0 3,.ref 255,.bool true,i0 181,.ref 256,.none,.none,.none,.ref 257,i0 627,i0 130,st "/claim/cut.py" 628]
noncomputable def uT:Obj:=fv 36 "is_condition" "everyfork.shapes" 322 258
noncomputable def vN:Obj:=tu [st "program" 651,st "f" 652,st "function" 653]
noncomputable def Cq:Obj:=fw 46 "function_of"
noncomputable def wy:Obj:=co [st "function_of" 648,st "function_of" 649,st "/claim/cut.py" 650,i0 152,i0 2,i0 0,i0 0,i0 3,.ref 260,.bool true,i0 181,.ref 261,.none,.ref 262,.ref 263,.ref 264,i0 654,i0 152,st "/claim/cut.py" 655]
noncomputable def wO:Obj:=fv 46 "function_of" "everyfork.programs" 630 265
noncomputable def wB:Obj:=tu [st "function" 660]
noncomputable def Ci:Obj:=fw 47 "variable_kinds"
noncomputable def vy:Obj:=co [st "variable_kinds" 657,st "variable_kinds" 658,st "/claim/cut.py" 659,i0 157,i0 1,i0 0,i0 0,i0 3,.ref 267,.bool true,i0 181,.ref 268,.none,.ref 269,.ref 270,.ref 271,i0 661,i0 157,st "/claim/cut.py" 662]
noncomputable def uP:Obj:=fv 47 "variable_kinds" "everyfork.programs" 630 272
noncomputable def uv:Obj:=tu [st "statement" 667]
noncomputable def BW:Obj:=fw 48 "bodies_of"
noncomputable def uF:Obj:=co [st "bodies_of" 664,st "bodies_of" 665,st "/claim/cut.py" 666,i0 159,i0 1,i0 0,i0 0,i0 3,.ref 274,.bool true,i0 181,.ref 275,.none,.ref 276,.ref 277,.ref 278,i0 668,i0 159,st "/claim/cut.py" 669]
noncomputable def wz:Obj:=fv 48 "bodies_of" "everyfork.programs" 630 279
noncomputable def vo:Obj:=tu [st "thing" 674,st "least" 675,st "most" 676]
noncomputable def Ap:Obj:=fw 49 "is_tuple_of"
noncomputable def vB:Obj:=co [st "is_tuple_of" 671,st "is_tuple_of" 672,st "/claim/cut.py" 673,i0 165,i0 3,i0 0,i0 0,i0 3,.ref 281,.bool true,i0 181,.ref 282,.none,.ref 283,.ref 284,.ref 285,i0 677,i0 165,st "/claim/cut.py" 678]
noncomputable def wU:Obj:=fv 49 "is_tuple_of" "everyfork.programs" 630 286
noncomputable def Av:Obj:=fw 50 "is_kind"
noncomputable def xz:Obj:=co [st "is_kind" 680,st "is_kind" 681,st "/claim/cut.py" 682,i0 167,i0 2,i0 0,i0 0,i0 3,.ref 288,.bool true,i0 181,.ref 289,.none,.none,.none,.ref 290,i0 683,i0 167,st "/claim/cut.py" 684]
noncomputable def vL:Obj:=fv 50 "is_kind" "everyfork.programs" 630 291
noncomputable def Cp:Obj:=fw 51 "are_named"
noncomputable def wf:Obj:=co [st "are_named" 686,st "are_named" 687,st "/claim/cut.py" 688,i0 169,i0 4,i0 0,i0 0,i0 3,.ref 293,.bool true,i0 181,.ref 294,.none,.none,.none,.ref 295,i0 689,i0 169,st "/claim/cut.py" 690]
noncomputable def uL:Obj:=fv 51 "are_named" "everyfork.programs" 630 296
noncomputable def AI:Obj:=fw 52 "is_record"
noncomputable def wQ:Obj:=co [st "is_record" 692,st "is_record" 693,st "/claim/cut.py" 694,i0 176,i0 2,i0 0,i0 0,i0 3,.ref 298,.bool true,i0 181,.ref 299,.none,.none,.none,.ref 300,i0 695,i0 176,st "/claim/cut.py" 696]
noncomputable def wa:Obj:=fv 52 "is_record" "everyfork.programs" 630 301
noncomputable def uV:Obj:=tu [st "thing" 701,st "place" 702,st "record" 703]
noncomputable def BJ:Obj:=fw 53 "are_records"
noncomputable def we:Obj:=co [st "are_records" 698,st "are_records" 699,st "/claim/cut.py" 700,i0 182,i0 1,i0 0,i0 0,i0 3,.ref 303,.bool true,i0 181,.ref 304,.none,.ref 305,.ref 306,.ref 307,i0 704,i0 182,st "/claim/cut.py" 705]
noncomputable def vC:Obj:=fv 53 "are_records" "everyfork.programs" 630 308
noncomputable def Cc:Obj:=fw 54 "is_headed"
noncomputable def vF:Obj:=co [st "is_headed" 707,st "is_headed" 708,st "/claim/cut.py" 709,i0 189,i0 3,i0 0,i0 0,i0 3,.ref 310,.bool true,i0 181,.ref 311,.none,.none,.none,.ref 312,i0 710,i0 189,st "/claim/cut.py" 711]
noncomputable def vS:Obj:=fv 54 "is_headed" "everyfork.programs" 630 313
noncomputable def Bk:Obj:=fw 55 "is_call"
noncomputable def wC:Obj:=co [st "is_call" 713,st "is_call" 714,st "/claim/cut.py" 715,i0 198,i0 3,i0 0,i0 0,i0 3,.ref 315,.bool true,i0 181,.ref 316,.none,.none,.none,.ref 317,i0 716,i0 198,st "/claim/cut.py" 717]
noncomputable def xu:Obj:=fv 55 "is_call" "everyfork.programs" 630 318
noncomputable def BN:Obj:=fw 56 "is_line"
noncomputable def wK:Obj:=co [st "is_line" 719,st "is_line" 720,st "/claim/cut.py" 721,i0 204,i0 3,i0 0,i0 0,i0 3,.ref 320,.bool true,i0 181,.ref 321,.none,.none,.none,.ref 322,i0 722,i0 204,st "/claim/cut.py" 723]
noncomputable def vV:Obj:=fv 56 "is_line" "everyfork.programs" 630 323
noncomputable def BK:Obj:=fw 57 "first_wrong_line"
noncomputable def uB:Obj:=co [st "first_wrong_line" 725,st "first_wrong_line" 726,st "/claim/cut.py" 727,i0 219,i0 2,i0 0,i0 0,i0 3,.ref 325,.bool true,i0 181,.ref 326,.none,.none,.none,.ref 327,i0 728,i0 219,st "/claim/cut.py" 729]
noncomputable def wx:Obj:=fv 57 "first_wrong_line" "everyfork.programs" 630 328
noncomputable def uJ:Obj:=tu [st "thing" 734,st "number" 735,st "function" 736,st "k" 737]
noncomputable def BY:Obj:=fw 58 "right_program"
noncomputable def wv:Obj:=co [st "right_program" 731,st "right_program" 732,st "/claim/cut.py" 733,i0 231,i0 1,i0 0,i0 0,i0 3,.ref 330,.bool true,i0 181,.ref 331,.none,.ref 332,.ref 333,.ref 334,i0 738,i0 231,st "/claim/cut.py" 739]
noncomputable def uK:Obj:=fv 58 "right_program" "everyfork.programs" 630 335
noncomputable def xt:Obj:=tu [st "_law_script" 746]
noncomputable def AY:Obj:=fw 60 "_law_tape"
noncomputable def xj:Obj:=co [st "_law_tape" 743,st "_law_tape" 744,st "/claim/cut.py" 745,i0 243,i0 1,i0 0,i0 0,i0 3,.ref 337,.bool true,i0 181,.ref 338,.none,.ref 339,.ref 340,.ref 341,i0 747,i0 243,st "/claim/cut.py" 748]
noncomputable def vc:Obj:=fv 60 "_law_tape" "law_everyfork_k04_right_programs" 741 342
noncomputable def xK:Obj:=tu [st "_law_tape_here" 753,st "_law_many" 754,st "_law_cell" 755,st "_law_mixed" 756,st "_law_found" 757]
noncomputable def AB:Obj:=fw 61 "_law_draw"
noncomputable def xG:Obj:=co [st "_law_draw" 750,st "_law_draw" 751,st "/claim/cut.py" 752,i0 245,i0 2,i0 0,i0 0,i0 3,.ref 344,.bool true,i0 181,.ref 345,.none,.ref 346,.ref 347,.ref 348,i0 758,i0 245,st "/claim/cut.py" 759]
noncomputable def vH:Obj:=fv 61 "_law_draw" "law_everyfork_k04_right_programs" 741 349
noncomputable def Au:Obj:=fw 62 "_law_names"
noncomputable def uG:Obj:=co [st "_law_names" 761,st "_law_names" 762,st "/claim/cut.py" 763,i0 259,i0 2,i0 0,i0 0,i0 3,.ref 351,.bool true,i0 181,.ref 352,.none,.none,.none,.ref 353,i0 764,i0 259,st "/claim/cut.py" 765]
noncomputable def vd:Obj:=fv 62 "_law_names" "law_everyfork_k04_right_programs" 741 354
noncomputable def Bx:Obj:=fw 63 "_law_records"
noncomputable def vU:Obj:=co [st "_law_records" 767,st "_law_records" 768,st "/claim/cut.py" 769,i0 264,i0 1,i0 0,i0 0,i0 3,.ref 356,.bool true,i0 181,.ref 357,.none,.none,.none,.ref 358,i0 770,i0 264,st "/claim/cut.py" 771]
noncomputable def xo:Obj:=fv 63 "_law_records" "law_everyfork_k04_right_programs" 741 359
noncomputable def BQ:Obj:=fw 64 "_law_kind"
noncomputable def wF:Obj:=co [st "_law_kind" 773,st "_law_kind" 774,st "/claim/cut.py" 775,i0 273,i0 2,i0 0,i0 0,i0 3,.ref 361,.bool true,i0 181,.ref 362,.none,.none,.none,.ref 363,i0 776,i0 273,st "/claim/cut.py" 777]
noncomputable def vM:Obj:=fv 64 "_law_kind" "law_everyfork_k04_right_programs" 741 364
noncomputable def Cf:Obj:=fw 65 "_law_heads"
noncomputable def uw:Obj:=co [st "_law_heads" 779,st "_law_heads" 780,st "/claim/cut.py" 781,i0 276,i0 2,i0 0,i0 0,i0 3,.ref 366,.bool true,i0 181,.ref 367,.none,.none,.none,.ref 368,i0 782,i0 276,st "/claim/cut.py" 783]
noncomputable def vQ:Obj:=fv 65 "_law_heads" "law_everyfork_k04_right_programs" 741 369
noncomputable def BV:Obj:=fw 66 "_law_count"
noncomputable def xF:Obj:=co [st "_law_count" 785,st "_law_count" 786,st "/claim/cut.py" 787,i0 284,i0 1,i0 0,i0 0,i0 3,.ref 371,.bool true,i0 181,.ref 372,.none,.none,.none,.ref 373,i0 788,i0 284,st "/claim/cut.py" 789]
noncomputable def wV:Obj:=fv 66 "_law_count" "law_everyfork_k04_right_programs" 741 374
noncomputable def Aw:Obj:=fw 67 "_law_leaf"
noncomputable def xQ:Obj:=co [st "_law_leaf" 791,st "_law_leaf" 792,st "/claim/cut.py" 793,i0 294,i0 3,i0 0,i0 0,i0 3,.ref 376,.bool true,i0 181,.ref 377,.none,.none,.none,.ref 378,i0 794,i0 294,st "/claim/cut.py" 795]
noncomputable def xM:Obj:=fv 67 "_law_leaf" "law_everyfork_k04_right_programs" 741 379
noncomputable def vG:Obj:=tu [st "_law_tape_here" 800,st "_law_kit_here" 801,st "_law_deep" 802,st "_law_way" 803,st "_law_word" 804,st "_law_first" 805,st "_law_row_here" 806]
noncomputable def Bm:Obj:=fw 68 "_law_num"
noncomputable def ww:Obj:=co [st "_law_num" 797,st "_law_num" 798,st "/claim/cut.py" 799,i0 306,i0 3,i0 0,i0 0,i0 3,.ref 381,.bool true,i0 181,.ref 382,.none,.ref 383,.ref 384,.ref 385,i0 807,i0 306,st "/claim/cut.py" 808]
noncomputable def wt:Obj:=fv 68 "_law_num" "law_everyfork_k04_right_programs" 741 386
noncomputable def BB:Obj:=fw 69 "_law_row"
noncomputable def vJ:Obj:=co [st "_law_row" 810,st "_law_row" 811,st "/claim/cut.py" 812,i0 318,i0 3,i0 0,i0 0,i0 3,.ref 388,.bool true,i0 181,.ref 389,.none,.none,.none,.ref 390,i0 813,i0 318,st "/claim/cut.py" 814]
noncomputable def wI:Obj:=fv 69 "_law_row" "law_everyfork_k04_right_programs" 741 391
noncomputable def Ak:Obj:=fw 70 "_law_e"
noncomputable def wE:Obj:=co [st "_law_e" 816,st "_law_e" 817,st "/claim/cut.py" 818,i0 329,i0 4,i0 0,i0 0,i0 3,.ref 393,.bool true,i0 181,.ref 394,.none,.none,.none,.ref 395,i0 819,i0 329,st "/claim/cut.py" 820]
noncomputable def vP:Obj:=fv 70 "_law_e" "law_everyfork_k04_right_programs" 741 396
noncomputable def uI:Obj:=tu [st "_law_tape_here" 825,st "_law_kit_here" 826,st "_law_kind_here" 827,st "_law_reach" 828,st "_law_e_here" 829]
noncomputable def Bi:Obj:=fw 71 "_law_bounded"
noncomputable def xJ:Obj:=co [st "_law_bounded" 822,st "_law_bounded" 823,st "/claim/cut.py" 824,i0 347,i0 4,i0 0,i0 0,i0 3,.ref 398,.bool true,i0 181,.ref 399,.none,.ref 400,.ref 401,.ref 402,i0 830,i0 347,st "/claim/cut.py" 831]
noncomputable def vI:Obj:=fv 71 "_law_bounded" "law_everyfork_k04_right_programs" 741 403
noncomputable def wP:Obj:=tu [st "_law_tape_here" 836,st "_law_kit_here" 837,st "_law_deep" 838,st "_law_way" 839,st "_law_word" 840,st "_law_first" 841]
noncomputable def BZ:Obj:=fw 72 "_law_condition"
noncomputable def xq:Obj:=co [st "_law_condition" 833,st "_law_condition" 834,st "/claim/cut.py" 835,i0 353,i0 3,i0 0,i0 0,i0 3,.ref 405,.bool true,i0 181,.ref 406,.none,.ref 407,.ref 408,.ref 409,i0 842,i0 353,st "/claim/cut.py" 843]
noncomputable def xI:Obj:=fv 72 "_law_condition" "law_everyfork_k04_right_programs" 741 410
noncomputable def vE:Obj:=tu [st "_law_tape_here" 848,st "_law_kit_here" 849,st "_law_deep" 850,st "_law_body_here" 851,st "_law_k" 852]
noncomputable def At:Obj:=fw 73 "_law_body"
noncomputable def wA:Obj:=co [st "_law_body" 845,st "_law_body" 846,st "/claim/cut.py" 847,i0 363,i0 3,i0 0,i0 0,i0 3,.ref 412,.bool true,i0 181,.ref 413,.none,.ref 414,.ref 415,.ref 416,i0 853,i0 363,st "/claim/cut.py" 854]
noncomputable def wG:Obj:=fv 73 "_law_body" "law_everyfork_k04_right_programs" 741 417
noncomputable def AL:Obj:=fw 74 "_law_statement"
noncomputable def wD:Obj:=co [st "_law_statement" 856,st "_law_statement" 857,st "/claim/cut.py" 858,i0 370,i0 3,i0 0,i0 0,i0 3,.ref 419,.bool true,i0 181,.ref 420,.none,.none,.none,.ref 421,i0 859,i0 370,st "/claim/cut.py" 860]
noncomputable def xi:Obj:=fv 74 "_law_statement" "law_everyfork_k04_right_programs" 741 422
noncomputable def vm:Obj:=tu [st "_law_records_here" 865,st "_law_heads_here" 866,st "_law_f" 867,st "_law_head" 868]
noncomputable def Cg:Obj:=fw 75 "_law_kit"
noncomputable def uy:Obj:=co [st "_law_kit" 862,st "_law_kit" 863,st "/claim/cut.py" 864,i0 391,i0 3,i0 0,i0 0,i0 3,.ref 424,.bool true,i0 181,.ref 425,.none,.ref 426,.ref 427,.ref 428,i0 869,i0 391,st "/claim/cut.py" 870]
noncomputable def vK:Obj:=fv 75 "_law_kit" "law_everyfork_k04_right_programs" 741 429
noncomputable def wY:Obj:=tu [st "_law_tape_here" 875,st "_law_records_here" 876,st "_law_heads_here" 877,st "_law_functions" 878,st "_law_f" 879,st "_law_kit_here" 880]
noncomputable def AQ:Obj:=fw 76 "_law_program"
noncomputable def uE:Obj:=co [st "_law_program" 872,st "_law_program" 873,st "/claim/cut.py" 874,i0 394,i0 1,i0 0,i0 0,i0 3,.ref 431,.bool true,i0 181,.ref 432,.none,.ref 433,.ref 434,.ref 435,i0 881,i0 394,st "/claim/cut.py" 882]
noncomputable def xA:Obj:=fv 76 "_law_program" "law_everyfork_k04_right_programs" 741 436
noncomputable def uX:Obj:=tu [st "_law_script" 887,st "_law_tape_here" 888,st "_law_turn" 889,st "_law_program_here" 890,st "_law_kept" 891,st "_law_function" 892]
noncomputable def Cl:Obj:=fw 77 "law"
noncomputable def xk:Obj:=co [st "law" 884,st "law" 885,st "/claim/cut.py" 886,i0 402,i0 1,i0 0,i0 0,i0 3,.ref 438,.bool true,i0 181,.ref 439,.none,.ref 440,.ref 441,.ref 442,i0 893,i0 402,st "/claim/cut.py" 894]
noncomputable def xc:Obj:=fv 77 "law" "law_everyfork_k04_right_programs" 741 443
noncomputable def t_2 (P:Params):BT:=(.node (boot_o_0 P) (.node (boot_o_1 P) (.node (EB P) (.node (boot_o_7 P) (.node su (.node ar (.node ar (.node rD (.node ar .nil .nil) (.node vG .nil .nil)) (.node Be (.node xu .nil .nil) .nil)) (.node ar (.node qk (.node wU .nil .nil) (.node ar .nil .nil)) (.node aQ (.node ar .nil .nil) .nil))) (.node sE (.node sS (.node rH (.node Ci .nil .nil) (.node aQ .nil .nil)) (.node vY (.node wv .nil .nil) .nil)) (.node pj (.node rf (.node ar .nil .nil) (.node ar .nil .nil)) (.node wL (.node aQ .nil .nil) .nil)))) (.node (sG P) (.node ya (.node aQ (.node qC (.node ar .nil .nil) (.node vJ .nil .nil)) (.node wM (.node BK .nil .nil) .nil)) (.node qy (.node pM (.node Cp .nil .nil) (.node xi .nil .nil)) (.node Ab (.node vU .nil .nil) .nil))) (.node sI (.node ar (.node oY (.node uF .nil .nil) (.node wP .nil .nil)) (.node ar (.node vc .nil .nil) .nil)) (.node ar (.node aQ (.node aQ .nil .nil) (.node aQ .nil .nil)) (.node vW (.node wV .nil .nil) .nil))))) (.node ar (.node aQ (.node ar (.node yF (.node qi (.node uT .nil .nil) (.node wt .nil .nil)) (.node aQ (.node wK .nil .nil) .nil)) (.node ar (.node qj (.node xz .nil .nil) (.node ar .nil .nil)) (.node vx (.node vd .nil .nil) .nil))) (.node tW (.node ar (.node qd (.node aQ .nil .nil) (.node xJ .nil .nil)) (.node ar (.node xt .nil .nil) .nil)) (.node ar (.node pJ (.node BJ .nil .nil) (.node AQ .nil .nil)) (.node xm (.node ar .nil .nil) .nil)))) (.node yN (.node (um P) (.node ar (.node rn (.node ar .nil .nil) (.node Ak .nil .nil)) (.node wu (.node aQ .nil .nil) .nil)) (.node ql (.node rK (.node aQ .nil .nil) (.node ar .nil .nil)) (.node aQ (.node BQ .nil .nil) .nil))) (.node ar (.node sr (.node pq (.node vo .nil .nil) (.node xI .nil .nil)) (.node Aj (.node ar .nil .nil) .nil)) (.node ar (.node vf (.node ar .nil .nil) (.node xk .nil .nil)) (.node ar (.node xQ .nil .nil) .nil)))))) (.node (boot_o_5 P) (.node (boot_o_9 P) (.node (yA P) (.node yz (.node sY (.node ar (.node Cb .nil .nil) (.node Bm .nil .nil)) (.node uz (.node aQ .nil .nil) .nil)) (.node sg (.node pi (.node aQ .nil .nil) (.node wA .nil .nil)) (.node ar (.node Au .nil .nil) .nil))) (.node ar (.node aQ (.node pV (.node uP .nil .nil) (.node ar .nil .nil)) (.node aQ (.node ar .nil .nil) .nil)) (.node pX (.node qh (.node uV .nil .nil) (.node wY .nil .nil)) (.node ar (.node uw .nil .nil) .nil)))) (.node uk (.node tf (.node tU (.node rh (.node wy .nil .nil) (.node ar .nil .nil)) (.node ar (.node wx .nil .nil) .nil)) (.node md (.node rz (.node uL .nil .nil) (.node aQ .nil .nil)) (.node xN (.node ar .nil .nil) .nil))) (.node aQ (.node yH (.node ph (.node ar .nil .nil) (.node BZ .nil .nil)) (.node uu (.node aQ .nil .nil) .nil)) (.node ar (.node ar (.node vF .nil .nil) (.node ar .nil .nil)) (.node aQ (.node aQ .nil .nil) .nil))))) (.node zq (.node yt (.node tH (.node tj (.node pS (.node aQ .nil .nil) (.node aQ .nil .nil)) (.node ar (.node ar .nil .nil) .nil)) (.node lU (.node (rg P) (.node ar .nil .nil) (.node AL .nil .nil)) (.node ar (.node aQ .nil .nil) .nil))) (.node yC (.node uo (.node qq (.node ar .nil .nil) (.node ar .nil .nil)) (.node xS (.node AY .nil .nil) .nil)) (.node pW (.node qO (.node vC .nil .nil) (.node xA .nil .nil)) (.node Am (.node BV .nil .nil) .nil)))) (.node kr (.node yT (.node yj (.node (wR P) (.node wB .nil .nil) (.node vP .nil .nil)) (.node Ch (.node ar .nil .nil) .nil)) (.node qH (.node pN (.node wQ .nil .nil) (.node uy .nil .nil)) (.node ar (.node vM .nil .nil) .nil))) (.node uc (.node aQ (.node oZ (.node Ap .nil .nil) (.node aQ .nil .nil)) (.node wJ (.node xG .nil .nil) .nil)) (.node pD (.node ar (.node Bk .nil .nil) .nil) (.node xf (.node ar .nil .nil) .nil))))))) (.node (boot_o_2 P) (.node (boot_o_4 P) (.node (boot_o_8 P) (.node kr (.node yS (.node aQ (.node qI (.node aQ .nil .nil) (.node ar .nil .nil)) (.node vw (.node ar .nil .nil) .nil)) (.node yW (.node qA (.node ar .nil .nil) (.node At .nil .nil)) (.node wo (.node aQ .nil .nil) .nil))) (.node sF (.node ar (.node rG (.node vy .nil .nil) (.node uI .nil .nil)) (.node ar (.node uK .nil .nil) .nil)) (.node qz (.node pY (.node aQ .nil .nil) (.node aQ .nil .nil)) (.node xO (.node Cf .nil .nil) .nil)))) (.node sJ (.node ug (.node yr (.node qD (.node Cq .nil .nil) (.node wI .nil .nil)) (.node uD (.node uB .nil .nil) .nil)) (.node lI (.node qU (.node wf .nil .nil) (.node ar .nil .nil)) (.node xy (.node xo .nil .nil) .nil))) (.node ar (.node aQ (.node qf (.node wz .nil .nil) (.node ar .nil .nil)) (.node aQ (.node ar .nil .nil) .nil)) (.node qb (.node uN (.node Cc .nil .nil) (.node uX .nil .nil)) (.node ar (.node ar .nil .nil) .nil))))) (.node DI (.node za (.node aQ (.node sK (.node rL (.node ar .nil .nil) (.node ar .nil .nil)) (.node xn (.node vV .nil .nil) .nil)) (.node aQ (.node (pw P) (.node vL .nil .nil) (.node aQ .nil .nil)) (.node uO (.node ar .nil .nil) .nil))) (.node ar (.node yY (.node qe (.node uv .nil .nil) (.node vI .nil .nil)) (.node AA (.node ar .nil .nil) .nil)) (.node pZ (.node qF (.node we .nil .nil) (.node uE .nil .nil)) (.node ar (.node aQ .nil .nil) .nil)))) (.node ud (.node sy (.node aQ (.node rO (.node aQ .nil .nil) (.node wE .nil .nil)) (.node ar (.node uJ .nil .nil) .nil)) (.node qS (.node qo (.node AI .nil .nil) (.node Cg .nil .nil)) (.node vh (.node wF .nil .nil) .nil))) (.node yR (.node ar (.node qP (.node ar .nil .nil) (.node ar .nil .nil)) (.node xD (.node AB .nil .nil) .nil)) (.node qR (.node wN (.node aQ .nil .nil) (.node xc .nil .nil)) (.node AK (.node xM .nil .nil) .nil)))))) (.node (boot_o_6 P) (.node (boot_o_10 P) (.node ar (.node xW (.node ar (.node rJ (.node wn .nil .nil) (.node ww .nil .nil)) (.node ar (.node BN .nil .nil) .nil)) (.node rX (.node qY (.node Av .nil .nil) (.node wG .nil .nil)) (.node Cr (.node uG .nil .nil) .nil))) (.node aQ (.node sn (.node ar (.node ar .nil .nil) (.node Bi .nil .nil)) (.node xB (.node aQ .nil .nil) .nil)) (.node pK (.node rF (.node ar .nil .nil) (.node ar .nil .nil)) (.node aQ (.node vQ .nil .nil) .nil)))) (.node yE (.node sO (.node rQ (.node pQ (.node wO .nil .nil) (.node aQ .nil .nil)) (.node aQ (.node ar .nil .nil) .nil)) (.node (re P) (.node qQ (.node ar .nil .nil) (.node vm .nil .nil)) (.node ar (.node aQ .nil .nil) .nil))) (.node tV (.node tY (.node qp (.node aQ .nil .nil) (.node xq .nil .nil)) (.node ar (.node xK .nil .nil) .nil)) (.node rN (.node Al (.node vS .nil .nil) (.node Cl .nil .nil)) (.node wc (.node Aw .nil .nil) .nil))))) (.node zm (.node ar (.node ar (.node ar (.node qX (.node vN .nil .nil) (.node BB .nil .nil)) (.node AU (.node aQ .nil .nil) .nil)) (.node ar (.node qG (.node aQ .nil .nil) (.node wD .nil .nil)) (.node aQ (.node Bx .nil .nil) .nil))) (.node ub (.node sV (.node qJ (.node BW .nil .nil) (.node aQ .nil .nil)) (.node vg (.node xj .nil .nil) .nil)) (.node pG (.node ar (.node ar .nil .nil) (.node ar .nil .nil)) (.node xP (.node xF .nil .nil) .nil)))) (.node (xY P) (.node yP (.node tJ (.node pO (.node ar .nil .nil) (.node ar .nil .nil)) (.node wb (.node BY .nil .nil) .nil)) (.node qu (.node qw (.node wa .nil .nil) (.node vK .nil .nil)) (.node Bn (.node ar .nil .nil) .nil))) (.node sj (.node rV (.node rP (.node vB .nil .nil) (.node vE .nil .nil)) (.node ar (.node vH .nil .nil) .nil)) (.node qB (.node aQ (.node wC .nil .nil) .nil) (.node wH (.node aQ .nil .nil) .nil))))))))
noncomputable def s_2 (w:World) (os:OsState):SharedT:=⟨t_2 w.params,445,{ :Life },#[],⟨0,0,0,0⟩,896,os⟩
noncomputable def q2:List Stmt:=(pE.main.body.drop 20).take 58
theorem l_2:∀ (w:World) (os:OsState),segRunT treeTable pE w m0 ann 1 1392 (s_1 w os) (piecesOf q2 env cE ⟨49,0,49,7⟩ B)=some (.next,s_2 w os,cE,⟨402,0,414,67⟩):=fun w os=>by kernel_rfl
noncomputable def hz (P:Params):Heap:=⟨⟨[(boot_o_0 P),(boot_o_1 P),(boot_o_2 P),(EB P),(boot_o_4 P),(boot_o_5 P),(boot_o_6 P),(boot_o_7 P),(boot_o_8 P),(boot_o_9 P),(boot_o_10 P),ar,DI,zq,zm,su,kr,(yA P),ar,aQ,za,yt,ar,(sG P),sJ,uk,yE,yN,ud,kr,(xY P),ar,yS,yz,xW,ar,aQ,tH,ar,ya,ug,tf,sO,(um P),sy,yT,yP,sE,sF,ar,aQ,tW,ar,yC,ub,sI,ar,aQ,tV,ar,yR,uc,sj,ar,aQ,sY,ar,yF,sK,tj,ar,aQ,yr,tU,rQ,ar,aQ,yj,tJ,sS,ar,aQ,sn,ar,yY,uo,sV,ar,aQ,yH,tY,sr,ar,aQ,rV,ar,yW,sg,rX,ar,aQ,lU,ar,qy,lI,md,(re P),ql,qS,qH,qu,pj,qz,pX,pK,ar,pZ,pW,pG,ar,qb,ar,rN,ar,qR,pD,qB,rD,qI,ar,rJ,qi,rL,pS,qX,qC,qD,rh,pQ,rn,rO,(wR P),pO,rH,rG,pV,ar,qd,qe,qq,qJ,oY,qf,ph,qp,pq,qP,oZ,rP,qk,qA,pi,qY,qj,(pw P),(rg P),qG,pM,qU,rz,qQ,rK,qo,pN,qw,rf,pY,qh,rF,pJ,qF,qO,ar,aQ,uN,ar,Al,vf,wN,ar,aQ,Be,vw,uz,ar,aQ,xn,ar,AU,wM,uD,ar,aQ,wu,ar,Ch,wb,vY,ar,aQ,xB,ar,AA,xS,vg,ar,aQ,uu,ar,Aj,xD,wJ,ar,aQ,wo,ar,Cr,vx,uO,ar,aQ,Ab,xy,xN,ar,aQ,vh,ar,Bn,wL,xO,ar,aQ,xm,ar,Am,xP,vW,ar,aQ,wc,ar,AK,xf,wH,ar,aQ,Cb,wn,uT,ar,aQ,vN,ar,Cq,wy,wO,ar,aQ,wB,ar,Ci,vy,uP,ar,aQ,uv,ar,BW,uF,wz,ar,aQ,vo,ar,Ap,vB,wU,ar,aQ,Av,xz,vL,ar,aQ,Cp,wf,uL,ar,aQ,AI,wQ,wa,ar,aQ,uV,ar,BJ,we,vC,ar,aQ,Cc,vF,vS,ar,aQ,Bk,wC,xu,ar,aQ,BN,wK,vV,ar,aQ,BK,uB,wx,ar,aQ,uJ,ar,BY,wv,uK,ar,aQ,xt,ar,AY,xj,vc,ar,aQ,xK,ar,AB,xG,vH,ar,aQ,Au,uG,vd,ar,aQ,Bx,vU,xo,ar,aQ,BQ,wF,vM,ar,aQ,Cf,uw,vQ,ar,aQ,BV,xF,wV,ar,aQ,Aw,xQ,xM,ar,aQ,vG,ar,Bm,ww,wt,ar,aQ,BB,vJ,wI,ar,aQ,Ak,wE,vP,ar,aQ,uI,ar,Bi,xJ,vI,ar,aQ,wP,ar,BZ,xq,xI,ar,aQ,vE,ar,At,wA,wG,ar,aQ,AL,wD,xi,ar,aQ,vm,ar,Cg,uy,vK,ar,aQ,wY,ar,AQ,uE,xA,ar,aQ,uX,ar,Cl,xk,xc]⟩,{ :Life }⟩
noncomputable def sz (w:World) (os:OsState):Shared:=⟨hz w.params,#[],⟨0,0,0,0⟩,896,os⟩
theorem Gu:∀ (w:World) (os:OsState),topRun treeTable pE w m0 ann 2 (s_2 w os).abs (Thread.mk (doneF .next) cE ⟨402,0,414,67⟩ B)=some (sz w os):=fun w os=>by kernel_rfl
theorem He:∀ (w:World) (os:OsState),topRun treeTable pE w m0 ann (12+(1+(764+(907+(1392+2))))) (s0 w os) (topStub pE)=some (sz w os):=fun w os=>go_top (GV w os) (piece_block (Di w os) (piece_app (l:=q0) (segRun_of (l_0 w os)) (piece_app (l:=q1) (segRun_of (l_1 w os)) (piece_app (l:=q2) (segRun_of (l_2 w os)) (piece_nil (Gu w os))))))
noncomputable def HK (P:Params):Frag:=[(2,(boot_o_2 P)),(3,(EB P)),(15,su),(22,ar),(23,(sG P)),(24,sJ),(25,uk),(28,ud),(35,ar),(37,tH),(38,ar),(40,ug),(41,tf),(42,sO),(43,(um P)),(44,sy),(47,sE),(48,sF),(49,ar),(51,tW),(52,ar),(54,ub),(55,sI),(56,ar),(58,tV),(59,ar),(61,uc),(62,sj),(63,ar),(65,sY),(66,ar),(68,sK),(69,tj),(70,ar),(73,tU),(74,rQ),(75,ar),(78,tJ),(79,sS),(80,ar),(82,sn),(83,ar),(85,uo),(86,sV),(87,ar),(90,tY),(91,sr),(92,ar),(94,rV),(95,ar),(97,sg),(98,rX),(99,ar),(101,lU),(102,ar),(104,lI),(105,md),(106,(re P)),(107,ql),(108,qS),(109,qH),(110,qu),(111,pj),(112,qz),(113,pX),(114,pK),(115,ar),(116,pZ),(117,pW),(118,pG),(119,ar),(120,qb),(121,ar),(122,rN),(123,ar),(124,qR),(125,pD),(126,qB),(127,rD),(128,qI),(129,ar),(130,rJ),(131,qi),(132,rL),(133,pS),(134,qX),(135,qC),(136,qD),(137,rh),(138,pQ),(139,rn),(140,rO),(142,pO),(143,rH),(144,rG),(145,pV),(146,ar),(147,qd),(148,qe),(149,qq),(150,qJ),(151,oY),(152,qf),(153,ph),(154,qp),(155,pq),(156,qP),(157,oZ),(158,rP),(159,qk),(160,qA),(161,pi),(162,qY),(163,qj),(164,(pw P)),(165,(rg P)),(166,qG),(167,pM),(168,qU),(169,rz),(170,qQ),(171,rK),(172,qo),(173,pN),(174,qw),(175,rf),(176,pY),(177,qh),(178,rF),(179,pJ),(180,qF),(181,qO),(182,ar),(184,uN),(185,ar),(187,vf),(188,wN),(189,ar),(192,vw),(193,uz),(194,ar),(196,xn),(197,ar),(199,wM),(200,uD),(201,ar),(203,wu),(204,ar),(206,wb),(207,vY),(208,ar),(210,xB),(211,ar),(213,xS),(214,vg),(215,ar),(217,uu),(218,ar),(220,xD),(221,wJ),(222,ar),(224,wo),(225,ar),(227,vx),(228,uO),(229,ar),(232,xy),(233,xN),(234,ar),(236,vh),(237,ar),(239,wL),(240,xO),(241,ar),(243,xm),(244,ar),(246,xP),(247,vW),(248,ar),(250,wc),(251,ar),(253,xf),(254,wH),(255,ar),(258,wn),(259,uT),(260,ar),(262,vN),(263,ar),(265,wy),(266,wO),(267,ar),(269,wB),(270,ar),(272,vy),(273,uP),(274,ar),(276,uv),(277,ar),(279,uF),(280,wz),(281,ar),(283,vo),(284,ar),(286,vB),(287,wU),(288,ar),(291,xz),(292,vL),(293,ar),(296,wf),(297,uL),(298,ar),(301,wQ),(302,wa),(303,ar),(305,uV),(306,ar),(308,we),(309,vC),(310,ar),(313,vF),(314,vS),(315,ar),(318,wC),(319,xu),(320,ar),(323,wK),(324,vV),(325,ar),(328,uB),(329,wx),(330,ar),(332,uJ),(333,ar),(335,wv),(336,uK),(337,ar),(339,xt),(340,ar),(342,xj),(343,vc),(344,ar),(346,xK),(347,ar),(349,xG),(350,vH),(351,ar),(354,uG),(355,vd),(356,ar),(359,vU),(360,xo),(361,ar),(364,wF),(365,vM),(366,ar),(369,uw),(370,vQ),(371,ar),(374,xF),(375,wV),(376,ar),(379,xQ),(380,xM),(381,ar),(383,vG),(384,ar),(386,ww),(387,wt),(388,ar),(391,vJ),(392,wI),(393,ar),(396,wE),(397,vP),(398,ar),(400,uI),(401,ar),(403,xJ),(404,vI),(405,ar),(407,wP),(408,ar),(410,xq),(411,xI),(412,ar),(414,vE),(415,ar),(417,wA),(418,wG),(419,ar),(422,wD),(423,xi),(424,ar),(426,vm),(427,ar),(429,uy),(430,vK),(431,ar),(433,wY),(434,ar),(436,uE),(437,xA),(438,ar),(440,uX),(441,ar),(443,xk),(444,xc)]
noncomputable def HA:List Addr:=[2,3,15,22,23,24,25,28,35,37,38,40,41,42,43,44,47,48,49,51,52,54,55,56,58,59,61,62,63,65,66,68,69,70,73,74,75,78,79,80,82,83,85,86,87,90,91,92,94,95,97,98,99,101,102,104,105,106,107,108,109,110,111,112,113,114,115,116,117,118,119,120,121,122,123,124,125,126,127,128,129,130,131,132,133,134,135,136,137,138,139,140,142,143,144,145,146,147,148,149,150,151,152,153,154,155,156,157,158,159,160,161,162,163,164,165,166,167,168,169,170,171,172,173,174,175,176,177,178,179,180,181,182,184,185,187,188,189,192,193,194,196,197,199,200,201,203,204,206,207,208,210,211,213,214,215,217,218,220,221,222,224,225,227,228,229,232,233,234,236,237,239,240,241,243,244,246,247,248,250,251,253,254,255,258,259,260,262,263,265,266,267,269,270,272,273,274,276,277,279,280,281,283,284,286,287,288,291,292,293,296,297,298,301,302,303,305,306,308,309,310,313,314,315,318,319,320,323,324,325,328,329,330,332,333,335,336,337,339,340,342,343,344,346,347,349,350,351,354,355,356,359,360,361,364,365,366,369,370,371,374,375,376,379,380,381,383,384,386,387,388,391,392,393,396,397,398,400,401,403,404,405,407,408,410,411,412,414,415,417,418,419,422,423,424,426,427,429,430,431,433,434,436,437,438,440,441,443,444]
theorem GT (P:Params):HA=(HK P).map (·.1):=by kernel_rfl
noncomputable def qV:Program:={ pE with main:={ pE.main with body:=[top 77] } }
noncomputable def lo:List Str:=[(sx "ForkError"),(sx "NoProgram"),(sx "PLAIN_KINDS"),(sx "NO_NAMES"),(sx "LETTERS"),(sx "is_whole"),(sx "is_between"),(sx "is_sign_number"),(sx "is_text"),(sx "is_name"),(sx "fields_of"),(sx "field_kinds"),(sx "field_kind"),(sx "parts"),(sx "SHAPES"),(sx "LISTED"),(sx "GOES_BY"),(sx "MOST_NUMBER"),(sx "MOST_SIGNS"),(sx "MOST_IN_ROWS"),(sx "MOST_EXPRESSIONS"),(sx "MOST_CONDITIONS"),(sx "is_shaped"),(sx "inner_of"),(sx "may_break"),(sx "is_small"),(sx "own_right"),(sx "named_kind"),(sx "record_kind"),(sx "kind_by"),(sx "kind_in"),(sx "expression_kind"),(sx "is_compared"),(sx "is_condition"),(sx "MOST_RECORDS"),(sx "MOST_FUNCTIONS"),(sx "MOST_FIELDS"),(sx "MOST_PARTS"),(sx "MOST_PARAMS"),(sx "MOST_LOCALS"),(sx "MOST_LINES"),(sx "MOST_DEEP"),(sx "function_of"),(sx "variable_kinds"),(sx "bodies_of"),(sx "is_tuple_of"),(sx "is_kind"),(sx "are_named"),(sx "is_record"),(sx "are_records"),(sx "is_headed"),(sx "is_call"),(sx "is_line"),(sx "first_wrong_line"),(sx "right_program"),(sx "_law_tape"),(sx "_law_draw"),(sx "_law_names"),(sx "_law_records"),(sx "_law_kind"),(sx "_law_heads"),(sx "_law_count"),(sx "_law_leaf"),(sx "_law_num"),(sx "_law_row"),(sx "_law_e"),(sx "_law_bounded"),(sx "_law_condition"),(sx "_law_body"),(sx "_law_statement"),(sx "_law_kit"),(sx "_law_program")]
noncomputable abbrev rW:RowW:=OpenRow.toRowW (OpenLaw.row PySem.Challenge.rw_everyfork_k04_right_programs)
noncomputable abbrev Xt:Shared→Bool:=fun s=>xlAt qV [] s&&recOk (RowW.records rW) s
noncomputable abbrev hk:Hook:=kHook HK HA GT
theorem Fb:∀ w:World,(fencedOpening treeTable pE w 5000).map (fun s=>(s.heap,s.gens,s.drawn,s.toks))=some (boot_heap w.params,Array.mk [],boot_drawn,boot_toks) :=
 boot_open (by kernel_rfl) (by kernel_rfl) fun s=>by kernel_rfl
theorem EC:∀ w:World,((boot_heap w.params).isNs mainGlobals&&(Array.mk []:Array GenState).size==0,(boot_heap w.params).objs.size,(boot_heap w.params).nsMap mainGlobals "__annotations__")=(true,m0,ann):=fun w=>by kernel_rfl
theorem Dh:∀ w:World,(fun os=>((staticsOk (importedModules pE.main.body) (boot_heap w.params) (hz w.params)&&namesBound pE (hz w.params)&&gensDone ⟨hz w.params,#[],⟨0,0,0,0⟩,896,os⟩&&laidKept (boot_heap w.params) (hz w.params)),openSeen qV lo (importedModules pE.main.body) Xt true ⟨hz w.params,#[],⟨0,0,0,0⟩,896,os⟩,hk.obs ⟨hz w.params,#[],⟨0,0,0,0⟩,896,os⟩))=fun _=>(true,openGood qV lo,hk.val w):=fun w=>by kernel_rfl
theorem left:LeftO pE qV lo Xt hk.obs hk.val 5000:=LeftO.of_pieces (M:=(12+(1+(764+(907+(1392+2)))))) Fb EC He (by kernel_rfl) Dh
end
end HD
namespace K6
open PySem L2
theorem x1 (P:Params):DfE (HD.HK P) "fields_of" 86 ib:=by kernel_rfl
theorem x2 (P:Params):DfE (HD.HK P) "field_kinds" 91 dF:=by kernel_rfl
theorem x3 (P:Params):DfE (HD.HK P) "is_whole" 55 iX:=by kernel_rfl
theorem x4 (P:Params):DfE (HD.HK P) "is_between" 62 fM:=by kernel_rfl
theorem x5 (P:Params):DfE (HD.HK P) "is_sign_number" 69 dm:=by kernel_rfl
theorem x6 (P:Params):DfE (HD.HK P) "is_text" 74 iq:=by kernel_rfl
theorem x7 (P:Params):DfE (HD.HK P) "field_kind" 98 fS:=by kernel_rfl
theorem x8 (P:Params):DfE (HD.HK P) "named_kind" 221 fL:=by kernel_rfl
theorem x9 (P:Params):DfE (HD.HK P) "function_of" 266 dG:=by kernel_rfl
theorem x10 (P:Params):DfE (HD.HK P) "variable_kinds" 273 dl:=by kernel_rfl
theorem x11 (P:Params):DfE (HD.HK P) "inner_of" 193 eu:=by kernel_rfl
theorem x12 (P:Params):DfE (HD.HK P) "own_right" 214 gU:=by kernel_rfl
theorem x13 (P:Params):DfE (HD.HK P) "record_kind" 228 fc:=by kernel_rfl
theorem x14 (P:Params):DfE (HD.HK P) "kind_by" 233 ix:=by kernel_rfl
theorem x15 (P:Params):DfE (HD.HK P) "kind_in" 240 iy:=by kernel_rfl
theorem x16 (P:Params):DfE (HD.HK P) "is_name" 79 io:=by kernel_rfl
theorem x17 (P:Params):DfE (HD.HK P) "parts" 105 lm:=by kernel_rfl
theorem x18 (P:Params):DfE (HD.HK P) "is_shaped" 188 gO:=by kernel_rfl
theorem x19 (P:Params):DfE (HD.HK P) "may_break" 200 hX:=by kernel_rfl
theorem x20 (P:Params):DfE (HD.HK P) "is_small" 207 iQ:=by kernel_rfl
theorem x21 (P:Params):DfE (HD.HK P) "expression_kind" 247 df:=by kernel_rfl
theorem x22 (P:Params):DfE (HD.HK P) "is_compared" 254 fh:=by kernel_rfl
theorem x23 (P:Params):DfE (HD.HK P) "is_condition" 259 cW:=by kernel_rfl
theorem x24 (P:Params):DfE (HD.HK P) "bodies_of" 280 gK:=by kernel_rfl
theorem x25 (P:Params):DfE (HD.HK P) "is_tuple_of" 287 ff:=by kernel_rfl
theorem x26 (P:Params):DfE (HD.HK P) "is_kind" 292 ip:=by kernel_rfl
theorem x27 (P:Params):DfE (HD.HK P) "are_named" 297 eR:=by kernel_rfl
theorem x28 (P:Params):DfE (HD.HK P) "is_record" 302 eY:=by kernel_rfl
theorem x29 (P:Params):DfE (HD.HK P) "are_records" 309 eZ:=by kernel_rfl
theorem x30 (P:Params):DfE (HD.HK P) "is_headed" 314 dH:=by kernel_rfl
theorem x31 (P:Params):DfE (HD.HK P) "is_call" 319 fF:=by kernel_rfl
theorem x32 (P:Params):DfE (HD.HK P) "is_line" 324 iA:=by kernel_rfl
theorem x33 (P:Params):DfE (HD.HK P) "first_wrong_line" 329 bV:=by kernel_rfl
theorem x34 (P:Params):DfE (HD.HK P) "right_program" 336 dQ:=by kernel_rfl
theorem x35 (P:Params):DfE (HD.HK P) "_law_tape" 343 lJ:=by kernel_rfl
theorem x36 (P:Params):DfE (HD.HK P) "_law_draw" 350 mV:=by kernel_rfl
theorem x37 (P:Params):DfE (HD.HK P) "_law_names" 355 aX:=by kernel_rfl
theorem x38 (P:Params):DfE (HD.HK P) "_law_records" 360 dM:=by kernel_rfl
theorem x39 (P:Params):DfE (HD.HK P) "_law_kind" 365 jO:=by kernel_rfl
theorem x40 (P:Params):DfE (HD.HK P) "_law_heads" 370 iw:=by kernel_rfl
theorem x41 (P:Params):DfE (HD.HK P) "_law_count" 375 iu:=by kernel_rfl
theorem x42 (P:Params):DfE (HD.HK P) "_law_leaf" 380 eI:=by kernel_rfl
theorem x43 (P:Params):DfE (HD.HK P) "_law_num" 387 lu:=by kernel_rfl
theorem x44 (P:Params):DfE (HD.HK P) "_law_row" 392 jw:=by kernel_rfl
theorem x45 (P:Params):DfE (HD.HK P) "_law_e" 397 jH:=by kernel_rfl
theorem x46 (P:Params):DfE (HD.HK P) "_law_bounded" 404 gR:=by kernel_rfl
theorem x47 (P:Params):DfE (HD.HK P) "_law_condition" 411 dE:=by kernel_rfl
theorem x48 (P:Params):DfE (HD.HK P) "_law_body" 418 jQ:=by kernel_rfl
theorem x49 (P:Params):DfE (HD.HK P) "_law_statement" 423 cA:=by kernel_rfl
theorem x50 (P:Params):DfE (HD.HK P) "_law_kit" 430 qv:=by kernel_rfl
theorem x51 (P:Params):DfE (HD.HK P) "_law_program" 437 gH:=by kernel_rfl
theorem x52 (P:Params):DfE (HD.HK P) "law" 444 yo:=by kernel_rfl
theorem Ew {l:PySem.W.OpenLaw} {w:World} {h:Heap} {mg:Str→Option Value} {fa:Addr} (X:(HD.HK w.params).In h) (G0:h.Ns mainGlobals mg) (hfa:mg "law"=some (.ref fa)) :
  ∃ fd:FuncData,(∀ (s:Shared) (v:Value),BindsTo s fd ⟨[v],[]⟩ [("_law_script",v)])∧∀ base:Heap,(HD.HK w.params).In base→base.Ns mainGlobals mg→bj l.prog w (HD.HK w.params) mg base CX0 35 fa fd ["_law_script"] (Ag (HD.HK w.params)):=by
 have E1:=bi X G0 (ps:=["program", "kind"]) (x1 _) fun _ _ _ _ _ _=>bl2 fun _ _=>rfl
 have E2:=bi X G0 (ps:=["program", "kind"]) (x2 _) fun _ _ _ _ _ _=>bl2 fun _ _=>rfl
 have E3:=bi X G0 (ps:=["thing"]) (x3 _) fun _ _ _ _ _ _=>bl1 fun _=>rfl
 have E4:=bi X G0 (ps:=["thing", "least", "most"]) (x4 _) fun _ _ _ _ _ _=>bl3 fun _ _ _=>rfl
 have E5:=bi X G0 (ps:=["number"]) (x5 _) fun _ _ _ _ _ _=>bl1 fun _=>rfl
 have E6:=bi X G0 (ps:=["thing"]) (x6 _) fun _ _ _ _ _ _=>bl1 fun _=>rfl
 have E7:=bi X G0 (ps:=["program", "kind", "field"]) (x7 _) fun _ _ _ _ _ _=>bl3 fun _ _ _=>rfl
 have E8:=bi X G0 (ps:=["kinds", "thing"]) (x8 _) fun _ _ _ _ _ _=>bl2 fun _ _=>rfl
 have E9:=bi X G0 (ps:=["program", "f"]) (x9 _) fun _ _ _ _ _ _=>bl2 fun _ _=>rfl
 have E10:=bi X G0 (ps:=["function"]) (x10 _) fun _ _ _ _ _ _=>bl1 fun _=>rfl
 have E11:=bi X G0 (ps:=["shaped"]) (x11 _) fun _ _ _ _ _ _=>bl1 fun _=>rfl
 have E12:=bi X G0 (ps:=["e"]) (x12 _) fun _ _ _ _ _ _=>bl1 fun _=>rfl
 have E13:=bi X G0 (ps:=["program", "e", "inner"]) (x13 _) fun _ _ _ _ _ _=>bl3 fun _ _ _=>rfl
 have E14:=bi X G0 (ps:=["program", "kinds", "e", "inner"]) (x14 _) fun _ _ _ _ _ _=>bl4 fun _ _ _ _=>rfl
 have E15:=bi X G0 (ps:=["program", "kinds", "e"]) (x15 _) fun _ _ _ _ _ _=>bl3 fun _ _ _=>rfl
 have E16:=bi X G0 (ps:=["thing"]) (x16 _) fun _ _ _ _ _ _=>bl1 fun _=>rfl
 have E17:=bi X G0 (ps:=["program", "kind"]) (x17 _) fun _ _ _ _ _ _=>bl2 fun _ _=>rfl
 have E18:=bi X G0 (ps:=["thing", "sort"]) (x18 _) fun _ _ _ _ _ _=>bl2 fun _ _=>rfl
 have E19:=bi X G0 (ps:=["shaped"]) (x19 _) fun _ _ _ _ _ _=>bl1 fun _=>rfl
 have E20:=bi X G0 (ps:=["thing"]) (x20 _) fun _ _ _ _ _ _=>bl1 fun _=>rfl
 have E21:=bi X G0 (ps:=["program", "kinds", "thing"]) (x21 _) fun _ _ _ _ _ _=>bl3 fun _ _ _=>rfl
 have E22:=bi X G0 (ps:=["program", "kinds", "thing"]) (x22 _) fun _ _ _ _ _ _=>bl3 fun _ _ _=>rfl
 have E23:=bi X G0 (ps:=["program", "kinds", "thing"]) (x23 _) fun _ _ _ _ _ _=>bl3 fun _ _ _=>rfl
 have E24:=bi X G0 (ps:=["statement"]) (x24 _) fun _ _ _ _ _ _=>bl1 fun _=>rfl
 have E25:=bi X G0 (ps:=["thing", "least", "most"]) (x25 _) fun _ _ _ _ _ _=>bl3 fun _ _ _=>rfl
 have E26:=bi X G0 (ps:=["records", "thing"]) (x26 _) fun _ _ _ _ _ _=>bl2 fun _ _=>rfl
 have E27:=bi X G0 (ps:=["records", "thing", "least", "most"]) (x27 _) fun _ _ _ _ _ _=>bl4 fun _ _ _ _=>rfl
 have E28:=bi X G0 (ps:=["ahead", "thing"]) (x28 _) fun _ _ _ _ _ _=>bl2 fun _ _=>rfl
 have E29:=bi X G0 (ps:=["thing"]) (x29 _) fun _ _ _ _ _ _=>bl1 fun _=>rfl
 have E30:=bi X G0 (ps:=["records", "ahead", "thing"]) (x30 _) fun _ _ _ _ _ _=>bl3 fun _ _ _=>rfl
 have E31:=bi X G0 (ps:=["program", "kinds", "statement"]) (x31 _) fun _ _ _ _ _ _=>bl3 fun _ _ _=>rfl
 have E32:=bi X G0 (ps:=["program", "function", "thing"]) (x32 _) fun _ _ _ _ _ _=>bl3 fun _ _ _=>rfl
 have E33:=bi X G0 (ps:=["program", "function"]) (x33 _) fun _ _ _ _ _ _=>bl2 fun _ _=>rfl
 have E34:=bi X G0 (ps:=["thing"]) (x34 _) fun _ _ _ _ _ _=>bl1 fun _=>rfl
 have E35:=bi X G0 (ps:=["_law_script"]) (x35 _) fun _ _ _ _ _ _=>bl1 fun _=>rfl
 have E36:=bi X G0 (ps:=["_law_tape_here", "_law_many"]) (x36 _) fun _ _ _ _ _ _=>bl2 fun _ _=>rfl
 have E37:=bi X G0 (ps:=["_law_tape_here", "_law_many"]) (x37 _) fun _ _ _ _ _ _=>bl2 fun _ _=>rfl
 have E38:=bi X G0 (ps:=["_law_tape_here"]) (x38 _) fun _ _ _ _ _ _=>bl1 fun _=>rfl
 have E39:=bi X G0 (ps:=["_law_tape_here", "_law_records_here"]) (x39 _) fun _ _ _ _ _ _=>bl2 fun _ _=>rfl
 have E40:=bi X G0 (ps:=["_law_tape_here", "_law_records_here"]) (x40 _) fun _ _ _ _ _ _=>bl2 fun _ _=>rfl
 have E41:=bi X G0 (ps:=["_law_e_here"]) (x41 _) fun _ _ _ _ _ _=>bl1 fun _=>rfl
 have E42:=bi X G0 (ps:=["_law_tape_here", "_law_kit_here", "_law_kind_here"]) (x42 _) fun _ _ _ _ _ _=>bl3 fun _ _ _=>rfl
 have E43:=bi X G0 (ps:=["_law_tape_here", "_law_kit_here", "_law_deep"]) (x43 _) fun _ _ _ _ _ _=>bl3 fun _ _ _=>rfl
 have E44:=bi X G0 (ps:=["_law_tape_here", "_law_kit_here", "_law_deep"]) (x44 _) fun _ _ _ _ _ _=>bl3 fun _ _ _=>rfl
 have E45:=bi X G0 (ps:=["_law_tape_here", "_law_kit_here", "_law_kind_here", "_law_deep"]) (x45 _) fun _ _ _ _ _ _=>bl4 fun _ _ _ _=>rfl
 have E46:=bi X G0 (ps:=["_law_tape_here", "_law_kit_here", "_law_kind_here", "_law_reach"]) (x46 _) fun _ _ _ _ _ _=>bl4 fun _ _ _ _=>rfl
 have E47:=bi X G0 (ps:=["_law_tape_here", "_law_kit_here", "_law_deep"]) (x47 _) fun _ _ _ _ _ _=>bl3 fun _ _ _=>rfl
 have E48:=bi X G0 (ps:=["_law_tape_here", "_law_kit_here", "_law_deep"]) (x48 _) fun _ _ _ _ _ _=>bl3 fun _ _ _=>rfl
 have E49:=bi X G0 (ps:=["_law_tape_here", "_law_kit_here", "_law_deep"]) (x49 _) fun _ _ _ _ _ _=>bl3 fun _ _ _=>rfl
 have E50:=bi X G0 (ps:=["_law_records_here", "_law_heads_here", "_law_f"]) (x50 _) fun _ _ _ _ _ _=>bl3 fun _ _ _=>rfl
 have E51:=bi X G0 (ps:=["_law_tape_here"]) (x51 _) fun _ _ _ _ _ _=>bl1 fun _=>rfl
 have E52:=bi X G0 (ps:=["_law_script"]) (x52 _) fun _ _ _ _ _ _=>bl1 fun _=>rfl
 have e:=hfa.symm.trans E52.m
 cases e
 have z:=fun x e=>mg_none_of (n:=x) X G0 e
 have T:K6.G0 mg:=⟨z _ (by kernel_rfl),z _ (by kernel_rfl),z _ (by kernel_rfl),z _ (by kernel_rfl),z _ (by kernel_rfl),z _ (by kernel_rfl),z _ (by kernel_rfl),z _ (by kernel_rfl),z _ (by kernel_rfl),z _ (by kernel_rfl),z _ (by kernel_rfl),z _ (by kernel_rfl)⟩
 have TR:=z "reversed" (by kernel_rfl)
 have TE:=z "enumerate" (by kernel_rfl)
 have TSt:=z "set" (by kernel_rfl)
 have TG:G (HD.HK w.params) w mg:=⟨T,GU X G0 (l:=[(167,166),(169,168),(171,170),(173,172),(175,174),(177,176),(179,178),(181,180)]) rfl (by kernel_rfl) (vX (a:=165) (by kernel_rfl) rfl) (by kernel_rfl) (by kernel_rfl),mI X G0 (by kernel_rfl),mI X G0 (by kernel_rfl),mI X G0 (by kernel_rfl)⟩
 have TX:GX (HD.HK w.params) w mg:=GO X G0 (l:=[(108,107),(110,109),(112,111),(114,113),(116,115),(118,117),(120,119),(122,121),(124,123),(126,125),(128,127),(130,129),(132,131),(134,133),(136,135),(138,137),(140,139),(143,142),(145,144),(147,146),(149,148),(151,150),(153,152),(155,154),(157,156),(159,158),(161,160),(163,162)]) rfl (by kernel_rfl) (by kernel_rfl) (vX (a:=106) (by kernel_rfl) rfl) (vX (a:=164) (by kernel_rfl) rfl) (by kernel_rfl) (by kernel_rfl)
 have TS:=TX.gs
 have TP:=TX.gp
 have TN:GN (HD.HK w.params) mg:=⟨mT X G0 (a:=47) (by kernel_rfl) (by decide),mT X G0 (a:=48) (by kernel_rfl) (by decide),mS' X G0 (by kernel_rfl)⟩
 refine ⟨fdO (HD.HK w.params) 444 "law" yo,fun s v=>.of_eq rfl,fun base _ _=>?_⟩
 have D1:=E1.cal (base:=base) (P:=l.prog) (w:=w) (zt E1.F)
 have D2:=E2.cal (base:=base) (P:=l.prog) (w:=w) (Bh E2.F D1)
 have D3:=E3.cal (base:=base) (P:=l.prog) (w:=w) (AH T E3.F)
 have D4:=E4.cal (base:=base) (P:=l.prog) (w:=w) (xH T E4.F D3)
 have D5:=E5.cal (base:=base) (P:=l.prog) (w:=w) (Db E5.F)
 have D6:=E6.cal (base:=base) (P:=l.prog) (w:=w) (CJ T E6.F D5)
 have D7:=E7.cal (base:=base) (P:=l.prog) (w:=w) (AN E7.F D1)
 have D8:=E8.cal (base:=base) (P:=l.prog) (w:=w) (Az T E8.F)
 have D9:=E9.cal (base:=base) (P:=l.prog) (w:=w) (kJ E9.F)
 have Dfn:=E9.cal (base:=base) (P:=l.prog) (w:=w) ((kJ E9.F).or (qN E9.F))
 have D10:=E10.cal (base:=base) (P:=l.prog) (w:=w) (CV T E10.F)
 have Din:=E11.cal (base:=base) (P:=l.prog) (w:=w) (zc TP T E11.F)
 have D11:=E11.cal (base:=base) (P:=l.prog) (w:=w) (AE TP T E11.F)
 have D12:=E12.cal (base:=base) (P:=l.prog) (w:=w) (EZ TG E12.F D4 D6)
 have D13:=E13.cal (base:=base) (P:=l.prog) (w:=w) (Ff T E13.F D2 D7)
 have D14:=E14.cal (base:=base) (P:=l.prog) (w:=w) (Fn TG E14.F D13 D8)
 have D15:=E15.cal (base:=base) (P:=l.prog) (w:=w) (yu T E15.F E15.b E15.m D12 D14 Din 23)
 have D16:=E16.cal (base:=base) (P:=l.prog) (w:=w) (Du T TN E16.F)
 have D17:=E17.cal (base:=base) (P:=l.prog) (w:=w) (oN TN E17.F E17.b E17.m D1 4)
 have D18:=E18.cal (base:=base) (P:=l.prog) (w:=w) (zK T TS E18.F)
 have D19:=E19.cal (base:=base) (P:=l.prog) (w:=w) (EM E19.F D11)
 have D20:=E20.cal (base:=base) (P:=l.prog) (w:=w) (AM T (mI X G0 (by kernel_rfl)) E20.F D18 D11)
 have D21:=E21.cal (base:=base) (P:=l.prog) (w:=w) (GR E21.F D15 D20)
 have D22:=E22.cal (base:=base) (P:=l.prog) (w:=w) (En E22.F D21 D19)
 have D23:=E23.cal (base:=base) (P:=l.prog) (w:=w) (Gs T (mI X G0 (by kernel_rfl)) E23.F D18 D11 D22)
 have D24:=E24.cal (base:=base) (P:=l.prog) (w:=w) (Ds E24.F)
 have D25:=E25.cal (base:=base) (P:=l.prog) (w:=w) (FZ T E25.F)
 have D26:=E26.cal (base:=base) (P:=l.prog) (w:=w) (zT T TN E26.F)
 have D27:=E27.cal (base:=base) (P:=l.prog) (w:=w) (Es T TSt E27.F D25 D16 D26)
 have D28:=E28.cal (base:=base) (P:=l.prog) (w:=w) (Gy T (mI X G0 (by kernel_rfl)) (mI X G0 (by kernel_rfl)) E28.F D25 D16 D27 D17)
 have D29:=E29.cal (base:=base) (P:=l.prog) (w:=w) (Fv TE (mI X G0 (by kernel_rfl)) E29.F D25 D28)
 have D30:=E30.cal (base:=base) (P:=l.prog) (w:=w) (Hi T TSt (mI X G0 (by kernel_rfl)) (mI X G0 (by kernel_rfl)) E30.F D25 D16 D26 D27)
 have D31:=E31.cal (base:=base) (P:=l.prog) (w:=w) (Dg E31.F D9 D8 D21)
 have D32:=E32.cal (base:=base) (P:=l.prog) (w:=w) (Cz T E32.F D18 D10 D8 D21 D31 D16 D23 D24)
 have D33:=E33.cal (base:=base) (P:=l.prog) (w:=w) (FR T TR (mI X G0 (by kernel_rfl)) (mI X G0 (by kernel_rfl)) E33.F D32 D24)
 have D34:=E34.cal (base:=base) (P:=l.prog) (w:=w) (Cw TE (mI X G0 (by kernel_rfl)) E34.F D25 D29 D30 D33)
 have D35:=E35.cal (base:=base) (P:=l.prog) (w:=w) (Dd T E35.F)
 have D36:=E36.cal (base:=base) (P:=l.prog) (w:=w) (zZ T E36.F)
 have D37:=E37.cal (base:=base) (P:=l.prog) (w:=w) (Aq T E37.F D36)
 have D38:=E38.cal (base:=base) (P:=l.prog) (w:=w) (Dt T E38.F D36 D37)
 have D39:=E39.cal (base:=base) (P:=l.prog) (w:=w) (CB T E39.F D36)
 have D40:=E40.cal (base:=base) (P:=l.prog) (w:=w) (zY T E40.F D36 D37 D39)
 have D41:=E41.cal (base:=base) (P:=l.prog) (w:=w) (BG T E41.F)
 have D42:=E42.cal (base:=base) (P:=l.prog) (w:=w) (rS T E42.F E42.b E42.m D36 4)
 have D45:=E45.cal (base:=base) (P:=l.prog) (w:=w) (Ed T E45.F E45.b E45.m E43.F E43.b E43.m E44.F E44.b E44.m D36 D42 2)
 have D46:=E46.cal (base:=base) (P:=l.prog) (w:=w) (uU T E46.F D41 D42 D45)
 have D47:=E47.cal (base:=base) (P:=l.prog) (w:=w) (rY T E47.F E47.b E47.m D36 D46 2)
 have D48:=E48.cal (base:=base) (P:=l.prog) (w:=w) (ut T E48.F E48.b E48.m E49.F E49.b E49.m D36 D37 D46 D47 3)
 have D50:=E50.cal (base:=base) (P:=l.prog) (w:=w) (EL T E50.F)
 have D51:=E51.cal (base:=base) (P:=l.prog) (w:=w) (vA T E51.F D38 D40 D50 D48)
 exact Eh T E52.F D34 Dfn D51 D35
theorem walk {l:PySem.W.OpenLaw} {q:Program} {loose:List Str} {XP:(Str→Option Value)→Heap→Prop} {YP:World→Heap→Prop} {d:DefRec} (hn:l.most=some 63) (hdf:d.params.defaults=[])
  (hY:∀ (w:World) (h:Heap),YP w h→(HD.HK w.params).In h) (hd:d.name = "law"):PySem.W.WalkO q loose XP YP l.row.toRowW d [] (fun f vs=>PySem.call f vs) :=
 L2.walk_of (K:=HD.HK) (n:=63) (k:=35) (x := "_law_script") (CX:=fun _=>CX0) (sp:=fun w=>Ag (HD.HK w.params)) hn (by decide) hdf ⟨rfl,by decide,by decide,rfl⟩ hY (fun w mg fa h KX G hmg=>Ew KX G (hd ▸ hmg)) (fun _ _ a ns hl _ hS=>⟨a,ns,rfl,hS,fun _=>rfl⟩) fun _ _ _ _ _ z=>z
end K6
open PySem PySem.W PyProof.Rows
set_option maxHeartbeats 0 in
theorem Dz:PySem.Challenge.rw_everyfork_k04_right_programs.wellSaid=true:=by
 unfold OpenLaw.wellSaid
 iterate 18 refine look_both ?_ (by decide +kernel)
 unfold OpenRow.wellSaid
 iterate 2 refine look_both ?_ (by decide +kernel)
 unfold OpenRow.partSaid
 iterate 13 refine look_both ?_ (by decide +kernel)
 unfold looksOpen
 iterate 5 refine look_both ?_ (by decide +kernel)
 decide +kernel
set_option maxRecDepth 100000 in
set_option maxHeartbeats 0 in
theorem PySem.Challenge.cw_everyfork_k04_right_programs_holds : PySem.Challenge.rw_everyfork_k04_right_programs.Holds := by
 refine holds_law Dz fun said=>?_
 refine holds_open (q:=HD.qV) (loose:=HD.lo) (Xt:=HD.Xt) (XP:=XL HD.qV []) (Yf:=Hook.obs HD.hk) (Ya:=Hook.val HD.hk) (YP:=Hook.says HD.hk) (N:=5000) HD.left (Hook.of HD.hk) (Hook.keeps HD.hk)
  (fun s e=>xl_of s (Bool.and_eq_true_iff.mp e).1) XL.keeps (by rfl) (by rfl) (by rfl) (fun s e=>recFacts_of (Bool.and_eq_true_iff.mp e).2) (by rfl) said (by decide +kernel) ⟨rfl,rfl,rfl,rfl,rfl,by decide +kernel⟩ ?hw
  (K6.walk (l:=PySem.Challenge.rw_everyfork_k04_right_programs) rfl rfl (fun w h Y=>kIn_of Y) rfl)
 case hw=>w_witness2