import PyProof.Rows.All
import Wide.All
import OpenK.AllK
import Wide.FinOn
import Lean
import PyProof.EqAt
import PyProof.EqKinds
import PyProof.TupleCall
import PyProof.AttrMiss
import PyProof.IsiH_tuple
import KE.KDictOf
import PyProof.ZipIter
import PyProof.Draws
import PyProof.Rows.FactsT2
import KE.KRevIter
import PyProof.EnumStmt
import PyProof.TupleOps
import PyProof.ListRange
import PyProof.Rows.SetFrom
import PyProof.SetRoads
import PyProof.NeKinds
import PyProof.EnumFor
import PyProof.EnumMake
import PyProof.ExcClass3
import PyProof.ExcInit
import PyProof.ExcArgsOwn
import PyProof.InstStore
import PyProof.InstStoreFacts
import PyProof.ExcAttrAll.ValueError
import PyProof.ExcBaseAll.ValueError
import PyProof.StationsW
import PyProof.RulesAs
import PyProof.NsDelKeeps
import PySem.Challenge.RW_everyfork_k09_deep_things
open PySem.W (Frag mg_of mg_none_of keepIn KeysLit)
noncomputable section
set_option Elab.async false
set_option linter.all false
set_option maxRecDepth 100000
set_option maxHeartbeats 4000000
namespace L2
open PySem PySem.Spec PyProof.Rows
abbrev Key:=Sum Int Str
def lf:Key→Value→Bool
 | .inl k,v=>Value.isInt k v
 | .inr x,v=>Value.isStrOf x v
def DA (w:World):Key→Int
 | .inl k=>hashInt k
 | .inr x=>hashStr w x
theorem bD:∀ {k:Key} {v:Value},lf k v=true→(∃ i t,k=Sum.inl i∧v=Value.int i t)∨(∃ x t,k=Sum.inr x∧v=Value.str x t)
 | .inl i,v,h=>by
  obtain ⟨t,e⟩:=Value.isInt_shape (k:=i) (v:=v) h
  exact .inl ⟨i,t,rfl,e⟩
 | .inr x,v,h=>by
  obtain ⟨t,e⟩:=Value.isStrOf_shape (x:=x) (v:=v) h
  exact .inr ⟨x,t,rfl,e⟩
theorem wG (i:Int) (t:Tok):lf (.inl i) (.int i t)=true:=by simp [lf,Value.isInt]
theorem wB (x:Str) (t:Tok):lf (.inr x) (.str x t)=true:=by simp [lf,Value.isStrOf]
theorem Bg (a b:Int):decide ((Sum.inl a:Key)=Sum.inl b)=(a==b):=by
 by_cases e:a=b
 ·subst e; simp
 ·have h:¬ (Sum.inl a:Key)=Sum.inl b:=fun q=>e (Sum.inl.inj q)
  rw [decide_eq_false h]
  exact (beq_eq_false_iff_ne.mpr e).symm
theorem BQ (a b:Str):decide ((Sum.inr a:Key)=Sum.inr b)=decide (a=b):=by
 by_cases e:a=b
 ·subst e; simp
 ·have h:¬ (Sum.inr a:Key)=Sum.inr b:=fun q=>e (Sum.inr.inj q)
  rw [decide_eq_false h,decide_eq_false e]
theorem Bi (a:Int) (b:Str):decide ((Sum.inl a:Key)=Sum.inr b)=false:=decide_eq_false (fun q=>nomatch q)
theorem BX (a:Str) (b:Int):decide ((Sum.inr a:Key)=Sum.inl b)=false:=decide_eq_false (fun q=>nomatch q)
def br (prog:Program) (w:World):PySem.KeyKind prog w Key where
 is:=lf
 hash:=DA w
 inj:=fun v a b ha hb=>by
  rcases bD ha with ⟨i,t,rfl,rfl⟩ | ⟨x,t,rfl,rfl⟩
  ·rcases bD hb with ⟨j,u,rfl,e⟩ | ⟨y,u,rfl,e⟩
   ·injection e with e1 _; rw [e1]
   ·exact nomatch e
  ·rcases bD hb with ⟨j,u,rfl,e⟩ | ⟨y,u,rfl,e⟩
   ·exact nomatch e
   ·injection e with e1 _; rw [e1]
 byValue:=fun k v h=>by
  rcases bD h with ⟨i,t,rfl,rfl⟩ | ⟨x,t,rfl,rfl⟩<;>rfl
 pyHash:=fun hv h=>by
  rcases bD hv with ⟨i,t,rfl,rfl⟩ | ⟨x,t,rfl,rfl⟩
  ·exact wpAny_pyHash_int h
  ·exact wpAny_pyHash_str h
 eqBool:=fun hu hv h=>by
  rcases bD hu with ⟨i,t,rfl,rfl⟩ | ⟨x,t,rfl,rfl⟩
  ·rcases bD hv with ⟨j,u,rfl,rfl⟩ | ⟨y,u,rfl,rfl⟩
   ·rw [Bg] at h; exact wpAny_eqBool_int h
   ·rw [Bi] at h; exact SeqAt.EqAt.int_str i t y u _ _ _ _ h
  ·rcases bD hv with ⟨j,u,rfl,rfl⟩ | ⟨y,u,rfl,rfl⟩
   ·rw [BX] at h; exact SeqAt.EqAt.str_int x t j u _ _ _ _ h
   ·rw [BQ] at h; exact wpAny_eqBool_str h
 «strs»:=fun k x t v h=>by
  rcases bD h with ⟨i,u,rfl,e⟩ | ⟨y,u,rfl,e⟩
  ·exact nomatch e
  ·injection e with e1 _
   subst e1
   cases v<;>rfl
theorem pU (prog:Program) (w:World) (i:Int) (t:Tok):(br prog w).is (.inl i) (.int i t)=true:=wG i t
theorem iB (prog:Program) (w:World) (x:Str) (t:Tok):(br prog w).is (.inr x) (.str x t)=true:=wB x t
inductive V where
 | non | bl (b:Bool) | int (i:Int) | str (x:Str) | byt (b:Array UInt8) | flt (b:UInt64) | ref (a:Addr) | ty (n:String)
 deriving DecidableEq
def bh:V→Value→Prop
 | .non,u=>u=Value.none
 | .bl b,u=>u=Value.bool b
 | .int i,u=>∃ t,u=Value.int i t
 | .str x,u=>∃ t,u=Value.str x t
 | .byt b,u=>∃ t,u=Value.bytes b t
 | .flt b,u=>∃ t,u=Value.float b t
 | .ref a,u=>u=Value.ref a
 | .ty n,u=>u=Value.type n
abbrev aY:List V→List Value→Prop:=Paired bh
theorem aY.length {xs:List V} {us:List Value} (r:aY xs us):xs.length=us.length:=Paired.length r
theorem aY.get:∀ {xs:List V} {us:List Value} {i:Nat} {x:V},aY xs us→xs[i]?=some x→∃ u,us[i]?=some u∧bh x u
 | _,_,_,_,.nil,e=>by simp at e
 | _,_,0,_,.cons r _,e=>by simp at e; subst e; exact ⟨_,rfl,r⟩
 | _,_,i+1,x,.cons _ t,e=>by
  obtain ⟨u,h1,h2⟩:=aY.get (i:=i) (x:=x) t (by simpa using e)
  exact ⟨u,by simpa using h1,h2⟩
theorem aY.set {x:V} {u:Value} (r:bh x u):∀ {xs:List V} {us:List Value} (i:Nat),aY xs us→aY (xs.set i x) (us.set i u)
 | _,_,_,.nil=>.nil
 | _,_,0,.cons _ t=>.cons r t
 | _,_,i+1,.cons q t=>.cons q (aY.set r i t)
theorem aY.append:∀ {xs ys:List V} {us ws:List Value},aY xs us→aY ys ws→aY (xs++ys) (us++ws)
 | _,_,_,_,.nil,s=>s
 | _,_,_,_,.cons r t,s=>.cons r (aY.append t s)
theorem aY.take:∀ {xs:List V} {us:List Value} (n:Nat),aY xs us→aY (xs.take n) (us.take n)
 | _,_,0,_=>.nil
 | _,_,_+1,.nil=>.nil
 | _,_,n+1,.cons r t=>.cons r (aY.take n t)
theorem aY.drop:∀ {xs:List V} {us:List Value} (n:Nat),aY xs us→aY (xs.drop n) (us.drop n)
 | _,_,0,r=>r
 | _,_,_+1,.nil=>.nil
 | _,_,n+1,.cons _ t=>aY.drop n t
def jP:Option V→Option Value→Prop
 | some v,some u=>bh v u
 | none,none=>True
 | _,_=>False
def KV {κ:Type}:List (κ×V)→List (κ×Value)→Prop:=Paired fun (p:κ×V) (q:κ×Value)=>p.1=q.1∧bh p.2 q.2
def kV:Key→V
 | .inl i=>.int i
 | .inr x=>.str x
inductive HO where
 /-- a list -/
 | lst (xs:List V)
 /-- a tuple (never changes) -/
 | tup (xs:List V)
 /-- a dict whose keys are ints and texts; one whose keys are tuples of ints and texts (the empty one is both) -/
 | dK (kvs:List (Key×V)) | dT (kvs:List (List Key×V))
 /-- a set of ints: its members,its size -/
 | set (S:Int→Bool) (n:Nat)
 /-- an instance of the class at C,its dict at dx,its attributes -/
 | ins (C dx:Addr) (fs:List (Str×V))
 /-- the dict of the instance at x -/
 | own (x:Addr)
 /-- the dict of an exception -/
 | xd (fs:List (Str×V))
 /-- a bound method,f of x -/
 | met (f x:Addr)
 /-- a range object lo,lo+1,.. below hi -/
 | rng (lo hi:Int)
 /-- a thing that is known to the object (the script; a dict while a loop walks it): read,never written while it is so -/
 | frz (o:Obj) (u:HO)
 /-- a code object's table -/
 | tbl (ps:Array Value)
 /-- any other thing,by what is true of its one object (a def of one's own: SetO a S n:=HO.ext fun h=>..) -/
 | ext (φ:Heap→Prop)
abbrev Hp:=Addr→Option HO
def upd (H:Hp) (a:Addr) (o:HO):Hp:=fun b=>if b=a then some o else H b
theorem af {H:Hp} {a:Addr} {o:HO}:upd H a o a=some o:=by unfold upd; rw [if_pos rfl]
theorem bd {H:Hp} {a b:Addr} {o:HO} (h:b≠a):upd H a o b=H b:=by unfold upd; rw [if_neg h]
theorem xE {H:Hp} {a b:Addr} {o u:HO} (h:H a=some o) (h':H b=some u) (d:o≠u):a≠b:=by
 intro e; subst e; rw [h] at h'; exact d (Option.some.inj h')
theorem aU {H:Hp} {a b:Addr} {o:HO} (h:H a=some o) (h':H b=none):a≠b:=by
 intro e; subst e; rw [h] at h'; cases h'
section
variable (P:Program) (w:World)
def bL (H:Hp) (h:Heap) (a:Addr):HO→Prop
 | .lst xs=>xs.length≤sizeLine∧∃ (its:List Value) (n:Nat),aY xs its∧h.get? a=some { cls:=.type "list",data:=.seq its.toArray n }
 | .tup xs=>xs.length≤sizeLine∧∃ its:List Value,aY xs its∧IsTup h a its.toArray∧∃ o,h.get? a=some o∧o.dict=none
 | .dK kvs=>kvs.length≤sizeLine∧(a==sysModules)=false∧∃ vs,KV kvs vs∧h.DictOf (br P w) a vs
 | .dT kvs=>kvs.length≤sizeLine∧(a==sysModules)=false∧∃ xs:List (List Key×Addr×Value),
   Paired (fun (p:List Key×V) (q:List Key×Addr×Value)=>p.1=q.1∧H q.2.1=some (.tup (p.1.map kV))∧bh p.2 q.2.2) kvs xs ∧
   ∃ o es ep,h.get? a=some o∧o.ExactDict∧o.data=.dict es ep∧es.toList=xs.map (entryOfKey (tupleKind (br P w)))∧(xs.map (·.1)).Nodup
 | .set S n=>h.SetOf (intKind P w) a S n
 | .ins C dx fs=>H dx=some (.own a)∧fs.length≤1000∧dx≠a∧h.get? a=some (PySem.W.instObj C dx) ∧
   ∃ mA,h.Ns1 dx mA∧(∀ f,jP (fs.lookup f) (mA f))∧PySem.Within mA (fs.map (·.1))
 | .own _=>∃ o,h.get? a=some o
 | .xd fs=>∃ mA,h.Ns1 a mA∧∀ f,jP (fs.lookup f) (mA f)
 | .rng lo hi=>∃ t u v,h.get? a=some { cls:=.type "range",data:=.fields #[.int lo t,.int hi u,.int 1 v] }
 | .frz o u=>h.get? a=some o∧bL H h a u
 | .tbl ps=>h.get? a=some { cls:=.none,data:=.fields ps }
 | .met f x=>h.get? a=some (PySem.W.methodObj (.ref f) (.ref x))
 | .ext φ=>φ h∧(∃ o,h.get? a=some o)∧∀ h1 h2:Heap,φ h1→(∀ o,h1.get? a=some o→h2.get? a=some o)→φ h2
def HOk (H:Hp) (h:Heap):Prop:=∀ a o,H a=some o→bL P w H h a o
end
section
variable {P:Program} {w:World} {H H':Hp} {h h':Heap} {a:Addr} {o:HO}
theorem bL.lt (x:bL P w H h a o):a<h.objs.size:=by
 cases o with
 | lst xs=>obtain ⟨_,_,_,_,e⟩:=x; exact Heap.lt_size e
 | tup xs=>obtain ⟨_,_,_,p,_⟩:=x; exact p.lt
 | dK kvs=>obtain ⟨_,_,_,_,o,_,_,e,_⟩:=x; exact Heap.lt_size e
 | dT kvs=>obtain ⟨_,_,_,_,o,_,_,e,_⟩:=x; exact Heap.lt_size e
 | set S n=>obtain ⟨o,_,_,_,e,_⟩:=x; exact Heap.lt_size e
 | ins C dx fs=>obtain ⟨_,_,_,e,_⟩:=x; exact Heap.lt_size e
 | own y=>obtain ⟨_,e⟩:=x; exact Heap.lt_size e
 | xd fs=>obtain ⟨_,⟨_,_,_,e,_⟩,_⟩:=x; exact Heap.lt_size e
 | rng lo hi=>obtain ⟨_,_,_,e⟩:=x; exact Heap.lt_size e
 | frz ob u=>obtain ⟨e,_⟩:=x; exact Heap.lt_size e
 | tbl ps=>exact Heap.lt_size (show h.get? a=some _ from x)
 | met f y=>exact Heap.lt_size (show h.get? a=some _ from x)
 | ext φ=>obtain ⟨_,⟨_,e⟩,_⟩:=x; exact Heap.lt_size e
theorem Paired.mapP {α β:Type} {F G:α→β→Prop}:∀ {l₁:List α} {l₂:List β},Paired F l₁ l₂→(∀ a b,F a b→G a b)→Paired G l₁ l₂
 | _,_,.nil,_=>.nil
 | _,_,.cons r t,f=>.cons (f _ _ r) (Paired.mapP t f)
theorem bL.stay (x:bL P w H h a o) (k:∀ b u,(b=a∨H b=some (.own a))→h.get? b=some u→h'.get? b=some u)
  (ho:∀ b,H b=some (.own a)→H' b=some (.own a)) (ht:∀ b xs,H b=some (.tup xs)→H' b=some (.tup xs)):bL P w H' h' a o:=by
 induction o with
 | lst xs=>obtain ⟨z,its,n,r,e⟩:=x; exact ⟨z,its,n,r,k _ _ (.inl rfl) e⟩
 | tup xs=>obtain ⟨z,its,r,⟨ob,e,c⟩,o2,e2,d2⟩:=x; exact ⟨z,its,r,⟨ob,k _ _ (.inl rfl) e,c⟩,o2,k _ _ (.inl rfl) e2,d2⟩
 | dK kvs=>obtain ⟨z,y,vs,r,ob,es,ep,e,c⟩:=x; exact ⟨z,y,vs,r,ob,es,ep,k _ _ (.inl rfl) e,c⟩
 | dT kvs =>
  obtain ⟨z,y,xs,r,ob,es,ep,e,c⟩:=x
  exact ⟨z,y,xs,Paired.mapP r fun p q z=>⟨z.1,ht _ _ z.2.1,z.2.2⟩,ob,es,ep,k _ _ (.inl rfl) e,c⟩
 | set S n=>obtain ⟨ob,es,ep,t,e,c⟩:=x; exact ⟨ob,es,ep,t,k _ _ (.inl rfl) e,c⟩
 | ins C dx fs =>
  obtain ⟨d,z,ne,e,mA,⟨od,es,ep,e2,c⟩,r⟩:=x
  exact ⟨ho _ d,z,ne,k _ _ (.inl rfl) e,mA,⟨od,es,ep,k _ _ (.inr d) e2,c⟩,r⟩
 | own y=>obtain ⟨ob,e⟩:=x; exact ⟨ob,k _ _ (.inl rfl) e⟩
 | xd fs=>obtain ⟨mA,⟨od,es,ep,e,c⟩,r⟩:=x; exact ⟨mA,⟨od,es,ep,k _ _ (.inl rfl) e,c⟩,r⟩
 | rng lo hi=>obtain ⟨t,u,v,e⟩:=x; exact ⟨t,u,v,k _ _ (.inl rfl) e⟩
 | frz ob u ih=>obtain ⟨e,q⟩:=x; exact ⟨k _ _ (.inl rfl) e,ih q⟩
 | tbl ps =>
  have e:h.get? a=some { cls:=.none,data:=.fields ps }:=x
  show h'.get? a=some { cls:=.none,data:=.fields ps }
  exact k a _ (.inl rfl) e
 | met f y =>
  have e:h.get? a=some (PySem.W.methodObj (.ref f) (.ref y)):=x
  show h'.get? a=some (PySem.W.methodObj (.ref f) (.ref y))
  exact k a _ (.inl rfl) e
 | ext φ=>obtain ⟨p,⟨o,e⟩,st⟩:=x; exact ⟨st _ _ p fun o q=>k _ _ (.inl rfl) q,⟨o,k _ _ (.inl rfl) e⟩,st⟩
theorem HOk.lt (x:HOk P w H h) (e:H a=some o):a<h.objs.size:=(x a o e).lt
theorem HOk.fresh (x:HOk P w H h) (e:h.objs.size≤a):H a=none:=by
 cases q:H a with
 | none=>rfl
 | some u=>exact absurd (Nat.lt_of_lt_of_le (x.lt q) e) (Nat.lt_irrefl _)
theorem HOk.kept (x:HOk P w H h) (k:∀ b u,h.get? b=some u→h'.get? b=some u):HOk P w H h':=fun a o e =>
 (x a o e).stay (fun b u _ q=>k b u q) (fun _ q=>q) fun _ _ q=>q
theorem HOk.laid (x:HOk P w H h) (k:∀ b u,h.get? b=some u→h'.get? b=some u) (hp:h.objs.size≤a) (new:bL P w (upd H a o) h' a o):HOk P w (upd H a o) h':=fun b u e=>by
 have hn:=x.fresh hp
 by_cases hb:b=a
 ·subst hb; rw [af] at e; cases e; exact new
 ·rw [bd hb] at e
  exact (x b u e).stay (fun c v _ q=>k c v q) (fun c q=>by rw [bd (aU q hn)]; exact q) fun c xs q=>by rw [bd (aU q hn)]; exact q
end
def Rd (H:Hp) (a:Addr) (u:HO):Prop:=H a=some u∨∃ o,H a=some (.frz o u)
theorem Rd.ok {P:Program} {w:World} {H:Hp} {h:Heap} {a:Addr} {u:HO} (r:Rd H a u) (x:HOk P w H h):bL P w H h a u:=by
 rcases r with r | ⟨o,r⟩
 ·exact x a u r
 ·obtain ⟨_,q⟩:=x a _ r
  exact q
def Mut:Option HO→Prop
 | some (.lst _)=>True
 | some (.dK _)=>True
 | some (.dT _)=>True
 | some (.set _ _)=>True
 | some (.ins _ _ _)=>True
 | some (.ext _)=>True
 | _=>False
section
variable {P:Program} {w:World} {H:Hp} {h h':Heap} {x e:Addr} {o':HO}
theorem HOk.write (ok:HOk P w H h) (mu:Mut (H x)) (he:e=x∨H e=some (.own x)) (k:∀ b u,b≠e→h.get? b=some u→h'.get? b=some u) (heo:∃ u,h'.get? e=some u)
  (new:bL P w (upd H x o') h' x o'):HOk P w (upd H x o') h':=fun b u q=>by
 have nown:∀ c y,H c=some (.own y)→c≠x:=fun c y r z=>by subst z; rw [r] at mu; exact mu
 have ntup:∀ c xs,H c=some (.tup xs)→c≠x:=fun c xs r z=>by subst z; rw [r] at mu; exact mu
 by_cases hb:b=x
 ·subst hb; rw [af] at q; cases q; exact new
 ·rw [bd hb] at q
  by_cases hbe:b=e
  ·have q':H b=some (.own x):=by
    rcases he with z | z
    ·exact absurd (hbe.trans z) hb
    ·rw [hbe]; exact z
   rw [q] at q'; cases q'
   obtain ⟨v,hv⟩:=heo
   exact ⟨v,by rw [hbe]; exact hv⟩
  ·refine (ok b u q).stay (fun c v hc r=>k c v ?_ r) (fun c r=>by rw [bd (nown c b r)]; exact r) fun c xs r=>by rw [bd (ntup c xs r)]; exact r
   rcases hc with rfl | hc
   ·exact hbe
   ·rintro rfl
    rcases he with z | z
    ·exact nown c b hc z
    ·rw [hc] at z; cases z; exact hb rfl
end
structure Un (fs ex:List Addr) (H H':Hp) (h h':Heap):Prop where
 keep:∀ b o,h.get? b=some o→H b=none→b∉fs→b∉ex→h'.get? b=some o
 slot:∀ b o,h.get? b=some o→H b=none→b∈fs→b∉ex→∃ sl,h'.get? b=some { o with slots:=sl }
 free:∀ b o,h.get? b=some o→H b=none→b∉ex→H' b=none
 there:∀ b o,h.get? b=some o→b∉ex→∃ o',h'.get? b=some o'
 tups:∀ b xs,H b=some (.tup xs)→H' b=some (.tup xs)
 frzs:∀ b o u,H b=some (.frz o u)→H' b=some (.frz o u)
 tbls:∀ b ps,H b=some (.tbl ps)→∃ more,H' b=some (.tbl (ps++more))
section
variable {fs fs' ex ex':List Addr} {H H1 H2:Hp} {h h1 h2 h':Heap} {a x e:Addr} {o:HO}
theorem Un.any (u:Un fs ex H H1 h h1) {b:Addr} {ob:Obj} (q:h.get? b=some ob) (n:H b=none) (hx:b∉ex):∃ sl,h1.get? b=some { ob with slots:=sl }:=by
 by_cases hb:b∈fs
 ·exact u.slot b ob q n hb hx
 ·exact ⟨ob.slots,u.keep b ob q n hb hx⟩
theorem Un.kept (k:∀ b u,h.get? b=some u→h'.get? b=some u):Un fs ex H H h h' :=
 ⟨fun b ob q _ _ _=>k b ob q,fun b ob q _ _ _=>⟨ob.slots,k b ob q⟩,fun _ _ _ n _=>n,fun b ob q _=>⟨ob,k b ob q⟩,fun _ _ q=>q,fun _ _ _ q=>q,fun _ ps q=>⟨#[],by rw [q]; simp⟩⟩
theorem Un.refl:Un fs ex H H h h:=Un.kept fun _ _ q=>q
theorem Un.laid (k:∀ b u,h.get? b=some u→h'.get? b=some u) (hp:h.objs.size≤a) (hn:H a=none):Un fs ex H (upd H a o) h h' where
 keep:=fun b u q _ _ _=>k b u q
 slot:=fun b u q _ _ _=>⟨u.slots,k b u q⟩
 free:=fun b u q n _=>by rw [bd (Nat.ne_of_lt (Nat.lt_of_lt_of_le (Heap.lt_size q) hp))]; exact n
 there:=fun b u q _=>⟨u,k b u q⟩
 tups:=fun b xs q=>by rw [bd (aU q hn)]; exact q
 frzs:=fun b u xs q=>by rw [bd (aU q hn)]; exact q
 tbls:=fun b ps q=>⟨#[],by rw [bd (aU q hn),q]; simp⟩
theorem Un.write (mu:Mut (H x)) (he:e=x∨H e=some (.own x)) (k:∀ b u,b≠e→h.get? b=some u→h'.get? b=some u) (heo:∃ u,h'.get? e=some u):Un fs ex H (upd H x o) h h':=by
 have hx:∀ b,H b=none→b≠x:=fun b n z=>by subst z; rw [n] at mu; exact mu
 have hb:∀ b,H b=none→b≠e:=fun b n z=>by
  subst z
  rcases he with r | r
  ·exact hx b n r
  ·rw [n] at r; cases r
 have hm:∀ b u,H b=some u→¬ Mut (some u)→b≠x:=fun b u q nm z=>by subst z; rw [q] at mu; exact nm mu
 refine ⟨fun b u q n _ _=>k b u (hb b n) q,fun b u q n _ _=>⟨u.slots,k b u (hb b n) q⟩,fun b u q n _=>by rw [bd (hx b n)]; exact n,fun b u q _=>?_,
  fun b xs q=>by rw [bd (hm b _ q fun z=>z)]; exact q,fun b u xs q=>by rw [bd (hm b _ q fun z=>z)]; exact q,fun b ps q=>⟨#[],by rw [bd (hm b _ q fun z=>z),q]; simp⟩⟩
 by_cases hbe:b=e
 ·subst hbe; exact heo
 ·exact ⟨u,k b u hbe q⟩
end
def trk (h:Heap) (H:Hp):List Addr:=(List.range h.objs.size).filter fun a=>(H a).isSome
def on (h:Heap) (H:Hp):Heap:=PySem.W.hideAll h (trk h H)
theorem wz (h:Heap) (H:Hp):(on h H).objs.size=h.objs.size:=PySem.W.hideAll_size _ _
theorem yL {h:Heap} {H:Hp} {b:Addr} {o:Obj} (e:h.get? b=some o) (n:H b=none):(on h H).get? b=some o :=
 PySem.W.hideAll_get _ e fun hm=>by
  have q:(H b).isSome=true:=(List.mem_filter.mp hm).2
  rw [n] at q; simp at q
theorem zF {h:Heap} {H:Hp} {b:Addr} {o:Obj} (e:(on h H).get? b=some o):h.get? b=some o∧H b=none:=by
 have e':h.get? b=some o:=PySem.W.of_hideAll (trk h H) e
 refine ⟨e',?_⟩
 cases q:H b with
 | none=>rfl
 | some x =>
  have hm:b∈trk h H:=List.mem_filter.mpr ⟨List.mem_range.mpr (Heap.lt_size e'),by simp [q]⟩
  have z:(on h H).get? b=none:=PySem.W.hideAll_none (trk h H) hm
  rw [z] at e; cases e
open PySem PySem.Spec PyProof.Rows
structure Mod (K:Frag) (mg:Str→Option Value) (base:Heap):Prop where
 kin:K.In base
 glob:base.Ns mainGlobals mg
 blt:∃ mb,base.Ns builtinsNs mb∧∀ x:Str,x ≠ "__name__"→mb x=bootBuiltins x
 nolimit:base.NoLimit
structure Cx where
 prog:Program
 w:World
 K:Frag
 mg:Str→Option Value
 base:Heap
 A:Around
 N:List Str
 s₀:Shared
 H₀:Hp
 env:Env
 outer:List Env
 stack:List Env
 ex:List Addr
 fn:Str→Bool
 calm:Bool
 pn:List (Addr×Obj)
 xe:Value→Shared→Prop
def frs (l:List Env):List Addr:=l.filterMap (·.frame)
abbrev Cx.fs (X:Cx):List Addr:=frs X.outer
def Vis (sc:Scope) (x:Str):Prop:=sc.names.lookup x=some .local∨sc.names.lookup x=some .cell∨sc.names.lookup x=some .free
def Loc (sc:Scope) (x:Str):Prop:=sc.names.lookup x=some .local∨sc.names.lookup x=some .cell
def Dn (env:Env) (h:Heap) (m:Str→Option Value) (x:Str) (u:Value):Prop :=
 (env.kindOf x=some .local∧m x=some u)∨((env.kindOf x=some .cell∨env.kindOf x=some .free)∧∃ c,env.cells.lookup x=some c∧h.IsCell c (some u))
structure Cx.Ok (X:Cx):Prop where
 mod:Mod X.K X.mg X.base
 kind:X.env.scope.kind=.function
 glob:X.env.globals=mainGlobals
 blt:X.env.builtins=builtinsNs
 above:X.s₀.heap.objs.size≤X.env.locals
 inj:∀ x y c,X.env.cells.lookup x=some c→X.env.cells.lookup y=some c→x=y
 has:∀ x,(X.env.kindOf x=some .cell∨X.env.kindOf x=some .free)→∃ c,X.env.cells.lookup x=some c
 cab:∀ x c,X.fn x=true→X.env.cells.lookup x=some c→X.s₀.heap.objs.size≤c
 hd:X.calm=true→X.A.handled=none
 frames:X.A.frames=some X.stack
 stk:X.stack=X.outer∨(X.stack=X.env::X.outer∧X.env.frame=some X.env.locals)
 exf:∀ b∈X.ex,b≠X.env.locals∧∀ x c,X.env.cells.lookup x=some c→c≠b
 bs:∀ b o,X.base.get? b=some o→X.s₀.heap.get? b=some o∧X.H₀ b=none
 bsz:X.base.objs.size≤X.s₀.heap.objs.size
 noex:∀ b o,X.base.get? b=some o→b∉X.ex
 exfs:∀ b∈X.ex,b∉X.fs
 funs:X.s₀.heap.FunFrames X.base X.outer
 frf:∀ b∈X.fs,X.H₀ b=none
structure Inv (X:Cx) (pins:List (Addr×Obj)) (σ:List (Option V)) (H:Hp) (s:Shared):Prop where
 ok:X.Ok
 os:s.os=X.s₀.os
 bare:AllBare s.gens
 base:Un X.fs X.ex X.H₀ H X.s₀.heap s.heap
 loc:∃ m,s.heap.Ns X.env.locals m∧∀ (i:Nat) (x:Str) (v:V),X.N[i]?=some x→σ[i]?=some (some v)→Vis X.env.scope x→∃ u,bh v u∧Dn X.env s.heap m x u
 cell:∀ x c,X.env.cells.lookup x=some c→∃ v,s.heap.IsCell c v
 free:H X.env.locals=none
 freeC:∀ x c,X.env.cells.lookup x=some c→H c=none
 pin:∀ p∈X.pn++pins,s.heap.get? p.1=some p.2∧H p.1=none∧p.1≠X.env.locals∧p.1∉X.fs∧∀ v,p.2.data≠.cell v
 hok:HOk X.prog X.w H s.heap
 len:σ.length=X.N.length
section
variable {X:Cx} {pins:List (Addr×Obj)} {σ:List (Option V)} {H H':Hp} {s:Shared} {h':Heap}
theorem Cx.Ok.nofr (ok:X.Ok) {b:Addr} {o:Obj} (e:X.base.get? b=some o):b∉X.fs:=fun hb=>by
 have:=(ok.funs.mem hb).1
 rw [e] at this; cases this
theorem Inv.bs (I:Inv X pins σ H s):∀ b o,X.base.get? b=some o→s.heap.get? b=some o∧H b=none:=fun b o e =>
 ⟨I.base.keep b o (I.ok.bs b o e).1 (I.ok.bs b o e).2 (I.ok.nofr e) (I.ok.noex b o e),I.base.free b o (I.ok.bs b o e).1 (I.ok.bs b o e).2 (I.ok.noex b o e)⟩
theorem Inv.bk (I:Inv X pins σ H s):∀ b o,X.base.get? b=some o→s.heap.get? b=some o:=fun b o e=>(I.bs b o e).1
theorem Inv.mod (I:Inv X pins σ H s):Mod X.K X.mg X.base:=I.ok.mod
theorem Inv.kIn (I:Inv X pins σ H s):X.K.In s.heap:=I.ok.mod.kin.keeps I.bk
theorem Inv.nolimit (I:Inv X pins σ H s):s.heap.NoLimit:=I.ok.mod.nolimit.keeps I.bk
theorem Inv.fr (I:Inv X pins σ H s):∃ m,Fr X.base X.env.locals s.heap m :=
 let ⟨m,hn,_⟩:=I.loc
 ⟨m,hn,I.bk,Nat.le_trans I.ok.bsz I.ok.above⟩
theorem Inv.lt (I:Inv X pins σ H s):X.env.locals<s.heap.objs.size:=let ⟨_,hn,_⟩:=I.loc; hn.lt
theorem Inv.sz (I:Inv X pins σ H s):X.s₀.heap.objs.size≤s.heap.objs.size:=Nat.le_trans I.ok.above (Nat.le_of_lt I.lt)
theorem Inv.nofs (I:Inv X pins σ H s) {a:Addr} (h:s.heap.objs.size≤a):a∉X.fs:=fun hb=>by
 obtain ⟨_,o,ho,_⟩:=I.ok.funs.mem hb
 exact absurd (Nat.lt_of_lt_of_le (Heap.lt_size ho) (Nat.le_trans I.sz h)) (Nat.lt_irrefl _)
theorem Inv.cne (I:Inv X pins σ H s):∀ x c,X.env.cells.lookup x=some c→c≠X.env.locals:=fun x c e z=>by
 obtain ⟨v,o,ho,hd⟩:=I.cell x c e
 obtain ⟨m,⟨o',es,ep,ho',hd',_⟩,_⟩:=I.loc
 rw [z,ho'] at ho; cases ho; rw [hd'] at hd; cases hd
theorem Inv.funs (I:Inv X pins σ H s):s.heap.FunFrames X.base X.outer:=by
 have all:∀ (l:List Env),(∀ b∈frs l,b∈X.fs)→X.s₀.heap.FunFrames X.base l→s.heap.FunFrames X.base l:=by
  intro l
  induction l with
  | nil=>intro _ _; trivial
  | cons env r ih =>
   intro hs hl
   obtain ⟨hk,⟨L,o,hf,hn,ho,hd⟩,hr⟩:=hl
   have hL:L∈X.fs:=hs L (by unfold frs; rw [List.filterMap_cons,hf]; exact List.mem_cons_self)
   obtain ⟨sl,e⟩:=I.base.slot L o ho (I.ok.frf L hL) hL fun z=>I.ok.exfs L z hL
   exact ⟨hk,⟨L,_,hf,hn,e,hd⟩,ih (fun b hb=>hs b (by unfold frs; rw [List.filterMap_cons,hf]; exact List.mem_cons_of_mem _ hb)) hr⟩
 exact all X.outer (fun _ hb=>hb) I.ok.funs
theorem Inv.stack (I:Inv X pins σ H s):s.heap.FunFrames X.base X.stack:=by
 rcases I.ok.stk with e | ⟨e,hf⟩
 ·rw [e]; exact I.funs
 ·rw [e]
  obtain ⟨m,hn,_⟩:=I.loc
  refine .cons (by rw [I.ok.kind]; decide) hf hn ?_ I.funs
  exact Heap.get?_none_of_le (Nat.le_trans I.ok.bsz I.ok.above)
theorem Inv.stkSub (I:Inv X pins σ H s):∀ b∈frs X.stack,b∈X.env.locals::X.fs:=fun b hb=>by
 rcases I.ok.stk with e | ⟨e,hf⟩
 ·rw [e] at hb; exact List.mem_cons_of_mem _ hb
 ·rw [e] at hb
  unfold frs at hb
  rw [List.filterMap_cons,hf] at hb
  exact hb
theorem Inv.stkFree (I:Inv X pins σ H s):∀ b∈frs X.stack,H b=none:=fun b hb=>by
 rcases List.mem_cons.mp (I.stkSub b hb) with e | hb
 ·rw [e]; exact I.free
 ·obtain ⟨_,o,ho,_⟩:=I.ok.funs.mem hb
  exact I.base.free b o ho (I.ok.frf b hb) fun z=>I.ok.exfs b z hb
theorem Inv.step {g':Array GenState} {t':Nat} {d':Drawn} {ch:List Addr} (I:Inv X pins σ H s)
  (hch:∀ b∈ch,(b∈X.ex∨X.s₀.heap.objs.size≤b)∧b≠X.env.locals∧(∀ x c,X.env.cells.lookup x=some c→c≠b)∧∀ p∈X.pn++pins,p.1≠b)
  (keep:∀ b o,b≠X.env.locals→b∉X.fs→b∉ch→s.heap.get? b=some o→H b=none→h'.get? b=some o)
  (slot:∀ b o,b≠X.env.locals→b∈X.fs→b∉ch→s.heap.get? b=some o→H b=none→∃ sl,h'.get? b=some { o with slots:=sl }) (free:∀ b o,b∉ch→s.heap.get? b=some o→H b=none→H' b=none)
  (there:∀ b o,b∉ch→s.heap.get? b=some o→∃ o',h'.get? b=some o')
  (tups:∀ b xs,H b=some (.tup xs)→H' b=some (.tup xs)) (frzs:∀ b o u,H b=some (.frz o u)→H' b=some (.frz o u)) (tbls:∀ b ps,H b=some (.tbl ps)→∃ more,H' b=some (.tbl (ps++more)))
  (ns:∀ m,s.heap.Ns X.env.locals m→h'.Ns X.env.locals m) (hok:HOk X.prog X.w H' h') (hg:AllBare g') :
  Inv X pins σ H' { s with heap:=h',gens:=g',drawn:=d',toks:=t' }:=by
 have neL:∀ b o,X.s₀.heap.get? b=some o→b≠X.env.locals:=fun b o e=>Nat.ne_of_lt (Nat.lt_of_lt_of_le (Heap.lt_size e) I.ok.above)
 have neC:∀ b o,X.s₀.heap.get? b=some o→b∉X.ex→b∉ch:=fun b o e hx hb=>by
  rcases (hch b hb).1 with z | z
  ·exact hx z
  ·exact absurd (Nat.lt_of_lt_of_le (Heap.lt_size e) z) (Nat.lt_irrefl _)
 have cellK:∀ x c,X.env.cells.lookup x=some c→∀ v,s.heap.IsCell c v→h'.IsCell c v:=fun x c e v ⟨o,ho,hd⟩=>by
  have nch:c∉ch:=fun z=>(hch c z).2.2.1 x c e rfl
  by_cases hc:c∈X.fs
  ·obtain ⟨sl,q⟩:=slot c o (I.cne x c e) hc nch ho (I.freeC x c e)
   exact ⟨_,q,hd⟩
  ·exact ⟨o,keep c o (I.cne x c e) hc nch ho (I.freeC x c e),hd⟩
 refine ⟨I.ok,I.os,hg,⟨fun b o e n hb hx=>?_,fun b o e n hb hx=>?_,fun b o e n hx=>?_,fun b o e hx=>?_,fun b xs e=>tups b xs (I.base.tups b xs e),fun b o xs e=>frzs b o xs (I.base.frzs b o xs e),fun b ps e=>?_⟩,?_,fun x c e=>?_,?_,fun x c e=>?_,fun p hp=>?_,hok,I.len⟩
 ·exact keep b o (neL b o e) hb (neC b o e hx) (I.base.keep b o e n hb hx) (I.base.free b o e n hx)
 ·obtain ⟨sl,e1⟩:=I.base.slot b o e n hb hx
  obtain ⟨sl',e2⟩:=slot b _ (neL b o e) hb (neC b o e hx) e1 (I.base.free b o e n hx)
  exact ⟨sl',e2⟩
 ·obtain ⟨o',e1⟩:=I.base.there b o e hx
  exact free b o' (neC b o e hx) e1 (I.base.free b o e n hx)
 ·obtain ⟨o',e1⟩:=I.base.there b o e hx
  exact there b o' (neC b o e hx) e1
 ·obtain ⟨m1,e1⟩:=I.base.tbls b ps e
  obtain ⟨m2,e2⟩:=tbls b _ e1
  exact ⟨m1++m2,by rw [e2,Array.append_assoc]⟩
 ·obtain ⟨m,hn,hl⟩:=I.loc
  refine ⟨m,ns m hn,fun i x v e1 e2 e3=>?_⟩
  obtain ⟨u,r,l⟩:=hl i x v e1 e2 e3
  refine ⟨u,r,?_⟩
  rcases l with l | ⟨k,c,e,z⟩
  ·exact .inl l
  ·exact .inr ⟨k,c,e,cellK x c e _ z⟩
 ·obtain ⟨v,z⟩:=I.cell x c e
  exact ⟨v,cellK x c e v z⟩
 ·obtain ⟨m,⟨o,_,_,ho,_⟩,_⟩:=I.loc
  exact free _ o (fun z=>(hch _ z).2.1 rfl) ho I.free
 ·obtain ⟨v,o,ho,hd⟩:=I.cell x c e
  exact free c o (fun z=>(hch c z).2.2.1 x c e rfl) ho (I.freeC x c e)
 ·obtain ⟨e,n,ne,nf,d⟩:=I.pin p hp
  have nch:p.1∉ch:=fun z=>(hch p.1 z).2.2.2 p hp rfl
  exact ⟨keep p.1 p.2 ne nf nch e n,free p.1 p.2 nch e n,ne,nf,d⟩
theorem Inv.un {t':Nat} (I:Inv X pins σ H s) (u:Un X.fs [] H H' s.heap h') (hok:HOk X.prog X.w H' h'):Inv X pins σ H' { s with heap:=h',toks:=t' }:=by
 obtain ⟨m,⟨o,es,ep,ho,r⟩,_⟩:=id I.loc
 obtain ⟨sl,hL⟩:=u.any ho I.free (by simp)
 exact I.step (g':=s.gens) (d':=s.drawn) (ch:=[]) (fun _ z=>nomatch z) (fun b o _ hb _ e n=>u.keep b o e n hb (by simp)) (fun b o _ hb _ e n=>u.slot b o e n hb (by simp)) (fun b o _ e n=>u.free b o e n (by simp)) (fun b o _ e=>u.there b o e (by simp)) u.tups u.frzs u.tbls (fun m' hm=>by
  obtain ⟨o',es',ep',ho',r'⟩:=hm
  rw [ho] at ho'; cases ho'
  exact ⟨_,es',ep',hL,r'⟩) hok I.bare
theorem Inv.call {g':Array GenState} {t':Nat} {d':Drawn} {ch:List Addr} (I:Inv X pins σ H s) (u:Un (frs X.stack) ch H H' s.heap h') (hok:HOk X.prog X.w H' h') (hg:AllBare g')
  (hch:∀ b∈ch,(b∈X.ex∨X.s₀.heap.objs.size≤b)∧b≠X.env.locals∧(∀ x c,X.env.cells.lookup x=some c→c≠b)∧∀ p∈X.pn++pins,p.1≠b) :
  Inv X pins σ H' { s with heap:=h',gens:=g',drawn:=d',toks:=t' }:=by
 obtain ⟨m,⟨o,es,ep,ho,r⟩,_⟩:=id I.loc
 obtain ⟨sl,hL⟩:=u.any ho I.free fun z=>(hch _ z).2.1 rfl
 exact I.step (ch:=ch) hch (fun b o hL hb hc e n=>u.keep b o e n (fun z=>(List.mem_cons.mp (I.stkSub b z)).elim hL hb) hc) (fun b o _ _ hc e n=>u.any e n hc) (fun b o hc e n=>u.free b o e n hc) (fun b o hc e=>u.there b o e hc) u.tups u.frzs u.tbls (fun m' hm=>by
  obtain ⟨o',es',ep',ho',r'⟩:=hm
  rw [ho] at ho'; cases ho'
  exact ⟨_,es',ep',hL,r'⟩) hok hg
theorem Inv.turned {t':Nat} {it:Addr} (I:Inv X pins σ H s) (k:∀ b o,b≠it→s.heap.get? b=some o→h'.get? b=some o) (hn:H it=none) (hL:it≠X.env.locals)
  (h1:it∈X.ex∨X.s₀.heap.objs.size≤it) (h2:∀ x c,X.env.cells.lookup x=some c→c≠it) (h3:∀ p∈X.pn++pins,p.1≠it):Inv X pins σ H { s with heap:=h',toks:=t' }:=by
 have nit:∀ b u,H b=some u→b≠it:=fun b u e z=>by rw [z,hn] at e; cases e
 refine I.step (g':=s.gens) (d':=s.drawn) (ch:=[it]) (fun b hb=>?_) (fun b o _ _ hc e _=>k b o (fun z=>hc (by simp [z])) e) (fun b o _ _ hc e _=>⟨o.slots,k b o (fun z=>hc (by simp [z])) e⟩) (fun _ _ _ _ n=>n)
  (fun b o hc e=>⟨o,k b o (fun z=>hc (by simp [z])) e⟩) (fun _ _ e=>e) (fun _ _ _ e=>e) (fun b ps e=>⟨#[],by rw [e]; simp⟩) (fun m hm=>?_) (fun b u e=>?_) I.bare
 ·have e:b=it:=by simpa using hb
  subst e
  exact ⟨h1,hL,h2,h3⟩
 ·obtain ⟨o,es,ep,ho,r⟩:=hm
  exact ⟨o,es,ep,k _ o (Ne.symm hL) ho,r⟩
 ·refine (I.hok b u e).stay (fun c v hc q=>k c v ?_ q) (fun _ q=>q) fun _ _ q=>q
  rcases hc with z | z
  ·rw [z]; exact nit b u e
  ·exact nit c _ z
theorem Inv.tok (I:Inv X pins σ H s) (t:Nat):Inv X pins σ H { s with toks:=t }:=I.un (h':=s.heap) (t':=t) Un.refl I.hok
theorem Inv.kept {t':Nat} (I:Inv X pins σ H s) (k:∀ b u,s.heap.get? b=some u→h'.get? b=some u):Inv X pins σ H { s with heap:=h',toks:=t' }:=I.un (Un.kept k) (I.hok.kept k)
theorem Inv.laid {a:Addr} {o:HO} {t':Nat} (I:Inv X pins σ H s) (k:∀ b u,s.heap.get? b=some u→h'.get? b=some u) (hp:s.heap.objs.size≤a) (new:bL X.prog X.w (upd H a o) h' a o) :
  Inv X pins σ (upd H a o) { s with heap:=h',toks:=t' }:=I.un (Un.laid k hp (I.hok.fresh hp)) (I.hok.laid k hp new)
theorem Inv.write {x e:Addr} {o:HO} {t':Nat} (I:Inv X pins σ H s) (mu:Mut (H x)) (he:e=x∨H e=some (.own x)) (k:∀ b u,b≠e→s.heap.get? b=some u→h'.get? b=some u) (heo:∃ u,h'.get? e=some u)
  (new:bL X.prog X.w (upd H x o) h' x o):Inv X pins σ (upd H x o) { s with heap:=h',toks:=t' }:=I.un (Un.write mu he k heo) (I.hok.write mu he k heo new)
theorem Inv.weak {σ':List (Option V)} (I:Inv X pins σ H s) (hl:σ'.length=σ.length) (w:∀ (i:Nat) v,σ'[i]?=some (some v)→σ[i]?=some (some v)):Inv X pins σ' H s :=
 ⟨I.ok,I.os,I.bare,I.base,let ⟨m,hn,hl'⟩:=I.loc; ⟨m,hn,fun i x v e1 e2 e3=>hl' i x v e1 (w i v e2) e3⟩,I.cell,I.free,I.freeC,I.pin,I.hok,hl.trans I.len⟩
theorem Inv.pins_of {pins':List (Addr×Obj)} (I:Inv X pins σ H s) (h:∀ p∈pins',s.heap.get? p.1=some p.2∧H p.1=none∧p.1≠X.env.locals∧p.1∉X.fs∧∀ v,p.2.data≠.cell v):Inv X pins' σ H s :=
 ⟨I.ok,I.os,I.bare,I.base,I.loc,I.cell,I.free,I.freeC,fun p hp=>(List.mem_append.mp hp).elim (fun z=>I.pin p (List.mem_append_left _ z)) (h p),I.hok,I.len⟩
theorem jn {N:List Str} (hN:N.Nodup) {i j:Nat} {x:Str} (a:N[i]?=some x) (b:N[j]?=some x):i=j:=by
 obtain ⟨h1,e1⟩:=List.getElem?_eq_some_iff.mp a
 obtain ⟨h2,e2⟩:=List.getElem?_eq_some_iff.mp b
 exact (List.getElem_inj hN).mp (e1.trans e2.symm)
theorem ll {M:Model} {A:Around} {E:Value→Shared→Prop} {i:Nat} {x:Str} {v:V} {u:Value} {Q:Unit→Shared→Prop} (I:Inv X pins σ H s) (hN:X.N.Nodup) (hi:X.N[i]?=some x) (hx:Loc X.env.scope x) (r:bh v u)
  (h:∀ s',Inv X pins (σ.set i (some v)) H s'→(∃ a,Heap.SameBut a s.heap s'.heap∧(a=X.env.locals∨X.env.cells.lookup x=some a))→Q () s') (hf:X.fn x=true∨X.env.scope.names.lookup x=some .local:=by first | exact .inl rfl | exact .inr rfl | assumption):wpAny M A (storeName X.env x u) Q E s:=by
 obtain ⟨m,hn,hl⟩:=id I.loc
 have hcls:(X.env.scope.kind==.class||(X.env.scope.kind==.module&&X.env.locals != X.env.globals))=false:=by rw [I.ok.kind]; rfl
 have hiσ:i<σ.length:=by rw [I.len]; exact (List.getElem?_eq_some_iff.mp hi).1
 have cne:=I.cne
 have tracked:∀ {a:Addr} {h':Heap},(∃ o,s.heap.get? a=some o∧H a=none)→Heap.SameBut a s.heap h'→HOk X.prog X.w H h':=fun {a h'} ha hs b ob e=>by
  obtain ⟨_,_,hfree⟩:=ha
  refine (I.hok b ob e).stay (fun c w' hc q=>(hs.2 c ?_).trans q) (fun _ q=>q) fun _ _ q=>q
  rintro rfl
  rcases hc with rfl | hc
  ·rw [hfree] at e; cases e
  ·rw [hfree] at hc; cases hc
 rcases hx with hk | hk
 ·refine wpAny_storeName_local hk hn (fun h' hn' hs=>?_) hcls
  obtain ⟨oL,_,_,hoL,_⟩:=id hn
  refine h _ ⟨I.ok,I.os,I.bare,⟨fun b o e n hb hx=>?_,fun b o e n hb hx=>?_,I.base.free,fun b o e hx=>?_,I.base.tups,I.base.frzs,I.base.tbls⟩,⟨_,hn',fun j y v' e1 e2 e3=>?_⟩,fun y c e=>?_,I.free,I.freeC,fun p hp=>?_,tracked ⟨oL,hoL,I.free⟩ hs,by simpa using I.len⟩ ⟨_,hs,.inl rfl⟩
  ·exact (hs.2 b (Nat.ne_of_lt (Nat.lt_of_lt_of_le (Heap.lt_size e) I.ok.above))).trans (I.base.keep b o e n hb hx)
  ·obtain ⟨sl,e1⟩:=I.base.slot b o e n hb hx
   exact ⟨sl,(hs.2 b (Nat.ne_of_lt (Nat.lt_of_lt_of_le (Heap.lt_size e) I.ok.above))).trans e1⟩
  ·obtain ⟨o',e1⟩:=I.base.there b o e hx
   exact ⟨o',(hs.2 b (Nat.ne_of_lt (Nat.lt_of_lt_of_le (Heap.lt_size e) I.ok.above))).trans e1⟩
  ·by_cases hj:j=i
   ·subst hj
    rw [hi] at e1; cases e1
    rw [List.getElem?_set_self hiσ] at e2
    cases e2
    exact ⟨u,r,.inl ⟨hk,by simp⟩⟩
   ·rw [List.getElem?_set_ne (Ne.symm hj)] at e2
    obtain ⟨u',r',q⟩:=hl j y v' e1 e2 e3
    refine ⟨u',r',?_⟩
    rcases q with ⟨k,e⟩ | ⟨k,c,e,z⟩
    ·refine .inl ⟨k,?_⟩
     have:y≠x:=fun e=>hj (jn hN e1 (e ▸ hi))
     simp [this,e]
    ·exact .inr ⟨k,c,e,z.sameBut hs (cne y c e)⟩
  ·obtain ⟨w',z⟩:=I.cell y c e
   exact ⟨w',z.sameBut hs (cne y c e)⟩
  ·obtain ⟨e,n,ne,nf,d⟩:=I.pin p hp
   exact ⟨(hs.2 p.1 ne).trans e,n,ne,nf,d⟩
 ·have hfn:X.fn x=true:=by
   rcases hf with z | z
   ·exact z
   ·rw [z] at hk; cases hk
  obtain ⟨c,hc⟩:=I.ok.has x (.inl hk)
  obtain ⟨w',z⟩:=I.cell x c hc
  refine wpAny_storeName_cell I.ok.kind hk hc z (fun h' hc' hs=>?_)
  obtain ⟨oc,hoc,hocd⟩:=id z
  refine h { s with heap:=h' } ⟨I.ok,I.os,I.bare,⟨fun b o e n hb hx=>?_,fun b o e n hb hx=>?_,I.base.free,fun b o e hx=>?_,I.base.tups,I.base.frzs,I.base.tbls⟩,⟨m,hn.sameBut hs (Ne.symm (cne x c hc)),fun j y v' e1 e2 e3=>?_⟩,fun y c' e=>?_,I.free,I.freeC,fun p hp=>?_,tracked ⟨oc,hoc,I.freeC x c hc⟩ hs,by simpa using I.len⟩ ⟨c,hs,.inr hc⟩
  ·exact (hs.2 b (Nat.ne_of_lt (Nat.lt_of_lt_of_le (Heap.lt_size e) (I.ok.cab x c hfn hc)))).trans (I.base.keep b o e n hb hx)
  ·obtain ⟨sl,e1⟩:=I.base.slot b o e n hb hx
   exact ⟨sl,(hs.2 b (Nat.ne_of_lt (Nat.lt_of_lt_of_le (Heap.lt_size e) (I.ok.cab x c hfn hc)))).trans e1⟩
  ·obtain ⟨o',e1⟩:=I.base.there b o e hx
   exact ⟨o',(hs.2 b (Nat.ne_of_lt (Nat.lt_of_lt_of_le (Heap.lt_size e) (I.ok.cab x c hfn hc)))).trans e1⟩
  ·by_cases hj:j=i
   ·subst hj
    rw [hi] at e1; cases e1
    rw [List.getElem?_set_self hiσ] at e2
    cases e2
    exact ⟨u,r,.inr ⟨.inl hk,c,hc,hc'⟩⟩
   ·rw [List.getElem?_set_ne (Ne.symm hj)] at e2
    obtain ⟨u',r',q⟩:=hl j y v' e1 e2 e3
    refine ⟨u',r',?_⟩
    rcases q with q | ⟨k,c',e,z'⟩
    ·exact .inl q
    ·refine .inr ⟨k,c',e,z'.sameBut hs ?_⟩
     rintro rfl
     exact hj (jn hN e1 (I.ok.inj _ _ _ e hc ▸ hi))
  ·by_cases hcc:c'=c
   ·subst hcc; exact ⟨_,hc'⟩
   ·obtain ⟨w2,z2⟩:=I.cell y c' e
    exact ⟨w2,z2.sameBut hs hcc⟩
  ·obtain ⟨e,n,ne,nf,d⟩:=I.pin p hp
   refine ⟨(hs.2 p.1 ?_).trans e,n,ne,nf,d⟩
   intro q
   rw [q,hoc] at e
   have q':oc=p.2:=Option.some.inj e
   exact d w' (by rw [← q']; exact hocd)
theorem dh {M:Model} {A:Around} {E:Value→Shared→Prop} {i:Nat} {x:Str} {v:V} {u:Value} {Q:Unit→Shared→Prop} (I:Inv X pins σ H s) (hN:X.N.Nodup) (hi:X.N[i]?=some x) (hx:Loc X.env.scope x) (r:bh v u)
  (h:∀ s',Inv X pins (σ.set i (some v)) H s'→Q () s') (hf:X.fn x=true∨X.env.scope.names.lookup x=some .local:=by first | exact .inl rfl | exact .inr rfl | assumption):wpAny M A (storeName X.env x u) Q E s :=
 ll I hN hi hx r (fun s' I' _=>h s' I') hf
theorem Inv.call' {s':Shared} {ch:List Addr} (I:Inv X pins σ H s) (ho:s'.os=s.os) (u:Un (frs X.stack) ch H H' s.heap s'.heap) (hok:HOk X.prog X.w H' s'.heap) (hg:AllBare s'.gens)
  (hch:∀ b∈ch,(b∈X.ex∨X.s₀.heap.objs.size≤b)∧b≠X.env.locals∧(∀ x c,X.env.cells.lookup x=some c→c≠b)∧∀ p∈X.pn++pins,p.1≠b):Inv X pins σ H' s':=by
 obtain ⟨h',g',d',t',o'⟩:=s'
 have e:o'=s.os:=ho
 subst e
 exact I.call (g':=g') (t':=t') (d':=d') u hok hg hch
end
abbrev XK:=Value→Option Addr→Hp→Prop
abbrev St:=List (Option V)
abbrev VK:=V→Hp→Prop
abbrev TE:=St→Hp→VK→Prop
abbrev TT:=St→Hp→(Bool→Hp→Prop)→Prop
abbrev TA:=St→Hp→(List V→Hp→Prop)→Prop
structure kn where
 nx:St→Hp→Prop
 rt:VK
 bk:St→Hp→Prop:=fun _ _=>False
 ct:St→Hp→Prop:=fun _ _=>False
abbrev TS:=kn→St→Hp→Prop
def EP (X:Cx) (pins:List (Addr×Obj)) (σ:St) (Q:VK) (u:Value) (s':Shared):Prop:=∃ v H',Inv X pins σ H' s'∧bh v u∧Q v H'
def TP (X:Cx) (pins:List (Addr×Obj)) (σ:St) (Q:Bool→Hp→Prop) (b:Bool) (s':Shared):Prop:=∃ H',Inv X pins σ H' s'∧Q b H'
def AP (X:Cx) (pins:List (Addr×Obj)) (σ:St) (Q:List V→Hp→Prop) (us:List Value) (s':Shared):Prop:=∃ vs H',Inv X pins σ H' s'∧aY vs us∧Q vs H'
def SP (X:Cx) (pins:List (Addr×Obj)) (D:kn) (f:Flow) (s':Shared):Prop :=
 match f with
 | .next=>∃ σ' H',Inv X pins σ' H' s'∧D.nx σ' H'
 | .brk=>∃ σ' H',Inv X pins σ' H' s'∧D.bk σ' H'
 | .cont=>∃ σ' H',Inv X pins σ' H' s'∧D.ct σ' H'
 | .ret u=>∃ v σ' H',Inv X pins σ' H' s'∧bh v u∧D.rt v H'
def PE (X:Cx) (e:Expr) (t:TE):Prop :=
 ∀ (pins:List (Addr×Obj)) (s:Shared) (σ:St) (H:Hp) (Q:VK),Inv X pins σ H s→t σ H Q→wpAny (model X.prog X.w) X.A (eval e X.env) (EP X pins σ Q) X.xe s
def PT (X:Cx) (e:Expr) (t:TT):Prop :=
 ∀ (pins:List (Addr×Obj)) (s:Shared) (σ:St) (H:Hp) (Q:Bool→Hp→Prop),Inv X pins σ H s→t σ H Q→wpAny (model X.prog X.w) X.A (isTrue e X.env (eval e X.env)) (TP X pins σ Q) X.xe s
def PW (X:Cx) (e:Expr) (t:TT):Prop :=
 ∀ (whole:Sem Value) (pins:List (Addr×Obj)) (s:Shared) (σ:St) (H:Hp) (Q:Bool→Hp→Prop),Inv X pins σ H s→t σ H Q→wpAny (model X.prog X.w) X.A (isTrue e X.env whole) (TP X pins σ Q) X.xe s
theorem PW.pt {X:Cx} {e:Expr} {t:TT} (h:PW X e t):PT X e t:=h _
def PA (X:Cx) (es:List Expr) (t:TA):Prop :=
 ∀ (pos:Pos) (pins:List (Addr×Obj)) (s:Shared) (σ:St) (H:Hp) (Q:List V→Hp→Prop),Inv X pins σ H s→t σ H Q→wpAny (model X.prog X.w) X.A (spliced (backTo pos (starEach es X.env))) (AP X pins σ Q) X.xe s
def PS (X:Cx) (st:Stmt) (t:TS):Prop :=
 ∀ (pins:List (Addr×Obj)) (s:Shared) (σ:St) (H:Hp) (D:kn),Inv X pins σ H s→t D σ H→wpAny (model X.prog X.w) X.A (exec st X.env) (SP X pins D) X.xe s
def PSs (X:Cx) (st:List Stmt) (t:TS):Prop :=
 ∀ (pins:List (Addr×Obj)) (s:Shared) (σ:St) (H:Hp) (D:kn),Inv X pins σ H s→t D σ H→wpAny (model X.prog X.w) X.A (execs st X.env) (SP X pins D) X.xe s
theorem thn {α:Type} {t:Sem α} {Q Q':α→Shared→Prop} {M:Model} {A:Around} {E:Value→Shared→Prop} {s:Shared} (h:wpAny M A t Q E s) (hQ:∀ a s,Q a s→Q' a s):wpAny M A t Q' E s:=wpAny_mono h hQ fun _ _ x=>x
open PySem PySem.Spec PyProof.Rows
section
variable {X:Cx}
def qj (i:Nat):TE:=fun σ H Q=>∃ v,σ[i]?=some (some v)∧Q v H
def tC (v:V):TE:=fun _ H Q=>Q v H
theorem Bf {i:Nat} {x:Str} {pos:Pos} (hN:X.N[i]?=some x) (hv:Vis X.env.scope x) (hd:(x==("__debug__":Str))=false:=by decide) (hcd:(x==("__classdict__":Str))=false:=by decide):PE X (.Name x pos) (qj i):=by
 intro pins s σ H Q I h
 obtain ⟨v,e,h⟩:=h
 obtain ⟨m,hn,hl⟩:=I.loc
 obtain ⟨u,r,l⟩:=hl i x v hN e hv
 have fin:EP X pins σ Q u s:=⟨v,H,I,r,h⟩
 rcases l with ⟨hk,hm⟩ | ⟨hk,c,hc,hcell⟩
 ·exact wpAny_Name (wpAny_loadName_local I.ok.kind hk hn hm fin) hd
 ·rcases hk with hk | hk
  ·exact wpAny_Name (wpAny_loadName_cell I.ok.kind hk hc hcell fin) hd
  ·exact wpAny_Name (wpAny_loadName_free I.ok.kind hk hc hcell fin hcd) hd
theorem aj {i j pos}:PE X (.Constant (.int i) j pos) (tC (.int i)):=fun _ _ _ H _ I h=>wpAny_Constant_int ⟨.int i,H,I.tok _,⟨_,rfl⟩,h⟩
theorem bo {b j pos}:PE X (.Constant (.bool b) j pos) (tC (.bl b)):=fun _ _ _ H _ I h=>Constant_bool ⟨.bl b,H,I,rfl,h⟩
theorem bE {j pos}:PE X (.Constant .none j pos) (tC .non):=fun _ _ _ H _ I h=>Constant_none ⟨.non,H,I,rfl,h⟩
theorem aG {x j pos}:PE X (.Constant (.str x) j pos) (tC (.str x)):=fun _ _ _ H _ I h=>Calls.Constant_str ⟨.str x,H,I.tok _,⟨_,rfl⟩,h⟩
def Gl (X:Cx) (x:Str):Prop:=X.env.kindOf x=some .globalImplicit
theorem iV {E:Value→Shared→Prop} {pins:List (Addr×Obj)} {s:Shared} {σ:St} {H:Hp} {x:Str} {u:Value} {pos:Pos} {Q:Value→Shared→Prop} (I:Inv X pins σ H s) (hg:Gl X x) (hm:X.mg x=some u) (h:Q u s)
  (hd:(x==("__debug__":Str))=false:=by decide):wpAny (model X.prog X.w) X.A (eval (.Name x pos) X.env) Q E s :=
 Calls.Name_function_global I.ok.kind hg (Calls.loadGlobal_global (by rw [I.ok.glob]; exact I.mod.glob.keeps I.bk) hm h) hd
theorem dN {E:Value→Shared→Prop} {pins:List (Addr×Obj)} {s:Shared} {σ:St} {H:Hp} {x:Str} {u:Value} {pos:Pos} {Q:Value→Shared→Prop} (I:Inv X pins σ H s) (hg:Gl X x) (hm:X.mg x=none) (hv:bootBuiltins x=some u) (h:Q u s)
  (hn:x ≠ "__name__":=by decide) (hd:(x==("__debug__":Str))=false:=by decide):wpAny (model X.prog X.w) X.A (eval (.Name x pos) X.env) Q E s:=by
 obtain ⟨mb,h1,h2⟩:=I.mod.blt
 exact Calls.Name_function_global I.ok.kind hg (Calls.loadGlobal_builtin (by rw [I.ok.glob]; exact I.mod.glob.keeps I.bk) hm (by rw [I.ok.blt]; exact h1.keeps I.bk) ((h2 x hn).trans hv) h) hd
theorem aX {x:Str} {v:V} {u:Value} {pos:Pos} (hg:Gl X x) (hm:X.mg x=some u) (r:bh v u) (hd:(x==("__debug__":Str))=false:=by decide):PE X (.Name x pos) (tC v) :=
 fun _ _ _ H _ I h=>iV I hg hm ⟨v,H,I,r,h⟩ hd
theorem bp {x:Str} {v:V} {u:Value} {pos:Pos} (hg:Gl X x) (hm:X.mg x=none) (hv:bootBuiltins x=some u) (r:bh v u) (hn:x ≠ "__name__":=by decide) (hd:(x==("__debug__":Str))=false:=by decide):PE X (.Name x pos) (tC v) :=
 fun _ _ _ H _ I h=>dN I hg hm hv ⟨v,H,I,r,h⟩ hn hd
variable {a b:Expr} {ta tb:TE} {pos:Pos}
def tB (t:TE):TT:=fun σ H Q=>t σ H fun x H1=>∃ c,x=.bl c∧Q c H1
theorem aW {e:Expr} {t:TE} (h:PE X e t) (he:∀ whole,isTrue e X.env whole=(do let v ← whole; standAt e.pos; holding [v] (truthy v)):=by intro _; rfl):PT X e (tB t):=by
 intro pins s σ H Q I hw
 refine isTrue_plain (thn (h pins s σ H _ I hw) fun v s1 ⟨x,H1,I1,r1,q1⟩=>?_) (he _)
 obtain ⟨d,rfl,q⟩:=q1
 cases r1
 exact wpAny_truthy_bool ⟨H1,I1,q⟩
variable {tA tB':TT} {rest:List Expr}
def Du (t u:TT):TT:=fun σ H Q=>t σ H fun c H1=>if c=true then u σ H1 Q else Q false H1
def tOr (t u:TT):TT:=fun σ H Q=>t σ H fun c H1=>if c=true then Q true H1 else u σ H1 Q
def Dr (t:TT):TT:=fun σ H Q=>t σ H fun c H1=>Q (!c) H1
theorem vJ (ha:PT X a tA):PW X (.BoolOp .And [a] pos) tA:=by
 intro wh pins s σ H Q I h
 refine isTrue_and (thn (ha pins s σ H Q I h) fun c s1 e=>?_)
 cases c with
 | true=>exact isTrue_and_nil e
 | false=>exact e
theorem bP (ha:PT X a tA):PW X (.BoolOp .Or [a] pos) tA:=by
 intro wh pins s σ H Q I h
 refine isTrue_or (thn (ha pins s σ H Q I h) fun c s1 e=>?_)
 cases c with
 | false=>exact isTrue_or_nil e
 | true=>exact e
theorem zc (ha:PT X a tA) (hb:PW X (.BoolOp .And (b::rest) pos) tB'):PW X (.BoolOp .And (a::b::rest) pos) (Du tA tB'):=by
 intro wh pins s σ H Q I h
 refine isTrue_and (thn (ha pins s σ H _ I h) fun c s1 ⟨H1,I1,q1⟩=>?_)
 cases c with
 | true=>exact hb wh pins s1 σ H1 Q I1 q1
 | false=>exact ⟨H1,I1,q1⟩
theorem bK (ha:PT X a tA) (hb:PW X (.BoolOp .Or (b::rest) pos) tB'):PW X (.BoolOp .Or (a::b::rest) pos) (tOr tA tB'):=by
 intro wh pins s σ H Q I h
 refine isTrue_or (thn (ha pins s σ H _ I h) fun c s1 ⟨H1,I1,q1⟩=>?_)
 cases c with
 | true=>exact ⟨H1,I1,q1⟩
 | false=>exact hb wh pins s1 σ H1 Q I1 q1
theorem bc (ha:PT X a tA):PT X (.UnaryOp .Not a pos) (Dr tA):=by
 intro pins s σ H Q I h
 exact isTrue_not (ha pins s σ H (fun c H1=>Q (!c) H1) I h)
def CZ (ta tb:TE):TE:=fun σ H Q=>ta σ H fun x H1=>∃ c,x=.bl c∧if c=true then tb σ H1 Q else Q (.bl false) H1
def DE (ta tb:TE):TE:=fun σ H Q=>ta σ H fun x H1=>∃ c,x=.bl c∧if c=true then Q (.bl true) H1 else tb σ H1 Q
def CV (ta:TE):TE:=fun σ H Q=>ta σ H fun x H1=>∃ c,x=.bl c∧Q (.bl (!c)) H1
theorem bH {op} {t:TE} (h:PE X a t):PE X (.BoolOp op [a] pos) t:=fun pins s σ H Q I hw=>BoolOp_one (h pins s σ H Q I hw)
theorem bR (ha:PE X a ta) (hb:PE X (.BoolOp .And (b::rest) pos) tb):PE X (.BoolOp .And (a::b::rest) pos) (CZ ta tb):=by
 intro pins s σ H Q I h
 refine BoolOp_and (thn (ha pins s σ H _ I h) fun v s1 ⟨x,H1,I1,r1,q1⟩=>?_)
 obtain ⟨c,rfl,q1⟩:=q1
 cases r1
 refine wpAny_truthy_bool ?_
 cases c with
 | true=>exact hb pins s1 σ H1 Q I1 q1
 | false=>exact ⟨.bl false,H1,I1,rfl,q1⟩
theorem yj (ha:PE X a ta) (hb:PE X (.BoolOp .Or (b::rest) pos) tb):PE X (.BoolOp .Or (a::b::rest) pos) (DE ta tb):=by
 intro pins s σ H Q I h
 refine BoolOp_or (thn (ha pins s σ H _ I h) fun v s1 ⟨x,H1,I1,r1,q1⟩=>?_)
 obtain ⟨c,rfl,q1⟩:=q1
 cases r1
 refine wpAny_truthy_bool ?_
 cases c with
 | false=>exact hb pins s1 σ H1 Q I1 q1
 | true=>exact ⟨.bl true,H1,I1,rfl,q1⟩
theorem ua (ha:PE X a ta):PE X (.UnaryOp .Not a pos) (CV ta):=by
 intro pins s σ H Q I h
 refine UnaryOp_ (thn (ha pins s σ H _ I h) fun v s1 ⟨x,H1,I1,r1,q1⟩=>?_)
 obtain ⟨c,rfl,q1⟩:=q1
 cases r1
 exact not_of (wpAny_truthy_bool ⟨.bl (!c),H1,I1,rfl,q1⟩)
def tIf (t:TT) (ta tb:TE):TE:=fun σ H Q=>t σ H fun c H1=>if c=true then ta σ H1 Q else tb σ H1 Q
theorem bO {c:Expr} (hc:PT X c tA) (ha:PE X a ta) (hb:PE X b tb):PE X (.IfExp c a b pos) (tIf tA ta tb):=by
 intro pins s σ H Q I h
 refine wpAny_IfExp (thn (hc pins s σ H _ I h) fun d s1 ⟨H1,I1,q1⟩=>?_)
 cases d with
 | true=>exact ha pins s1 σ H1 Q I1 q1
 | false=>exact hb pins s1 σ H1 Q I1 q1
end
open PySem PySem.Spec PyProof.Rows
def SqL (K:Frag) (H:Hp) (a:Addr) (xs:List V):Prop :=
 Rd H a (.lst xs) ∨
  ∃ (o:Obj) (its:Array Value) (n:Nat),K.lookup a=some o∧o.cls=.type "list"∧o.dict=none∧o.data=.seq its n∧its.size≤sizeLine∧aY xs its.toList
def SqT (K:Frag) (H:Hp) (a:Addr) (xs:List V):Prop :=
 Rd H a (.tup xs) ∨
  ∃ (o:Obj) (its:Array Value) (n:Nat),K.lookup a=some o∧o.cls=.type "tuple"∧o.data=.seq its n∧its.size≤sizeLine∧aY xs its.toList
def DM:Value→Option V
 | .none=>some .non
 | .bool b=>some (.bl b)
 | .int i _=>some (.int i)
 | .str x _=>some (.str x)
 | .bytes b _=>some (.byt b)
 | .float b _=>some (.flt b)
 | .ref a=>some (.ref a)
 | .type n=>some (.ty n)
 | _=>none
theorem bh.abs {x:V} {u:Value} (r:bh x u):DM u=some x:=by
 cases x with
 | non=>cases r; rfl
 | bl _=>cases r; rfl
 | int _=>obtain ⟨t,rfl⟩:=r; rfl
 | str _=>obtain ⟨t,rfl⟩:=r; rfl
 | byt _=>obtain ⟨t,rfl⟩:=r; rfl
 | flt _=>obtain ⟨t,rfl⟩:=r; rfl
 | ref _=>cases r; rfl
 | ty _=>cases r; rfl
theorem bh.inj {x y:V} {u:Value} (r:bh x u) (q:bh y u):x=y:=Option.some.inj (r.abs.symm.trans q.abs)
theorem aY.inj:∀ {xs ys:List V} {us:List Value},aY xs us→aY ys us→xs=ys
 | _,_,_,.nil,.nil=>rfl
 | _,_,_,.cons r t,.cons r' t'=>by rw [r.inj r',aY.inj t t']
section
variable {X:Cx} {pins:List (Addr×Obj)} {σ:St} {H:Hp} {s:Shared} {a:Addr} {xs ys:List V}
theorem SqL.of {K:Frag} (h:H a=some (.lst xs)):SqL K H a xs:=.inl (.inl h)
theorem SqT.of {K:Frag} (h:H a=some (.tup xs)):SqT K H a xs:=.inl (.inl h)
theorem Inv.list (I:Inv X pins σ H s) (h:SqL X.K H a xs):∃ its:List Value,aY xs its∧PlainL s.heap a its.toArray∧xs.length≤sizeLine:=by
 rcases h with h | ⟨o,its,n,hk,hc,hd,hs,hz,r⟩
 ·obtain ⟨z,its,n,r,e⟩:=h.ok I.hok
  exact ⟨its,r,⟨_,n,e,rfl,rfl,rfl⟩,z⟩
 ·refine ⟨its.toList,r,⟨o,n,I.kIn a o hk,hc,hd,by simpa using hs⟩,?_⟩
  have e:=r.length
  simp only [Array.length_toList] at e
  omega
theorem Inv.tuple (I:Inv X pins σ H s) (h:SqT X.K H a xs):∃ its:List Value,aY xs its∧IsTup s.heap a its.toArray∧xs.length≤sizeLine:=by
 rcases h with h | ⟨o,its,n,hk,hc,hs,hz,r⟩
 ·obtain ⟨z,its,r,p,_⟩:=h.ok I.hok
  exact ⟨its,r,p,z⟩
 ·refine ⟨its.toList,r,⟨o,I.kIn a o hk,hc,n,by simpa using hs⟩,?_⟩
  have e:=r.length
  simp only [Array.length_toList] at e
  omega
theorem Inv.list_inj (I:Inv X pins σ H s) (h:SqL X.K H a xs) (h':SqL X.K H a ys):xs=ys:=by
 obtain ⟨its,r,⟨o,n,e,_,_,d⟩,_⟩:=I.list h
 obtain ⟨its',r',⟨o',n',e',_,_,d'⟩,_⟩:=I.list h'
 rw [e] at e'; cases e'
 rw [d] at d'
 injection d' with d1 _
 have:its=its':=by simpa using congrArg Array.toList d1
 subst this
 exact r.inj r'
theorem Inv.tuple_inj (I:Inv X pins σ H s) (h:SqT X.K H a xs) (h':SqT X.K H a ys):xs=ys:=by
 obtain ⟨its,r,⟨o,e,_,n,d⟩,_⟩:=I.tuple h
 obtain ⟨its',r',⟨o',e',_,n',d'⟩,_⟩:=I.tuple h'
 rw [e] at e'; cases e'
 rw [d] at d'
 injection d' with d1 _
 have:its=its':=by simpa using congrArg Array.toList d1
 subst this
 exact r.inj r'
end
abbrev Cx.wish (X:Cx) (E:Value→Shared→Prop):Cx:={ X with xe:=E }
abbrev Cx.nox (X:Cx):Cx:=X.wish fun _ _=>False
theorem Cx.Ok.wish {X:Cx} (ok:X.Ok) (E:Value→Shared→Prop):(X.wish E).Ok :=
 ⟨ok.mod,ok.kind,ok.glob,ok.blt,ok.above,ok.inj,ok.has,ok.cab,ok.hd,ok.frames,ok.stk,ok.exf,ok.bs,ok.bsz,ok.noex,ok.exfs,ok.funs,ok.frf⟩
theorem Cx.Ok.unwish {X:Cx} {E:Value→Shared→Prop} (ok:(X.wish E).Ok):X.Ok :=
 ⟨ok.mod,ok.kind,ok.glob,ok.blt,ok.above,ok.inj,ok.has,ok.cab,ok.hd,ok.frames,ok.stk,ok.exf,ok.bs,ok.bsz,ok.noex,ok.exfs,ok.funs,ok.frf⟩
section
variable {X:Cx} {pins:List (Addr×Obj)} {σ:St} {H:Hp} {s:Shared} {E:Value→Shared→Prop}
theorem Inv.wish (I:Inv X pins σ H s) (E:Value→Shared→Prop):Inv (X.wish E) pins σ H s:=⟨I.ok.wish E,I.os,I.bare,I.base,I.loc,I.cell,I.free,I.freeC,I.pin,I.hok,I.len⟩
theorem Inv.unwish (I:Inv (X.wish E) pins σ H s):Inv X pins σ H s:=⟨I.ok.unwish,I.os,I.bare,I.base,I.loc,I.cell,I.free,I.freeC,I.pin,I.hok,I.len⟩
theorem SP.unwish {D:kn} {f:Flow} {s':Shared} (h:SP (X.wish E) pins D f s'):SP X pins D f s':=by
 cases f with
 | next=>obtain ⟨σ',H',I,q⟩:=h; exact ⟨σ',H',I.unwish,q⟩
 | brk=>obtain ⟨σ',H',I,q⟩:=h; exact ⟨σ',H',I.unwish,q⟩
 | cont=>obtain ⟨σ',H',I,q⟩:=h; exact ⟨σ',H',I.unwish,q⟩
 | ret u=>obtain ⟨v,σ',H',I,r,q⟩:=h; exact ⟨v,σ',H',I.unwish,r,q⟩
theorem PSs.nox {st:List Stmt} {t:TS} (h:PSs X.nox st t):PSs X st t:=fun pins s σ H D I hw =>
 wpAny_mono (h pins s σ H D (I.wish _) hw) (fun _ _ q=>q.unwish) fun _ _ z=>False.elim z
end
def zP:Expr→Bool
 | .Starred _ _=>true
 | _=>false
theorem ac {e:Expr} {es:List Expr} {env:Env} (h:zP e=false):starEach (e::es) env=(false,eval e env)::starEach es env:=by
 cases e<;>first | rfl | cases h
theorem jk {env:Env}:∀ {es:List Expr},es.all (fun e=>!zP e)=true→starEach es env=es.map fun e=>(false,eval e env)
 | [],_=>rfl
 | e::es,h=>by
  rw [List.all_cons,Bool.and_eq_true] at h
  rw [ac (by simpa using h.1),jk h.2]
  rfl
theorem ak {es:List Expr} {env:Env} {pos:Pos} (h:es.all (fun e=>!zP e)=true):(backTo pos (starEach es env)).any (·.1)=false:=by
 rw [jk h]
 unfold backTo
 rw [List.map_map,List.any_map,List.any_eq_false]
 intro x _
 simp
theorem fW {e:Expr} {es:List Expr} {env:Env} {cpos:Pos} (h:(e::es).all (fun e=>!zP e)=true) (h2:decide ((e::es).length<29)=true):((backTo cpos (starEach (e::es) env)).all (fun x=>!x.1)&&(backToKw cpos (keywordEach [] env)).all (fun x=>x.1.isSome)
 &&decide ((e::es).length+([]:List Keyword).length+(if ([]:List Keyword).isEmpty then 0 else 1)<30))=true:=by
 rw [jk h]
 have e1:(backTo cpos ((e::es).map fun e=>(false,eval e env))).all (fun x=>!x.1)=true:=by
  unfold backTo
  rw [List.map_map,List.all_map,List.all_eq_true]
  intro x _
  simp
 have e2:(backToKw cpos (keywordEach [] env)).all (fun x=>x.1.isSome)=true:=rfl
 have e3:=of_decide_eq_true h2
 rw [e1,e2]
 simp at e3 ⊢
 omega
def BC:Expr→Bool
 | .ListComp _ _ _ _ | .SetComp _ _ _ _ | .DictComp _ _ _ _ _=>false
 | _=>true
theorem aC {e:Expr} {t:Option Expr} {l:Nat} {env:Env} (h:BC e=true):swapsWith e t l env=pure false:=by
 cases e<;>first | rfl | cases h
section
variable {X:Cx} {st:Stmt} {rest:List Stmt} {t u:TS} {e:Expr} {te:TE} {pos:Pos}
def Cj:TS:=fun D σ H=>D.nx σ H
def Dh (t u:TS):TS:=fun D σ H=>t { D with nx:=u D } σ H
theorem aE:PSs X [] Cj:=fun _ _ σ H _ I h=>wpAny_execs_nil ⟨σ,H,I,h⟩
theorem am (h1:PS X st t) (h2:PSs X rest u):PSs X (st::rest) (Dh t u):=by
 intro pins s σ H D I h
 refine wpAny_execs_cons (thn (h1 pins s σ H { D with nx:=u D } I h) fun f s1 q=>?_)
 cases f with
 | next =>
  obtain ⟨σ',H',I',q⟩:=q
  exact h2 pins s1 σ' H' D I' q
 | ret v=>exact q
 | brk=>exact q
 | cont=>exact q
theorem ao (h1:PS X st t):PSs X [st] t:=by
 intro pins s σ H D I h
 refine wpAny_execs_cons (thn (h1 pins s σ H D I h) fun f s1 q=>?_)
 cases f with
 | next=>exact wpAny_execs_nil q
 | ret v=>exact q
 | brk=>exact q
 | cont=>exact q
theorem Inv.quiet {pins:List (Addr×Obj)} {σ:St} {H:Hp} {s:Shared} (I:Inv X pins σ H s):interactive X.env=false:=by simp [interactive,I.ok.kind]
def CQ (te:TE):TS:=fun D σ H=>te σ H fun _ H1=>D.nx σ H1
theorem fj (he:PE X e te) (hs:swapsWith e none pos.line X.env=pure false:=by first | exact aC rfl | rfl):PS X (.Expr e pos) (CQ te):=by
 intro pins s σ H D I h
 exact wpAny_Expr_any (thn (he pins s σ H _ I h) fun v s1 ⟨x,H1,I1,r1,q1⟩=>⟨σ,H1,I1,q1⟩) I.quiet hs
def DI (te:TE):TS:=fun D σ H=>te σ H D.rt
theorem ay (he:PE X e te):PS X (.Return (some e) pos) (DI te):=by
 intro pins s σ H D I h
 exact wpAny_Return_some (thn (he pins s σ H _ I h) fun v s1 ⟨x,H1,I1,r1,q1⟩=>⟨x,σ,H1,I1,r1,q1⟩)
def Dq (c:TT) (t u:TS):TS:=fun D σ H=>c σ H fun b H1=>if b=true then t D σ H1 else u D σ H1
theorem aT {c:Expr} {a b:List Stmt} {tc:TT} (hc:PT X c tc) (ha:PSs X a t) (hb:PSs X b u):PS X (.If c a b pos) (Dq tc t u):=by
 intro pins s σ H D I h
 refine wpAny_If (thn (hc pins s σ H _ I h) fun d s1 ⟨H1,I1,q1⟩=>?_)
 cases d with
 | true=>exact ha pins s1 σ H1 D I1 q1
 | false=>exact hb pins s1 σ H1 D I1 q1
def BJ:TS:=fun _ _ _=>False
theorem hZ {sts:List Stmt}:PSs X sts BJ:=fun _ _ _ _ _ _ h=>h.elim
end
abbrev TG:=V→St→Hp→(St→Hp→Prop)→Prop
abbrev TGs:=List V→St→Hp→(St→Hp→Prop)→Prop
def PG (X:Cx) (target:Expr) (t:TG):Prop :=
 ∀ (pins:List (Addr×Obj)) (s:Shared) (σ:St) (H:Hp) (v:V) (u:Value) (Q:St→Hp→Prop),Inv X pins σ H s→bh v u→t v σ H Q →
  wpAny (model X.prog X.w) X.A (assign target X.env u) (fun _ s'=>∃ σ' H',Inv X pins σ' H' s'∧Q σ' H') X.xe s
def PGs (X:Cx) (ts:List Expr) (t:TGs):Prop :=
 ∀ (pins:List (Addr×Obj)) (s:Shared) (σ:St) (H:Hp) (vs:List V) (us:List Value) (Q:St→Hp→Prop),Inv X pins σ H s→aY vs us→t vs σ H Q →
  wpAny (model X.prog X.w) X.A (assignInOrder ((assignEach ts X.env).map (·.2)) us) (fun _ s'=>∃ σ' H',Inv X pins σ' H' s'∧Q σ' H') X.xe s
abbrev BI:=V→V→V→Hp→(Hp→Prop)→Prop
def CM (X:Cx) (t:BI):Prop :=
 ∀ (pins:List (Addr×Obj)) (s:Shared) (σ:St) (H:Hp) (o i v:V) (ov iv u:Value) (Q:Hp→Prop),Inv X pins σ H s→bh o ov→bh i iv→bh v u→t o i v H Q →
  wpAny (model X.prog X.w) X.A (setItem ov iv u) (fun _ s'=>∃ H',Inv X pins σ H' s'∧Q H') X.xe s
abbrev TIp:=V→V→Hp→VK→Prop
def PIp (X:Cx) (op:Operator) (t:TIp):Prop :=
 ∀ (pins:List (Addr×Obj)) (s:Shared) (σ:St) (H:Hp) (x y:V) (v u:Value) (Q:VK),Inv X pins σ H s→bh x v→bh y u→t x y H Q →
  wpAny (model X.prog X.w) X.A (inplaceOp op v u) (EP X pins σ Q) X.xe s
section
variable {X:Cx} {pos:Pos}
def fM (i:Nat):TG:=fun v σ H Q=>Q (σ.set i (some v)) H
theorem aQ {i:Nat} {x:Str} (hN:X.N.Nodup) (hi:X.N[i]?=some x) (hx:Loc X.env.scope x) (hf:X.fn x=true∨X.env.scope.names.lookup x=some .local:=by first | exact .inl rfl | exact .inr rfl | assumption):PG X (.Name x pos) (fM i):=by
 intro pins s σ H v u Q I r h
 exact wpAny_assign_Name (dh I hN hi hx r (fun s' I'=>⟨_,H,I',h⟩) hf)
def DJ:TGs:=fun vs σ H Q=>vs=[]∧Q σ H
def Dd (t:TG) (u:TGs):TGs:=fun vs σ H Q=>∃ v r,vs=v::r∧t v σ H fun σ' H'=>u r σ' H' Q
theorem lJ:PGs X [] DJ:=by
 intro pins s σ H vs us Q I r h
 obtain ⟨e,h⟩:=h
 subst e
 cases r
 exact assignInOrder_nil ⟨σ,H,I,h⟩
theorem dg {e:Expr} {es:List Expr} {t:TG} {u:TGs} (h1:PG X e t) (h2:PGs X es u)
  (hs:(assignEach (e::es) X.env).map (·.2)=assign e X.env::(assignEach es X.env).map (·.2):=by rfl):PGs X (e::es) (Dd t u):=by
 intro pins s σ H vs us Q I r h
 obtain ⟨v,vr,e1,h⟩:=h
 subst e1
 cases r with
 | cons r rr =>
  rw [hs]
  refine assignInOrder_cons (thn (h1 pins s σ H _ _ _ I r h) fun _ s1 ⟨σ1,H1,I1,q1⟩=>?_)
  exact h2 pins s1 σ1 H1 _ _ Q I1 rr q1
def Dt (K:Frag) (n:Nat) (t:TGs):TG:=fun v σ H Q=>∃ a xs,v=.ref a∧SqT K H a xs∧xs.length=n∧t xs σ H Q
theorem qZ {es:List Expr} {k:Nat} {t:TGs} {n:Nat} (hc:X.calm=true) (h:PGs X es t)
  (hn:(assignEach es X.env).length=n:=by rfl) (hst:(assignEach es X.env).findIdx? (·.1)=none:=by rfl):PG X (.Tuple es k pos) (Dt X.K n t):=by
 intro pins s σ H v u Q I r hw
 obtain ⟨a,xs,e1,hq,hl,hw⟩:=hw
 subst e1
 cases r
 obtain ⟨its,rv,ht,hz⟩:=I.tuple hq
 refine assign_Tuple_tuple (I.ok.hd hc) ht (by simp [hn,← hl,rv.length]) hst fun h' hx=>?_
 have I1:Inv X pins σ H { s with heap:=h' }:=I.kept (t':=s.toks) fun b o e=>hx b o (Nat.ne_of_lt (Heap.lt_size e)) e
 exact h pins _ σ H xs _ Q I1 (by simpa using rv) hw
def DB (to ti:TE) (t:BI):TG:=fun v σ H Q=>to σ H fun o H1=>ti σ H1 fun i H2=>t o i v H2 fun H3=>Q σ H3
theorem rD {o i:Expr} {to ti:TE} {t:BI} (ho:PE X o to) (hi:PE X i ti) (hs:CM X t)
  (ha:∀ v,assign (.Subscript o i pos) X.env v=(do
   let ov ← holding [v] (eval o X.env)
   let iv ← holding [v,ov] (eval i X.env)
   standAt pos
   holding [v,ov,iv] (setItem ov iv v)
   release [v,ov,iv] []):=by intro _; rfl):PG X (.Subscript o i pos) (DB to ti t):=by
 intro pins s σ H v u Q I r h
 rw [ha]
 refine wpAny_bind (wpAny_holding (thn (ho pins s σ H _ I h) fun ov s1 ⟨x,H1,I1,r1,q1⟩=>?_))
 refine wpAny_bind (wpAny_holding (thn (hi pins s1 σ H1 _ I1 q1) fun iv s2 ⟨y,H2,I2,r2,q2⟩=>?_))
 refine wpAny_bind (wpAny_standAt (wpAny_bind (wpAny_holding (thn (hs pins s2 σ H2 x y v ov iv u _ I2 r1 r2 r q2) fun _ s3 ⟨H3,I3,q3⟩=>?_))))
 exact wpAny_release ⟨σ,H3,I3,q3⟩
def BN (te:TE) (g:TG):TS:=fun D σ H=>te σ H fun x H1=>g x σ H1 D.nx
theorem rS {tg e:Expr} {te:TE} {g:TG} (he:PE X e te) (hg:PG X tg g) (hs:swapsWithSole [tg] e pos.line X.env=pure false:=by rfl) (hw:swappedStores [tg] e X.env=pure none:=by rfl)
  (h1:(assignEach [tg] X.env).map (·.2)=[assign tg X.env]:=by rfl):PS X (.Assign [tg] e pos) (BN te g):=by
 intro pins s σ H D I h
 refine wpAny_Assign_stores (thn (he pins s σ H _ I h) fun v s1 ⟨x,H1,I1,r1,q1⟩=>?_) hs hw
 rw [h1]
 exact thn (hg pins s1 σ H1 x v _ I1 r1 q1) fun _ s2 q=>q
theorem aR {i:Nat} {x:Str} {e:Expr} {te:TE} {pos':Pos} (hN:X.N.Nodup) (hi:X.N[i]?=some x) (hx:Loc X.env.scope x) (he:PE X e te) (hs:swapsWith e (some (.Name x pos')) pos.line X.env=pure false:=by first | exact aC rfl | rfl) (hf:X.fn x=true∨X.env.scope.names.lookup x=some .local:=by first | exact .inl rfl | exact .inr rfl | assumption) :
  PS X (.Assign [.Name x pos'] e pos) (BN te (fM i)):=by
 intro pins s σ H D I h
 refine wpAny_Assign_Name (thn (he pins s σ H _ I h) fun v s1 ⟨y,H1,I1,r1,q1⟩=>?_) hs
 exact dh I1 hN hi hx r1 (fun s2 I2=>⟨_,H1,I2,q1⟩) hf
def Dz (i:Nat) (te:TE) (ti:TIp):TS:=fun D σ H=>∃ x,σ[i]?=some (some x)∧te σ H fun y H1=>ti x y H1 fun z H2=>D.nx (σ.set i (some z)) H2
theorem rK {i:Nat} {x:Str} {e:Expr} {te:TE} {op:Operator} {ti:TIp} {pos':Pos} (hN:X.N.Nodup) (hi:X.N[i]?=some x) (hx:Loc X.env.scope x) (he:PE X e te) (ho:PIp X op ti) (hf:X.fn x=true∨X.env.scope.names.lookup x=some .local:=by first | exact .inl rfl | exact .inr rfl | assumption) :
  PS X (.AugAssign (.Name x pos') op e pos) (Dz i te ti):=by
 intro pins s σ H D I h
 obtain ⟨v,e1,h⟩:=h
 obtain ⟨m,hn,hl⟩:=I.loc
 have vis:Vis X.env.scope x:=by rcases hx with k | k; exact .inl k; exact .inr (.inl k)
 obtain ⟨u,r,l⟩:=hl i x v hi e1 vis
 refine wpAny_AugAssign_Name ?_
 have go:wpAny (model X.prog X.w) X.A (eval e X.env) (fun w s₂=>wpAny (model X.prog X.w) X.A (inplaceOp op u w) (fun r s₃=>wpAny (model X.prog X.w) X.A (storeName X.env x r) (fun _=>SP X pins D .next) X.xe s₃) X.xe s₂) X.xe s:=by
  refine thn (he pins s σ H _ I h) fun w s1 ⟨y,H1,I1,r1,q1⟩=>?_
  refine thn (ho pins s1 σ H1 v y u w _ I1 r r1 q1) fun z s2 ⟨zv,H2,I2,r2,q2⟩=>?_
  exact dh I2 hN hi hx r2 (fun s3 I3=>⟨_,H2,I3,q2⟩) hf
 rcases l with ⟨hk,hm⟩ | ⟨hk,c,hc,hcell⟩
 ·exact wpAny_loadName_local I.ok.kind hk hn hm go
 ·rcases hk with hk | hk
  ·exact wpAny_loadName_cell I.ok.kind hk hc hcell go
  ·rcases hx with k | k
   ·have:X.env.scope.names.lookup x=some .free:=hk
    rw [k] at this; cases this
   ·have:X.env.scope.names.lookup x=some .free:=hk
    rw [k] at this; cases this
def ipI (f:Int→Int→Int):TIp:=fun x y H Q=>∃ i j,x=.int i∧y=.int j∧Q (.int (f i j)) H
theorem rP:PIp X .Add (ipI fun i j=>i+j):=by
 intro pins s σ H x y v u Q I r1 r2 h
 obtain ⟨i,j,e1,e2,q⟩:=h
 subst e1; subst e2
 obtain ⟨t,rfl⟩:=r1
 obtain ⟨t',rfl⟩:=r2
 exact iadd_int ⟨.int _,H,I.tok _,⟨_,rfl⟩,q⟩
def AF (c:TT) (tb:TS):TS:=fun D σ H=>∃ W:Nat→St→Hp→Prop,(∃ m,W m σ H)∧∀ m σ H,W m σ H →
 c σ H fun b H1=>if b=true then ∃ N:St→Hp→Prop,(∀ σ' H',N σ' H'→∃ m',m'<m∧W m' σ' H')∧tb { D with nx:=N,ct:=N,bk:=D.nx } σ H1 else D.nx σ H1
theorem gq {c:Expr} {body:List Stmt} {tc:TT} {tb:TS} (hp:PassesOwn (model X.prog X.w) X.A X.env X.xe) (hc:PT X c tc) (hb:PSs X body tb):PS X (.While c body [] pos) (AF tc tb):=by
 intro pins s σ H D I h
 obtain ⟨W,⟨m0,w0⟩,turn⟩:=h
 refine wpAny_While (codeAny_whileLoop (fun n s'=>∃ σ' H',Inv X pins σ' H' s'∧W n σ' H') ?_ m0 ⟨σ,H,I,w0⟩)
 rintro n s1 ⟨σ1,H1,I1,w1⟩
 refine wpAny_passesOwn hp (thn (hc pins s1 σ1 H1 _ I1 (turn n σ1 H1 w1)) fun b s2 ⟨H2,I2,q2⟩=>?_)
 cases b with
 | true =>
  obtain ⟨N,hN,q2⟩:=q2
  rw [if_pos rfl]
  refine wpAny_passesOwn hp (thn (hb pins s2 σ1 H2 _ I2 q2) fun f s3 q3=>?_)
  cases f with
  | next =>
   obtain ⟨σ3,H3,I3,n3⟩:=q3
   obtain ⟨m',hm,w3⟩:=hN σ3 H3 n3
   exact ⟨m',hm,σ3,H3,I3,w3⟩
  | cont =>
   obtain ⟨σ3,H3,I3,n3⟩:=q3
   obtain ⟨m',hm,w3⟩:=hN σ3 H3 n3
   exact ⟨m',hm,σ3,H3,I3,w3⟩
  | brk=>exact q3
  | ret v=>exact q3
 | false =>
  rw [if_neg Bool.false_ne_true]
  exact wpAny_execs_nil ⟨σ1,H2,I2,q2⟩
end
structure It where
 go:Nat→Hp→Prop
 yld:Nat→Hp→V→Hp→Prop
 stop:Nat→Hp→Prop
def fU (X:Cx) (pins:List (Addr×Obj)) (H:Hp) (b:Addr):Prop :=
 H b=none∧b≠X.env.locals∧b∉X.fs∧(b∈X.ex∨X.s₀.heap.objs.size≤b)∧(∀ x c,X.env.cells.lookup x=some c→c≠b)∧∀ p∈X.pn++pins,p.1≠b
theorem Inv.fpOk {X:Cx} {pins:List (Addr×Obj)} {σ:St} {H H':Hp} {s:Shared} {b:Addr} (I:Inv X pins σ H s) (hb:s.heap.objs.size≤b) (hn:H' b=none):fU X pins H' b:=by
 refine ⟨hn,Nat.ne_of_gt (Nat.lt_of_lt_of_le I.lt hb),I.nofs hb,.inr (Nat.le_trans I.sz hb),fun x c e z=>?_,fun p hp z=>?_⟩
 ·obtain ⟨v,q⟩:=I.cell x c e
  exact absurd (Nat.lt_of_lt_of_le q.lt (by rw [z]; exact hb)) (Nat.lt_irrefl _)
 ·exact absurd (Nat.lt_of_lt_of_le (Heap.lt_size (I.pin p hp).1) (by rw [z]; exact hb)) (Nat.lt_irrefl _)
structure ke (P:Program) (w:World) (K:Frag) (tg:Expr) (J:It) (fp:List Addr) (it:Addr) (tn:Nat→Heap→Prop):Prop where
 mem:it∈fp
 obj:∀ i h,tn i h→∀ b∈fp,∃ o,h.get? b=some o∧∀ v,o.data≠.cell v
 keep:∀ i h h',tn i h→(∀ b∈fp,∀ o,h.get? b=some o→h'.get? b=some o)→tn i h'
 item:∀ (X:Cx),X.prog=P→X.w=w→X.K=K→X.calm=true→∀ (i:Nat) (pins:List (Addr×Obj)) (s:Shared) (σ:St) (H:Hp) (E:Value→Shared→Prop),Inv X pins σ H s→(∀ b∈fp,fU X pins H b)→tn i s.heap→J.go i H →
  wpAny (model P w) X.A (pyNext (.ref it)) (fun r s1=>∃ u,r=some u ∧
   wpAny (model P w) X.A (letOwnedTupleGo tg (.ref it) u) (fun _ s2=>∃ x H',Inv X pins σ H' s2∧bh x u∧J.yld i H x H'∧tn (i+1) s2.heap∧∀ b∈fp,H' b=none) E s1) E s
 done:∀ (X:Cx),X.prog=P→X.w=w→X.K=K→X.calm=true→∀ (i:Nat) (pins:List (Addr×Obj)) (s:Shared) (σ:St) (H:Hp) (E:Value→Shared→Prop),Inv X pins σ H s→(∀ b∈fp,fU X pins H b)→tn i s.heap→J.stop i H →
  wpAny (model P w) X.A (pyNext (.ref it)) (fun r s1=>r=none∧Inv X pins σ H s1) E s
 self:∀ (A:Around) (i:Nat) (s:Shared) (Q:Value→Shared→Prop) (E:Value→Shared→Prop),tn i s.heap→Q (.ref it) s→wpAny (model P w) A (pyIter (.ref it)) Q E s
abbrev TI:=St→Hp→(It→Hp→Prop)→Prop
def PIE (X:Cx) (pins:List (Addr×Obj)) (σ:St) (tg:Expr) (R:It→Hp→Prop) (itv:Value) (s2:Shared):Prop :=
 ∃ (it:Addr) (fp:List Addr) (tn:Nat→Heap→Prop) (J:It) (H':Hp),itv=.ref it∧Inv X pins σ H' s2∧ke X.prog X.w X.K tg J fp it tn∧tn 0 s2.heap∧(∀ b∈fp,fU X pins H' b)∧R J H'
def PI (X:Cx) (tg iter:Expr) (wi:TI):Prop :=
 ∀ (pins:List (Addr×Obj)) (s:Shared) (σ:St) (H:Hp) (R:It→Hp→Prop),Inv X pins σ H s→wi σ H R →
  wpAny (model X.prog X.w) X.A (eval iter X.env) (fun v s1=>wpAny (model X.prog X.w) X.A (pyIter v) (PIE X pins σ tg R) X.xe s1) X.xe s
theorem jS {M:Model} {A:Around} {E:Value→Shared→Prop} {s:Shared} {tg:Expr} {it:Addr} {u:Value} {o:Obj} {n:String} {vs:Array Value} {Q:Unit→Shared→Prop} (ho:s.heap.get? it=some o) (hc:o.cls=.type n) (hd:o.data=.fields vs)
  (hn:["enumerate", "zip", "dict_itemiterator", "dict_reverseitemiterator", "odict_iterator", "itertools.zip_longest", "itertools.pairwise"].contains n=false) (hQ:Q () s):wpAny M A (letOwnedTupleGo tg (.ref it) u) Q E s:=by
 unfold letOwnedTupleGo
 cases tg<;>first
  | exact wpAny_pure hQ
  | (cases u<;>first
    | exact wpAny_pure hQ
    | (refine wpAny_bind (wpAny_load ho ?_)
       rw [hc,hd]
       show wpAny M A (if (["enumerate", "zip", "dict_itemiterator", "dict_reverseitemiterator", "odict_iterator", "itertools.zip_longest", "itertools.pairwise"].contains n&&vs[0]?==some (rawInt _))=true then _ else _) Q E s
       rw [if_neg (by intro h; rw [hn,Bool.false_and] at h; cases h)]
       exact wpAny_pure hQ))
def Itl (K:Frag) (a:Addr):It :=
 ⟨fun i H=>∃ xs x,SqL K H a xs∧xs[i]?=some x,fun i H x H'=>H'=H∧∀ xs,SqL K H a xs→xs[i]?=some x,fun i H=>∃ xs,SqL K H a xs∧xs.length≤i⟩
def Itt (K:Frag) (a:Addr):It :=
 ⟨fun i H=>∃ xs x,SqT K H a xs∧xs[i]?=some x,fun i H x H'=>H'=H∧∀ xs,SqT K H a xs→xs[i]?=some x,fun i H=>∃ xs,SqT K H a xs∧xs.length≤i⟩
def Itr (lo:Int) (n:Nat):It:=⟨fun i _=>i<n,fun i H x H'=>H'=H∧x=.int (lo+i),fun i _=>n≤i⟩
theorem we {P:Program} {w:World} {K:Frag} {tg:Expr} (a it:Addr):ke P w K tg (Itl K a) [it] it (fun i h=>h.IsListIter it a i) where
 mem:=by simp
 obj:=fun i h st b hb=>by
  have e:b=it:=by simpa using hb
  subst e
  obtain ⟨o,e,c,d⟩:=st
  exact ⟨o,e,fun v z=>by rw [d] at z; cases z⟩
 keep:=fun i h h' st k=>st.at fun o e=>k it (by simp) o e
 item:=by
  intro X hP hw hK hc i pins s σ H E I hf st hg
  subst hP hw hK
  obtain ⟨xs,x,hq,hx⟩:=hg
  obtain ⟨its,rv,p,hz⟩:=I.list hq
  obtain ⟨u,hu,ru⟩:=rv.get hx
  obtain ⟨f0,f1,f2,f3,f4,f5⟩:=hf it (by simp)
  refine wpAny_pyNext_list_item st p.isList (x:=u) (by simpa using hu) fun h' st' sb=>?_
  have I1:Inv X pins σ H { s with heap:=h' }:=I.turned (t':=s.toks) (fun b o hb e=>(sb.2 b hb).trans e) f0 f1 f3 f4 f5
  obtain ⟨o,e,c,d⟩:=id st'
  exact ⟨u,rfl,jS (s:={ s with heap:=h' }) e c d (by decide) ⟨x,H,I1,ru,⟨rfl,fun ys hy=>by rw [I.list_inj hy hq]; exact hx⟩,st',fun b hb=>(hf b hb).1⟩⟩
 done:=by
  intro X hP hw hK hc i pins s σ H E I hf st hg
  subst hP hw hK
  obtain ⟨xs,hq,hx⟩:=hg
  obtain ⟨its,rv,p,hz⟩:=I.list hq
  obtain ⟨f0,f1,f2,f3,f4,f5⟩:=hf it (by simp)
  have hl:=rv.length
  exact wpAny_pyNext_list_end (I.ok.hd hc) st p.isList (by simp; omega) fun h' eb=>⟨rfl,I.turned (t':=s.toks) (fun b o hb e=>eb b o hb e) f0 f1 f3 f4 f5⟩
 self:=fun _ _ _ _ _ st h=>wpAny_pyIter_listiter st h
theorem sj {P:Program} {w:World} {K:Frag} {tg:Expr} (a it:Addr):ke P w K tg (Itt K a) [it] it (fun i h=>h.IsTupleIter it a i) where
 mem:=by simp
 obj:=fun i h st b hb=>by
  have e:b=it:=by simpa using hb
  subst e
  obtain ⟨o,e,c,d⟩:=st
  exact ⟨o,e,fun v z=>by rw [d] at z; cases z⟩
 keep:=fun i h h' st k=>st.at fun o e=>k it (by simp) o e
 item:=by
  intro X hP hw hK hc i pins s σ H E I hf st hg
  subst hP hw hK
  obtain ⟨xs,x,hq,hx⟩:=hg
  obtain ⟨its,rv,p,hz⟩:=I.tuple hq
  obtain ⟨u,hu,ru⟩:=rv.get hx
  obtain ⟨f0,f1,f2,f3,f4,f5⟩:=hf it (by simp)
  refine wpAny_pyNext_tuple_item st (show s.heap.IsTuple a its.toArray from p) (x:=u) (by simpa using hu) fun h' st' sb=>?_
  have I1:Inv X pins σ H { s with heap:=h' }:=I.turned (t':=s.toks) (fun b o hb e=>(sb.2 b hb).trans e) f0 f1 f3 f4 f5
  obtain ⟨o,e,c,d⟩:=id st'
  exact ⟨u,rfl,jS (s:={ s with heap:=h' }) e c d (by decide) ⟨x,H,I1,ru,⟨rfl,fun ys hy=>by rw [I.tuple_inj hy hq]; exact hx⟩,st',fun b hb=>(hf b hb).1⟩⟩
 done:=by
  intro X hP hw hK hc i pins s σ H E I hf st hg
  subst hP hw hK
  obtain ⟨xs,hq,hx⟩:=hg
  obtain ⟨its,rv,p,hz⟩:=I.tuple hq
  obtain ⟨f0,f1,f2,f3,f4,f5⟩:=hf it (by simp)
  have hl:=rv.length
  exact wpAny_pyNext_tuple_end (I.ok.hd hc) st (show s.heap.IsTuple a its.toArray from p) (by simp; omega) fun h' eb=>⟨rfl,I.turned (t':=s.toks) (fun b o hb e=>eb b o hb e) f0 f1 f3 f4 f5⟩
 self:=fun _ _ _ _ _ st h=>wpAny_pyIter_tupleiter st h
theorem uT {P:Program} {w:World} {K:Frag} {tg:Expr} (it:Addr) (lo:Int) (n:Nat):ke P w K tg (Itr lo n) [it] it (fun i h=>IsRangeIter h it (lo+(i:Nat)*1) ((n:Int) - (i:Nat)) 1) where
 mem:=by simp
 obj:=fun i h st b hb=>by
  have e:b=it:=by simpa using hb
  subst e
  exact ⟨_,st,fun v z=>by
   have z':Data.fields _=Data.cell v:=z
   cases z'⟩
 keep:=fun i h h' st k=>k it (by simp) _ st
 item:=by
  intro X hP hw hK hc i pins s σ H E I hf st hg
  subst hP hw hK
  obtain ⟨f0,f1,f2,f3,f4,f5⟩:=hf it (by simp)
  have W:=Walks.range (prog:=X.prog) (w:=X.w) (I.ok.hd hc) it lo 1 n
  refine W.item i s _ _ hg st fun v h' tk hv st' kk=>?_
  obtain ⟨t,rfl⟩:=hv
  have I1:Inv X pins σ H { s with heap:=h',toks:=tk }:=I.turned (fun b o hb e=>kk b o (by simpa using hb) e) f0 f1 f3 f4 f5
  refine ⟨_,rfl,jS (s:={ s with heap:=h',toks:=tk }) (n := "range_iterator") st' rfl rfl (by decide) ⟨.int (lo+i),H,I1,⟨t,?_⟩,⟨rfl,rfl⟩,st',fun b hb=>(hf b hb).1⟩⟩
  rw [Int.mul_one]
 done:=by
  intro X hP hw hK hc i pins s σ H E I hf st hg
  subst hP hw hK
  obtain ⟨f0,f1,f2,f3,f4,f5⟩:=hf it (by simp)
  exact wpAny_pyNext_range_end (I.ok.hd hc) st (by have:n≤i:=hg; omega) fun h' eb=>⟨rfl,I.turned (t':=s.toks) (fun b o hb e=>eb b o hb e) f0 f1 f3 f4 f5⟩
 self:=fun _ _ _ _ _ st h=>wpAny_pyIter_rangeiter st h
open PySem PySem.Spec PyProof.Rows
section
variable {X:Cx} {tg:Expr}
def Cq (K:Frag) (tl:TE):TI:=fun σ H R=>tl σ H fun x H1=>∃ a,x=.ref a∧(∃ xs,SqL K H1 a xs)∧R (Itl K a) H1
def Dv (K:Frag) (tl:TE):TI:=fun σ H R=>tl σ H fun x H1=>∃ a,x=.ref a∧(∃ xs,SqT K H1 a xs)∧R (Itt K a) H1
theorem dR {l:Expr} {tl:TE} (hl:PE X l tl):PI X tg l (Cq X.K tl):=by
 intro pins s σ H R I h
 refine thn (hl pins s σ H _ I h) fun v s1 ⟨x,H1,I1,r1,q1⟩=>?_
 obtain ⟨a,e,⟨xs,hq⟩,q⟩:=q1
 subst e
 cases r1
 obtain ⟨its,rv,p,hz⟩:=I1.list hq
 refine wpAny_pyIter_list p.isList ?_
 refine ⟨s1.heap.objs.size,[s1.heap.objs.size],_,_,H1,rfl,I1.kept (t':=s1.toks) fun b o e=>Heap.get?_push_of_some _ e,we a _,⟨_,Heap.get?_push_size _ rfl,rfl,rfl⟩,fun b hb=>?_,q⟩
 have e:b=s1.heap.objs.size:=by simpa using hb
 subst e
 exact I1.fpOk (Nat.le_refl _) (I1.hok.fresh (Nat.le_refl _))
theorem ca {l:Expr} {tl:TE} (hl:PE X l tl):PI X tg l (Dv X.K tl):=by
 intro pins s σ H R I h
 refine thn (hl pins s σ H _ I h) fun v s1 ⟨x,H1,I1,r1,q1⟩=>?_
 obtain ⟨a,e,⟨xs,hq⟩,q⟩:=q1
 subst e
 cases r1
 obtain ⟨its,rv,p,hz⟩:=I1.tuple hq
 refine wpAny_pyIter_tuple (show s1.heap.IsTuple a its.toArray from p) ?_
 refine ⟨s1.heap.objs.size,[s1.heap.objs.size],_,_,H1,rfl,I1.kept (t':=s1.toks) fun b o e=>Heap.get?_push_of_some _ e,sj a _,⟨_,Heap.get?_push_size _ rfl,rfl,rfl⟩,fun b hb=>?_,q⟩
 have e:b=s1.heap.objs.size:=by simpa using hb
 subst e
 exact I1.fpOk (Nat.le_refl _) (I1.hok.fresh (Nat.le_refl _))
theorem xA {pins:List (Addr×Obj)} {σ:St} {H:Hp} {s:Shared} {R:It→Hp→Prop} {E:Value→Shared→Prop} {lo hi:Int} {t u v:Tok} {tk:Nat} (I:Inv X pins σ H s) (h1:-(2 ^ 62)≤lo) (h2:lo<2 ^ 62) (h3:-(2 ^ 62)≤hi) (h4:hi<2 ^ 62)
  (q:R (Itr lo (hi - lo).toNat) H):wpAny (model X.prog X.w) X.A (pyIter (.ref s.heap.objs.size)) (PIE X pins σ tg R) E { s with heap:=s.heap.push { cls:=.type "range",data:=.fields #[.int lo t,.int hi u,.int 1 v] },toks:=tk }:=by
 refine wpAny_pyIter_range (IsRange.new ..) (small_one h1 h2 h3 h4) ?_
 have I1:Inv X pins σ H { s with heap:=s.heap.push { cls:=.type "range",data:=.fields #[.int lo t,.int hi u,.int 1 v] },toks:=tk }:=I.kept fun b o e=>Heap.get?_push_of_some _ e
 refine ⟨(s.heap.push { cls:=.type "range",data:=.fields #[.int lo t,.int hi u,.int 1 v] }).objs.size,[(s.heap.push { cls:=.type "range",data:=.fields #[.int lo t,.int hi u,.int 1 v] }).objs.size],_,_,H,rfl,
  I1.kept (t':=tk) fun b o e=>Heap.get?_push_of_some _ e,uT _ lo (hi - lo).toNat,?_,fun b hb=>?_,q⟩
 ·have e1:lo+((0:Nat):Int)*1=lo:=by simp
  have e2:(((hi - lo).toNat:Nat):Int) - ((0:Nat):Int)=Builtin.Range.rangeSize lo hi 1:=by rw [rangeSize_one]; split<;>omega
  show IsRangeIter _ _ (lo+((0:Nat):Int)*1) ((((hi - lo).toNat:Nat):Int) - ((0:Nat):Int)) 1
  rw [e1,e2]
  exact Heap.get?_push_size _ rfl
 ·have e:b=(s.heap.push { cls:=.type "range",data:=.fields #[.int lo t,.int hi u,.int 1 v] }).objs.size:=by simpa using hb
  subst e
  exact I1.fpOk (Nat.le_refl _) (I1.hok.fresh (Nat.le_refl _))
def Cm (ta:TA):TI:=fun σ H R=>ta σ H fun vs H1=>∃ j:Int,vs=[.int j]∧-(2 ^ 62)≤j∧j<2 ^ 62∧R (Itr 0 j.toNat) H1
theorem ik {a:Expr} {ta:TA} {p pos:Pos} (hg:Gl X "range") (hm:X.mg "range"=none) (ha:PA X [a] ta) (hs:starEach [a] X.env=[(false,eval a X.env)]:=by rfl):PI X tg (.Call (.Name "range" p) [a] [] pos) (Cm ta):=by
 intro pins s σ H R I h
 refine Call_ (dN I hg hm boot_range (PyProof.Rows.callWith_type1 (thn (ha pos pins s σ H _ I h) fun us s1 ⟨vs,H1,I1,r1,q1⟩=>?_) hs rfl))
 obtain ⟨j,e,q1,q2,q⟩:=q1
 subst e
 cases r1 with
 | cons r rr =>
  cases rr
  obtain ⟨t,rfl⟩:=r
  exact call_range_1 (xA I1 (by omega) (by omega) q1 q2 (by simpa using q))
def Di (wi:TI) (g:TG) (tb:TS):TS:=fun D σ H=>wi σ H fun J H1=>∃ W:Nat→Nat→St→Hp→Prop,(∃ m,W 0 m σ H1)∧∀ i m σ H,W i m σ H →
 (J.stop i H∧D.nx σ H)∨(J.go i H∧∃ N:St→Hp→Prop,(∀ σ' H',N σ' H'→∃ m',m'<m∧W (i+1) m' σ' H')∧∀ x H',J.yld i H x H'→g x σ H' fun σ2 H2=>tb { D with nx:=N,ct:=N,bk:=D.nx } σ2 H2)
def ig (fp:List Addr) (h:Heap):List (Addr×Obj):=fp.filterMap fun b=>(h.get? b).map fun o=>(b,o)
theorem cN {fp:List Addr} {h:Heap} {b:Addr} {o:Obj} (hb:b∈fp) (e:h.get? b=some o):(b,o)∈ig fp h:=List.mem_filterMap.mpr ⟨b,hb,by rw [e]; rfl⟩
theorem wm {fp:List Addr} {h:Heap} {p:Addr×Obj} (hp:p∈ig fp h):p.1∈fp∧h.get? p.1=some p.2:=by
 obtain ⟨b,hb,e⟩:=List.mem_filterMap.mp hp
 cases q:h.get? b with
 | none=>rw [q] at e; cases e
 | some o =>
  rw [q] at e
  have e':(b,o)=p:=Option.some.inj e
  subst e'
  exact ⟨hb,q⟩
theorem Inv.pinned {pins:List (Addr×Obj)} {σ:St} {H:Hp} {s:Shared} {fp:List Addr} (I:Inv X pins σ H s) (hf:∀ b∈fp,fU X pins H b) (ho:∀ b∈fp,∃ o,s.heap.get? b=some o∧∀ v,o.data≠.cell v):Inv X (pins++ig fp s.heap) σ H s :=
 I.pins_of fun p hp=>(List.mem_append.mp hp).elim (fun z=>I.pin p (List.mem_append_right _ z)) fun z=>by
  obtain ⟨hb,e⟩:=wm z
  obtain ⟨f0,f1,f2,_⟩:=hf p.1 hb
  obtain ⟨o,e',d⟩:=ho p.1 hb
  rw [e] at e'; cases e'
  exact ⟨e,f0,f1,f2,d⟩
theorem Inv.unpinned {pins pl:List (Addr×Obj)} {σ:St} {H:Hp} {s:Shared} (I:Inv X (pins++pl) σ H s):Inv X pins σ H s:=I.pins_of fun p hp=>I.pin p (List.mem_append_right _ (List.mem_append_left _ hp))
theorem cB {iter:Expr} {body:List Stmt} {wi:TI} {g:TG} {tb:TS} {pos:Pos} (hp:PassesOwn (model X.prog X.w) X.A X.env X.xe) (hc:X.calm=true) (hi:PI X tg iter wi) (hg:PG X tg g) (hb:PSs X body tb)
  (hs:∀ x,foldedSetIterable iter X.env x=pure x:=by intro _; rfl):PS X (.For tg iter body [] pos) (Di wi g tb):=by
 intro pins s σ H D I h
 refine wpAny_For (thn (hi pins s σ H _ I h) fun v s1 h1=>thn h1 fun itv s2 h2=>?_) hs
 obtain ⟨it,fp,tn,J,H2,e,I2,T,st2,f2,W,⟨m0,w0⟩,turn⟩:=h2
 subst e
 -- what stays true of the iterator's objects through the loop
 have stat:∀ {H':Hp},(∀ b∈fp,H' b=none)→∀ b∈fp,fU X pins H' b:=fun hn b hb=>⟨hn b hb,(f2 b hb).2⟩
 refine codeAny_forLoop_any (fun n s'=>∃ i σ' H',Inv X pins σ' H' s'∧tn i s'.heap∧(∀ b∈fp,H' b=none)∧W i n σ' H') ?_ m0 ⟨0,σ,H2,I2,st2,fun b hb=>(f2 b hb).1,w0⟩
 rintro n s3 ⟨i,σ3,H3,I3,st3,fr3,w3⟩
 rcases turn i n σ3 H3 w3 with ⟨stop,qn⟩ | ⟨go,N,hN,step⟩
 ·refine wpAny_passesOwn hp (thn (T.done X rfl rfl rfl hc i pins s3 σ3 H3 X.xe I3 (stat fr3) st3 stop) fun r s4 ⟨hr,I4⟩=>?_)
  subst hr
  exact wpAny_execs_nil ⟨σ3,H3,I4,qn⟩
 ·refine wpAny_passesOwn hp (thn (T.item X rfl rfl rfl hc i pins s3 σ3 H3 X.xe I3 (stat fr3) st3 go) fun r s4 ⟨u,hr,h4⟩=>?_)
  subst hr
  refine wpAny_passesOwn hp (thn h4 fun _ s5 ⟨x,H5,I5,r5,y5,st5,fr5⟩=>?_)
  have I5':=I5.pinned (stat fr5) (T.obj _ _ st5)
  refine wpAny_passesOwn hp (thn (hg _ s5 σ3 H5 x u _ I5' r5 (step x H5 y5)) fun _ s6 ⟨σ6,H6,I6,q6⟩=>?_)
  refine wpAny_passesOwn hp (thn (hb _ s6 σ6 H6 _ I6 q6) fun f s7 q7=>?_)
  have again:∀ {σ7:St} {H7:Hp},Inv X (pins++ig fp s5.heap) σ7 H7 s7→N σ7 H7→∃ m,m<n∧∃ i σ' H',Inv X pins σ' H' s7∧tn i s7.heap∧(∀ b∈fp,H' b=none)∧W i m σ' H':=fun {σ7 H7} I7 n7=>by
   obtain ⟨m',hm,w7⟩:=hN σ7 H7 n7
   refine ⟨m',hm,i+1,σ7,H7,I7.unpinned,T.keep _ _ _ st5 fun b hb o e=>(I7.pin (b,o) (List.mem_append_right _ (List.mem_append_right _ (cN hb e)))).1,fun b hb=>?_,w7⟩
   obtain ⟨o,e,d⟩:=T.obj _ _ st5 b hb
   exact (I7.pin (b,o) (List.mem_append_right _ (List.mem_append_right _ (cN hb e)))).2.1
  cases f with
  | next=>obtain ⟨σ7,H7,I7,n7⟩:=q7; exact again I7 n7
  | cont=>obtain ⟨σ7,H7,I7,n7⟩:=q7; exact again I7 n7
  | brk=>obtain ⟨σ7,H7,I7,q7⟩:=q7; exact ⟨σ7,H7,I7.unpinned,q7⟩
  | ret v=>obtain ⟨x7,σ7,H7,I7,r7,q7⟩:=q7; exact ⟨x7,σ7,H7,I7.unpinned,r7,q7⟩
end
theorem xz {K:Frag} {a:Addr} {xs:List V} {g:TG} {tb:TS} {D:kn} {σ:St} {H:Hp} (Pv:Nat→St→Hp→Prop) (h0:Pv 0 σ H) (hl:∀ i σ H,i≤xs.length→Pv i σ H→SqL K H a xs)
  (hs:∀ i x σ H,xs[i]?=some x→Pv i σ H→g x σ H fun σ2 H2=>tb { D with nx:=Pv (i+1),ct:=Pv (i+1),bk:=D.nx } σ2 H2) (hd:∀ σ H,Pv xs.length σ H→D.nx σ H) :
  ∃ W:Nat→Nat→St→Hp→Prop,(∃ m,W 0 m σ H)∧∀ i m σ H,W i m σ H →
   ((Itl K a).stop i H∧D.nx σ H)∨((Itl K a).go i H∧∃ N:St→Hp→Prop,(∀ σ' H',N σ' H'→∃ m',m'<m∧W (i+1) m' σ' H')∧∀ x H',(Itl K a).yld i H x H'→g x σ H' fun σ2 H2=>tb { D with nx:=N,ct:=N,bk:=D.nx } σ2 H2):=by
 refine ⟨fun i m σ H=>m=xs.length - i∧i≤xs.length∧Pv i σ H,⟨xs.length,by simp,Nat.zero_le _,h0⟩,?_⟩
 rintro i m σ H ⟨rfl,hi,p⟩
 have q:=hl i σ H hi p
 by_cases hlt:i<xs.length
 ·refine .inr ⟨⟨xs,xs[i],q,by simp [hlt]⟩,Pv (i+1),fun σ' H' p'=>⟨xs.length - (i+1),by omega,rfl,hlt,p'⟩,fun x H' y=>?_⟩
  obtain ⟨e,y⟩:=y
  subst e
  exact hs i x σ _ (y xs q) p
 ·have e:i=xs.length:=by omega
  subst e
  exact .inl ⟨⟨xs,q,Nat.le_refl _⟩,hd σ H p⟩
theorem iW {K:Frag} {a:Addr} {xs:List V} {g:TG} {tb:TS} {D:kn} {σ:St} {H:Hp} (Pv:Nat→St→Hp→Prop) (h0:Pv 0 σ H) (hl:∀ i σ H,i≤xs.length→Pv i σ H→SqT K H a xs)
  (hs:∀ i x σ H,xs[i]?=some x→Pv i σ H→g x σ H fun σ2 H2=>tb { D with nx:=Pv (i+1),ct:=Pv (i+1),bk:=D.nx } σ2 H2) (hd:∀ σ H,Pv xs.length σ H→D.nx σ H) :
  ∃ W:Nat→Nat→St→Hp→Prop,(∃ m,W 0 m σ H)∧∀ i m σ H,W i m σ H →
   ((Itt K a).stop i H∧D.nx σ H)∨((Itt K a).go i H∧∃ N:St→Hp→Prop,(∀ σ' H',N σ' H'→∃ m',m'<m∧W (i+1) m' σ' H')∧∀ x H',(Itt K a).yld i H x H'→g x σ H' fun σ2 H2=>tb { D with nx:=N,ct:=N,bk:=D.nx } σ2 H2):=by
 refine ⟨fun i m σ H=>m=xs.length - i∧i≤xs.length∧Pv i σ H,⟨xs.length,by simp,Nat.zero_le _,h0⟩,?_⟩
 rintro i m σ H ⟨rfl,hi,p⟩
 have q:=hl i σ H hi p
 by_cases hlt:i<xs.length
 ·refine .inr ⟨⟨xs,xs[i],q,by simp [hlt]⟩,Pv (i+1),fun σ' H' p'=>⟨xs.length - (i+1),by omega,rfl,hlt,p'⟩,fun x H' y=>?_⟩
  obtain ⟨e,y⟩:=y
  subst e
  exact hs i x σ _ (y xs q) p
 ·have e:i=xs.length:=by omega
  subst e
  exact .inl ⟨⟨xs,q,Nat.le_refl _⟩,hd σ H p⟩
theorem hX {lo:Int} {n:Nat} {g:TG} {tb:TS} {D:kn} {σ:St} {H:Hp} (Pv:Nat→St→Hp→Prop) (h0:Pv 0 σ H)
  (hs:∀ i σ H,i<n→Pv i σ H→g (.int (lo+i)) σ H fun σ2 H2=>tb { D with nx:=Pv (i+1),ct:=Pv (i+1),bk:=D.nx } σ2 H2) (hd:∀ σ H,Pv n σ H→D.nx σ H) :
  ∃ W:Nat→Nat→St→Hp→Prop,(∃ m,W 0 m σ H)∧∀ i m σ H,W i m σ H →
   ((Itr lo n).stop i H∧D.nx σ H)∨((Itr lo n).go i H∧∃ N:St→Hp→Prop,(∀ σ' H',N σ' H'→∃ m',m'<m∧W (i+1) m' σ' H')∧∀ x H',(Itr lo n).yld i H x H'→g x σ H' fun σ2 H2=>tb { D with nx:=N,ct:=N,bk:=D.nx } σ2 H2):=by
 refine ⟨fun i m σ H=>m=n - i∧i≤n∧Pv i σ H,⟨n,by simp,Nat.zero_le _,h0⟩,?_⟩
 rintro i m σ H ⟨rfl,hi,p⟩
 by_cases hlt:i<n
 ·refine .inr ⟨hlt,Pv (i+1),fun σ' H' p'=>⟨n - (i+1),by omega,rfl,hlt,p'⟩,fun x H' y=>?_⟩
  obtain ⟨e,y⟩:=y
  subst e y
  exact hs i σ _ hlt p
 ·have e:i=n:=by omega
  subst e
  exact .inl ⟨Nat.le_refl _,hd σ H p⟩
open PySem PySem.Spec PyProof.Rows
abbrev R2:=V→V→Hp→VK→Prop
def OpR (X:Cx) (f:Value→Value→Sem Value) (r:R2):Prop :=
 ∀ (pins:List (Addr×Obj)) (s:Shared) (σ:St) (H:Hp) (x y:V) (v u:Value) (Q:VK),Inv X pins σ H s→bh x v→bh y u→r x y H Q →
  wpAny (model X.prog X.w) X.A (f v u) (EP X pins σ Q) X.xe s
def UnR (X:Cx) (f:Value→Sem Value) (r:V→Hp→VK→Prop):Prop :=
 ∀ (pins:List (Addr×Obj)) (s:Shared) (σ:St) (H:Hp) (x:V) (v:Value) (Q:VK),Inv X pins σ H s→bh x v→r x H Q →
  wpAny (model X.prog X.w) X.A (f v) (EP X pins σ Q) X.xe s
def ef (X:Cx) (f:Value) (r:List V→Hp→VK→Prop):Prop :=
 ∀ (pins:List (Addr×Obj)) (s:Shared) (σ:St) (H:Hp) (xs:List V) (us:List Value) (Q:VK),Inv X pins σ H s→aY xs us→r xs H Q →
  wpAny (model X.prog X.w) X.A (call f us) (EP X pins σ Q) X.xe s
def DO (X:Cx) (r:V→Hp→(Bool→Hp→Prop)→Prop):Prop :=
 ∀ (pins:List (Addr×Obj)) (s:Shared) (σ:St) (H:Hp) (x:V) (v:Value) (Q:Bool→Hp→Prop),Inv X pins σ H s→bh x v→r x H Q →
  wpAny (model X.prog X.w) X.A (truthy v) (TP X pins σ Q) X.xe s
def tOp (r:R2) (ta tb:TE):TE:=fun σ H Q=>ta σ H fun x H1=>tb σ H1 fun y H2=>r x y H2 Q
def tUn (r:V→Hp→VK→Prop) (ta:TE):TE:=fun σ H Q=>ta σ H fun x H1=>r x H1 Q
def rI (C:Int→Int→Prop) (g:Int→Int→V):R2:=fun x y H Q=>∃ i j,x=.int i∧y=.int j∧C i j∧Q (g i j) H
def rI0 (g:Int→Int→V):R2:=fun x y H Q=>∃ i j,x=.int i∧y=.int j∧Q (g i j) H
def rU (g:Int→V):V→Hp→VK→Prop:=fun x H Q=>∃ i,x=.int i∧Q (g i) H
section
variable {X:Cx} {a b c:Expr} {ta tb tc:TE} {pos:Pos}
theorem Ba (ha:PE X a ta) (hb:PE X b tb) {pins:List (Addr×Obj)} {s:Shared} {σ:St} {H:Hp} {R:V→V→Hp→Prop} (I:Inv X pins σ H s)
  (h:ta σ H fun x H1=>tb σ H1 fun y H2=>R x y H2) {Q:Value→Shared→Prop} {f:Value→Value→Sem Value}
  (hf:∀ v u s2 x y H2,Inv X pins σ H2 s2→bh x v→bh y u→R x y H2→wpAny (model X.prog X.w) X.A (f v u) Q X.xe s2) :
  wpAny (model X.prog X.w) X.A (eval a X.env) (fun v s₁=>wpAny (model X.prog X.w) X.A (eval b X.env) (fun u s₂=>wpAny (model X.prog X.w) X.A (f v u) Q X.xe s₂) X.xe s₁) X.xe s:=by
 refine thn (ha pins s σ H _ I h) fun v s1 ⟨x,H1,I1,r1,q1⟩=>?_
 refine thn (hb pins s1 σ H1 _ I1 q1) fun u s2 ⟨y,H2,I2,r2,q2⟩=>?_
 exact hf v u s2 x y H2 I2 r1 r2 q2
theorem bJ {op:Operator} {r:R2} (ho:OpR X (binaryOp op) r) (ha:PE X a ta) (hb:PE X b tb):PE X (.BinOp a op b pos) (tOp r ta tb):=by
 intro pins s σ H Q I h
 exact wpAny_BinOp (Ba ha hb I h fun v u s2 x y H2 I2 rx ry q=>ho pins s2 σ H2 x y v u Q I2 rx ry q)
theorem fJ {op:UnaryOp} {r:V→Hp→VK→Prop} (ho:UnR X (unaryOp op) r) (ha:PE X a ta):PE X (.UnaryOp op a pos) (tUn r ta):=by
 intro pins s σ H Q I h
 exact UnaryOp_ (thn (ha pins s σ H _ I h) fun v s1 ⟨x,H1,I1,r1,q1⟩=>ho pins s1 σ H1 x v Q I1 r1 q1)
theorem opI {f:Value→Value→Sem Value} {C:Int→Int→Prop} {g:Int→Int→Int}
  (rule:∀ (i j:Int) (t u:Tok) (s:Shared) (Q:Value→Shared→Prop) (E:Value→Shared→Prop),C i j→Q (.int (g i j) s.toks) { s with toks:=s.toks+1 }→wpAny (model X.prog X.w) X.A (f (.int i t) (.int j u)) Q E s) :
  OpR X f (rI C fun i j=>.int (g i j)):=by
 intro pins s σ H x y v u Q I rx ry h
 obtain ⟨i,j,rfl,rfl,hc,q⟩:=h
 obtain ⟨t,rfl⟩:=rx
 obtain ⟨t',rfl⟩:=ry
 exact rule i j t t' s _ _ hc ⟨.int (g i j),H,I.tok _,⟨_,rfl⟩,q⟩
theorem CG {f:Value→Value→Sem Value} {g:Int→Int→Int}
  (rule:∀ (i j:Int) (t u:Tok) (s:Shared) (Q:Value→Shared→Prop) (E:Value→Shared→Prop),Q (.int (g i j) s.toks) { s with toks:=s.toks+1 }→wpAny (model X.prog X.w) X.A (f (.int i t) (.int j u)) Q E s) :
  OpR X f (rI0 fun i j=>.int (g i j)):=by
 intro pins s σ H x y v u Q I rx ry h
 obtain ⟨i,j,rfl,rfl,q⟩:=h
 obtain ⟨t,rfl⟩:=rx
 obtain ⟨t',rfl⟩:=ry
 exact rule i j t t' s _ _ ⟨.int (g i j),H,I.tok _,⟨_,rfl⟩,q⟩
theorem BF {f:Value→Value→Sem Value} {g:Int→Int→Bool}
  (rule:∀ (i j:Int) (t u:Tok) (s:Shared) (Q:Value→Shared→Prop) (E:Value→Shared→Prop),Q (.bool (g i j)) s→wpAny (model X.prog X.w) X.A (f (.int i t) (.int j u)) Q E s) :
  OpR X f (rI0 fun i j=>.bl (g i j)):=by
 intro pins s σ H x y v u Q I rx ry h
 obtain ⟨i,j,rfl,rfl,q⟩:=h
 obtain ⟨t,rfl⟩:=rx
 obtain ⟨t',rfl⟩:=ry
 exact rule i j t t' s _ _ ⟨.bl (g i j),H,I,rfl,q⟩
def DL (i j:Int):Prop:=0<j∧j<1073741824
def Cv (i j:Int):Prop:=0≤j∧j≤1000000∧i.natAbs<2 ^ 64
def zE (i j:Int):Prop:=(-(2 ^ 64)<i∧i<2 ^ 64)∨(-(2 ^ 64)<j∧j<2 ^ 64)
theorem zE.ok {i j:Int} (h:zE i j):IntMulOk i j:=by
 rcases h with ⟨h1,h2⟩ | ⟨h1,h2⟩
 ·exact .of_left (intBits_le_64 h1 h2)
 ·exact .of_right (intBits_le_64 h1 h2)
theorem ip:OpR X (binaryOp .Add) (rI0 fun i j=>.int (i+j)):=CG fun _ _ _ _ _ _ _ q=>add_int q
theorem AI:OpR X (binaryOp .Sub) (rI0 fun i j=>.int (i - j)):=CG fun _ _ _ _ _ _ _ q=>sub_int q
theorem nk:OpR X (binaryOp .Mult) (rI zE fun i j=>.int (i*j)):=opI fun _ _ _ _ _ _ _ hc q=>mul_int q hc.ok
theorem zf:OpR X (binaryOp .FloorDiv) (rI DL fun i j=>.int (i / j)):=opI fun i j _ _ _ _ _ hc q=>by
 have h1:(0:Int)<j:=hc.1
 have h2:j<1073741824:=hc.2
 exact floordiv_int (by omega) (by rw [Int.fdiv_eq_ediv_of_nonneg i (by omega)]; exact q) (.inl (PyProof.noPylong_small (by omega)))
theorem eC:OpR X (binaryOp .Mod) (rI (fun _ j=>0<j) fun i j=>.int (i % j)):=opI fun i j _ _ _ _ _ hc q=>by
 have h1:(0:Int)<j:=hc
 exact mod_int' (by omega) (by rw [Int.fmod_eq_emod_of_nonneg i (by omega)]; exact q)
theorem xP:OpR X (binaryOp .Pow) (rI Cv fun i j=>.int (i ^ j.toNat)):=opI fun _ _ _ _ _ _ _ hc q=>pow_int_small hc.1 hc.2.1 hc.2.2 q
theorem unI {f:Value→Sem Value} {g:Int→Int}
  (rule:∀ (i:Int) (t:Tok) (s:Shared) (Q:Value→Shared→Prop) (E:Value→Shared→Prop),Q (.int (g i) s.toks) { s with toks:=s.toks+1 }→wpAny (model X.prog X.w) X.A (f (.int i t)) Q E s) :
  UnR X f (rU fun i=>.int (g i)):=by
 intro pins s σ H x v Q I rx h
 obtain ⟨i,rfl,q⟩:=h
 obtain ⟨t,rfl⟩:=rx
 exact rule i t s _ _ ⟨.int (g i),H,I.tok _,⟨_,rfl⟩,q⟩
theorem cS:UnR X (unaryOp .USub) (rU fun i=>.int (-i)):=unI fun _ _ _ _ _ q=>neg_int q
end
def Co:V→V→Bool
 | .non,.non=>true | .non,.int _=>true | .int _,.non=>true | .non,.bl _=>true | .bl _,.non=>true | .non,.str _=>true | .str _,.non=>true
 | .int _,.int _=>true | .bl _,.bl _=>true | .str _,.str _=>true | .byt _,.byt _=>true
 | .int _,.str _=>true | .str _,.int _=>true | .bl _,.str _=>true | .str _,.bl _=>true
 | _,_=>false
def rEq:R2:=fun x y H Q=>Co x y=true∧Q (.bl (decide (x=y))) H
def rNe:R2:=fun x y H Q=>Co x y=true∧Q (.bl (!decide (x=y))) H
theorem vi {i j:Int}:decide (V.int i=V.int j)=(i==j):=by
 rw [Bool.eq_iff_iff]
 simp
theorem ze {i j:Bool}:decide (V.bl i=V.bl j)=(i==j):=by
 rw [Bool.eq_iff_iff]
 simp
theorem uY {i j:Str}:decide (V.str i=V.str j)=(i==j):=by
 rw [Bool.eq_iff_iff]
 simp
theorem vg {i j:Array UInt8}:decide (V.byt i=V.byt j)=(i.toList==j.toList):=by
 rw [Bool.eq_iff_iff]
 cases i
 cases j
 simp
section
variable {X:Cx} {a b c:Expr} {ta tb tc:TE} {pos:Pos}
theorem aZ {pins:List (Addr×Obj)} {σ:St} {H:Hp} {s:Shared} {Q:VK} {k k':Bool} (I:Inv X pins σ H s) (q:Q (.bl k) H) (e:k=k'):EP X pins σ Q (.bool k') s:=by
 subst e
 exact ⟨.bl k,H,I,rfl,q⟩
theorem bA:OpR X (compareOp .Eq) rEq:=by
 intro pins s σ H x y v u Q I rx ry h
 obtain ⟨hs,q⟩:=h
 cases x with
 | non =>
  cases rx
  cases y with
  | non=>cases ry; exact PySem.EqNone.eq_none_none (aZ I q (by simp))
  | bl j=>cases ry; exact PySem.EqNone.eq_none_bool (aZ I q (by simp))
  | int j=>obtain ⟨t',rfl⟩:=ry; exact PySem.EqNone.eq_none_int (aZ I q (by simp))
  | str j=>obtain ⟨t',rfl⟩:=ry; exact PySem.EqNone.eq_none_str (aZ I q (by simp))
  | _=>exact absurd (show false=true from hs) Bool.false_ne_true
 | bl i =>
  cases rx
  cases y with
  | non=>cases ry; exact PySem.EqNone.eq_bool_none (aZ I q (by simp))
  | bl j=>cases ry; exact eq_bool (aZ I q ze)
  | str j=>obtain ⟨t',rfl⟩:=ry; exact PySem.EqMixed.eq_bool_str (aZ I q (by simp))
  | _=>exact absurd (show false=true from hs) Bool.false_ne_true
 | int i =>
  obtain ⟨t,rfl⟩:=rx
  cases y with
  | non=>cases ry; exact PySem.EqNone.eq_int_none (aZ I q (by simp))
  | int j=>obtain ⟨t',rfl⟩:=ry; exact eq_int (aZ I q vi)
  | str j=>obtain ⟨t',rfl⟩:=ry; exact PySem.EqMixed.eq_int_str (aZ I q (by simp))
  | _=>exact absurd (show false=true from hs) Bool.false_ne_true
 | str i =>
  obtain ⟨t,rfl⟩:=rx
  cases y with
  | non=>cases ry; exact PySem.EqNone.eq_str_none (aZ I q (by simp))
  | bl j=>cases ry; exact PySem.EqMixed.eq_str_bool (aZ I q (by simp))
  | int j=>obtain ⟨t',rfl⟩:=ry; exact PySem.EqMixed.eq_str_int (aZ I q (by simp))
  | str j=>obtain ⟨t',rfl⟩:=ry; exact eq_str (aZ I q uY)
  | _=>exact absurd (show false=true from hs) Bool.false_ne_true
 | byt i =>
  obtain ⟨t,rfl⟩:=rx
  cases y with
  | byt j=>obtain ⟨t',rfl⟩:=ry; exact PySem.W.eq_bytes (aZ I q vg)
  | _=>exact absurd (show false=true from hs) Bool.false_ne_true
 | _=>cases y<;>exact absurd (show false=true from hs) Bool.false_ne_true
theorem lj:OpR X (compareOp .NotEq) rNe:=by
 intro pins s σ H x y v u Q I rx ry h
 obtain ⟨hs,q⟩:=h
 cases x with
 | non =>
  cases rx
  cases y with
  | non=>cases ry; exact PySem.EqNone.ne_none_none (aZ I q (by simp))
  | bl j=>cases ry; exact PySem.EqNone.ne_none_bool (aZ I q (by simp))
  | int j=>obtain ⟨t',rfl⟩:=ry; exact PySem.EqNone.ne_none_int (aZ I q (by simp))
  | str j=>obtain ⟨t',rfl⟩:=ry; exact PySem.EqNone.ne_none_str (aZ I q (by simp))
  | _=>exact absurd (show false=true from hs) Bool.false_ne_true
 | bl i =>
  cases rx
  cases y with
  | non=>cases ry; exact PySem.EqNone.ne_bool_none (aZ I q (by simp))
  | bl j=>cases ry; exact ne_bool (aZ I q (congrArg not ze))
  | str j=>obtain ⟨t',rfl⟩:=ry; exact PySem.EqMixed.ne_bool_str (aZ I q (by simp))
  | _=>exact absurd (show false=true from hs) Bool.false_ne_true
 | int i =>
  obtain ⟨t,rfl⟩:=rx
  cases y with
  | non=>cases ry; exact PySem.EqNone.ne_int_none (aZ I q (by simp))
  | int j=>obtain ⟨t',rfl⟩:=ry; exact ne_int (aZ I q (congrArg not vi))
  | str j=>obtain ⟨t',rfl⟩:=ry; exact PySem.EqMixed.ne_int_str (aZ I q (by simp))
  | _=>exact absurd (show false=true from hs) Bool.false_ne_true
 | str i =>
  obtain ⟨t,rfl⟩:=rx
  cases y with
  | non=>cases ry; exact PySem.EqNone.ne_str_none (aZ I q (by simp))
  | bl j=>cases ry; exact PySem.EqMixed.ne_str_bool (aZ I q (by simp))
  | int j=>obtain ⟨t',rfl⟩:=ry; exact PySem.EqMixed.ne_str_int (aZ I q (by simp))
  | str j=>obtain ⟨t',rfl⟩:=ry; exact ne_str (aZ I q (congrArg not uY))
  | _=>exact absurd (show false=true from hs) Bool.false_ne_true
 | byt i =>
  obtain ⟨t,rfl⟩:=rx
  cases y with
  | byt j=>obtain ⟨t',rfl⟩:=ry; exact PySem.W.ne_bytes (aZ I q (congrArg not vg))
  | _=>exact absurd (show false=true from hs) Bool.false_ne_true
 | _=>cases y<;>exact absurd (show false=true from hs) Bool.false_ne_true
theorem Cy:OpR X (compareOp .Lt) (rI0 fun i j=>.bl (decide (i<j))):=BF fun _ _ _ _ _ _ _ q=>lt_int q
theorem cQ:OpR X (compareOp .LtE) (rI0 fun i j=>.bl (decide (i≤j))):=BF fun _ _ _ _ _ _ _ q=>le_int q
theorem qJ:OpR X (compareOp .Gt) (rI0 fun i j=>.bl (decide (j<i))):=BF fun _ _ _ _ _ _ _ q=>gt_int q
theorem lc:OpR X (compareOp .In) (fun x y H Q=>∃ i j,x=.str i∧y=.str j∧Q (.bl (!(Builtin.Str.occurrences j i 0 j.length 1).isEmpty)) H):=by
 intro pins s σ H x y v u Q I rx ry h
 obtain ⟨i,j,rfl,rfl,q⟩:=h
 obtain ⟨t,rfl⟩:=rx
 obtain ⟨t',rfl⟩:=ry
 exact in_str (aZ I q rfl)
theorem oo:OpR X (compareOp .Is) (fun x y H Q=>y=.non∧Q (.bl (decide (x=.non))) H):=by
 intro pins s σ H x y v u Q I rx ry h
 obtain ⟨rfl,q⟩:=h
 cases ry
 refine is_none_gen (aZ I q ?_)
 cases x<;>first
  | (cases rx; rfl)
  | (obtain ⟨t,rfl⟩:=rx; rfl)
theorem vN:OpR X (compareOp .IsNot) (fun x y H Q=>y=.non∧Q (.bl (!decide (x=.non))) H):=by
 intro pins s σ H x y v u Q I rx ry h
 obtain ⟨rfl,q⟩:=h
 cases ry
 refine isnot_none_gen (aZ I q ?_)
 cases x<;>first
  | (cases rx; rfl)
  | (obtain ⟨t,rfl⟩:=rx; rfl)
theorem OpR.or {f:Value→Value→Sem Value} {r r':R2} (h:OpR X f r) (h':OpR X f r'):OpR X f (fun x y H Q=>r x y H Q∨r' x y H Q):=by
 intro pins s σ H x y v u Q I rx ry q
 rcases q with q | q
 ·exact h pins s σ H x y v u Q I rx ry q
 ·exact h' pins s σ H x y v u Q I rx ry q
theorem aJ (b:Expr) {op:CmpOp} (h:op≠.In:=by decide) (h2:op≠.NotIn:=by decide):behindInMarks op b=false:=by
 have e1:(op==CmpOp.In)=false:=by cases op<;>first | rfl | exact absurd rfl h
 have e2:(op==CmpOp.NotIn)=false:=by cases op<;>first | rfl | exact absurd rfl h2
 cases b<;>simp [behindInMarks,e1,e2]
theorem bC {op:CmpOp} {r:R2} (ho:OpR X (compareOp op) r) (ha:PE X a ta) (hb:PE X b tb) (hm:behindInMarks op b=false):PE X (.Compare a [op] [b] pos) (tOp r ta tb):=by
 intro pins s σ H Q I h
 exact wpAny_Compare1 (Ba ha hb I h fun v u s2 x y H2 I2 rx ry q=>ho pins s2 σ H2 x y v u Q I2 rx ry q) hm
def Aj (t:TE):TT:=fun σ H Q=>t σ H fun x H'=>∃ k,x=.bl k∧Q k H'
theorem aD {op:CmpOp} {r:R2} (ho:OpR X (compareOp op) r) (ha:PE X a ta) (hb:PE X b tb) (hm:behindInMarks op b=false):PT X (.Compare a [op] [b] pos) (Aj (tOp r ta tb)):=by
 intro pins s σ H Q I h
 refine wpAny_isTrue_Compare1 (thn (ha pins s σ H _ I h) fun v s1 ⟨x,H1,I1,r1,q1⟩=>thn (hb pins s1 σ H1 _ I1 q1) fun u s2 ⟨y,H2,I2,r2,q2⟩ =>
  thn (ho pins s2 σ H2 x y v u _ I2 r1 r2 q2) fun c s3 ⟨z,H3,I3,r3,k,e,q3⟩=>?_) hm
 subst e
 cases r3
 exact wpAny_truthy_bool ⟨H3,I3,q3⟩
def xj (r r':R2) (ta tb tc:TE):TE:=fun σ H Q=>ta σ H fun x H1=>tb σ H1 fun y H2=>r x y H2 fun z H3=>∃ k,z=.bl k ∧
 (if k=true then tc σ H3 fun w' H4=>r' y w' H4 Q else Q (.bl false) H3)
theorem gH {op op':CmpOp} {r r':R2} (ho:OpR X (compareOp op) r) (ho':OpR X (compareOp op') r') (ha:PE X a ta) (hb:PE X b tb) (hc:PE X c tc)
  (hm:lastMarks [op,op'] [b,c]=false:=by with_unfolding_all rfl):PE X (.Compare a [op,op'] [b,c] pos) (xj r r' ta tb tc):=by
 intro pins s σ H Q I h
 refine Compare_chain (thn (ha pins s σ H _ I h) fun v s1 ⟨x,H1,I1,r1,q1⟩=>chain_link (thn (hb pins s1 σ H1 _ I1 q1) fun u s2 ⟨y,H2,I2,r2,q2⟩ =>
  thn (ho pins s2 σ H2 x y v u _ I2 r1 r2 q2) fun d s3 ⟨z,H3,I3,r3,k,e,q3⟩=>?_)) hm
 subst e
 cases r3
 refine wpAny_truthy_bool ?_
 cases k with
 | false=>exact ite_ff ⟨.bl false,H3,I3,rfl,q3⟩
 | true=>exact ite_tt (chain_last (thn (hc pins s3 σ H3 _ I3 q3) fun w' s4 ⟨z',H4,I4,r4,q4⟩=>ho' pins s4 σ H4 y z' u w' Q I4 r2 r4 q4))
theorem pJ {op op':CmpOp} {r r':R2} (ho:OpR X (compareOp op) r) (ho':OpR X (compareOp op') r') (ha:PE X a ta) (hb:PE X b tb) (hc:PE X c tc)
  (hm:lastMarks [op,op'] [b,c]=false:=by with_unfolding_all rfl):PT X (.Compare a [op,op'] [b,c] pos) (Aj (xj r r' ta tb tc)):=by
 intro pins s σ H Q I h
 refine isTrue_chain (thn (ha pins s σ H _ I h) fun v s1 ⟨x,H1,I1,r1,q1⟩=>test_link (thn (hb pins s1 σ H1 _ I1 q1) fun u s2 ⟨y,H2,I2,r2,q2⟩ =>
  thn (ho pins s2 σ H2 x y v u _ I2 r1 r2 q2) fun d s3 ⟨z,H3,I3,r3,k,e,q3⟩=>?_)) hm
 subst e
 cases r3
 refine wpAny_truthy_bool ?_
 cases k with
 | false =>
  obtain ⟨k',e',q'⟩:=q3
  cases e'
  exact ite_ff ⟨H3,I3,q'⟩
 | true =>
  refine ite_tt (test_last (thn (hc pins s3 σ H3 _ I3 q3) fun w' s4 ⟨z',H4,I4,r4,q4⟩=>thn (ho' pins s4 σ H4 y z' u w' _ I4 r2 r4 q4) fun d' s5 ⟨z2,H5,I5,r5,k2,e2,q5⟩=>?_))
  subst e2
  cases r5
  exact wpAny_truthy_bool ⟨H5,I5,q5⟩
def CL (K:Frag) (x:V) (H:Hp) (k:Bool):Prop :=
 match x with
 | .non=>k=false
 | .bl b=>k=b
 | .int i=>k=(i != 0)
 | .str y=>y.length≤sizeLine∧k=((y.length:Int) != 0)
 | .byt y=>y.size≤sizeLine∧k=((y.size:Int) != 0)
 | .ref p=>(∃ xs,SqL K H p xs∧k=!xs.isEmpty)∨(∃ xs,SqT K H p xs∧k=!xs.isEmpty)∨∃ kvs,H p=some (.dK kvs)∧k=!kvs.isEmpty
 | _=>False
theorem sE {κ:Type} {kvs:List (κ×V)} {vs:List (κ×Value)} (r:KV kvs vs):(!vs.isEmpty)=!kvs.isEmpty:=by
 cases r<;>rfl
theorem jm {xs:List V} {its:List Value} (r:aY xs its):(!its.toArray.isEmpty)=!xs.isEmpty:=by
 cases r<;>simp
theorem im:(sizeLine:Nat)<2 ^ 63:=by rw [sizeLine_eq]; decide
theorem Bc:DO X (fun x H Q=>∃ k,CL X.K x H k∧Q k H):=by
 intro pins s σ H x v Q I rx h
 obtain ⟨k,e,q⟩:=h
 have hl:=im
 have hs:sizeLine=16777216:=sizeLine_eq
 cases x with
 | non =>
  cases rx
  have e':k=false:=e
  subst e'
  exact truthy_none ⟨H,I,q⟩
 | bl b =>
  cases rx
  have e':k=b:=e
  subst e'
  exact wpAny_truthy_bool ⟨H,I,q⟩
 | int i =>
  obtain ⟨t,rfl⟩:=rx
  have e':k=(i != 0):=e
  subst e'
  exact PySem.P.truthy_int ⟨H,I,q⟩
 | str y =>
  obtain ⟨t,rfl⟩:=rx
  obtain ⟨hy,e'⟩:y.length≤sizeLine∧k=((y.length:Int) != 0):=e
  subst e'
  exact PySem.P.truthy_str (by omega) ⟨H,I.tok _,q⟩
 | byt y =>
  obtain ⟨t,rfl⟩:=rx
  obtain ⟨hy,e'⟩:y.size≤sizeLine∧k=((y.size:Int) != 0):=e
  subst e'
  exact PySem.W.truthy_bytes (by omega) ⟨H,I.tok _,q⟩
 | ref p =>
  cases rx
  have e':(∃ xs,SqL X.K H p xs∧k=!xs.isEmpty)∨(∃ xs,SqT X.K H p xs∧k=!xs.isEmpty)∨∃ kvs,H p=some (.dK kvs)∧k=!kvs.isEmpty:=e
  rcases e' with ⟨xs,hx,e'⟩ | ⟨xs,hx,e'⟩ | ⟨kvs,hx,e'⟩
  ·subst e'
   obtain ⟨its,r,pl,hz⟩:=I.list hx
   have hlen:=r.length
   exact wpAny_truthy_list pl.isList (by simp only [List.size_toArray]; omega) ⟨H,I.tok _,by rw [jm r]; exact q⟩
  ·subst e'
   obtain ⟨its,r,pl,hz⟩:=I.tuple hx
   have hlen:=r.length
   exact truthy_tuple pl (by simp only [List.size_toArray]; omega) ⟨H,I.tok _,by rw [jm r]; exact q⟩
  ·subst e'
   obtain ⟨hz,hS,vs,r,m⟩:kvs.length≤sizeLine∧(p==sysModules)=false∧∃ vs,KV kvs vs∧s.heap.DictOf (br X.prog X.w) p vs:=I.hok p _ hx
   have hlen:kvs.length=vs.length:=Paired.length r
   exact wpAny_truthy_dict hS m (by omega) ⟨H,I.tok _,by rw [sE r]; exact q⟩
 | _=>exact (show False from e).elim
theorem gr (ha:PE X a ta) (he:∀ whole,isTrue a X.env whole=(do let v ← whole; standAt a.pos; holding [v] (truthy v))) :
  PT X a (fun σ H Q=>ta σ H fun x H'=>∃ k,CL X.K x H' k∧Q k H'):=by
 intro pins s σ H Q I h
 exact isTrue_plain (thn (ha pins s σ H _ I h) fun v s1 ⟨x,H1,I1,r1,q1⟩=>Bc pins s1 σ H1 x v Q I1 r1 q1) (he _)
theorem jB {x:V} {us:List Value} (r:aY [x] us):∃ u,us=[u]∧bh x u:=by
 cases r with
 | cons r1 r2=>cases r2; exact ⟨_,rfl,r1⟩
theorem xa {x y:V} {us:List Value} (r:aY [x,y] us):∃ u w',us=[u,w']∧bh x u∧bh y w':=by
 cases r with
 | cons r1 r2 =>
  cases r2 with
  | cons r3 r4=>cases r4; exact ⟨_,_,rfl,r1,r3⟩
theorem qD:ef X (.builtin "ord") (fun xs H Q=>∃ x,xs=[.str x]∧x.length=1∧Q (.int (x.cps.getD 0 0:Nat)) H):=by
 intro pins s σ H xs us Q I r h
 obtain ⟨x,rfl,hz,q⟩:=h
 obtain ⟨u,rfl,t,rfl⟩:=jB r
 exact ord_of_one hz ⟨.int _,H,I.tok _,⟨_,rfl⟩,q⟩
end
open PySem PySem.Spec PyProof.Rows
structure AT (h:Heap) (x dx C:Addr) (mA:Str→Option Value):Prop where
 obj:h.get? x=some (PySem.W.instObj C dx)
 ns:h.Ns1 dx mA
 ne:dx≠x
theorem wH {h:Heap} {dx:Addr} {mA:Str→Option Value} (n:h.Ns1 dx mA):∃ od,h.get? dx=some od∧∀ name,PySem.W.lookIn name od=some (mA name):=by
 obtain ⟨o,es,ep,ho,hd,hk,_,hm⟩:=n
 refine ⟨o,ho,fun name=>?_⟩
 have e:=hm name
 unfold nsFind findBy at e
 rw [← Array.find?_toList] at e
 unfold PySem.W.lookIn
 rw [hd]
 dsimp only
 split
 ·rename_i y q
  rw [q] at e
  exact congrArg some e
 ·rename_i q
  rw [q] at e
  have a:es.toList.any (·.refKey)=false:=by
   rw [List.any_eq_false]
   intro y hy
   obtain ⟨z,t,hkey⟩:=hk y (Array.mem_toList_iff.mp hy)
   simp [DictEntry.refKey,hkey]
  have a':¬ es.toList.any (·.refKey)=true:=by rw [a]; exact Bool.false_ne_true
  rw [if_neg a']
  exact congrArg some e
theorem AT.look {h:Heap} {x dx C:Addr} {mA:Str→Option Value} (I:AT h x dx C mA):∃ od,PySem.W.InstAt h x (PySem.W.instObj C dx) C (some od)∧∀ name,PySem.W.lookIn name od=some (mA name) :=
 let ⟨od,ho,hl⟩:=wH I.ns
 ⟨od,⟨I.obj,rfl,rfl,ho⟩,hl⟩
section
variable {prog:Program} {w:World} {A:Around} {E:Value→Shared→Prop} {s:Shared} {K:Frag} {x dx C f:Addr} {mA:Str→Option Value} {name:Str} {v:Value}
end
section
variable {P:Program} {w:World} {H H':Hp} {h h':Heap} {a C dx:Addr} {fs fs':List (Str×V)}
theorem zx (hok:HOk P w H h) (e:H a=some (.ins C dx fs)):∃ mA,AT h a dx C mA∧(∀ f,jP (fs.lookup f) (mA f))∧PySem.Within mA (fs.map (·.1))∧fs.length≤1000∧H dx=some (.own a):=by
 obtain ⟨d,z,ne,ob,mA,n,r,q⟩:=(show bL P w H h a (.ins C dx fs) from hok a _ e)
 exact ⟨mA,⟨ob,n,ne⟩,r,q,z,d⟩
end
structure Cls (K:Frag) (C:Addr):Prop where
 pg:PySem.W.plainGet K C Str.empty=true
 hd:PySem.W.hasDictIn K C=true
 po:PySem.W.plainOver K C=true
 sa:PySem.W.findIn K (.ref C) "__setattr__"=some (some (.builtin "object.__setattr__"))
theorem Cls.get {K:Frag} {C:Addr} (c:Cls K C) (f:Str):PySem.W.plainGet K C f=true:=c.pg
section
variable {X:Cx} {pins:List (Addr×Obj)} {σ:St} {H:Hp} {s:Shared} {a C dx:Addr} {fs:List (Str×V)} {f:Str} {v:V} {A:Around} {E:Value→Shared→Prop}
theorem vp {prog:Program} {w:World} {env:Env} {e:Expr} {f:Str} {pos:Pos} {s:Shared} {Q:Value→Shared→Prop} (hb:attributeBase e f env (eval e env)=eval e env)
  (h:wpAny (model prog w) A (eval e env) (fun o s₁=>wpAny (model prog w) A (getAttr o f true) Q E s₁) E s):wpAny (model prog w) A (eval (.Attribute e f pos) env) Q E s :=
 Attribute_any_ h (by rw [arm_eval_Attribute,hb])
end
section
variable {X:Cx} {o e value:Expr} {f:Str} {pos pos' tpos:Pos} {ta tv:TE}
end
section
variable {X:Cx} {pins:List (Addr×Obj)} {σ:St} {H:Hp} {s:Shared} {A:Around} {E:Value→Shared→Prop} {Q:Value→Shared→Prop} {c:Value} {b:Bool}
inductive hV (K:Frag) (H:Hp):V→Value→Prop where
 | non:hV K H .non (.type "NoneType")
 | bl (x:Bool):hV K H (.bl x) (.type "bool")
 | int (i:Int):hV K H (.int i) (.type "int")
 | str (x:Str):hV K H (.str x) (.type "str")
 | flt (x:UInt64):hV K H (.flt x) (.type "float")
 | lst {a:Addr} {xs:List V} (e:H a=some (.lst xs)):hV K H (.ref a) (.type "list")
 | frz {a:Addr} {o:Obj} {xs:List V} (e:H a=some (.frz o (.lst xs))):hV K H (.ref a) (.type "list")
 | tup {a:Addr} {xs:List V} (e:H a=some (.tup xs)):hV K H (.ref a) (.type "tuple")
 | dK {a:Addr} {kvs:List (Key×V)} (e:H a=some (.dK kvs)):hV K H (.ref a) (.type "dict")
 | dT {a:Addr} {kvs:List (List Key×V)} (e:H a=some (.dT kvs)):hV K H (.ref a) (.type "dict")
 | ins {a C dx:Addr} {fs:List (Str×V)} (e:H a=some (.ins C dx fs)) (cl:Cls K C) (ha:PySem.W.findIn K (.ref C) "__class__"=some (some (.builtin "object.__class__")))
   (hn:PySem.W.specialIn K (.builtin "object.__class__") "__get__"=some (some (.builtin "getset_descriptor.__get__"))) (htk:PySem.W.takesIn K (.builtin "object.__class__")=some true)
   (hm:PySem.W.mroIn K C (.type "object")=some true):hV K H (.ref a) (.ref C)
theorem wx {x:V} {u t:Value} (I:Inv X pins σ H s) (rx:bh x u) (ty:hV X.K H x t) (e:PySem.W.kitOne X.K t c=some b) (h:∀ tk,Q (.bool b) { s with toks:=tk }) :
  wpAny (model X.prog X.w) A (call (.builtin "isinstance") [u,c]) Q E s:=by
 cases ty with
 | non=>cases (show u=Value.none from rx); exact PySem.W.kia_one PySem.W.kitx_none I.kIn True.intro e (fun z=>nomatch z) h
 | bl y=>cases (show u=Value.bool y from rx); exact PySem.W.kia_one PySem.W.kitx_bool I.kIn True.intro e (fun z=>nomatch z) h
 | int i=>obtain ⟨t,q⟩:=(show ∃ t,u=Value.int i t from rx); cases q; exact PySem.W.kia_one PySem.W.kitx_int I.kIn True.intro e (fun z=>nomatch z) h
 | str y=>obtain ⟨t,q⟩:=(show ∃ t,u=Value.str y t from rx); cases q; exact PySem.W.kia_one PySem.W.kitx_str I.kIn True.intro e (fun z=>nomatch z) h
 | flt y=>obtain ⟨t,q⟩:=(show ∃ t,u=Value.float y t from rx); cases q; exact PySem.W.kia_one PySem.W.kitx_float I.kIn True.intro e (fun z=>nomatch z) h
 | @lst a xs ea =>
  cases (show u=Value.ref a from rx)
  obtain ⟨_,_,n,_,h1⟩:=(show bL X.prog X.w H s.heap a (.lst xs) from I.hok a _ ea)
  exact PySem.W.kia_one PySem.W.kitx_list I.kIn ⟨_,h1,rfl⟩ e (fun z=>nomatch z) h
 | @frz a ob xs ea =>
  cases (show u=Value.ref a from rx)
  obtain ⟨_,_,_,n,_,h1⟩:=(show bL X.prog X.w H s.heap a (.frz ob (.lst xs)) from I.hok a _ ea)
  exact PySem.W.kia_one PySem.W.kitx_list I.kIn ⟨_,h1,rfl⟩ e (fun z=>nomatch z) h
 | @tup a xs ea =>
  cases (show u=Value.ref a from rx)
  obtain ⟨_,_,_,p,_⟩:=(show bL X.prog X.w H s.heap a (.tup xs) from I.hok a _ ea)
  obtain ⟨o,h1,h2,_⟩:=p
  exact PySem.W.kia_one PySem.W.kitx_tuple I.kIn ⟨o,h1,h2⟩ e (fun z=>nomatch z) h
 | @dK a kvs ea =>
  cases (show u=Value.ref a from rx)
  obtain ⟨_,_,vs,_,p⟩:=(show bL X.prog X.w H s.heap a (.dK kvs) from I.hok a _ ea)
  obtain ⟨o,es,ep,h1,h2,_⟩:=p
  exact PySem.W.kia_one PySem.W.kitx_dict I.kIn ⟨o,h1,h2.1⟩ e (fun z=>nomatch z) h
 | @dT a kvs ea =>
  cases (show u=Value.ref a from rx)
  obtain ⟨_,_,xs,_,o,es,ep,h1,h2,_⟩:=(show bL X.prog X.w H s.heap a (.dT kvs) from I.hok a _ ea)
  exact PySem.W.kia_one PySem.W.kitx_dict I.kIn ⟨o,h1,h2.1⟩ e (fun z=>nomatch z) h
 | @ins a C dx fs ea cl ha hn htk hm =>
  cases (show u=Value.ref a from rx)
  obtain ⟨mA,O,_⟩:=zx I.hok ea
  obtain ⟨od,J,_⟩:=O.look
  exact PySem.W.kia_one (PySem.W.kitx_own (cl.get _) cl.hd ha hn htk hm) I.kIn J e (fun z=>nomatch z) h
end
open PySem PySem.Spec PyProof.Rows
structure cT (k:Nat) (A:Around):Prop where
 hd:A.handled=none
 dp:A.depth+3*k+5<recursionLimit
 un:A.units+16*k+200<cLine
 gd:A.guards=some []
theorem cT.mono {j k:Nat} {A:Around} (r:cT k A) (h:j≤k):cT j A:=⟨r.hd,by have:=r.dp; omega,by have:=r.un; omega,r.gd⟩
theorem cT.deeper {k:Nat} {A:Around} (r:cT (k+1) A) (env:Env):cT k (A.deeper env) :=
 ⟨r.hd,by have:=r.dp; show A.depth+1+3*k+5<_; omega,by have:=r.un; show A.units+3+16*k+200<_; omega,r.gd⟩
theorem tK {A:Around} {C:Addr} {us:List Value} {kw:List (Str×Value)}:(A.under (.builtin "type.__call__" ⟨.ref C::us,kw⟩)).depth=A.depth+1:=by
 first | rfl | simp [Around.under,Code.weight,Code.isCreation,Code.isGuard,Code.isCaller,Code.frames,Code.isFrame,guardIds]
theorem cT.depth {k:Nat} {A:Around} (r:cT k A):A.depth<recursionLimit:=by have:=r.dp; omega
theorem cT.units {k:Nat} {A:Around} (r:cT k A):A.units+64<cLine:=by have:=r.un; omega
def uv:TA:=fun _ H Q=>Q [] H
def gJ (ta:TE) (tr:TA):TA:=fun σ H Q=>ta σ H fun x H1=>tr σ H1 fun xs H2=>Q (x::xs) H2
section
variable {X:Cx} {e:Expr} {es:List Expr} {te:TE} {t:TA} {pos:Pos}
theorem ah:PA X [] uv:=fun _ _ _ _ H Q I h=>Calls.spliced_nil ⟨[],H,I,.nil,h⟩
theorem ad (ha:PE X e te) (hr:PA X es t) (hs:starEach (e::es) X.env=(false,eval e X.env)::starEach es X.env:=by exact ac rfl):PA X (e::es) (gJ te t):=by
 intro pos pins s σ H Q I h
 rw [hs]
 show wpAny _ _ (spliced ((false,eval e X.env)::backTo pos (starEach es X.env))) _ _ s
 refine Calls.spliced_cons (thn (ha pins s σ H _ I h) fun u s1 ⟨x,H1,I1,r1,q1⟩=>?_)
 exact thn (hr pos pins s1 σ H1 _ I1 q1) fun us s2 ⟨xs,H2,I2,r2,q2⟩=>⟨x::xs,H2,I2,.cons r1 r2,q2⟩
def DF (t:TA):TE:=fun σ H Q=>t σ H fun xs H1=>xs.length≤sizeLine∧∀ p,H1 p=none→Q (.ref p) (upd H1 p (.tup xs))
def Ds (t:TA):TE:=fun σ H Q=>t σ H fun xs H1=>xs.length≤sizeLine∧∀ p,H1 p=none→Q (.ref p) (upd H1 p (.lst xs))
theorem aH {x1} (h:PA X es t):PE X (.Tuple es x1 pos) (DF t):=by
 intro pins s σ H Q I hq
 refine wpAny_Tuple_spliced (thn (h pos pins s σ H _ I hq) fun us s1 ⟨xs,H1,I1,r,z,q⟩=>⟨by rw [← r.length]; exact z,?_⟩)
 have hf:H1 s1.heap.objs.size=none:=I1.hok.fresh (Nat.le_refl _)
 refine ⟨.ref s1.heap.objs.size,upd H1 s1.heap.objs.size (.tup xs),I1.laid (t':=s1.toks) (fun b u e=>Heap.get?_push_of_some _ e) (Nat.le_refl _) ?_,rfl,q _ hf⟩
 exact ⟨z,us,r,⟨_,Heap.get?_push_size _ rfl,rfl,_,rfl⟩,_,Heap.get?_push_size _ rfl,rfl⟩
theorem bW (h:PA X es t):PE X (.List es pos) (Ds t):=by
 intro pins s σ H Q I hq
 refine wpAny_List_spliced (thn (h pos pins s σ H _ I hq) fun us s1 ⟨xs,H1,I1,r,z,q⟩=>⟨by rw [← r.length]; exact z,?_⟩)
 have hf:H1 s1.heap.objs.size=none:=I1.hok.fresh (Nat.le_refl _)
 refine ⟨.ref s1.heap.objs.size,upd H1 s1.heap.objs.size (.lst xs),I1.laid (t':=s1.toks) (fun b u e=>Heap.get?_push_of_some _ e) (Nat.le_refl _) ?_,rfl,q _ hf⟩
 exact ⟨z,us,0,r,Heap.get?_push_size _ rfl⟩
end
abbrev Sp:=List V→Hp→VK→XK→Prop
abbrev CXT:=List Env→Hp→Shared→XK→Value→Shared→Prop
structure zn (P:Program) (w:World) (K:Frag) (mg:Str→Option Value) (base:Heap) (A:Around) (outer:List Env) (s:Shared) (H:Hp):Prop where
 frames:A.frames=some outer
 mod:Mod K mg base
 bs:∀ b o,base.get? b=some o→s.heap.get? b=some o∧H b=none
 bsz:base.objs.size≤s.heap.objs.size
 funs:s.heap.FunFrames base outer
 frf:∀ b∈frs outer,H b=none
 hok:HOk P w H s.heap
 bare:AllBare s.gens
def CE (outer:List Env) (P:Program) (w:World) (H:Hp) (s:Shared) (Q:VK) (u:Value) (s':Shared):Prop :=
 ∃ v H',s'.os=s.os∧AllBare s'.gens∧Un (frs outer) [] H H' s.heap s'.heap∧HOk P w H' s'.heap∧bh v u∧Q v H'
def CR (CX:CXT) (outer:List Env) (P:Program) (w:World) (H:Hp) (s:Shared) (Q:VK) (E:XK) (r:Result) (s':Shared):Prop :=
 match r with
 | .ok (.ret u)=>CE outer P w H s Q u s'
 | .ok _=>False
 | .error e=>CX outer H s E e s'
structure aV (P:Program) (w:World) (K:Frag) (mg:Str→Option Value) (base:Heap) (CX:CXT) (k:Nat) (f:Addr) (fd:FuncData) (ps:List Str) (sp:Sp):Prop where
 len:∀ vs H Q E,sp vs H Q E→vs.length=ps.length
 run:∀ (A:Around) (outer:List Env) (s:Shared) (H:Hp) (args:Args) (us:List Value) (vs:List V) (Q:VK) (E:XK),cT k A→zn P w K mg base A outer s H→BindsTo s fd args (ps.zip us)→aY vs us→sp vs H Q E →
  codeAny (model P w) A (.call (.ref f) args) (CR CX outer P w H s Q E) s
theorem aV.imp {P:Program} {w:World} {K:Frag} {mg:Str→Option Value} {base:Heap} {CX:CXT} {k:Nat} {f:Addr} {fd:FuncData} {ps:List Str} {sp sp':Sp} (F:aV P w K mg base CX k f fd ps sp)
  (h:∀ vs H Q E,sp' vs H Q E→sp vs H Q E):aV P w K mg base CX k f fd ps sp' :=
 ⟨fun vs H Q E q=>F.len vs H Q E (h _ _ _ _ q),fun A outer s H args us vs Q E hr he hb hv hs=>F.run A outer s H args us vs Q E hr he hb hv (h _ _ _ _ hs)⟩
section
variable {X:Cx} {pins:List (Addr×Obj)} {σ:St} {H:Hp} {s s':Shared}
theorem Inv.env0 (I:Inv X pins σ H s):zn X.prog X.w X.K X.mg X.base X.A X.stack s H :=
 ⟨I.ok.frames,I.ok.mod,I.bs,Nat.le_trans I.ok.bsz I.sz,I.stack,I.stkFree,I.hok,I.bare⟩
theorem Inv.after {Q:VK} {u:Value} (I:Inv X pins σ H s) (h:CE X.stack X.prog X.w H s Q u s'):EP X pins σ Q u s':=by
 obtain ⟨v,H',os,bare,un,hok,r,q⟩:=h
 obtain ⟨hh,g,d,t,os'⟩:=s'
 obtain rfl:os'=s.os:=os
 exact ⟨v,H',I.call (h':=hh) (g':=g) (d':=d) (t':=t) (ch:=[]) un hok bare (fun b z=>absurd z (by simp)),r,q⟩
end
def oY (sp:Sp) (dvs:List V) (E:XK) (t:TA):TE:=fun σ H Q=>t σ H fun vs H1=>sp (vs++dvs) H1 Q E
def fF (K:Frag) (fd:FuncData) (ps:List Str) (ds:List Value):Prop :=
 ∀ (s:Shared) (us:List Value),K.In s.heap→(us++ds).length=ps.length→BindsTo s fd ⟨us,[]⟩ (ps.zip (us++ds))
theorem fF.all {K:Frag} {fd:FuncData} {ps:List Str} (h:∀ us:List Value,us.length=ps.length→bindArgs fd ⟨us,[]⟩=pure (ps.zip us)):fF K fd ps []:=fun s us _ hl=>by
 rw [List.append_nil] at hl ⊢
 exact .of_eq (h us hl)
def tX (CX:CXT) (X:Cx) (E:XK):Prop:=∀ (pins:List (Addr×Obj)) (σ:St) (H:Hp) (s:Shared) (e:Value) (s':Shared),Inv X pins σ H s→CX X.stack H s E e s'→X.xe e s'
section
variable {X:Cx} {CX:CXT} {k:Nat} {f C:Addr} {fd:FuncData} {ps:List Str} {sp:Sp} {dvs:List V} {ds:List Value} {E:XK} {x m:Str} {p pos apos:Pos} {e o:Expr} {es:List Expr} {ta:TE} {t:TA}
theorem Bj {pins:List (Addr×Obj)} {σ:St} {H:Hp} {s:Shared} {Q:VK} {us:List Value} {vs:List V} (F:aV X.prog X.w X.K X.mg X.base CX k f fd ps sp) (hr:cT k X.A) (hb:fF X.K fd ps ds) (hd:aY dvs ds) (hx:tX CX X E)
  (I:Inv X pins σ H s) (r:aY vs us) (h:sp (vs++dvs) H Q E):wpAny (model X.prog X.w) X.A (call (.ref f) us) (EP X pins σ Q) X.xe s:=by
 have r2:aY (vs++dvs) (us++ds):=r.append hd
 have hl:(us++ds).length=ps.length:=by rw [← r2.length]; exact F.len _ _ _ _ h
 refine wpAny_call (codeAny_mono (F.run X.A X.stack s H ⟨us,[]⟩ (us++ds) (vs++dvs) Q E hr I.env0 (hb s us I.kIn hl) r2 h) fun r s' hq=>?_)
 cases r with
 | error e=>exact hx pins σ H s e s' I hq
 | ok fl =>
  cases fl with
  | ret u=>exact I.after hq
  | next=>exact False.elim hq
  | brk=>exact False.elim hq
  | cont=>exact False.elim hq
theorem au (F:aV X.prog X.w X.K X.mg X.base CX k f fd ps sp) (hr:cT k X.A) (hg:Gl X x) (hm:X.mg x=some (.ref f)) (hk:keepIn X.K (.ref f)=true) (hb:fF X.K fd ps ds) (hd:aY dvs ds) (hx:tX CX X E)
  (ha:PA X (e::es) t) (hdb:(x==("__debug__":Str))=false:=by decide) (he:starEach (e::es) X.env=(false,eval e X.env)::starEach es X.env:=by exact ac rfl) (hpl:(backTo pos (starEach es X.env)).any (·.1)=false:=by exact ak rfl) :
  PE X (.Call (.Name x p) (e::es) [] pos) (oY sp dvs E t):=by
 intro pins s σ H Q I h
 refine wpAny_Call_Name_kw (iV I hg hm ?_ hdb)
 refine PySem.W.callWith_K (h₀:=X.base) I.ok.mod.kin hk (thn (ha pos pins s σ H _ I h) fun us s1 ⟨vs,H1,I1,r,q⟩=>⟨I1.kIn,?_⟩) he hpl
 exact Bj F hr hb hd hx I1 r q
end
section
variable {X:Cx} {CX:CXT} {k:Nat} {f C:Addr} {fd:FuncData} {ps ks:List Str} {sp:Sp} {E:XK} {x m:Str} {p pos apos kpos:Pos} {e o:Expr} {es:List Expr} {kws:List Keyword} {te ta:TE} {t tk:TA} {nm:Option Str}
variable {g:List Value→List Value→List Value} {gV:List V→List V→List V}
end
structure aK (N P:List Str) (sc:Scope):Prop where
 kind:sc.kind=.function
 co:sc.isCoroutine=false
 gen:sc.isGenerator=false
 nd:N.Nodup
 pre:N.take P.length=P
 par:∀ x∈P,sc.names.lookup x=some .local∨sc.names.lookup x=some .cell
 nofree:∀ y∈sc.names,y.2≠.free
theorem lw {kindOf:Str→Option NameKind} {x:Str}:∀ {binds:List (Str×Value)} {m:Str→Option Value},(∀ v,(x,v)∉binds)→bindL kindOf binds m x=m x
 | [],_,_=>rfl
 | (n,v)::r,m,h=>by
  unfold bindL
  rw [lw fun w hw=>h w (List.mem_cons_of_mem _ hw)]
  split
  ·have:x≠n:=by rintro rfl; exact h v List.mem_cons_self
   simp [this]
  ·rfl
theorem kK {kindOf:Str→Option NameKind} {x:Str}:∀ {binds:List (Str×Value)} {m:Str→Option Value},(∀ v,(x,v)∉binds)→bindC kindOf binds m x=m x
 | [],_,_=>rfl
 | (n,v)::r,m,h=>by
  unfold bindC
  rw [kK fun w hw=>h w (List.mem_cons_of_mem _ hw)]
  split
  ·rfl
  ·have:x≠n:=by rintro rfl; exact h v List.mem_cons_self
   simp [this]
theorem da {kindOf:Str→Option NameKind} {x:Str} {v:Value}:∀ {P:List Str} {vs:List Value} {i:Nat} {m:Str→Option Value},P.Nodup→P[i]?=some x→vs[i]?=some v→kindOf x=some .local →
  bindL kindOf (P.zip vs) m x=some v
 | [],_,_,_,_,h,_,_=>by simp at h
 | _::_,[],_,_,_,_,h,_=>by simp at h
 | p::P,w::vs,0,m,nd,h1,h2,hk=>by
  simp at h1 h2; subst h1; subst h2
  show bindL kindOf ((p,w)::P.zip vs) m p=_
  unfold bindL
  rw [lw fun v hv=>(List.nodup_cons.mp nd).1 (List.of_mem_zip hv).1,if_pos hk]
  simp
 | p::P,w::vs,i+1,m,nd,h1,h2,hk=>by
  show bindL kindOf ((p,w)::P.zip vs) m x=_
  unfold bindL
  exact da (i:=i) (List.nodup_cons.mp nd).2 (by simpa using h1) (by simpa using h2) hk
theorem lH {kindOf:Str→Option NameKind} {x:Str} {v:Value}:∀ {P:List Str} {vs:List Value} {i:Nat} {m:Str→Option Value},P.Nodup→P[i]?=some x→vs[i]?=some v→kindOf x≠some .local →
  bindC kindOf (P.zip vs) m x=some v
 | [],_,_,_,_,h,_,_=>by simp at h
 | _::_,[],_,_,_,_,h,_=>by simp at h
 | p::P,w::vs,0,m,nd,h1,h2,hk=>by
  simp at h1 h2; subst h1; subst h2
  show bindC kindOf ((p,w)::P.zip vs) m p=_
  unfold bindC
  rw [kK fun v hv=>(List.nodup_cons.mp nd).1 (List.of_mem_zip hv).1,if_neg hk]
  simp
 | p::P,w::vs,i+1,m,nd,h1,h2,hk=>by
  show bindC kindOf ((p,w)::P.zip vs) m x=_
  unfold bindC
  exact lH (i:=i) (List.nodup_cons.mp nd).2 (by simpa using h1) (by simpa using h2) hk
def gY (N:List Str) (vs:List V):St:=vs.map some++List.replicate (N.length - vs.length) none
def kg (CX:CXT) (P:Program) (w:World) (K:Frag) (mg:Str→Option Value) (base:Heap) (N:List Str) (qual:Str) (scope:Scope) (f:Addr) (cd:Value) (A:Around) (outer:List Env) (s:Shared) (H:Hp) (E:XK):Cx where
 prog:=P
 w:=w
 K:=K
 mg:=mg
 base:=base
 A:=A.deeper (envOfC qual scope s.heap.objs.size f cd)
 N:=N
 s₀:=s
 H₀:=H
 env:=envOfC qual scope s.heap.objs.size f cd
 outer:=outer
 stack:=envOfC qual scope s.heap.objs.size f cd::outer
 ex:=[]
 calm:=true
 fn:=fun _=>true
 pn:=[]
 xe:=fun e s'=>wpAny (model P w) (A.deeper (envOfC qual scope s.heap.objs.size f cd)) (leaving (envOfC qual scope s.heap.objs.size f cd) e) (fun _ s''=>CX outer H s E e s'') (fun e' s''=>CX outer H s E e' s'') s'
theorem pw {sc:Scope} {n:Nat} {x:Str} (h:sc.names.lookup x=some .cell):∃ c,(cellsFrom n sc.names []).lookup x=some c:=by
 have q:=PySem.W.cellsFrom_some sc.names n [] (.inl h)
 exact Option.isSome_iff_exists.mp q
theorem wu {CX:CXT} {P:Program} {w:World} {K:Frag} {mg:Str→Option Value} {base:Heap} {N ps:List Str} {qual:Str} {scope:Scope} {f:Addr} {cd:Value} {A:Around} {outer:List Env} {s s1:Shared} {H:Hp} {E:XK} {us:List Value} {vs:List V}
  (S:aK N ps scope) (hd:A.handled=none) (e0:zn P w K mg base A outer s H) (hl:vs.length=ps.length) (r:aY vs us)
  (x:InCallC s s.heap.objs.size (bindL (envOfC qual scope s.heap.objs.size f cd).kindOf (ps.zip us) fun _=>none) (cellsFrom (s.heap.objs.size+1) scope.names []) (bindC (envOfC qual scope s.heap.objs.size f cd).kindOf (ps.zip us) fun _=>none) s1) :
  Inv (kg CX P w K mg base N qual scope f cd A outer s H E) [] (gY N vs) H s1:=by
 have hpl:ps.length≤N.length:=by have:=congrArg List.length S.pre; rw [List.length_take] at this; omega
 obtain ⟨h1,tk,rfl,hk⟩:=x.done
 have noA:∀ b:Addr,b∉(kg CX P w K mg base N qual scope f cd A outer s H E).ex:=fun b z=>absurd (show b∈([]:List Addr) from z) (by simp)
 refine ⟨⟨e0.mod,S.kind,rfl,rfl,Nat.le_refl _,fun y z c h1 h2=>?_,fun y hy=>?_,fun y c _ h=>?_,fun _=>hd,Around.frames_deeper e0.frames,.inr ⟨rfl,rfl⟩,fun b z=>absurd z (noA b),e0.bs,e0.bsz,fun b _ _=>noA b,fun b z=>absurd z (noA b),e0.funs,e0.frf⟩,
  rfl,e0.bare,Un.kept hk,⟨_,x.toInCall.ns,fun i y v h1 h2 h3=>?_⟩,fun y c h=>⟨_,x.cell y c h⟩,e0.hok.fresh (Nat.le_refl _),fun y c h=>?_,fun p hp=>absurd (show p∈([]:List (Addr×Obj)) from hp) (by simp),e0.hok.kept hk,?_⟩
 ·exact name_of_addr x.apart (PySem.mem_of_lookup h1) (PySem.mem_of_lookup h2)
 ·have hy:scope.names.lookup y=some .cell∨scope.names.lookup y=some .free:=hy
  rcases hy with hy | hy
  ·exact pw hy
  ·exact absurd rfl (S.nofree _ (PySem.mem_of_lookup hy))
 ·exact Nat.le_of_lt (x.above y c (PySem.mem_of_lookup h))
 ·have hi:i<vs.length:=by
   unfold gY at h2
   by_cases hi:i<vs.length
   ·exact hi
   ·rw [List.getElem?_append_right (by simpa using hi)] at h2
    rw [List.getElem?_replicate] at h2
    split at h2<;>cases h2
  have ha:vs[i]?=some v:=by
   unfold gY at h2
   rw [List.getElem?_append_left (by simpa using hi),List.getElem?_map] at h2
   cases e:vs[i]? with
   | none=>rw [e] at h2; cases h2
   | some a=>rw [e] at h2; cases h2; rfl
  obtain ⟨u,hu,rv⟩:=r.get ha
  have hp:ps[i]?=some y:=by
   rw [← S.pre,List.getElem?_take_of_lt (by omega)]; exact h1
  have ndP:ps.Nodup:=by rw [← S.pre]; exact S.nd.sublist (List.take_sublist _ _)
  refine ⟨u,rv,?_⟩
  rcases S.par y (List.mem_of_getElem? hp) with k | k
  ·exact .inl ⟨k,da ndP hp hu k⟩
  ·obtain ⟨c,e⟩:=pw (n:=s.heap.objs.size+1) k
   refine .inr ⟨.inl k,c,e,?_⟩
   have q:=x.cell y c e
   rw [lH ndP hp hu (by show scope.names.lookup y≠_; rw [k]; decide)] at q
   exact q
 ·exact e0.hok.fresh (Nat.le_of_lt (x.above y c (PySem.mem_of_lookup h)))
 ·unfold gY
  show _=N.length
  rw [List.length_append,List.length_map,List.length_replicate]
  omega
theorem Az {CX:CXT} {P:Program} {w:World} {K:Frag} {mg:Str→Option Value} {base:Heap} {k:Nat} {f:Addr} {name qual:Str} {params:Arguments} {body:List Stmt} {scope:Scope} {dV kV doc pm cdv ct oc:Value} {an od:Option Addr}
  {osl:Array (Option Value)} {N ps:List Str} {sp:Sp} (lk:K.lookup f=some ⟨oc,od,.func (PySem.W.fnOf name qual params body scope dV kV doc pm an cdv ct),osl⟩) (hcd:PySem.W.codeIn K cdv qual=true) (S:aK N ps scope)
  (len:∀ vs H Q E,sp vs H Q E→vs.length=ps.length)
  (hbody:∀ (A:Around) (outer:List Env) (s:Shared) (H:Hp) (vs:List V) (Q:VK) (E:XK),cT k (A.deeper (envOfC qual scope s.heap.objs.size f cdv))→sp vs H Q E →
   ∃ t,PSs (kg CX P w K mg base N qual scope f cdv A outer s H E) body t∧t { nx:=fun _ H'=>Q .non H',rt:=Q } (gY N vs) H) :
  aV P w K mg base CX (k+1) f (PySem.W.fnOf name qual params body scope dV kV doc pm an cdv ct) ps sp:=by
 refine ⟨len,fun A outer s H args us vs Q E hr e0 hb r hsp=>?_⟩
 have hl:=len _ _ _ _ hsp
 have KX:K.In s.heap:=e0.mod.kin.keeps fun b o e=>(e0.bs b o e).1
 have lim:s.heap.NoLimit:=e0.mod.nolimit.keeps fun b o e=>(e0.bs b o e).1
 have hkind:∀ y∈ps.zip us,scope.names.lookup y.1=some .local∨(scope.names.lookup y.1=some .cell∧((cellsFrom (s.heap.objs.size+1) scope.names []).lookup y.1).isSome=true):=fun ⟨n,v⟩ hy=>by
  rcases S.par n (List.of_mem_zip hy).1 with q | q
  ·exact .inl q
  ·exact .inr ⟨q,PySem.W.cellsFrom_some _ _ _ (.inl q)⟩
 refine codeAny_call_function hr.depth (KX _ _ lk) rfl S.co S.gen rfl (PySem.W.codeRec_of KX hcd) (hb _ _ _ _ ?_)
 refine wpAny_newFunctionEnv_cells S.kind hkind fun env he s1 x=>?_
 subst he
 refine ⟨lim.keeps x.toInCall.keep,codeAny_func ?_⟩
 obtain ⟨t,ht,hq⟩:=hbody A outer s H vs Q E (hr.deeper _) hsp
 have I:Inv (kg CX P w K mg base N qual scope f cdv A outer s H E) [] (gY N vs) H s1:=wu S hr.hd e0 hl r x
 refine wpAny_mono (ht [] s1 (gY N vs) H _ I hq) (fun fl s' hs=>?_) fun e s' hs=>hs
 have fin:∀ {σ':St} {H':Hp} {v:V} {u:Value},Inv (kg CX P w K mg base N qual scope f cdv A outer s H E) [] σ' H' s'→bh v u→Q v H'→CE outer P w H s Q u s' :=
  fun {σ' H' v u} J rv q=>⟨v,H',J.os,J.bare,J.base,J.hok,rv,q⟩
 cases fl with
 | ret u =>
  obtain ⟨v,σ',H',J,rv,q⟩:=hs
  exact fin J rv q
 | next =>
  obtain ⟨σ',H',J,q⟩:=hs
  exact fin (v:=V.non) (u:=Value.none) J rfl q
 | brk =>
  obtain ⟨_,_,_,q⟩:=hs
  exact False.elim q
 | cont =>
  obtain ⟨_,_,_,q⟩:=hs
  exact False.elim q
open PySem PySem.Spec PyProof.Rows
section
variable {X:Cx} {x:Str} {p pos:Pos} {e:Expr} {es:List Expr} {t:TA} {id T:String} {r:List V→Hp→VK→Prop}
def tCB (r:List V→Hp→VK→Prop) (t:TA):TE:=fun σ H Q=>t σ H fun vs H1=>r vs H1 Q
theorem aF (hc:ef X (.builtin id) r) (hg:Gl X x) (hm:X.mg x=none) (hv:bootBuiltins x=some (.builtin id)) (ha:PA X (e::es) t) (hn:x ≠ "__name__":=by decide) (hdb:(x==("__debug__":Str))=false:=by decide)
  (he:starEach (e::es) X.env=(false,eval e X.env)::starEach es X.env:=by exact ac rfl) (hpl:(backTo pos (starEach es X.env)).any (·.1)=false:=by exact ak rfl):PE X (.Call (.Name x p) (e::es) [] pos) (tCB r t):=by
 intro pins s σ H Q I h
 refine wpAny_Call_Name_kw (dN I hg hm hv ?_ hn hdb)
 exact PyProof.Rows.callWith_builtin1 (thn (ha pos pins s σ H _ I h) fun us s1 ⟨vs,H1,I1,r1,q1⟩=>hc pins s1 σ H1 vs us Q I1 r1 q1) he hpl
theorem fo (hc:ef X (.type T) r) (hg:Gl X x) (hm:X.mg x=none) (hv:bootBuiltins x=some (.type T)) (ha:PA X (e::es) t) (hn:x ≠ "__name__":=by decide) (hdb:(x==("__debug__":Str))=false:=by decide)
  (he:starEach (e::es) X.env=(false,eval e X.env)::starEach es X.env:=by exact ac rfl) (hpl:(backTo pos (starEach es X.env)).any (·.1)=false:=by exact ak rfl):PE X (.Call (.Name x p) (e::es) [] pos) (tCB r t):=by
 intro pins s σ H Q I h
 refine wpAny_Call_Name_kw (dN I hg hm hv ?_ hn hdb)
 exact PyProof.Rows.callWith_type1 (thn (ha pos pins s σ H _ I h) fun us s1 ⟨vs,H1,I1,r1,q1⟩=>hc pins s1 σ H1 vs us Q I1 r1 q1) he hpl
end
end L2
namespace HT
open PySem PyProof.Rows
section
open PySem.SeqAt
open PySem.AutoSeq1 (wpAny_loadPart')
open PySem.MeetsSeq PySem.MeetsSeq2 PySem.MeetsSeq3
end
section
variable {prog:Program} {w:World} {A:Around} {E:Value→Shared→Prop} {s:Shared}
theorem cat_tup {t b:Addr} {vs ws:List Value} {Q:Value→Shared→Prop} (ht:IsTup s.heap t vs.toArray) (hb:IsTup s.heap b ws.toArray) (hv:vs≠[])
  (h1:ws=[]→Q (.ref t) s) (h2:ws≠[]→Q (.ref s.heap.objs.size) { s with heap:=s.heap.push { cls:=.type "tuple",data:=.seq (vs++ws).toArray } })
  (hsz:vs.length+ws.length≤sizeLine):wpAny (model prog w) A (binaryOp .Add (.ref t) (.ref b)) Q E s:=by
 obtain ⟨⟨cls,dd,data,sl⟩,ho,hc,n,hd⟩:=id ht
 obtain ⟨⟨cls2,dd2,data2,sl2⟩,ho2,hc2,n2,hd2⟩:=id hb
 simp only at hc hd hc2 hd2
 subst hc hd hc2 hd2
 have e:vs.toArray++ws.toArray=(vs++ws).toArray:=by simp
 by_cases hw:ws=[]
 ·exact concat_meets ⟨_,ho,rfl⟩ ⟨_,ho2,rfl⟩ noFill_tuple_add seq_tuple_add PySem.F.slot_tuple_add PySem.F.entry_tuple_add (PySem.F.args_tuple_add_2 _ _)
   (tuple_addW1 t b vs.toArray ws.toArray n n2 dd dd2 sl sl2 (by simpa using hv) (by simp [hw])) ⟨ho,ho2,h1 hw⟩
 ·refine concat_meets ⟨_,ho,rfl⟩ ⟨_,ho2,rfl⟩ noFill_tuple_add seq_tuple_add PySem.F.slot_tuple_add PySem.F.entry_tuple_add (PySem.F.args_tuple_add_2 _ _)
   (tuple_addW2 t b vs.toArray ws.toArray n n2 dd dd2 sl sl2 (by simpa using hv) (by simpa using hw) (by rw [List.size_toArray,List.size_toArray]; exact hsz)) ⟨ho,ho2,?_⟩
  rw [e]
  exact h2 hw
def sIx (n d:Nat):Option Int→Nat
 | none=>d
 | some v=>if v<0 then (v+(n:Int)).toNat else min v.toNat n
theorem sIx_none (n d:Nat):sIx n d none=d:=rfl
theorem sIx_nat (n d k:Nat):sIx n d (some (k:Int))=min k n:=by
 show (if (k:Int)<0 then ((k:Int)+(n:Int)).toNat else min (k:Int).toNat n)=min k n
 rw [if_neg (by omega),Int.toNat_natCast]
theorem Bz (n d:Nat) (hd:d≤n) (o:Option Int):sIx n d o≤n:=by
 cases o with
 | none=>exact hd
 | some v =>
  show (if v<0 then (v+(n:Int)).toNat else min v.toNat n)≤n
  by_cases hv:v<0
  ·rw [if_pos hv]; omega
  ·rw [if_neg hv]; exact Nat.min_le_right _ _
theorem vM (v:Int) (n d:Nat):(if v<0 then max (v+(n:Int)) 0 else min v (n:Int))=((sIx n d (some v):Nat):Int):=by
 show (if v<0 then max (v+(n:Int)) 0 else min v (n:Int))=(((if v<0 then (v+(n:Int)).toNat else min v.toNat n):Nat):Int)
 by_cases hv:v<0
 ·simp only [if_pos hv]; omega
 ·simp only [if_neg hv]; omega
theorem ui (lo hi:Option Int) (n:Nat):Builtin.Slice.sliceAdjust lo hi 1 (n:Int)=(((sIx n 0 lo:Nat):Int),((sIx n n hi:Nat):Int)):=by
 have h1:¬ ((1:Int)<0):=by omega
 unfold Builtin.Slice.sliceAdjust
 simp only [h1,if_false]
 refine Prod.ext ?_ ?_
 ·cases lo with
  | none=>rfl
  | some v=>exact vM v n 0
 ·cases hi with
  | none=>rfl
  | some v=>exact vM v n n
theorem su (i j:Nat):Builtin.Slice.slicePlaces (i:Int) (j:Int) 1=j - i:=by
 unfold Builtin.Slice.slicePlaces
 have h1:(1:Int) > 0:=by omega
 simp only [h1,if_true,Int.ediv_one]
 split<;>omega
theorem jV {v:Value} {o:Option Int} {Q:Option Int→Shared→Prop} (p:IsPart v o) (h:Q o s):wpAny (model prog w) A (Builtin.Slice.slicePartIndex v) Q E s:=by
 cases p with
 | none=>exact slicePart_none h
 | int i t=>exact slicePart_int h
theorem dc {sl:Addr} {vl vu:Value} {lo hi:Option Int} {n:Nat} {Q:Int×Int×Nat→Shared→Prop} (hs:s.heap.IsSliceOf sl vl vu .none) (pl:IsPart vl lo) (pu:IsPart vu hi)
  (h:Q (((sIx n 0 lo:Nat):Int),1,sIx n n hi - sIx n 0 lo) s):wpAny (model prog w) A (Builtin.Slice.sliceApplied (.ref sl) (pure (n:Int))) Q E s:=by
 obtain ⟨os,hos,hcs,hds⟩:=id hs
 unfold Builtin.Slice.sliceApplied Builtin.Slice.sliceFields
 refine wpAny_bind (wpAny_bind (wpAny_field hos hds (x:=vl) rfl (wpAny_bind (wpAny_field hos hds (x:=vu) rfl (wpAny_bind (wpAny_field hos hds (x:=.none) rfl (wpAny_pure ?_)))))))
 refine wpAny_bind (slicePart_none ?_)
 show wpAny _ _ (if ((1:Int)==0)=true then _ else _) _ _ s
 rw [if_neg (by decide)]
 refine wpAny_bind (jV pl (wpAny_bind (jV pu (wpAny_bind (wpAny_pure ?_)))))
 show wpAny _ _ (match Builtin.Slice.sliceAdjust lo hi 1 (n:Int) with | (lo,hi)=>pure (lo,(1:Int),Builtin.Slice.slicePlaces lo hi 1)) _ _ s
 rw [ui lo hi n]
 show wpAny _ _ (pure (((sIx n 0 lo:Nat):Int),(1:Int),Builtin.Slice.slicePlaces ((sIx n 0 lo:Nat):Int) ((sIx n n hi:Nat):Int) 1)) _ _ s
 rw [su]
 exact wpAny_pure h
theorem xB (xs:Array Value) (i k:Nat):((List.range k).filterMap fun (m:Nat)=>xs[((i:Int)+(m:Int)*1).toNat]?).toArray=((xs.toList.drop i).take k).toArray:=by
 have e:(fun (m:Nat)=>xs[((i:Int)+(m:Int)*1).toNat]?)=fun m=>xs[i+m]?:=by
  funext m
  have:((i:Int)+(m:Int)*1).toNat=i+m:=by omega
  rw [this]
 rw [e]
 have:=pick_run xs i k
 rw [List.filterMap_map] at this
 have e2:((fun x=>xs[x]?) ∘ fun x=>i+x)=fun m=>xs[i+m]?:=rfl
 rw [e2] at this
 rw [this]
theorem getItem_tuple_cut {t sl:Addr} {items:Array Value} {vl vu:Value} {lo hi:Option Int} {Q:Value→Shared→Prop} (ht:IsTup s.heap t items) (hs:s.heap.IsSliceOf sl vl vu .none) (pl:IsPart vl lo) (pu:IsPart vu hi)
  (hw:¬ (sIx items.size 0 lo=0∧sIx items.size items.size hi=items.size))
  (h:Q (.ref s.heap.objs.size) { s with heap:=s.heap.push { cls:=.type "tuple",data:=.seq ((items.toList.drop (sIx items.size 0 lo)).take (sIx items.size items.size hi - sIx items.size 0 lo)).toArray } })
  (hsz:items.size≤sizeLine):wpAny (model prog w) A (getItem (.ref t) (.ref sl)) Q E s:=by
 have htake:sizeOk (.seq ((items.toList.drop (sIx items.size 0 lo)).take (sIx items.size items.size hi - sIx items.size 0 lo)).toArray):=by
  show ((items.toList.drop (sIx items.size 0 lo)).take (sIx items.size items.size hi - sIx items.size 0 lo)).toArray.size≤sizeLine
  rw [List.size_toArray,List.length_take,List.length_drop,Array.length_toList]
  omega
 have hj:sIx items.size items.size hi≤items.size:=Bz _ _ (Nat.le_refl _) hi
 obtain ⟨os,hos,hcs,hds⟩:=id hs
 have hTs:s.TypeIs (.ref sl) "slice":=⟨os,hos,hcs⟩
 unfold getItem
 try with_reducible refine wpAny_holding ?_
 first | refine wpAny_bind (wpAny_pure ?_) | skip
 refine wpAny_bind (wpAny_sequenceKey ht.typeIs (by decide) ?_)
 refine wpAny_bind (wpAny_callSpecial?_slot (name:=Str.ofString "__getitem__") ht.typeIs PyProof.Rows.slot_tuple_getitem
  (wpAny_call_entry PyProof.Rows.slot_tuple_getitem ht.typeIs entry_tuple_getitem ?_ (args_tuple_getitem _ _)))
 show wpAny _ _ (Builtin.Tuple.tupleItemsOf (.ref t) >>= _) _ _ s
 refine wpAny_bind (tupleItemsOf_ ht ?_)
 refine wpAny_bind (wpAny_typeOf hTs ?_)
 rw [if_pos (by decide)]
 refine wpAny_bind (dc hs pl pu ?_)
 have hno:¬ ((((sIx items.size 0 lo:Nat):Int)==0&&(1:Int)==1&&(sIx items.size items.size hi - sIx items.size 0 lo)==items.size)=true):=by
  intro q
  rw [Bool.and_eq_true,Bool.and_eq_true] at q
  have q1:((sIx items.size 0 lo:Nat):Int)=0:=eq_of_beq q.1.1
  have q2:sIx items.size items.size hi - sIx items.size 0 lo=items.size:=eq_of_beq q.2
  exact hw ⟨by omega,by omega⟩
 show wpAny _ _ (if (((sIx items.size 0 lo:Nat):Int)==0&&(1:Int)==1&&(sIx items.size items.size hi - sIx items.size 0 lo)==items.size)=true then _ else _) _ _ s
 rw [if_neg hno,xB]
 first
  | exact wpAny_bind (m:=Builtin.Tuple.tupleExact _) (wpAny_newObj_type (wpAny_pure ⟨_,rfl,wpAny_pure h⟩) htake)
  | exact wpAny_bind (m:=Builtin.Tuple.tupleExact _) (wpAny_newObj_type (wpAny_bind (wpAny_pure (wpAny_pure ⟨_,rfl,wpAny_pure h⟩))) htake)
  | exact wpAny_bind (wpAny_bind (m:=Builtin.Tuple.tupleExact _) (wpAny_newObj_type (wpAny_pure (wpAny_pure ⟨_,rfl,wpAny_pure h⟩)) htake))
  | exact wpAny_bind (wpAny_bind (m:=Builtin.Tuple.tupleExact _) (wpAny_newObj_type (wpAny_pure ⟨_,rfl,wpAny_pure h⟩) htake))
end
end HT
namespace L2
open PySem PySem.Spec PyProof.Rows
abbrev TO:=St→Hp→(Option Int→Hp→Prop)→Prop
def PO (X:Cx) (e:Option Expr) (t:TO):Prop :=
 ∀ (pins:List (Addr×Obj)) (s:Shared) (σ:St) (H:Hp) (Q:Option Int→Hp→Prop),Inv X pins σ H s→t σ H Q →
  wpAny (model X.prog X.w) X.A (evalPart e X.env) (fun u s'=>∃ o H',Inv X pins σ H' s'∧IsPart u o∧Q o H') X.xe s
def zk:TO:=fun _ H Q=>Q none H
def Dg (t:TE):TO:=fun σ H Q=>t σ H fun x H1=>∃ i,x=.int i∧Q (some i) H1
section
variable {X:Cx} {e:Expr} {te:TE} {lo hi:Option Expr} {tl th:TO} {pos p2:Pos}
theorem gy:PO X none zk:=by
 intro pins s σ H Q I h
 rw [evalPart_none]
 exact wpAny_pure ⟨none,H,I,.none,h⟩
theorem gR (h:PE X e te):PO X (some e) (Dg te):=by
 intro pins s σ H Q I hw
 rw [evalPart_some]
 refine thn (h pins s σ H _ I hw) fun u s1 ⟨x,H1,I1,r1,q1⟩=>?_
 obtain ⟨i,rfl,q⟩:=q1
 obtain ⟨t,rfl⟩:=r1
 exact ⟨some i,H1,I1,.int i t,q⟩
def SlR (X:Cx) (r:V→Option Int→Option Int→Hp→VK→Prop):Prop :=
 ∀ (pins:List (Addr×Obj)) (s:Shared) (σ:St) (H:Hp) (x:V) (v vl vu:Value) (lo hi:Option Int) (sl:Addr) (Q:VK),Inv X pins σ H s→bh x v→s.heap.IsSliceOf sl vl vu .none→IsPart vl lo→IsPart vu hi→r x lo hi H Q →
  ∃ T id,typeLookup (.type T) "__getitem__"=pure (some (.builtin id))∧s.TypeIs v T∧wpAny (model X.prog X.w) X.A (getItem v (.ref sl)) (EP X pins σ Q) X.xe s
theorem SlR.or {r r':V→Option Int→Option Int→Hp→VK→Prop} (h:SlR X r) (h':SlR X r'):SlR X (fun x lo hi H Q=>r x lo hi H Q∨r' x lo hi H Q):=by
 intro pins s σ H x v vl vu lo hi sl Q I rx hs pl pu q
 rcases q with q | q
 ·exact h pins s σ H x v vl vu lo hi sl Q I rx hs pl pu q
 ·exact h' pins s σ H x v vl vu lo hi sl Q I rx hs pl pu q
def tSl (r:V→Option Int→Option Int→Hp→VK→Prop) (te:TE) (tl th:TO):TE:=fun σ H Q=>te σ H fun x H1=>tl σ H1 fun l H2=>th σ H2 fun u H3=>r x l u H3 Q
theorem eO {r:V→Option Int→Option Int→Hp→VK→Prop} (hr:SlR X r) (he:PE X e te) (hl:PO X lo tl) (hu:PO X hi th):PE X (.Subscript e (.Slice lo hi none p2) pos) (tSl r te tl th):=by
 intro pins s σ H Q I h
 refine Subscript_ (thn (he pins s σ H _ I h) fun v s1 ⟨x,H1,I1,r1,q1⟩=>?_)
 refine wpAny_Slice (thn (hl pins s1 σ H1 _ I1 q1) fun vl s2 ⟨l,H2,I2,pl,q2⟩=>thn (hu pins s2 σ H2 _ I2 q2) fun vu s3 ⟨u,H3,I3,pu,q3⟩=>?_)
 rw [evalPart_none]
 refine wpAny_pure ?_
 have I4:Inv X pins σ H3 { s3 with heap:=s3.heap.push { cls:=.type "slice",data:=.fields #[vl,vu,.none] } }:=I3.kept (t':=s3.toks) fun b ob q=>Heap.get?_push_of_some _ q
 obtain ⟨T,id,hT,ht,hg⟩:=hr pins { s3 with heap:=s3.heap.push { cls:=.type "slice",data:=.fields #[vl,vu,.none] } } σ H3 x v vl vu l u s3.heap.objs.size Q I4 r1 (Heap.IsSliceOf.new ..) pl pu q3
 show wpAny (model X.prog X.w) X.A (subscriptTail e (.Slice lo hi none p2) v (.ref s3.heap.objs.size)) (EP X pins σ Q) X.xe { s3 with heap:=s3.heap.push { cls:=.type "slice",data:=.fields #[vl,vu,.none] } }
 exact tail_any (ops:=[.ref s3.heap.objs.size,v]) ht hT hg (by with_unfolding_all rfl)
def iO (xs:List V) (lo hi:Option Int):List V:=(xs.drop (HT.sIx xs.length 0 lo)).take (HT.sIx xs.length xs.length hi - HT.sIx xs.length 0 lo)
theorem iC (xs:List V) (lo hi:Option Int):(iO xs lo hi).length≤xs.length:=by
 unfold iO
 rw [List.length_take,List.length_drop]
 omega
def BK (K:Frag):V→Option Int→Option Int→Hp→VK→Prop:=fun x lo hi H Q=>∃ a xs,x=.ref a∧SqT K H a xs ∧
 ¬ (HT.sIx xs.length 0 lo=0∧HT.sIx xs.length xs.length hi=xs.length)∧∀ p,H p=none→Q (.ref p) (upd H p (.tup (iO xs lo hi)))
theorem nR:SlR X (BK X.K):=by
 intro pins s σ H x v vl vu lo hi sl Q I rx hs pl pu h
 obtain ⟨a,xs,rfl,hx,hw,q⟩:=h
 cases rx
 obtain ⟨its,r,ht,hz⟩:=I.tuple hx
 have hlen:its.toArray.size=xs.length:=by rw [List.size_toArray]; exact r.length.symm
 refine ⟨"tuple",_,PyProof.Rows.slot_tuple_getitem.lookup,ht.typeIs,?_⟩
 refine HT.getItem_tuple_cut ht hs pl pu (by rw [hlen]; exact hw) ?_ (by rw [hlen]; exact hz)
 rw [hlen]
 refine ⟨.ref s.heap.objs.size,_,I.laid (t':=s.toks) (o:=.tup (iO xs lo hi)) (fun b ob q=>Heap.get?_push_of_some _ q) (Nat.le_refl _) ?_,rfl,q _ (I.hok.fresh (Nat.le_refl _))⟩
 exact ⟨Nat.le_trans (iC xs lo hi) hz,_,(r.drop (HT.sIx xs.length 0 lo)).take (HT.sIx xs.length xs.length hi - HT.sIx xs.length 0 lo),IsTup.new _ _,_,Heap.get?_push_size _ rfl,rfl⟩
def At (K:Frag):R2:=fun x y H Q=>∃ a b xs ys,x=.ref a∧y=.ref b∧SqT K H a xs∧SqT K H b ys∧xs≠[]∧xs.length+ys.length≤sizeLine ∧
 (ys=[]→Q (.ref a) H)∧(ys≠[]→∀ p,H p=none→Q (.ref p) (upd H p (.tup (xs++ys))))
theorem aY.nil_iff {xs:List V} {us:List Value} (r:aY xs us):us=[]↔xs=[]:=by
 cases r with
 | nil=>simp
 | cons _ _=>simp
theorem iY:OpR X (binaryOp .Add) (At X.K):=by
 intro pins s σ H x y v u Q I rx ry h
 obtain ⟨a,b,xs,ys,rfl,rfl,ha,hb,hx,hz,q1,q2⟩:=h
 cases rx
 cases ry
 obtain ⟨its,r1,p1,_⟩:=I.tuple ha
 obtain ⟨its2,r2,p2,_⟩:=I.tuple hb
 refine HT.cat_tup p1 p2 (fun z=>hx (r1.nil_iff.mp z)) (fun z=>⟨.ref a,H,I,rfl,q1 (r2.nil_iff.mp z)⟩) (fun z=>?_) (by rw [← r1.length,← r2.length]; exact hz)
 refine ⟨.ref s.heap.objs.size,_,I.laid (t':=s.toks) (o:=.tup (xs++ys)) (fun b ob q=>Heap.get?_push_of_some _ q) (Nat.le_refl _) ?_,rfl,q2 (fun w=>z (r2.nil_iff.mpr w)) _ (I.hok.fresh (Nat.le_refl _))⟩
 exact ⟨by rw [List.length_append]; exact hz,_,r1.append r2,IsTup.new _ _,_,Heap.get?_push_size _ rfl,rfl⟩
end
open PySem PySem.Spec PyProof.Rows
def ixN (n:Nat) (i:Int):Option Nat:=if 0≤i then (if i<n then some i.toNat else none) else if -(n:Int)≤i then some (i+n).toNat else none
def atI {α:Type} (xs:List α) (i:Int):Option α:=(ixN xs.length i).bind fun j=>xs[j]?
theorem vk {n:Nat} {i:Int} {j:Nat} (h:ixN n i=some j):seqIndex? i n=some j∧j<n∧-(n:Int)≤i∧i<n:=by
 unfold ixN at h
 by_cases h0:0≤i
 ·rw [if_pos h0] at h
  by_cases h1:i<n
  ·rw [if_pos h1] at h
   have e:i.toNat=j:=Option.some.inj h
   exact ⟨by rw [seqIndex_of h0 h1,e],by omega,by omega,h1⟩
  ·rw [if_neg h1] at h; cases h
 ·rw [if_neg h0] at h
  by_cases h1:-(n:Int)≤i
  ·rw [if_pos h1] at h
   have e:(i+n).toNat=j:=Option.some.inj h
   exact ⟨by rw [seqIndex_neg (by omega) h1,e],by omega,h1,by omega⟩
  ·rw [if_neg h1] at h; cases h
theorem vo {α:Type} {xs:List α} {i:Int} {v:α} (h:atI xs i=some v):∃ j,seqIndex? i xs.length=some j∧xs[j]?=some v∧j<xs.length∧-(xs.length:Int)≤i∧i<xs.length:=by
 unfold atI at h
 cases e:ixN xs.length i with
 | none=>rw [e] at h; cases h
 | some j =>
  rw [e] at h
  obtain ⟨h1,h2,h3,h4⟩:=vk e
  exact ⟨j,h1,h,h2,h3,h4⟩
theorem ve {α:Type} {xs:List α} {j:Nat} {v:α} (h:xs[j]?=some v):atI xs (j:Int)=some v:=by
 have hj:j<xs.length:=(List.getElem?_eq_some_iff.mp h).1
 have e:ixN xs.length (j:Int)=some j:=by
  unfold ixN
  rw [if_pos (by omega),if_pos (by omega)]; simp
 unfold atI; rw [e]; exact h
def zg (b:Expr):Prop:=∀ o i,subscripted b false o i=operate [o,i] (getItem o i)
def IxR (X:Cx) (r:R2):Prop :=
 ∀ (value slice:Expr) (pins:List (Addr×Obj)) (s:Shared) (σ:St) (H:Hp) (x y:V) (v u:Value) (Q:VK),Inv X pins σ H s→bh x v→bh y u→r x y H Q →
  subscripted slice false v u=operate [v,u] (getItem v u)→wpAny (model X.prog X.w) X.A (subscriptTail value slice v u) (EP X pins σ Q) X.xe s
def MtR (X:Cx) (id:String) (r:V→List V→Hp→VK→Prop):Prop :=
 ∀ (pins:List (Addr×Obj)) (s:Shared) (σ:St) (H:Hp) (x:V) (xs:List V) (v:Value) (us:List Value) (Q:VK),Inv X pins σ H s→bh x v→aY xs us→r x xs H Q →
  wpAny (model X.prog X.w) X.A (call (.builtin id) (v::us)) (EP X pins σ Q) X.xe s
section
variable {X:Cx} {a b:Expr} {ta tb:TE} {pos:Pos}
theorem aA {r:R2} (hr:IxR X r) (ha:PE X a ta) (hb:PE X b tb) (hs:zg b):PE X (.Subscript a b pos) (tOp r ta tb):=by
 intro pins s σ H Q I h
 exact Subscript_ (Ba ha hb I h fun v u s2 x y H2 I2 rx ry q=>hr a b pins s2 σ H2 x y v u Q I2 rx ry q (hs _ _))
def Dp (K:Frag):R2:=fun x y H Q=>∃ p xs i v,x=.ref p∧y=.int i∧SqL K H p xs∧atI xs i=some v∧Q v H
def Ce (K:Frag):R2:=fun x y H Q=>∃ p xs i v,x=.ref p∧y=.int i∧SqT K H p xs∧atI xs i=some v∧Q v H
theorem cx:IxR X (Dp X.K):=by
 intro value slice pins s σ H x y v u Q I rx ry h hs
 obtain ⟨p,xs,i,z,rfl,rfl,hq,he,q⟩:=h
 cases rx
 obtain ⟨t,rfl⟩:=ry
 obtain ⟨its,r,pl,hz⟩:=I.list hq
 obtain ⟨j,h1,h2,h3,h4,h5⟩:=vo he
 obtain ⟨w,ew,rw'⟩:=r.get h2
 have hl:=r.length
 have hn:=im
 have fin:EP X pins σ Q w s:=⟨z,H,I,rw',q⟩
 by_cases h0:0≤i
 ·have hj:i.toNat=j:=by
   rw [seqIndex_of h0 h5] at h1
   exact Option.some.inj h1
  exact item_listR pl.isList h0 (by omega) (by rw [hj]; simpa using ew) fin hs
 ·have hj:(i+(its.toArray.size:Int)).toNat=j:=by
   rw [seqIndex_neg (by omega) h4] at h1
   rw [List.size_toArray,← hl]
   exact Option.some.inj h1
  exact subscriptTail_builtinR (x:=w) pl.isList.typeIs slot_list_getitem.lookup
   (wpAny_getItem_list_neg (Q:=fun r s'=>r=w∧EP X pins σ Q r s') pl.isList (by omega) (by rw [List.size_toArray]<;>omega) (by omega) (by rw [hj]; simpa using ew) ⟨rfl,fin⟩) hs
theorem av:IxR X (Ce X.K):=by
 intro value slice pins s σ H x y v u Q I rx ry h hs
 obtain ⟨p,xs,i,z,rfl,rfl,hq,he,q⟩:=h
 cases rx
 obtain ⟨t,rfl⟩:=ry
 obtain ⟨its,r,pl,hz⟩:=I.tuple hq
 obtain ⟨j,h1,h2,h3,h4,h5⟩:=vo he
 obtain ⟨w,ew,rw'⟩:=r.get h2
 have hl:=r.length
 have hn:=im
 have fin:EP X pins σ Q w s:=⟨z,H,I,rw',q⟩
 exact subscriptTail_builtinR (x:=w) pl.typeIs slot_tuple_getitem.lookup
  (getItem_tuple (j:=j) (Q:=fun r s'=>r=w∧EP X pins σ Q r s') pl (by omega) (by omega) (by rw [List.size_toArray,← hl]; exact h1) (by simpa using ew) ⟨rfl,fin⟩) hs
theorem rC (its:List Value) (n j:Nat) (u:Value):Obj.mapSeq (·.setIfInBounds j u) { cls:=.type "list",data:=.seq its.toArray n }={ cls:=.type "list",data:=.seq (its.set j u).toArray n }:=by
 simp [Obj.mapSeq]
theorem Inv.lst {pins:List (Addr×Obj)} {σ:St} {H:Hp} {s:Shared} {p:Addr} {xs:List V} (I:Inv X pins σ H s) (h:H p=some (.lst xs)) :
  ∃ (its:List Value) (n:Nat),aY xs its∧s.heap.get? p=some { cls:=.type "list",data:=.seq its.toArray n }∧xs.length≤sizeLine:=by
 obtain ⟨z,its,n,r,e⟩:=I.hok p _ h
 exact ⟨its,n,r,e,z⟩
theorem Inv.lstUpd {pins:List (Addr×Obj)} {σ:St} {H:Hp} {s:Shared} {p:Addr} {xs ys:List V} {its its':List Value} {n n':Nat} {f:Obj→Obj} (I:Inv X pins σ H s) (h:H p=some (.lst xs))
  (ho:s.heap.get? p=some { cls:=.type "list",data:=.seq its.toArray n }) (hf:f { cls:=.type "list",data:=.seq its.toArray n }={ cls:=.type "list",data:=.seq its'.toArray n' }) (r:aY ys its') (hz:ys.length≤sizeLine) (t:Nat) :
  Inv X pins σ (upd H p (.lst ys)) { s with heap:=s.heap.update p f,toks:=t }:=by
 have e:(s.heap.update p f).get? p=some { cls:=.type "list",data:=.seq its'.toArray n' }:=by
  rw [Heap.get?_update_self f ho (by rw [hf]<;>rfl),hf]
 refine I.write (x:=p) (e:=p) (by rw [h]; trivial) (.inl rfl) (fun b u hb q=>(Heap.get?_update_other _ _ (Ne.symm hb)).trans q) ⟨_,e⟩ ?_
 exact ⟨hz,its',n',r,e⟩
def CP:V→V→V→Hp→(Hp→Prop)→Prop:=fun o i v H Q=>∃ p xs k j,o=.ref p∧i=.int k∧H p=some (.lst xs)∧ixN xs.length k=some j∧Q (upd H p (.lst (xs.set j v)))
theorem jU:CM X CP:=by
 intro pins s σ H o i v ov iv u Q I ro ri rv h
 obtain ⟨p,xs,k,j,rfl,rfl,hp,hj,q⟩:=h
 cases ro
 obtain ⟨t,rfl⟩:=ri
 obtain ⟨its,n,r,ho,hz⟩:=I.lst hp
 obtain ⟨h1,h2,h3,h4⟩:=vk hj
 have hl:=r.length
 have hn:=im
 have I':Inv X pins σ (upd H p (.lst (xs.set j v))) { s with heap:=s.heap.update p (Obj.mapSeq (·.setIfInBounds j u)) } :=
  I.lstUpd hp ho (rC its n j u) (r.set rv j) (by rw [List.length_set]; exact hz) s.toks
 by_cases h0:0≤k
 ·have hk:k.toNat=j:=by
   rw [seqIndex_of h0 h4] at h1
   exact Option.some.inj h1
  exact PySem.W.ki_setAt ho h0 (by omega) (by rw [List.size_toArray,← hl]; exact h4) (by rw [hk]; exact ⟨_,I',q⟩)
 ·have hk:(k+(its.toArray.size:Int)).toNat=j:=by
   rw [seqIndex_neg (by omega) h3] at h1
   rw [List.size_toArray,← hl]
   exact Option.some.inj h1
  exact PySem.W.ki_setBack ho (by omega) (by rw [List.size_toArray,← hl]; exact h3) (by omega) (by rw [hk]; exact ⟨_,I',q⟩)
theorem nS (lo hi:Option Int) (n:Nat):(sliceBounds lo hi none n).1=((HT.sIx n 0 lo:Nat):Int)∧(sliceBounds lo hi none n).2.1=((HT.sIx n n hi:Nat):Int)∧(sliceBounds lo hi none n).2.2=1:=by
 refine ⟨?_,?_,rfl⟩
 ·cases lo with
  | none=>simp [sliceBounds,HT.sIx]
  | some i =>
   simp only [sliceBounds,HT.sIx,Option.getD_none,show (1:Int) > 0 by decide,if_true]
   by_cases h:i<0
   ·simp only [h,if_true]<;>omega
   ·simp only [h,if_false]<;>omega
 ·cases hi with
  | none=>simp [sliceBounds,HT.sIx]
  | some i =>
   simp only [sliceBounds,HT.sIx,Option.getD_none,show (1:Int) > 0 by decide,if_true]
   by_cases h:i<0
   ·simp only [h,if_true]<;>omega
   ·simp only [h,if_false]<;>omega
theorem kq (its:List Value) (lo hi:Option Int):slicePick its.toArray lo hi none=((its.drop (HT.sIx its.length 0 lo)).take (HT.sIx its.length its.length hi - HT.sIx its.length 0 lo)).toArray:=by
 obtain ⟨h1,h2,h3⟩:=nS lo hi its.toArray.size
 unfold slicePick
 rw [h1,h2,h3]
 simp only [sliceRange_one,pick_run,List.size_toArray]<;>rfl
def Do (K:Frag):V→Option Int→Option Int→Hp→VK→Prop:=fun x lo hi H Q=>∃ a xs,x=.ref a∧SqL K H a xs∧∀ p,H p=none→Q (.ref p) (upd H p (.lst (iO xs lo hi)))
theorem zJ:SlR X (Do X.K):=by
 intro pins s σ H x v vl vu lo hi sl Q I rx hs pl pu h
 obtain ⟨a,xs,rfl,hx,q⟩:=h
 cases rx
 obtain ⟨its,r,ht,hz⟩:=I.list hx
 have hlen:=r.length
 refine ⟨"list",_,slot_list_getitem.lookup,ht.isList.typeIs,?_⟩
 refine wpAny_getItem_list_slice ht.isList hs pl pu .none (by simp) ?_ (by rw [List.size_toArray]<;>omega)
 rw [kq,← hlen]
 refine ⟨.ref s.heap.objs.size,_,I.laid (t':=s.toks) (o:=.lst (iO xs lo hi)) (fun b ob q=>Heap.get?_push_of_some _ q) (Nat.le_refl _) ?_,rfl,q _ (I.hok.fresh (Nat.le_refl _))⟩
 exact ⟨Nat.le_trans (iC xs lo hi) hz,_,0,(r.drop (HT.sIx xs.length 0 lo)).take (HT.sIx xs.length xs.length hi - HT.sIx xs.length 0 lo),Heap.get?_push_size _ rfl⟩
def eF:V→Bool
 | .non=>true
 | .bl _=>true
 | .int _=>true
 | .str _=>true
 | _=>false
def eqV:V→V→Bool
 | .non,.non=>true
 | .bl a,.bl b=>a==b
 | .bl a,.int b=>(if a then 1 else 0)==b
 | .int a,.bl b=>a==(if b then 1 else 0)
 | .int a,.int b=>a==b
 | .str a,.str b=>a==b
 | _,_=>false
theorem BB {A:Around} {s:Shared} {y x:V} {u v:Value} (ry:bh y u) (rx:bh x v) (fy:eF y=true) (fx:eF x=true):SeqAt.EqAt A s u v (eqV y x):=by
 cases y with
 | non =>
  cases ry
  cases x with
  | non=>cases rx; exact SeqAt.EqAt.same _
  | bl b=>cases rx; exact SeqAt.EqAt.none_bool b
  | int b=>obtain ⟨t,rfl⟩:=rx; exact SeqAt.EqAt.none_int b t
  | str b=>obtain ⟨t,rfl⟩:=rx; exact SeqAt.EqAt.none_str b t
  | _=>exact absurd (show false=true from fx) Bool.false_ne_true
 | bl a =>
  cases ry
  cases x with
  | non=>cases rx; exact SeqAt.EqAt.bool_none a
  | bl b=>cases rx; exact SeqAt.EqAt.bool_bool a b
  | int b=>obtain ⟨t,rfl⟩:=rx; exact SeqAt.EqAt.bool_int a b t
  | str b=>obtain ⟨t,rfl⟩:=rx; exact SeqAt.EqAt.bool_str a b t
  | _=>exact absurd (show false=true from fx) Bool.false_ne_true
 | int a =>
  obtain ⟨t',rfl⟩:=ry
  cases x with
  | non=>cases rx; exact SeqAt.EqAt.int_none a t'
  | bl b=>cases rx; exact SeqAt.EqAt.int_bool a t' b
  | int b=>obtain ⟨t,rfl⟩:=rx; exact SeqAt.EqAt.int_int a t' b t
  | str b=>obtain ⟨t,rfl⟩:=rx; exact SeqAt.EqAt.int_str a t' b t
  | _=>exact absurd (show false=true from fx) Bool.false_ne_true
 | str a =>
  obtain ⟨t',rfl⟩:=ry
  cases x with
  | non=>cases rx; exact SeqAt.EqAt.str_none a t'
  | bl b=>cases rx; exact SeqAt.EqAt.str_bool a t' b
  | int b=>obtain ⟨t,rfl⟩:=rx; exact SeqAt.EqAt.str_int a t' b t
  | str b=>obtain ⟨t,rfl⟩:=rx; exact SeqAt.EqAt.str_str a t' b t
  | _=>exact absurd (show false=true from fx) Bool.false_ne_true
 | _=>exact absurd (show false=true from fy) Bool.false_ne_true
def eqU (x:V) (u:Value):Bool:=match u with
 | .none=>eqV .non x
 | .bool b=>eqV (.bl b) x
 | .int i _=>eqV (.int i) x
 | .str z _=>eqV (.str z) x
 | _=>false
theorem ym {x y:V} {u:Value} (r:bh y u) (f:eF y=true):eqU x u=eqV y x:=by
 cases y with
 | non=>cases r; rfl
 | bl b=>cases r; rfl
 | int i=>obtain ⟨t,rfl⟩:=r; rfl
 | str z=>obtain ⟨t,rfl⟩:=r; rfl
 | _=>exact absurd (show false=true from f) Bool.false_ne_true
theorem gA {x:V}:∀ {xs:List V} {us:List Value},aY xs us→xs.all eF=true→us.any (eqU x)=xs.any fun y=>eqV y x
 | _,_,.nil,_=>rfl
 | y::xs,u::us,.cons r t,f=>by
  rw [List.all_cons,Bool.and_eq_true] at f
  rw [List.any_cons,List.any_cons,ym r f.1,gA t f.2]
theorem eU {A:Around} {s:Shared} {x:V} {v:Value} (rx:bh x v) (fx:eF x=true):∀ {xs:List V} {us:List Value},aY xs us→xs.all eF=true→∀ u∈us,SeqAt.EqAt A s u v (eqU x u)
 | _,_,.nil,_=>fun u hu=>by cases hu
 | y::xs,u::us,.cons r t,f=>fun u' hu=>by
  rw [List.all_cons,Bool.and_eq_true] at f
  rcases List.mem_cons.mp hu with rfl | hu
  ·rw [ym r f.1]; exact BB r rx f.1 fx
  ·exact eU rx fx t f.2 u' hu
def inV (x:V) (xs:List V):Bool:=xs.any fun y=>eqV y x
def rIn (K:Frag) (neg:Bool):R2:=fun x y H Q=>∃ p xs,y=.ref p∧(SqL K H p xs∨SqT K H p xs)∧eF x=true∧xs.all eF=true∧Q (.bl (if neg then !inV x xs else inV x xs)) H
theorem cg:OpR X (compareOp .In) (rIn X.K false):=by
 intro pins s σ H x y v u Q I rx ry h
 obtain ⟨p,xs,rfl,hq,fx,fs,q⟩:=h
 cases ry
 rcases hq with hq | hq
 ·obtain ⟨its,r,pl,hz⟩:=I.list hq
  refine SeqAt.in_listAt (eqU x) pl.isList (fun w hw=>eU rx fx r fs w (by simpa using hw)) ⟨.bl _,H,I,rfl,?_⟩
  rw [show its.toArray.any (eqU x)=its.any (eqU x) by simp,gA r fs]
  exact q
 ·obtain ⟨its,r,pl,hz⟩:=I.tuple hq
  refine SeqAt.in_tupleAt (eqU x) pl (fun w hw=>eU rx fx r fs w (by simpa using hw)) ⟨.bl _,H,I,rfl,?_⟩
  rw [show its.toArray.any (eqU x)=its.any (eqU x) by simp,gA r fs]
  exact q
theorem dI:OpR X (compareOp .NotIn) (rIn X.K true):=by
 intro pins s σ H x y v u Q I rx ry h
 obtain ⟨p,xs,rfl,hq,fx,fs,q⟩:=h
 cases ry
 rcases hq with hq | hq
 ·obtain ⟨its,r,pl,hz⟩:=I.list hq
  refine SeqAt.notIn_listAt (eqU x) pl.isList (fun w hw=>eU rx fx r fs w (by simpa using hw)) ⟨.bl _,H,I,rfl,?_⟩
  rw [show its.toArray.any (eqU x)=its.any (eqU x) by simp,gA r fs]
  exact q
 ·obtain ⟨its,r,pl,hz⟩:=I.tuple hq
  refine SeqAt.notIn_tupleAt (eqU x) pl (fun w hw=>eU rx fx r fs w (by simpa using hw)) ⟨.bl _,H,I,rfl,?_⟩
  rw [show its.toArray.any (eqU x)=its.any (eqU x) by simp,gA r fs]
  exact q
theorem bi:ef X (.builtin "len") (fun xs H Q=>∃ p ys,xs=[.ref p]∧(SqL X.K H p ys∨SqT X.K H p ys)∧Q (.int ys.length) H):=by
 intro pins s σ H xs us Q I r h
 obtain ⟨p,ys,rfl,hq,q⟩:=h
 obtain ⟨u,rfl,rx⟩:=jB r
 cases rx
 have hn:=im
 rcases hq with hq | hq
 ·obtain ⟨its,r',pl,hz⟩:=I.list hq
  have hlen:=r'.length
  exact Calls.call_len_list pl.isList (by simp only [List.size_toArray]<;>omega) ⟨.int ys.length,H,I.tok _,⟨s.toks+1,by rw [List.size_toArray,hlen]⟩,q⟩
 ·obtain ⟨its,r',pl,hz⟩:=I.tuple hq
  have hlen:=r'.length
  exact len_tuple pl (by simp only [List.size_toArray]<;>omega) ⟨.int ys.length,H,I.tok _,⟨s.toks+1,by rw [List.size_toArray,hlen]⟩,q⟩
theorem du:ef X (.builtin "len") (fun xs H Q=>∃ z,xs=[.str z]∧z.length≤sizeLine∧Q (.int z.length) H):=by
 intro pins s σ H xs us Q I r h
 obtain ⟨z,rfl,hz,q⟩:=h
 obtain ⟨u,rfl,t,rfl⟩:=jB r
 have hn:=im
 exact len_str (by omega) ⟨.int z.length,H,I.tok _,⟨_,rfl⟩,q⟩
theorem hJ:ef X (.type "list") (fun xs H Q=>∃ p ys,xs=[.ref p]∧(SqL X.K H p ys∨SqT X.K H p ys)∧∀ l,H l=none→Q (.ref l) (upd H l (.lst ys))):=by
 intro pins s σ H xs us Q I r h
 obtain ⟨p,ys,rfl,hq,q⟩:=h
 obtain ⟨u,rfl,rx⟩:=jB r
 cases rx
 have fin:∀ (its:List Value),aY ys its→ys.length≤sizeLine→∀ (h':Heap) (c':Nat),(∀ b o',s.heap.get? b=some o'→h'.get? b=some o') →
   h'.get? s.heap.objs.size=some { cls:=.type "list",dict:=none,data:=.seq its.toArray c',slots:=#[] }→EP X pins σ Q (.ref s.heap.objs.size) { s with heap:=h' }:=fun its r' hz h' c' kp e =>
  ⟨.ref s.heap.objs.size,_,I.laid (t':=s.toks) kp (Nat.le_refl _) (show bL X.prog X.w _ h' _ (.lst ys) from ⟨hz,its,c',r',e⟩),rfl,q _ (I.hok.fresh (Nat.le_refl _))⟩
 rcases hq with hq | hq
 ·obtain ⟨its,r',pl,hz⟩:=I.list hq
  have hlen:=r'.length
  obtain ⟨o,ho,hc,n,hd⟩:=pl.isList
  exact call_list_seq p (.inl rfl) ho hc hd (fun h' c' kp e=>fin its r' hz h' c' kp e) (by simp only [List.size_toArray]<;>omega)
 ·obtain ⟨its,r',pl,hz⟩:=I.tuple hq
  have hlen:=r'.length
  obtain ⟨o,ho,hc,n,hd⟩:=pl
  exact call_list_seq p (.inr rfl) ho hc hd (fun h' c' kp e=>fin its r' hz h' c' kp e) (by simp only [List.size_toArray]<;>omega)
theorem ko:ef X (.type "tuple") (fun xs H Q=>∃ p ys,xs=[.ref p]∧((SqL X.K H p ys∧∀ l,H l=none→Q (.ref l) (upd H l (.tup ys)))∨(SqT X.K H p ys∧Q (.ref p) H))):=by
 intro pins s σ H xs us Q I r h
 obtain ⟨p,ys,rfl,h⟩:=h
 obtain ⟨u,rfl,rx⟩:=jB r
 cases rx
 rcases h with ⟨hq,q⟩ | ⟨hq,q⟩
 ·obtain ⟨its,r',pl,hz⟩:=I.list hq
  have hlen:=r'.length
  refine call_tuple_list pl.isList (fun h' kp=>?_) (by simp only [List.size_toArray]<;>omega)
  have I1:Inv X pins σ H { s with heap:=h' }:=I.kept (t':=s.toks) kp
  have I2:Inv X pins σ (upd H h'.objs.size (.tup ys)) { s with heap:=h'.push { cls:=.type "tuple",data:=.seq its.toArray } } :=
   I1.laid (t':=s.toks) (fun b o e=>Heap.get?_push_of_some _ e) (Nat.le_refl _) (show bL X.prog X.w _ _ _ (.tup ys) from ⟨hz,its,r',IsTup.new _ _,_,Heap.get?_push_size _ rfl,rfl⟩)
  exact ⟨.ref h'.objs.size,_,I2,rfl,q _ (I1.hok.fresh (Nat.le_refl _))⟩
 ·obtain ⟨its,r',pl,hz⟩:=I.tuple hq
  exact call_tuple_same pl ⟨.ref p,H,I,rfl,q⟩
def tyV (K:Frag) (T:String) (x:V) (H:Hp):Prop:=match x with
 | .str _=>T = "str"
 | .int _=>T = "int"
 | .ref p=>(T = "list"∧∃ xs,SqL K H p xs)∨(T = "tuple"∧∃ o,K.lookup p=some o∧o.cls=.type "tuple"∧o.dict=none) ∨
   (T = "dict"∧((∃ kvs,H p=some (.dK kvs))∨∃ kvs,H p=some (.dT kvs)))∨(T = "set"∧∃ S n,H p=some (.set S n))
 | _=>False
theorem xf {pins:List (Addr×Obj)} {σ:St} {H:Hp} {s:Shared} {T:String} {x:V} {v:Value} (I:Inv X pins σ H s) (r:bh x v) (ty:tyV X.K T x H) :
  s.TypeIs v T∧∀ a,v=.ref a→∃ ob,s.heap.get? a=some ob∧ob.dict=none:=by
 cases x with
 | str z =>
  obtain ⟨t,rfl⟩:=r
  cases (show T = "str" from ty)
  exact ⟨typeIs_str s z t,fun _ e=>nomatch e⟩
 | int i =>
  obtain ⟨t,rfl⟩:=r
  cases (show T = "int" from ty)
  exact ⟨typeIs_int s i t,fun _ e=>nomatch e⟩
 | ref p =>
  cases r
  rcases ty with ⟨rfl,xs,hq⟩ | ⟨rfl,o,hk,hc,hd⟩ | ⟨rfl,hk⟩ | ⟨rfl,S,n,hk⟩
  ·obtain ⟨its,_,pl,_⟩:=I.list hq
   refine ⟨pl.isList.typeIs,fun a e=>?_⟩
   cases e
   obtain ⟨o,n,e,c,hd,_⟩:=pl
   exact ⟨o,e,hd⟩
  ·refine ⟨⟨o,I.kIn p o hk,hc⟩,fun a e=>?_⟩
   cases e
   exact ⟨o,I.kIn _ o hk,hd⟩
  ·have z:∃ o,s.heap.get? p=some o∧o.ExactDict:=by
    rcases hk with ⟨kvs,hk⟩ | ⟨kvs,hk⟩
    ·obtain ⟨_,_,_,_,o,_,_,e,ex,_⟩:=I.hok p _ hk
     exact ⟨o,e,ex⟩
    ·obtain ⟨_,_,_,_,o,_,_,e,ex,_⟩:=I.hok p _ hk
     exact ⟨o,e,ex⟩
   obtain ⟨o,e,ex⟩:=z
   refine ⟨⟨o,e,ex.1⟩,fun a e2=>?_⟩
   cases e2
   exact ⟨o,e,ex.2.1⟩
  ·obtain ⟨o,_,_,_,e,ex,_⟩:=I.hok p _ hk
   refine ⟨⟨o,e,ex.1⟩,fun a e2=>?_⟩
   cases e2
   exact ⟨o,e,ex.2.1⟩
 | _=>exact False.elim ty
def DC (K:Frag) (T:String) (r:V→List V→Hp→VK→Prop) (to:TE):TE:=fun σ H Q=>to σ H fun x H1=>tyV K T x H1∧r x [] H1 Q
def tBM (K:Frag) (T:String) (r:V→List V→Hp→VK→Prop) (to:TE) (t:TA):TE:=fun σ H Q=>to σ H fun x H1=>tyV K T x H1∧t σ H1 fun xs H2=>r x xs H2 Q
variable {o e:Expr} {es:List Expr} {to:TE} {t:TA} {name:Str} {apos cpos:Pos} {T id:String} {r:V→List V→Hp→VK→Prop}
theorem md (pa:PlainAttrs T) (slot:Slot T name id) (hty:typeOf (.builtin id)=pure (.type "method_descriptor")) (hm:MtR X id r) (ho:PE X o to)
  (hbase:attributeBase o name X.env (eval o X.env)=eval o X.env:=by rfl) (hline:(apos.endLine==cpos.line)=true:=by rfl):PE X (.Call (.Attribute o name apos) [] [] cpos) (DC X.K T r to):=by
 intro pins s σ H Q I h
 refine wpAny_Call_method0_late hbase hline (thn (ho pins s σ H _ I h) fun v s1 ⟨x,H1,I1,r1,ty,q1⟩=>?_)
 obtain ⟨h1,h2⟩:=xf I1 r1 ty
 exact ⟨T,id,pa,slot,hty,h1,h2,Calls.callWith_builtin rfl (PySem.evalArgs_none (hm pins s1 σ H1 x [] v [] Q I1 r1 .nil q1))⟩
theorem lr (pa:PlainAttrs T) (slot:Slot T name id) (hty:typeOf (.builtin id)=pure (.type "method_descriptor")) (hm:MtR X id r) (ho:PE X o to) (ha:PA X (e::es) t)
  (hbase:attributeBase o name X.env (eval o X.env)=eval o X.env:=by rfl)
  (hfew:((backTo cpos (starEach (e::es) X.env)).all (fun x=>!x.1)&&(backToKw cpos (keywordEach [] X.env)).all (fun x=>x.1.isSome)
  &&decide ((e::es).length+([]:List Keyword).length+(if ([]:List Keyword).isEmpty then 0 else 1)<30))=true:=by exact fW rfl rfl)
  (hline:(apos.endLine==cpos.line)=true:=by rfl) (hs:starEach (e::es) X.env=(false,eval e X.env)::starEach es X.env:=by exact ac rfl) (hplain:(backTo cpos (starEach es X.env)).any (·.1)=false:=by exact ak rfl) :
  PE X (.Call (.Attribute o name apos) (e::es) [] cpos) (tBM X.K T r to t):=by
 intro pins s σ H Q I h
 refine wpAny_Call_method_late hbase hfew hline rfl (thn (ho pins s σ H _ I h) fun v s1 ⟨x,H1,I1,r1,ty,q1⟩=>?_)
 obtain ⟨h1,h2⟩:=xf I1 r1 ty
 refine ⟨T,id,pa,slot,hty,h1,h2,?_⟩
 have hA:=ha cpos pins s1 σ H1 _ I1 q1
 rw [hs] at hA ⊢
 refine Calls.callWith_builtin (by show (false||(backTo cpos (starEach es X.env)).any (·.1))=false; rw [hplain]<;>rfl) (Calls.evalArgs_plain ?_)
 exact thn hA fun us s2 ⟨vs,H2,I2,r2,q2⟩=>hm pins s2 σ H2 x vs v us Q I2 r1 r2 q2
end
open PySem PySem.Spec PyProof.Rows
def MtM (X:Cx) (id:String) (r:V→List V→Hp→VK→Prop):Prop :=
 ∀ (pins:List (Addr×Obj)) (s:Shared) (σ:St) (H:Hp) (x:V) (xs:List V) (v:Value) (us:List Value) (Q:VK),Inv X pins σ H s→bh x v→aY xs us→r x xs H Q →
  wpAny (model X.prog X.w) X.A (call (.builtin id) (v::us)) (EP X pins σ Q) X.xe s
theorem aY.one:∀ {x:V} {us:List Value},aY [x] us→∃ u,us=[u]∧bh x u
 | _,_,.cons r .nil=>⟨_,rfl,r⟩
theorem aY.zero:∀ {us:List Value},aY [] us→us=[]
 | _,.nil=>rfl
theorem aY.dropLast {xs:List V} {us:List Value} (h:aY xs us):aY xs.dropLast us.dropLast:=by
 induction h with
 | nil=>exact .nil
 | cons r t ih =>
  cases t with
  | nil=>exact .nil
  | cons q t'=>exact .cons r ih
theorem uD {α:Type} (l:List α):l.eraseIdx (l.length - 1)=l.dropLast:=by
 induction l with
 | nil=>rfl
 | cons a r ih =>
  cases r with
  | nil=>rfl
  | cons b r =>
   have e:(a::b::r).length - 1=((b::r).length - 1)+1:=by
    have h1:(a::b::r).length=r.length+2:=rfl
    have h2:(b::r).length=r.length+1:=rfl
    omega
   rw [e,List.eraseIdx_cons_succ,ih]
   all_goals rfl
section
variable {X:Cx} {pins:List (Addr×Obj)} {σ:St} {H:Hp} {s:Shared} {l b:Addr} {xs ys zs:List V}
theorem Inv.lset {its its':List Value} {n:Nat} {f:Array Value→Array Value} {t':Nat} (I:Inv X pins σ H s) (hH:H l=some (.lst xs))
  (e:s.heap.get? l=some { cls:=.type "list",data:=.seq its.toArray n }) (hf:f its.toArray=its'.toArray) (hv:aY ys its') (hz:ys.length≤sizeLine) :
  Inv X pins σ (upd H l (.lst ys)) { s with heap:=s.heap.update l (Obj.mapSeq f),toks:=t' }:=by
 have q:=PySem.IsL.update e f
 rw [hf] at q
 refine I.write (x:=l) (e:=l) (by rw [hH]; exact trivial) (.inl rfl) (fun b' u hb hu=>(Heap.get?_update_other s.heap (Obj.mapSeq f) (Ne.symm hb)).trans hu) ⟨_,q⟩ ?_
 exact ⟨hz,its',_,hv,q⟩
theorem Inv.lstM (I:Inv X pins σ H s) (hH:H l=some (.lst xs)):xs.length≤sizeLine∧∃ (its:List Value) (n:Nat),aY xs its∧xs.length=its.length∧s.heap.get? l=some { cls:=.type "list",data:=.seq its.toArray n }:=by
 obtain ⟨z,its,n,r,e⟩:=I.hok l _ hH
 exact ⟨z,its,n,r,r.length,e⟩
theorem yP {n:Nat} (h:n≤sizeLine):Builtin.List.listTooLong n=false:=by
 unfold Builtin.List.listTooLong
 exact decide_eq_false (by omega)
end
section
variable {X:Cx}
def zl:V→List V→Hp→VK→Prop:=fun x vs H Q=>∃ l xs y,x=.ref l∧vs=[y]∧H l=some (.lst xs)∧xs.length<sizeLine∧Q .non (upd H l (.lst (xs++[y])))
theorem kY:MtM X "list.append" zl:=by
 intro pins s σ H x vs v us Q I rx rv h
 obtain ⟨l,xs,y,rfl,rfl,hH,hz,q⟩:=h
 cases rx
 obtain ⟨u,rfl,ru⟩:=rv.one
 obtain ⟨z,its,n,r,hl,e⟩:=I.lstM hH
 refine call_meets F.slot_list_append ⟨_,e,rfl⟩ F.entry_list_append (F.args_list_append_2 _ _) (PySem.list_append l its.toArray n u (by rw [List.size_toArray]; omega)) ⟨e,?_⟩
 refine ⟨.non,_,I.lset (its':=its++[u]) hH e (by simp) (r.append (.cons ru .nil)) ?_,rfl,q⟩
 rw [List.length_append,List.length_singleton]
 omega
def zm:V→List V→Hp→VK→Prop:=fun x vs H Q=>∃ l b xs zs,x=.ref l∧vs=[.ref b]∧H l=some (.lst xs)∧H b=some (.lst zs)∧xs.length+zs.length≤sizeLine∧Q .non (upd H l (.lst (xs++zs)))
theorem fq:MtM X "list.extend" zm:=by
 intro pins s σ H x vs v us Q I rx rv h
 obtain ⟨l,b,xs,zs,rfl,rfl,hH,hB,hz,q⟩:=h
 cases rx
 obtain ⟨u,rfl,ru⟩:=rv.one
 cases ru
 obtain ⟨z,its,n,r,hl,e⟩:=I.lstM hH
 obtain ⟨z2,its2,n2,r2,hl2,e2⟩:=I.lstM hB
 have hsz:its.toArray.size+its2.toArray.size≤sizeLine:=by rw [List.size_toArray,List.size_toArray]; omega
 have hlong:¬ (!its.toArray.isEmpty&&Builtin.List.listTooLong (its.toArray.size+its2.toArray.size))=true:=by
  rw [yP hsz,Bool.and_false]
  exact Bool.false_ne_true
 refine call_meets F.slot_list_extend ⟨_,e,rfl⟩ F.entry_list_extend (F.args_list_extend_2 _ _)
  (AutoSeq1.list_extend_list_list_0 l its.toArray n b its2.toArray n2 hlong (by rw [List.size_toArray]; omega) (by omega)) ⟨e,e2,?_⟩
 refine ⟨.non,_,I.lset (its':=its++its2) hH e (by simp) (r.append r2) ?_,rfl,q⟩
 rw [List.length_append]
 omega
def Dy:V→List V→Hp→VK→Prop:=fun x vs H Q=>∃ l xs y,x=.ref l∧vs=[]∧H l=some (.lst xs)∧xs[xs.length - 1]?=some y∧Q y (upd H l (.lst xs.dropLast))
theorem mz:MtM X "list.pop" Dy:=by
 intro pins s σ H x vs v us Q I rx rv h
 obtain ⟨l,xs,y,rfl,rfl,hH,hy,q⟩:=h
 cases rx
 have hus:=rv.zero
 subst hus
 obtain ⟨z,its,n,r,hl,e⟩:=I.lstM hH
 obtain ⟨u,hu,ru⟩:=r.get hy
 have hy':its.toArray[its.toArray.size - 1]?=some u:=by
  show its.toArray[its.length - 1]?=some u
  rw [← Array.getElem?_toList,← hl]
  exact hu
 refine call_meets F.slot_list_pop ⟨_,e,rfl⟩ F.entry_list_pop (F.args_list_pop_1 _) (MeetsSeq.list_pop_last l its.toArray n u hy' (by rw [List.size_toArray]; omega)) ⟨e,?_⟩
 refine ⟨y,_,I.lset (its':=its.dropLast) hH e ?_ r.dropLast ?_,ru,q⟩
 ·show its.toArray.eraseIdxIfInBounds (its.toArray.size - 1)=its.dropLast.toArray
  rw [List.size_toArray,List.eraseIdxIfInBounds_toArray,uD]
 ·rw [List.length_dropLast]
  omega
end
section
variable {prog:Program} {w:World} {A:Around} {E:Value→Shared→Prop} {s:Shared}
end
section
variable {X:Cx}
end
end L2
namespace Att
open PySem PySem.W PySem.Calls PyProof.Rows
theorem iM {P:Params} {h:Heap}:∀ (ns:List Int) (vs:List Value),WellAll P h vs (ns.map WData.int)→IntsAre vs ns:=by
 intro ns
 induction ns with
 | nil =>
  intro vs w
  rw [List.map_nil] at w
  cases w
  exact .nil
 | cons n ns ih =>
  intro vs w
  rw [List.map_cons] at w
  cases w with
  | cons a b =>
   cases a
   exact .cons _ _ (ih _ b)
theorem wp {l:OpenLaw} {n:Nat} (hn:l.most=some n) {P:Params} {h:Heap} {args:List WData} {vals:List Value}
  (hpre:l.row.toRowW.claim.pre args=true) (hwl:WellAll P h vals args) :
  ∃ a vs ns,vals=[Value.ref a]∧args=[WData.list (ns.map WData.int)]∧h.get? a=some { cls:=.type "list",data:=.seq vs.toArray }∧IntsAre vs ns∧ns.length≤n:=by
 have hsh:WShape.hasAll [] args [.list .int]=true:=(pre_splitW hpre).1
 have hc:l.pre.holds [] { args:=args }=true:=(pre_splitW hpre).2
 obtain ⟨d,r,rfl,h1,h2⟩:=hasAllW_cons hsh
 obtain rfl:=hasAllW_nil h2
 obtain ⟨xs,rfl,h3⟩:=hasW_list h1
 obtain ⟨ns,rfl⟩:=items_int h3
 have hlen:ns.length≤n:=by
  unfold OpenLaw.pre at hc
  have h4:(WTm.not (.lt (.lit (.int (n:Int))) (.len (.arg 0)))).holds [] { args:=[.list (ns.map .int)] }=true:=by
   have h4:=(holds_andW hc).1
   rw [hn] at h4
   exact h4
  have h5:=condW_of h4 (w_not (w_lt w_lit (w_len_list (w_arg rfl))))
  rw [List.length_map] at h5
  refine Nat.le_of_not_lt fun q=>?_
  have q':(n:Int)<((ns.length:Nat):Int):=by omega
  first
   | (rw [decide_eq_true q'] at h5; exact absurd h5 (by decide))
   | (simp at h5; omega)
 cases hwl with
 | cons w1 w2 =>
  cases w2
  cases w1 with
  | list ho hall=>exact ⟨_,_,ns,rfl,rfl,ho,iM ns _ hall,hlen⟩
theorem wo (l:OpenLaw) (args:List WData):l.row.toRowW.claim.post args (.bool true) args=true :=
 postW_of (r:=l.row.toRowW) (X:=(true==true))
  (show WShape.has [] (.bool true) .bool=true by first | rfl | decide | simp [WShape.has,WShape.arms,WShape.armsAll])
  (show (WTm.eq .res (.lit (.bool true))).value [] { args:=args,res:=some (.bool true),after:=args }=some (.bool (true==true)) from w_eq_bool (w_res rfl) w_lit) rfl
theorem attach_call {l:OpenLaw} {n:Nat} {q:Program} {loose:List Str} {XP:(Str→Option Value)→Heap→Prop} {YP:World→Heap→Prop} {d:DefRec}
  (hn:l.most=some n) (hdf:d.params.defaults=[])
  (call:∀ (w:World) (s₀ s₁:Shared) (mg mb:Str→Option Value) (fa:Addr) (o:Obj) (pm cd doc:Value) (a:Addr) (vs:List Value) (ns:List Int),
   Ground q loose [] XP w s₀ mg mb s₁.heap→YP w s₁.heap →
   s₁.heap.get? fa=some o→o.data=.func (docDef d.name d.params d.body d.scope pm cd doc)→s₁.heap.CodeRec cd d.name→mg d.name=some (.ref fa) →
   s₁.heap.get? a=some { cls:=.type "list",data:=.seq vs.toArray }→IntsAre vs ns→ns.length≤n→s₁.gens=#[] →
   codeAny (model l.prog w) callerA (.call (.ref fa) ⟨[.ref a],[]⟩) (fun r s'=>r=.ok (.ret (.bool true))∧OldK s₁.heap s'.heap∧s'.os=s₁.os∧AllBare s'.gens) s₁) :
  WalkO q loose XP YP l.row.toRowW d [] (fun f vs=>PySem.call f vs):=by
 intro w s₀ s₁ mg mb G Y fa o pm cd doc dV kV ho hd hcd hD hmg hg args vals as hpre hlay hrd hwl hlo
 obtain rfl:dV=.none:=Dflts.none hD hdf
 obtain rfl:kV=.none:=Dflts.noKw hD
 obtain ⟨a,vs,ns,rfl,rfl,hobj,hints,hlen⟩:=wp hn hpre hwl
 refine enter_call (codeAny_mono (call w s₀ s₁ mg mb fa o pm cd doc a vs ns G Y ho (fd_plain hd) hcd hmg hobj hints hlen hg) fun r s' hq=>?_)
 obtain ⟨rfl,h2,h3,h4⟩:=hq
 exact ⟨.inl ⟨.bool true,.bool true,[],rfl,fun _=>rfl,.bool true,wo l _,fun _=>⟨List.Pairwise.nil,fun _ hm=>(nomatch hm)⟩⟩,h2,h3,h4⟩
section
variable {prog:Program} {w:World} {A:Around} {E:Value→Shared→Prop} {s:Shared} {K:Frag}
theorem call_fn {R:Result→Shared→Prop} {name qual:Str} {params:Arguments} {body:List Stmt} {scope:Scope} {dV kV doc pm cdv ct oc:Value} {an od:Option Addr} {osl:Array (Option Value)} {f:Addr} {args:Args} {binds:List (Str×Value)}
  (X:K.In s.heap) (hlim:s.heap.NoLimit) (ho:K.lookup f=some ⟨oc,od,.func (fnOf name qual params body scope dV kV doc pm an cdv ct),osl⟩) (hcd:codeIn K cdv qual=true) (hroom:A.depth<recursionLimit)
  (hbind:BindsTo s (fnOf name qual params body scope dV kV doc pm an cdv ct) args binds)
  (hkind:(binds.all fun y=>scope.names.lookup y.1==some .local||scope.names.lookup y.1==some .cell)=true)
  (h:∀ s₁,InCallC s s.heap.objs.size (bindL (envOfC qual scope s.heap.objs.size f cdv).kindOf binds fun _=>none) (cellsFrom (s.heap.objs.size+1) scope.names [])
    (bindC (envOfC qual scope s.heap.objs.size f cdv).kindOf binds fun _=>none) s₁ →
   wpAny (model prog w) (A.deeper (envOfC qual scope s.heap.objs.size f cdv)) (execs body (envOfC qual scope s.heap.objs.size f cdv))
    (fun fl s'=>R (.ok (.ret (match fl with | .ret v=>v | _=>.none))) s')
    (fun e s'=>wpAny (model prog w) (A.deeper (envOfC qual scope s.heap.objs.size f cdv)) (leaving (envOfC qual scope s.heap.objs.size f cdv) e) (fun _ s''=>R (.error e) s'') (fun e' s''=>R (.error e') s'') s') s₁)
  (hco:scope.isCoroutine=false) (hgen:scope.isGenerator=false) (hk:scope.kind=.function):codeAny (model prog w) A (.call (.ref f) args) R s:=by
 refine codeAny_call_function hroom (X _ _ ho) rfl hco hgen rfl (codeRec_of X hcd) (hbind _ _ _ _ ?_)
 refine wpAny_newFunctionEnv_cells hk (kindsX hkind _) fun env he s₁ x=>?_
 subst he
 exact ⟨hlim.keeps x.toInCall.keep,codeAny_func (h s₁ x)⟩
end
end Att
namespace L2
open PySem PySem.Spec PyProof.Rows
theorem lu:∀ {vs:List Value} {ns:List Int},IntsAre vs ns→aY (ns.map V.int) vs
 | _,_,.nil=>.nil
 | _,_,.cons n t h=>.cons ⟨t,rfl⟩ (lu h)
def AN (H:Hp):Prop:=∀ b,H b=none∨∃ o xs,H b=some (.frz o (.lst xs))
theorem yN {P:Program} {w:World} {K:Frag} {mg mb:Str→Option Value} {CX:CXT} {k:Nat} {fa a:Addr} {fd:FuncData} {x:Str} {sp:Sp} {s₁:Shared} {vs:List Value} {ns:List Int}
  (KX:K.In s₁.heap) (hns:s₁.heap.Ns mainGlobals mg) (hb:s₁.heap.Ns builtinsNs mb) (hbb:∀ x:Str,x ≠ "__name__"→mb x=bootBuiltins x) (hlim:s₁.heap.NoLimit) (hg:s₁.gens=#[])
  (ha:s₁.heap.get? a=some { cls:=.type "list",data:=.seq vs.toArray }) (hi:IntsAre vs ns) (hl:ns.length≤sizeLine) (hr:cT k callerA)
  (F:∀ base:Heap,K.In base→base.Ns mainGlobals mg→aV P w K mg base CX k fa fd [x] sp) (hbind:∀ (s:Shared) (u:Value),BindsTo s fd ⟨[u],[]⟩ [(x,u)])
  (hsp:∀ H:Hp,AN H→SqL K H a (ns.map V.int)→sp [.ref a] H (fun v _=>v=.bl true) fun _ _ _=>False)
  (hCX:∀ H e s',CX [] H s₁ (fun _ _ _=>False) e s'→False) :
  codeAny (model P w) callerA (.call (.ref fa) ⟨[.ref a],[]⟩) (fun r s'=>r=.ok (.ret (.bool true))∧OldK s₁.heap s'.heap∧s'.os=s₁.os∧AllBare s'.gens) s₁:=by
 have rv:=lu hi
 have lenV:=hi.length
 -- from an abstract heap in which nothing but the script may be tracked
 have core:∀ H:Hp,AN H→SqL K H a (ns.map V.int)→HOk P w H s₁.heap→(∀ b,H b≠none→b=a)→(H a≠none→K.lookup a=none) →
   codeAny (model P w) callerA (.call (.ref fa) ⟨[.ref a],[]⟩) (fun r s'=>r=.ok (.ret (.bool true))∧OldK s₁.heap s'.heap∧s'.os=s₁.os∧AllBare s'.gens) s₁:=by
  intro H hO hS hok hA hK
  have base_of:∀ {b:Addr} {o:Obj},s₁.heap.get? b=some o→H b=none→(on s₁.heap H).get? b=some o:=fun e n=>yL e n
  have noA:∀ {b:Addr} {o:Obj} {es:Array DictEntry} {ep:Nat},s₁.heap.get? b=some o→o.data=.dict es ep→H b=none:=fun {b o es ep} e d=>by
   cases q:H b with
   | none=>rfl
   | some u =>
    have e':b=a:=hA b (by rw [q]; simp)
    subst e'
    rw [ha] at e; cases e
    have d':Data.seq vs.toArray _=Data.dict es ep:=d
    cases d'
  have nsK:∀ {b:Addr} {m:Str→Option Value},s₁.heap.Ns b m→(on s₁.heap H).Ns b m:=fun {b m} ⟨o,es,ep,e,d,r⟩=>⟨o,es,ep,base_of e (noA e d),d,r⟩
  have hKb:K.In (on s₁.heap H):=fun b o e=>base_of (KX b o e) (by
   cases q:H b with
   | none=>rfl
   | some u =>
    have e':b=a:=hA b (by rw [q]; simp)
    subst e'
    rw [hK (by rw [q]; simp)] at e; cases e)
  have hM:Mod K mg (on s₁.heap H):=⟨hKb,nsK hns,⟨mb,nsK hb,hbb⟩,let ⟨mc,h1,h2⟩:=hlim; ⟨mc,nsK h1,h2⟩⟩
  have e0:zn P w K mg (on s₁.heap H) callerA [] s₁ H:=⟨rfl,hM,fun b o e=>zF e,Nat.le_of_eq (wz _ _),trivial,fun b hb=>absurd (show b∈([]:List Addr) from hb) (by simp),hok,.of_eq hg⟩
  refine codeAny_mono ((F _ hKb (nsK hns)).run callerA [] s₁ H ⟨[.ref a],[]⟩ [.ref a] [.ref a] _ _ hr e0 (hbind s₁ (.ref a)) (.cons rfl .nil) (hsp H hO hS)) fun r s' h=>?_
  cases r with
  | error e=>exact (hCX H e s' h).elim
  | ok fl =>
   cases fl with
   | next=>exact False.elim h
   | brk=>exact False.elim h
   | cont=>exact False.elim h
   | ret u =>
    obtain ⟨v,H',os,bare,un,hok',r',q⟩:=h
    have q':v=.bl true:=q
    subst q'
    obtain rfl:u=Value.bool true:=r'
    refine ⟨rfl,OldK.of_keep fun b o e=>?_,os,bare⟩
    cases q:H b with
    | none=>exact un.keep b o e q (by intro z; exact absurd (show b∈([]:List Addr) from z) (by simp)) (by simp)
    | some u =>
     rcases hO b with z | ⟨ob,xs,z⟩
     ·rw [q] at z; cases z
     ·have z2:=un.frzs b ob _ z
      obtain ⟨e1,_⟩:=hok b _ z
      obtain ⟨e2,_⟩:=hok' b _ z2
      rw [e] at e1; cases e1
      exact e2
 cases hk:K.lookup a with
 | some o =>
  -- the script is one of the module's own objects
  have e:=KX a o hk
  rw [ha] at e
  cases e
  refine core (fun _=>none) (fun _=>.inl rfl) (.inr ⟨_,vs.toArray,_,hk,rfl,rfl,rfl,by rw [List.size_toArray,lenV]; exact hl,by simpa using rv⟩) (fun b u z=>by have z':(none:Option HO)=some u:=z; cases z') (fun b z=>absurd rfl z) fun z=>absurd rfl z
 | none =>
  refine core (fun b=>if b=a then some (.frz { cls:=.type "list",data:=.seq vs.toArray } (.lst (ns.map V.int))) else none) (fun b=>?_) (.inl (.inr ⟨{ cls:=.type "list",data:=.seq vs.toArray },if_pos rfl⟩)) (fun b u z=>?_) (fun b z=>?_) fun _=>hk
  ·by_cases hb:b=a
   ·exact .inr ⟨_,_,if_pos hb⟩
   ·exact .inl (if_neg hb)
  ·by_cases hb:b=a
   ·have z':=(if_pos hb).symm.trans z
    cases z'
    subst hb
    exact ⟨ha,by rw [List.length_map]; exact hl,vs,_,rv,ha⟩
   ·have z':=(if_neg hb).symm.trans z
    cases z'
  ·by_cases hb:b=a
   ·exact hb
   ·exact absurd (if_neg hb) z
theorem walk_of {l:PySem.W.OpenLaw} {n k:Nat} {q:Program} {loose:List Str} {XP:(Str→Option Value)→Heap→Prop} {YP:World→Heap→Prop} {d:DefRec} {K:Params→Frag} {CX:World→CXT} {sp:World→Sp} {x:Str}
  (hn:l.most=some n) (hn2:n≤sizeLine) (hdf:d.params.defaults=[]) (hr:cT k callerA)
  (hY:∀ (w:World) (h:Heap),YP w h→(K w.params).In h)
  (F:∀ (w:World) (mg:Str→Option Value) (fa:Addr) (h:Heap),(K w.params).In h→h.Ns mainGlobals mg→mg d.name=some (.ref fa) →
   ∃ fd:FuncData,(∀ (s:Shared) (u:Value),BindsTo s fd ⟨[u],[]⟩ [(x,u)]) ∧
    ∀ base:Heap,(K w.params).In base→base.Ns mainGlobals mg→aV l.prog w (K w.params) mg base (CX w) k fa fd [x] (sp w))
  (hsp:∀ (w:World) (H:Hp) (a:Addr) (ns:List Int),ns.length≤n→AN H→SqL (K w.params) H a (ns.map V.int)→sp w [.ref a] H (fun v _=>v=.bl true) fun _ _ _=>False)
  (hCX:∀ (w:World) (H:Hp) (s:Shared) (e:Value) (s':Shared),CX w [] H s (fun _ _ _=>False) e s'→False) :
  PySem.W.WalkO q loose XP YP l.row.toRowW d [] (fun f vs=>PySem.call f vs):=by
 refine Att.attach_call hn hdf fun w s₀ s₁ mg mb fa o pm cd doc a vs ns G Y ho hd hcd hmg hobj hints hlen hg=>?_
 have KX:=hY w _ Y
 obtain ⟨fd,hb,hF⟩:=F w mg fa _ KX G.T.g hmg
 exact yN KX G.T.g G.T.b G.T.builtins G.T.nolimit hg hobj hints (Nat.le_trans hlen hn2) hr hF hb (fun H hO hS=>hsp w H a ns hlen hO hS) fun H e s'=>hCX w H s₁ e s'
end L2
/- THE LAST THEOREM (shape; LID,My.* are yours):
  My.Adr: a structure of the addresses that your layer names (classes,functions); My.Txt K t: a structure (Prop) of the equations over K;
  My.txt_mk:{K} {implicit addresses ..} (e1:nsIn K mainGlobals "law"=some (some (.ref f))) (e2:K.lookup f=some ⟨oc,od,.func (fnOf "law" "law" params body scope dV kV doc pm an cdv ct),sl⟩) (e3:codeIn K cdv "law"=true) ..:∃ t,My.Txt K t
(the tactic k_is has no namespace: write k_is) -/
namespace L2
open PySem PySem.Spec PyProof.Rows
def defArgs (s:Stmt):Arguments:=match s with
 | .FunctionDef _ a _ _ _ _ _ _ _ _=>a
 | _=>{ posonlyargs:=[],args:=[],vararg:=none,kwonlyargs:=[],kw_defaults:=[],kwarg:=none,defaults:=[] }
def defBody (s:Stmt):List Stmt:=match s with
 | .FunctionDef _ _ b _ _ _ _ _ _ _=>b
 | _=>[]
def defScope (s:Stmt):Scope:=match s with
 | .FunctionDef _ _ _ _ _ _ sc _ _ _=>sc
 | _=>{ kind:=.function,names:=[],isGenerator:=false,isCoroutine:=false }
abbrev CX0:CXT:=fun _ _ _ _ _ _=>False
abbrev E0:XK:=fun _ _ _=>False
theorem aI {X:Cx}:tX CX0 X E0:=fun _ _ _ _ _ _ _ h=>h.elim
structure Fun (K:Frag) (x qual:Str) (st:Stmt) (f:Addr) (fd:FuncData):Prop where
 ex:∃ (oc:Value) (od:Option Addr) (kV doc pm:Value) (an:Option Addr) (cdv ct:Value) (osl:Array (Option Value)),
  fd=PySem.W.fnOf x qual (defArgs st) (defBody st) (defScope st) .none kV doc pm an cdv ct∧K.lookup f=some ⟨oc,od,.func fd,osl⟩∧PySem.W.codeIn K cdv qual=true
 kp:keepIn K (.ref f)=true
section
variable {P:Program} {w:World} {K:Frag} {mg:Str→Option Value} {base:Heap}
theorem Fun.ok {x qual:Str} {st:Stmt} {f:Addr} {fd:FuncData} {N ps:List Str} {k:Nat} {sp:Sp} (F:Fun K x qual st f fd) (S:aK N ps (defScope st)) (len:∀ vs H Q E,sp vs H Q E→vs.length=ps.length)
  (hbody:∀ (cdv:Value) (A:Around) (outer:List Env) (s:Shared) (H:Hp) (vs:List V) (Q:VK) (E:XK),cT k (A.deeper (envOfC qual (defScope st) s.heap.objs.size f cdv))→sp vs H Q E →
   ∃ t,PSs (kg CX0 P w K mg base N qual (defScope st) f cdv A outer s H E).nox (defBody st) t∧t { nx:=fun _ H'=>Q .non H',rt:=Q } (gY N vs) H):aV P w K mg base CX0 (k+1) f fd ps sp:=by
 obtain ⟨oc,od,kV,doc,pm,an,cdv,ct,osl,rfl,lk,hcd⟩:=F.ex
 refine Az lk hcd S len fun A outer s H vs Q E hr hsp=>?_
 obtain ⟨t,h,q⟩:=hbody cdv A outer s H vs Q E hr hsp
 exact ⟨t,h.nox,q⟩
theorem Fun.binds {x qual:Str} {st:Stmt} {f:Addr} {fd:FuncData} {ps:List Str} (F:Fun K x qual st f fd)
  (h:∀ (kV doc pm:Value) (an:Option Addr) (cdv ct:Value) (us:List Value),us.length=ps.length→bindArgs (PySem.W.fnOf x qual (defArgs st) (defBody st) (defScope st) .none kV doc pm an cdv ct) ⟨us,[]⟩=pure (ps.zip us)):fF K fd ps []:=by
 obtain ⟨oc,od,kV,doc,pm,an,cdv,ct,osl,rfl,lk,hcd⟩:=F.ex
 exact .all (h kV doc pm an cdv ct)
theorem xO {x qual:Str} {st:Stmt} {f:Addr} {oc:Value} {od an:Option Addr} {osl:Array (Option Value)} {kV doc pm cdv ct:Value} (l:K.lookup f=some ⟨oc,od,.func (PySem.W.fnOf x qual (defArgs st) (defBody st) (defScope st) .none kV doc pm an cdv ct),osl⟩)
  (c:PySem.W.codeIn K cdv qual=true) (k:keepIn K (.ref f)=true):Fun K x qual st f (PySem.W.fnOf x qual (defArgs st) (defBody st) (defScope st) .none kV doc pm an cdv ct):=⟨⟨oc,od,kV,doc,pm,an,cdv,ct,osl,rfl,l,c⟩,k⟩
end
theorem Cs {A:Around} {k:Nat} (hr:cT k A):A.units+1<cLine:=Nat.lt_of_le_of_lt (Nat.add_le_add_left (by decide:1≤64) _) hr.units
theorem cH {n:Nat} (h:n≤1000):n<sizeLine:=Nat.lt_of_le_of_lt h (by decide)
section
variable {X:Cx}
theorem pv (i:Nat) {x:Str} {pos:Pos} (hN:X.N[i]?=some x:=by rfl) (hv:Vis X.env.scope x:=by first | exact Or.inl rfl | exact Or.inr (Or.inl rfl) | exact Or.inr (Or.inr rfl)) (hd:(x==("__debug__":Str))=false:=by decide)
  (hcd:(x==("__classdict__":Str))=false:=by decide):PE X (.Name x pos) (qj i):=Bf hN hv hd hcd
end
theorem bv {A B:Prop} (h:B):if false=true then A else B:=by
 rw [if_neg Bool.false_ne_true]
 exact h
theorem bz {A B:Prop} (h:A):if true=true then A else B:=by
 rw [if_pos rfl]
 exact h
theorem az {c A B:Prop} [Decidable c] (h1:c→A) (h2:¬ c→B):if c then A else B:=by
 by_cases h:c
 ·rw [if_pos h]
  exact h1 h
 ·rw [if_neg h]
  exact h2 h
def aO (H H':Hp):Prop:=∀ b o,H b=some o→H' b=some o
theorem aO.refl (H:Hp):aO H H:=fun _ _ h=>h
theorem aO.trans {H H1 H2:Hp} (a:aO H H1) (b:aO H1 H2):aO H H2:=fun c o h=>b c o (a c o h)
theorem aO.free {H H':Hp} (e:aO H H') {l:Addr} (h:H' l=Option.none):H l=Option.none:=by
 cases q:H l with
 | none=>rfl
 | some o =>
  rw [e l o q] at h
  cases h
open PySem PySem.Spec PyProof.Rows
section
variable {prog:Program} {w:World} {A:Around} {R:Result→Shared→Prop} {s:Shared}
theorem qM {elt target iter:Expr} {ifs:List Expr} {scope:Scope} {pos:Pos} {it acc:Value} {env:Env} (I:Nat→Shared→Prop)
  (turn:∀ n s,I n s→wpAny (model prog w) A (pyNext it) (fun r s₁=>match r with
   | none=>R (.ok .next) s₁
   | some v=>wpAny (model prog w) A (letOwnedTupleGo target it v) (fun _ s₁'=>wpAny (model prog w) A (assign target env v) (fun _ s₂ =>
     wpAny (model prog w) A (forIn ifs true fun c r=>if r=true then do let ok ← isTrue c env (eval c env); pure (ForInStep.yield ok) else pure (ForInStep.yield r)) (fun ok s₃ =>
      if ok=true then wpAny (model prog w) A (eval elt env) (fun x s₄ =>
       wpAny (model prog w) A (call (.builtin "list.append") [acc,x]) (fun _ s₅=>∃ m,m<n∧I m s₅) (fun _ _=>False) s₄) (fun _ _=>False) s₃
      else ∃ m,m<n∧I m s₃) (fun _ _=>False) s₂) (fun _ _=>False) s₁') (fun _ _=>False) s₁) (fun _ _=>False) s)
  (n:Nat) (h:I n s) :
  codeAny (model prog w) A (.compLoop (.ListComp elt [⟨target,iter,ifs,0⟩] scope pos) 0 it acc env) R s:=by
 refine codeAny_loop rfl I (fun n s hI=>?_) n h
 show wpAny _ A ((compTurn (.ListComp elt [⟨target,iter,ifs,0⟩] scope pos) 0 it acc env).onRaise (fun x=>do noteFrame x env; theTreesLotGoes x)) _ _ s
 refine wpAny_noted ?_
 rw [compTurn_list]
 refine wpAny_bind (wpAny_standAt (wpAny_bind (wpAny_mono (turn n s hI) (fun r s₁ h₁=>?_) fun _ _ h'=>h'.elim)))
 cases r with
 | none=>exact wpAny_pure h₁
 | some v =>
  refine wpAny_bind (wpAny_mono h₁ (fun _ s₁' h₁'=>?_) fun _ _ h'=>h'.elim)
  refine wpAny_bind (wpAny_mono h₁' (fun _ s₂ h₂=>wpAny_bind (wpAny_mono h₂ (fun ok s₃ h₃=>?_) fun _ _ h'=>h'.elim)) fun _ _ h'=>h'.elim)
  cases ok with
  | false=>exact wpAny_pure ⟨rfl,h₃⟩
  | true =>
   exact wpAny_bind (wpAny_bind (wpAny_mono h₃ (fun x s₄ h₄=>wpAny_bind (wpAny_mono h₄ (fun _ s₅ h₅=>wpAny_pure (wpAny_pure ⟨rfl,h₅⟩)) fun _ _ h'=>h'.elim)) fun _ _ h'=>h'.elim))
end
def clo (env:Env):List (Str×NameKind)→List (Str×Addr)→List (Str×Addr)
 | [],cs=>cs
 | (n,k)::r,cs=>if k==.free then (match env.cells.lookup n with
  | some c=>clo env r ((n,c)::cs)
  | none=>clo env r cs) else clo env r cs
theorem eS {scope:Scope} {env:Env} (h:∀ x∈scope.names,x.2=.free→∃ c,env.cells.lookup x.1=some c):closureFor scope env=pure (clo env scope.names []):=by
 have go:∀ (l:List (Str×NameKind)) (cs:List (Str×Addr)),(∀ x∈l,x.2=.free→∃ c,env.cells.lookup x.1=some c) →
   (forIn (m:=Sem) l cs fun x r=>if (x.2==NameKind.free)=true then do let c ← cellOf env x.1; pure (ForInStep.yield ((x.1,c)::r)) else pure (ForInStep.yield r))=pure (clo env l cs):=by
  intro l
  induction l with
  | nil=>intro cs _; rfl
  | cons x r ih =>
   intro cs hx
   obtain ⟨n,k⟩:=x
   rw [List.forIn_cons]
   unfold clo
   cases hk:k==NameKind.free with
   | true =>
    obtain ⟨c,hc⟩:=hx (n,k) List.mem_cons_self (by simpa using hk)
    simp only [hk,if_true,cellOf,hc]
    exact ih _ fun y hy=>hx y (List.mem_cons_of_mem _ hy)
   | false =>
    simp only [hk,Bool.false_eq_true,if_false]
    exact ih _ fun y hy=>hx y (List.mem_cons_of_mem _ hy)
 have e:=go scope.names [] h
 unfold closureFor
 exact congrArg (fun t:Sem (List (Str×Addr))=>t >>= fun r=>pure r) e
theorem dJ {env:Env}:∀ (l:List (Str×NameKind)) (cs:List (Str×Addr)),(∀ p∈cs,env.cells.lookup p.1=some p.2)→∀ p∈clo env l cs,env.cells.lookup p.1=some p.2
 | [],cs,h,p,hp=>h p hp
 | (n,k)::r,cs,h,p,hp=>by
  unfold clo at hp
  split at hp
  ·split at hp
   ·next c hc =>
    refine dJ r _ (fun q hq=>?_) p hp
    rcases List.mem_cons.mp hq with e | hq
    ·subst e; exact hc
    ·exact h q hq
   ·exact dJ r cs h p hp
  ·exact dJ r cs h p hp
theorem gm {env:Env}:∀ (l:List (Str×NameKind)) (cs:List (Str×Addr)),∀ p∈cs,p∈clo env l cs
 | [],_,_,hp=>hp
 | (n,k)::r,cs,p,hp=>by
  unfold clo
  split
  ·split
   ·exact gm r _ p (List.mem_cons_of_mem _ hp)
   ·exact gm r _ p hp
  ·exact gm r _ p hp
theorem iU {env:Env} {x:Str} {c:Addr} (hc:env.cells.lookup x=some c):∀ (l:List (Str×NameKind)) (cs:List (Str×Addr)),(x,NameKind.free)∈l→(x,c)∈clo env l cs
 | [],_,h=>nomatch h
 | (n,k)::r,cs,h=>by
  unfold clo
  rcases List.mem_cons.mp h with e | h
  ·cases e
   simp only [beq_self_eq_true,if_true,hc]
   exact gm r _ _ List.mem_cons_self
  ·split
   ·split
    ·exact iU hc r _ h
    ·exact iU hc r _ h
   ·exact iU hc r _ h
theorem cX {cs:List (Str×Addr)} {f:Str→Option Addr} (h:∀ p∈cs,f p.1=some p.2) {x:Str} {c:Addr} (e:cs.lookup x=some c):f x=some c:=h _ (PySem.mem_of_lookup e)
theorem jE {x:Str} {c:Addr}:∀ {cs:List (Str×Addr)},(∀ p∈cs,p.1=x→p.2=c)→(x,c)∈cs→cs.lookup x=some c
 | [],_,h=>nomatch h
 | (n,d)::r,ha,h=>by
  rw [List.lookup_cons]
  cases e:x==n with
  | true =>
   have e':x=n:=by simpa using e
   have:=ha (n,d) List.mem_cons_self e'.symm
   simp at this ⊢
   exact this
  | false =>
   rcases List.mem_cons.mp h with z | h
   ·cases z; simp at e
   ·exact jE (fun p hp=>ha p (List.mem_cons_of_mem _ hp)) h
theorem jX {env:Env} {names:List (Str×NameKind)} {x:Str} {c:Addr} (hc:env.cells.lookup x=some c) (h:(x,NameKind.free)∈names):(clo env names []).lookup x=some c :=
 jE (fun p hp e=>by have:=dJ names [] (fun _ z=>nomatch z) p hp; rw [e,hc] at this; exact (Option.some.inj this).symm) (iU hc names [] h)
def slots (ρ:List (Option Nat)) (σ:St):St:=ρ.map fun o=>o.bind fun j=>(σ[j]?).join
def blk (X:Cx) (scope:Scope) (N':List Str) (C:Addr) (s₀:Shared) (H₀:Hp) (ex:List Addr):Cx :=
 { X with N:=N',s₀:=s₀,H₀:=H₀,env:=compEnvC scope (clo X.env scope.names []) C X.env,outer:=X.stack,stack:=X.stack,ex:=ex,fn:=fun _=>false,pn:=[],xe:=fun _ _=>False }
structure bF (X:Cx) (scope:Scope) (N':List Str) (ρ:List (Option Nat)) (m:Nat):Prop where
 kind:scope.kind=.function
 nocell:∀ x∈scope.names,x.2≠.cell
 names:∀ x∈scope.names,x.2=.local→scope.names.lookup x.1=some .local
 frees:∀ x∈scope.names,x.2=.free→X.env.kindOf x.1=some .cell∨X.env.kindOf x.1=some .free
 len:ρ.length=N'.length
 own:∀ (i j:Nat),ρ[i]?=some (some j)→m≤i
 slot:∀ (i j:Nat) (x:Str),ρ[i]?=some (some j)→N'[i]?=some x→X.N[j]?=some x∧(x,NameKind.free)∈scope.names
 slotNoLocal:∀ (i j:Nat) (x:Str),ρ[i]?=some (some j)→N'[i]?=some x→(relabel scope X.env).names.lookup x≠some .local
theorem cF {env:Env}:∀ {names:List (Str×NameKind)} {x:Str} {k:NameKind},(names.map fun (n,k)=>if (k==NameKind.free&&env.scope.kind==.function&&env.kindOf n==some .cell) then (n,NameKind.cell) else (n,k)).lookup x=some k→(k=.cell∨k=.free)→(∀ y∈names,y.2≠.cell)→(x,NameKind.free)∈names
 | [],_,_,h,_,_=>by simp at h
 | (n,k0)::r,x,k,h,hk,hn=>by
  rw [List.map_cons] at h
  by_cases hc:(k0==NameKind.free&&env.scope.kind==.function&&env.kindOf n==some .cell)=true
  ·simp only [hc,if_true,List.lookup_cons] at h
   cases e:x==n with
   | true =>
    have e':x=n:=by simpa using e
    have hk0:k0=.free:=by simp [Bool.and_eq_true] at hc; exact hc.1.1
    subst e'; subst hk0
    exact List.mem_cons_self
   | false =>
    rw [e] at h
    exact List.mem_cons_of_mem _ (cF h hk fun y hy=>hn y (List.mem_cons_of_mem _ hy))
  ·simp only [hc,Bool.false_eq_true,if_false,List.lookup_cons] at h
   cases e:x==n with
   | true =>
    rw [e] at h
    have e':x=n:=by simpa using e
    subst e'
    have h':k0=k:=by simpa using h
    subst h'
    rcases hk with z | z
    ·exact absurd z (hn (x,k0) List.mem_cons_self)
    ·subst z; exact List.mem_cons_self
   | false =>
    rw [e] at h
    exact List.mem_cons_of_mem _ (cF h hk fun y hy=>hn y (List.mem_cons_of_mem _ hy))
theorem kJ {ρ:List (Option Nat)} {σ:St} {i:Nat} {v:V} (h:(slots ρ σ)[i]?=some (some v)):∃ j,ρ[i]?=some (some j)∧σ[j]?=some (some v):=by
 unfold slots at h
 rw [List.getElem?_map] at h
 cases e:ρ[i]? with
 | none=>rw [e] at h; cases h
 | some o =>
  rw [e] at h
  cases o with
  | none=>simp at h
  | some j =>
   refine ⟨j,rfl,?_⟩
   simp at h
   cases q:σ[j]? with
   | none=>rw [q] at h; simp at h
   | some z=>rw [q] at h; simp at h; rw [h]
section
variable {X:Cx} {pins:List (Addr×Obj)} {σ:St} {H:Hp} {s:Shared} {scope:Scope} {N':List Str} {ρ:List (Option Nat)} {m:Nat}
theorem wC (I:Inv X pins σ H s) (B:bF X scope N' ρ m) {fp:List Addr} (hfp:∀ b∈fp,fU X pins H b) {C D:Addr} {h1:Heap} {tk:Nat} {oD:Obj} {mC:Str→Option Value} (hC:s.heap.objs.size≤C) (hD:s.heap.objs.size≤D) (hDC:D≠C)
  (hfs:∀ b∈fp,b<s.heap.objs.size) (old:∀ b o,s.heap.get? b=some o→h1.get? b=some o) (hns:h1.Ns C mC) (hoD:h1.get? D=some oD) (hdD:∀ v,oD.data≠.cell v) :
  Inv (blk X scope N' C s H fp) [(D,oD)] (slots ρ σ) H { s with heap:=h1,toks:=tk }:=by
 have hcl:∀ x c,(clo X.env scope.names []).lookup x=some c→X.env.cells.lookup x=some c:=fun x c e=>cX (f:=fun y=>X.env.cells.lookup y) (dJ scope.names [] fun _ z=>nomatch z) e
 have nofs:∀ b,s.heap.objs.size≤b→b∉frs X.stack:=fun b hb z=>by
  rcases List.mem_cons.mp (I.stkSub b z) with e | z
  ·exact absurd (Nat.lt_of_lt_of_le I.lt hb) (by rw [e]; exact Nat.lt_irrefl _)
  ·exact I.nofs hb z
 have lk:∀ x,((relabel scope X.env).names.lookup x=some .cell∨(relabel scope X.env).names.lookup x=some .free)→(x,NameKind.free)∈scope.names:=fun x hx=>by
  rcases hx with hx | hx
  ·exact cF hx (.inl rfl) B.nocell
  ·exact cF hx (.inr rfl) B.nocell
 refine ⟨⟨I.ok.mod,B.kind,I.ok.glob,I.ok.blt,hC,fun x y c h1 h2=>I.ok.inj x y c (hcl x c h1) (hcl y c h2),fun x hx=>?_,fun x c hf _=>absurd hf Bool.false_ne_true,I.ok.hd,I.ok.frames,.inl rfl,fun b hb=>⟨Nat.ne_of_lt (Nat.lt_of_lt_of_le (hfs b hb) hC),fun x c e=>(hfp b hb).2.2.2.2.1 x c (hcl x c e)⟩,I.bs,Nat.le_trans I.ok.bsz I.sz,fun b o e hb=>?_,fun b hb z=>?_,I.stack,I.stkFree⟩,
  rfl,I.bare,Un.kept old,⟨mC,hns,fun i x v h1 h2 h3=>?_⟩,fun x c e=>?_,I.hok.fresh hC,fun x c e=>I.freeC x c (hcl x c e),fun p hp=>?_,I.hok.kept old,?_⟩
 ·have hm:=lk x hx
  obtain ⟨c,hc⟩:=I.ok.has x (B.frees _ hm rfl)
  exact ⟨c,jX hc hm⟩
 ·rcases (hfp b hb).2.2.2.1 with z | z
  ·exact I.ok.noex b o e z
  ·exact absurd (Nat.lt_of_lt_of_le (Heap.lt_size (I.ok.bs b o e).1) z) (Nat.lt_irrefl _)
 ·rcases List.mem_cons.mp (I.stkSub b z) with e | z
  ·exact (hfp b hb).2.1 e
  ·exact (hfp b hb).2.2.1 z
 ·obtain ⟨j,hj,hσ⟩:=kJ h2
  obtain ⟨hN,hm⟩:=B.slot i j x hj h1
  have hk:=B.frees _ hm rfl
  obtain ⟨m0,hn0,hl⟩:=I.loc
  obtain ⟨u,r,l⟩:=hl j x v hN hσ (hk.elim (fun z=>.inr (.inl z)) fun z=>.inr (.inr z))
  rcases l with ⟨z,_⟩ | ⟨_,c,hc,hcell⟩
  ·rcases hk with q | q
   ·rw [q] at z; cases z
   ·rw [q] at z; cases z
  ·refine ⟨u,r,.inr ⟨?_,c,jX hc hm,?_⟩⟩
   ·rcases h3 with z | z | z
    ·-- a free name is no local of the block
     exfalso
     have q:(relabel scope X.env).names.lookup x=some .local:=z
     exact (B.slotNoLocal i j x hj h1 q)
    ·exact .inl z
    ·exact .inr z
   ·obtain ⟨o,ho,hd⟩:=hcell
    exact ⟨o,old _ _ ho,hd⟩
 ·obtain ⟨v,o,ho,hd⟩:=I.cell x c (hcl x c e)
  exact ⟨v,o,old _ _ ho,hd⟩
 ·have e:p=(D,oD):=by
   have hp':p∈([]:List (Addr×Obj))++[(D,oD)]:=hp
   simpa using hp'
  subst e
  exact ⟨hoD,I.hok.fresh hD,hDC,nofs D hD,hdD⟩
 ·show (slots ρ σ).length=N'.length
  unfold slots
  rw [List.length_map]
  exact B.len
end
def PTs (Y:Cx) (ifs:List Expr) (t:TT):Prop :=
 ∀ (pins:List (Addr×Obj)) (s:Shared) (σ:St) (H:Hp) (Q:Bool→Hp→Prop),Inv Y pins σ H s→t σ H Q →
  wpAny (model Y.prog Y.w) Y.A (forIn ifs true fun c r=>if r=true then do let ok ← isTrue c Y.env (eval c Y.env); pure (ForInStep.yield ok) else pure (ForInStep.yield r)) (TP Y pins σ Q) Y.xe s
def lE:TT:=fun _ H Q=>Q true H
theorem bq {Y:Cx}:PTs Y [] lE:=fun _ _ _ H _ I h=>wpAny_tests_nil ⟨H,I,h⟩
def eW (J:It) (m:Nat) (g:TG) (tt:TT) (te:TE) (σ':St) (Z:List V→Hp→Prop) (H1:Hp):Prop :=
 ∃ W:Nat→Nat→List V→Hp→Prop,(∃ k,W 0 k [] H1)∧∀ i k acc H,W i k acc H→acc.length≤sizeLine ∧
  ((J.stop i H∧Z acc H)∨(J.go i H∧∀ x H',J.yld i H x H'→g x σ' H' fun σ2 H2=>(σ2.drop m=σ'.drop m∧σ2.length=σ'.length) ∧
    tt σ2 H2 fun b H3=>if b=true then te σ2 H3 fun v H4=>acc.length<sizeLine∧∃ k',k'<k∧W (i+1) k' (acc++[v]) H4 else ∃ k',k'<k∧W (i+1) k' acc H3))
def Ac (wi:TI) (ρ:List (Option Nat)) (m:Nat) (g:TG) (tt:TT) (te:TE):TE:=fun σ H Q=>wi σ H fun J H1 =>
 eW J m g tt te (slots ρ σ) (fun acc H=>∀ D,H D=none→Q (.ref D) (upd H D (.lst acc))) H1
theorem xV {σ σ':St} {m:Nat} (h:σ.drop m=σ'.drop m) {i:Nat} (hi:m≤i):σ[i]?=σ'[i]?:=by
 have e:(σ.drop m)[i - m]?=(σ'.drop m)[i - m]?:=by rw [h]
 rw [List.getElem?_drop,List.getElem?_drop] at e
 rwa [show m+(i - m)=i by omega] at e
section
variable {X:Cx} {pins:List (Addr×Obj)} {σ:St} {H2:Hp} {s2:Shared} {scope:Scope} {N':List Str} {ρ:List (Option Nat)} {m:Nat} {elt tg iter:Expr} {ifs:List Expr} {g:TG} {tt:TT} {te:TE} {pos:Pos}
theorem vK (hc:X.calm=true) (B:bF X scope N' ρ m) (hg:∀ C s₀ H₀ ex,PG (blk X scope N' C s₀ H₀ ex) tg g) (ht:∀ C s₀ H₀ ex,PTs (blk X scope N' C s₀ H₀ ex) ifs tt) (he:∀ C s₀ H₀ ex,PE (blk X scope N' C s₀ H₀ ex) elt te)
  {J:It} {fp:List Addr} {it:Addr} {tn:Nat→Heap→Prop} {Z:List V→Hp→Prop} (I:Inv X pins σ H2 s2) (T:ke X.prog X.w X.K tg J fp it tn) (st:tn 0 s2.heap) (hfp:∀ b∈fp,fU X pins H2 b) (hL:eW J m g tt te (slots ρ σ) Z H2)
  {RR:Value→Addr→Result→Shared→Prop} {E:Value→Shared→Prop}
  (fin:∀ (D C:Addr) (H':Hp) (acc:List V) (s':Shared) (mC:Str→Option Value),s'.heap.Ns C mC→Inv X pins σ (upd H' D (.lst acc)) s'→fU X pins (upd H' D (.lst acc)) C→H' D=none→Z acc H'→RR (.ref D) C (.ok .next) s') :
  wpAny (model X.prog X.w) X.A (newList []) (fun acc s₃=>wpAny (model X.prog X.w) X.A (newFunctionEnv scope X.env.globals (clo X.env scope.names []) [] X.env.qual none .none (some X.env)) (fun cenv s₄ =>
   codeAny (model X.prog X.w) X.A (.compStart (.ListComp elt [⟨tg,iter,ifs,0⟩] scope pos) 0 (.ref it) acc { cenv with scope:=relabel scope X.env }) (RR acc cenv.locals) s₄) E s₃) E s2:=by
 refine wpAny_newObj_type (wpAny_newFunctionEnv B.nocell (by intro y hy; simp at hy) (fun h₁ hns₁ hsb₁=>?_) B.kind)
 dsimp only at hns₁ hsb₁ ⊢
 generalize hHp:s2.heap.push { cls:=.type "list",dict:=none,data:=.seq ([]:List Value).toArray }=Hp2 at hns₁ hsb₁ ⊢
 have hCe:Hp2.objs.size=s2.heap.objs.size+1:=by rw [← hHp,Heap.size_push]
 have hDC:s2.heap.objs.size≠Hp2.objs.size:=by rw [hCe]; exact Nat.ne_of_lt (Nat.lt_succ_self _)
 have hCle:s2.heap.objs.size≤Hp2.objs.size:=by rw [hCe]; exact Nat.le_succ _
 have below:∀ b,b<s2.heap.objs.size→b≠Hp2.objs.size∧b≠s2.heap.objs.size:=fun b hb=>⟨by rw [hCe]; exact Nat.ne_of_lt (Nat.lt_succ_of_lt hb),Nat.ne_of_lt hb⟩
 have old:∀ b o,s2.heap.get? b=some o→h₁.get? b=some o:=fun b o e=>hsb₁.extBut b o (below b (Heap.lt_size e)).1 (Heap.get?_push_of_some _ (hHp ▸ Heap.get?_push_of_some _ e))
 have hfs:∀ b∈fp,b<s2.heap.objs.size:=fun b hb=>let ⟨o,e,_⟩:=T.obj 0 _ st b hb; Heap.lt_size e
 generalize hDn:s2.heap.objs.size=D at *
 generalize hCn:Hp2.objs.size=C at *
 have hacc:h₁.get? D=some { cls:=.type "list",data:=.seq ([]:List Value).toArray }:=hsb₁.extBut _ _ hDC (Heap.get?_push_of_some _ (by rw [← hHp,← hDn]; exact Heap.get?_push_size _ rfl))
 have st₁:tn 0 h₁:=T.keep _ _ _ st fun b _ o e=>old b o e
 obtain ⟨W,⟨k0,w0⟩,turn⟩:=hL
 have cellLt:∀ x c,(clo X.env scope.names []).lookup x=some c→c<s2.heap.objs.size:=fun x c e=>by
  have e':X.env.cells.lookup x=some c:=cX (f:=fun y=>X.env.cells.lookup y) (dJ scope.names [] fun _ z=>nomatch z) e
  obtain ⟨v,o,ho,_⟩:=I.cell x c e'
  exact Heap.lt_size ho
 have stat:∀ {H':Hp} {o:Obj},(∀ b∈fp,H' b=none)→∀ b∈fp,fU (blk X scope N' C s2 H2 fp) [(D,o)] H' b:=fun {H' o} hn b hb=>by
  obtain ⟨_,f1,f2,_,f4,_⟩:=hfp b hb
  refine ⟨hn b hb,(below b (hfs b hb)).1,fun z=>?_,.inl hb,fun x c e=>f4 x c (cX (f:=fun y=>X.env.cells.lookup y) (dJ scope.names [] fun _ z=>nomatch z) e),fun p hp=>?_⟩
  ·rcases List.mem_cons.mp (I.stkSub b z) with e | z
   ·exact f1 e
   ·exact f2 z
  ·have e:p=(D,o):=by
    have hp':p∈([]:List (Addr×Obj))++[(D,o)]:=hp
    simpa using hp'
   subst e
   exact Ne.symm (below b (hfs b hb)).2
 have loop:∀ s₃:Shared,s₃={ s2 with heap:=h₁,toks:=s2.toks+([]:List (Str×Value)).length } →
   codeAny (model X.prog X.w) X.A (.compLoop (.ListComp elt [⟨tg,iter,ifs,0⟩] scope pos) 0 (.ref it) (.ref D) (compEnvC scope (clo X.env scope.names []) C X.env)) (RR (.ref D) C) s₃:=by
  rintro s₃ rfl
  have I₁:Inv (blk X scope N' C s2 H2 fp) [(D,{ cls:=.type "list",data:=.seq ([]:List Value).toArray })] (slots ρ σ) H2 { s2 with heap:=h₁,toks:=s2.toks+([]:List (Str×Value)).length } :=
   wC I B hfp (by rw [hDn]; exact hCle) (by rw [hDn]; exact Nat.le_refl _) hDC (fun b hb=>by rw [hDn]; exact hfs b hb) old hns₁ hacc (fun v z=>by cases z)
  refine qM (fun n s'=>∃ (i:Nat) (acc:List V) (H':Hp) (its:List Value) (kk:Nat),Inv (blk X scope N' C s2 H2 fp) [(D,{ cls:=.type "list",data:=.seq its.toArray kk })] (slots ρ σ) H' s'∧aY acc its∧tn i s'.heap∧(∀ b∈fp,H' b=none)∧W i n acc H') ?_ k0
   ⟨0,[],H2,[],_,I₁,.nil,st₁,fun b hb=>(hfp b hb).1,w0⟩
  rintro n s3 ⟨i,acc,H3,its,kk,I3,rv,st3,fr3,w3⟩
  obtain ⟨hlen,cs⟩:=turn i n acc H3 w3
  rcases cs with ⟨stop,z⟩ | ⟨go,step⟩
  ·refine thn (T.done (blk X scope N' C s2 H2 fp) rfl rfl rfl hc i _ s3 (slots ρ σ) H3 (fun _ _=>False) I3 (stat fr3) st3 stop) fun r s4 ⟨hr,I4⟩=>?_
   subst hr
   obtain ⟨eD,nD,_,_,_⟩:=I4.pin (D,_) (List.mem_append_right _ (List.mem_singleton.mpr rfl))
   obtain ⟨mC,hnsC,_⟩:=I4.loc
   have hD2:H2 D=none:=I.hok.fresh (by rw [hDn]; exact Nat.le_refl _)
   have u:Un (frs X.stack) fp H2 (upd H3 D (.lst acc)) s2.heap s4.heap :=
    ⟨I4.base.keep,I4.base.slot,fun b o e n hx=>by rw [bd (below b (by rw [← hDn]; exact Heap.lt_size e)).2]; exact I4.base.free b o e n hx,I4.base.there,
     fun b xs e=>by rw [bd (aU e hD2)]; exact I4.base.tups b xs e,fun b o u e=>by rw [bd (aU e hD2)]; exact I4.base.frzs b o u e,
     fun b ps e=>by rw [bd (aU e hD2)]; exact I4.base.tbls b ps e⟩
   have hok:HOk X.prog X.w (upd H3 D (.lst acc)) s4.heap:=fun b o e=>by
    by_cases hb:b=D
    ·subst hb
     rw [af] at e; cases e
     exact ⟨hlen,its,kk,rv,eD⟩
    ·rw [bd hb] at e
     exact (I4.hok b o e).stay (fun c v _ q=>q) (fun c q=>by rw [bd (aU q nD)]; exact q) fun c xs q=>by rw [bd (aU q nD)]; exact q
   have IX:Inv X pins σ (upd H3 D (.lst acc)) s4:=Inv.call' (ch:=fp) I I4.os u hok I4.bare fun b hb=>⟨(hfp b hb).2.2.2.1,(hfp b hb).2.1,(hfp b hb).2.2.2.2.1,(hfp b hb).2.2.2.2.2⟩
   have nC:(upd H3 D (.lst acc)) C=none:=by rw [bd (Ne.symm hDC)]; exact I4.free
   exact fin D C H3 acc s4 mC hnsC IX (I.fpOk (by rw [hDn]; exact hCle) nC) nD z
  ·refine thn (T.item (blk X scope N' C s2 H2 fp) rfl rfl rfl hc i _ s3 (slots ρ σ) H3 (fun _ _=>False) I3 (stat fr3) st3 go) fun r s4 ⟨u,hr,h4⟩=>?_
   subst hr
   refine thn h4 fun _ s5 ⟨x,H5,I5,r5,y5,st5,fr5⟩=>?_
   have I5':=I5.pinned (stat fr5) (T.obj _ _ st5)
   refine thn (hg C s2 H2 fp _ s5 (slots ρ σ) H5 x u _ I5' r5 (step x H5 y5)) fun _ s6 ⟨σ6,H6,I6,⟨d6,l6⟩,q6⟩=>?_
   refine thn (ht C s2 H2 fp _ s6 σ6 H6 _ I6 q6) fun b s7 ⟨H7,I7,q7⟩=>?_
   have le6:∀ (j:Nat) v,(slots ρ σ)[j]?=some (some v)→σ6[j]?=some (some v):=fun j v e=>by
    obtain ⟨k,hk,_⟩:=kJ e
    rw [xV d6 (B.own j k hk)]
    exact e
   have kept:∀ {H8:Hp} {s8:Shared},Inv (blk X scope N' C s2 H2 fp) ([(D,{ cls:=.type "list",data:=.seq its.toArray kk })]++ig fp s5.heap) σ6 H8 s8 →
     (∀ b∈fp,∀ o,s5.heap.get? b=some o→s8.heap.get? b=some o)∧∀ b∈fp,H8 b=none:=fun {H8 s8} I8 =>
    ⟨fun b hb o e=>(I8.pin (b,o) (List.mem_append_right _ (List.mem_append_right _ (cN hb e)))).1,fun b hb=>by
     obtain ⟨o,e,d⟩:=T.obj _ _ st5 b hb
     exact (I8.pin (b,o) (List.mem_append_right _ (List.mem_append_right _ (cN hb e)))).2.1⟩
   cases b with
   | false =>
    rw [if_neg Bool.false_ne_true] at q7 ⊢
    obtain ⟨k',hk,w7⟩:=q7
    exact ⟨k',hk,i+1,acc,H7,its,kk,I7.unpinned.weak l6.symm le6,rv,T.keep _ _ _ st5 (kept I7).1,(kept I7).2,w7⟩
   | true =>
    rw [if_pos rfl] at q7 ⊢
    refine thn (he C s2 H2 fp _ s7 σ6 H7 _ I7 q7) fun xv s8 ⟨v,H8,I8,r8,q8⟩=>?_
    obtain ⟨hlt,k',hk,w8⟩:=q8
    obtain ⟨eD,nD,neD,nfD,_⟩:=I8.pin (D,_) (List.mem_append_right _ (List.mem_append_left _ (List.mem_singleton.mpr rfl)))
    have hsz:its.toArray.size≤sizeLine:=by rw [List.size_toArray,← rv.length]; exact hlen
    refine wpAny_list_append_plain (hsz:=hsz) ⟨kk,eD⟩ fun h₉ hl₉ hs₉=>?_
    obtain ⟨kk',e9⟩:=hl₉
    have I8':Inv (blk X scope N' C s2 H2 fp) [] σ6 H8 s8:=I8.pins_of fun p hp=>nomatch hp
    have I9:Inv (blk X scope N' C s2 H2 fp) [] σ6 H8 { s8 with heap:=h₉,toks:=s8.toks }:=I8'.turned (it:=D) (fun b o hb e=>hs₉.extBut b o hb e) nD hDC (.inr (Nat.le_of_eq hDn))
     (fun x c e z=>by have q:=cellLt x c e; rw [hDn,z] at q; exact Nat.lt_irrefl _ q) fun p hp=>nomatch (show p∈([]:List (Addr×Obj)) from hp)
    have e9':h₉.get? D=some { cls:=.type "list",data:=.seq (its++[xv]).toArray kk' }:=by rw [e9,List.push_toArray]
    have I9':Inv (blk X scope N' C s2 H2 fp) [(D,{ cls:=.type "list",data:=.seq (its++[xv]).toArray kk' })] (slots ρ σ) H8 { s8 with heap:=h₉,toks:=s8.toks } :=
     (I9.weak l6.symm le6).pins_of fun p hp=>by
      have e:p=(D,_):=List.mem_singleton.mp hp
      subst e
      exact ⟨e9',nD,hDC,nfD,fun v z=>by cases z⟩
    refine ⟨k',hk,i+1,acc++[v],H8,its++[xv],kk',I9',rv.append (.cons r8 .nil),T.keep _ _ _ st5 fun b hb o e=>?_,(kept I8).2,w8⟩
    exact hs₉.extBut b o (below b (hfs b hb)).2 ((kept I8).1 b hb o e)
 exact codeAny_compStart_list (loop _ rfl) (T.self _ 0 _ _ _ st₁ (loop _ rfl))
theorem bt {wi:TI} (B:bF X scope N' ρ m) (hc:X.calm=true) (hi:PI X tg iter wi) (hg:∀ C s₀ H₀ ex,PG (blk X scope N' C s₀ H₀ ex) tg g) (ht:∀ C s₀ H₀ ex,PTs (blk X scope N' C s₀ H₀ ex) ifs tt) (he:∀ C s₀ H₀ ex,PE (blk X scope N' C s₀ H₀ ex) elt te)
  (hs:∀ x,foldedSetIterable iter X.env x=pure x:=by intro _; rfl):PE X (.ListComp elt [⟨tg,iter,ifs,0⟩] scope pos) (Ac wi ρ m g tt te):=by
 intro pins s σ H Q I h
 rw [eval_ListComp]
 refine wpAny_comprehension_free (use:=none) rfl hs (eS fun x hx hf=>I.ok.has x.1 (B.frees x hx hf)) B.kind B.names (thn (hi pins s σ H _ I h) fun v s1 h1=>thn h1 fun itv s2 h2=>?_)
 obtain ⟨it,fp,tn,J,H2,e,I2,T,st2,f2,hL⟩:=h2
 subst e
 refine vK (RR:=fun acc C=>compPost (model X.prog X.w) X.A X.xe none (EP X pins σ Q) acc C) hc B hg ht he I2 T st2 f2 hL fun D C H' acc s' mC hns IX fC nD z=>?_
 refine ⟨mC,hns,fun h' hs'=>⟨.ref D,_,IX.turned (t':=s'.toks) (it:=C) (fun b o hb e=>hs'.extBut b o hb e) fC.1 fC.2.1 fC.2.2.2.1 fC.2.2.2.2.1 fC.2.2.2.2.2,rfl,z D nD⟩⟩
theorem ni {wi:TI} {i:Nat} {y:Str} {py spos:Pos} (B:bF X scope N' ρ m) (hN:X.N.Nodup) (hi':X.N[i]?=some y) (hy:Loc X.env.scope y) (hc:X.calm=true) (hi:PI X tg iter wi) (hg:∀ C s₀ H₀ ex,PG (blk X scope N' C s₀ H₀ ex) tg g) (ht:∀ C s₀ H₀ ex,PTs (blk X scope N' C s₀ H₀ ex) ifs tt) (he:∀ C s₀ H₀ ex,PE (blk X scope N' C s₀ H₀ ex) elt te)
  (hsw:swapsWith (.ListComp elt [⟨tg,iter,ifs,0⟩] scope pos) (some (.Name y py)) spos.line X.env=pure true:=by rfl)
  (hs:∀ x,foldedSetIterable iter X.env x=pure x:=by intro _; rfl) (hf:X.fn y=true∨X.env.scope.names.lookup y=some .local:=by first | exact .inl rfl | exact .inr rfl | assumption) :
  PS X (.Assign [.Name y py] (.ListComp elt [⟨tg,iter,ifs,0⟩] scope pos) spos) (BN (Ac wi ρ m g tt te) (fM i)):=by
 intro pins s σ H D I h
 rw [exec_Assign_Name_used _ _ _ _ hsw]
 refine wpAny_bind (wpAny_standAt (wpAny_bind ?_))
 show wpAny _ X.A (do let _ ← comprehension (.ListComp elt [⟨tg,iter,ifs,0⟩] scope pos) scope X.env _ (newList []) false (eval iter X.env) (some (assign (.Name y py) X.env))) _ _ s
 refine wpAny_bind (wpAny_mono (wpAny_comprehension_free (use:=some (assign (.Name y py) X.env)) (Q:=fun _ s'=>SP X pins D .next s') rfl hs (eS fun x hx hf=>I.ok.has x.1 (B.frees x hx hf)) B.kind B.names
  (thn (hi pins s σ H _ I h) fun v s1 h1=>thn h1 fun itv s2 h2=>?_)) (fun _ s' hq=>wpAny_pure (wpAny_pure hq)) fun _ _ e=>e)
 obtain ⟨it,fp,tn,J,H2,e,I2,T,st2,f2,hL⟩:=h2
 subst e
 refine vK (RR:=fun acc C=>compPost (model X.prog X.w) X.A X.xe (some (assign (.Name y py) X.env)) (fun _ s'=>SP X pins D .next s') acc C) hc B hg ht he I2 T st2 f2 hL fun Dl C H' acc s' mC hns IX fC nD z=>?_
 show wpAny _ X.A (assign (.Name y py) X.env (.ref Dl)) _ _ _
 obtain ⟨oC,es,ep,hoC,hdC,hrC⟩:=id hns
 have IX':Inv X (pins++ig [C] s'.heap) σ (upd H' Dl (.lst acc)) s':=IX.pinned (fp:=[C]) (fun b hb=>by rw [List.mem_singleton.mp hb]; exact fC) fun b hb=>by
  rw [List.mem_singleton.mp hb]
  exact ⟨oC,hoC,fun v q=>by rw [hdC] at q; cases q⟩
 refine wpAny_assign_Name (dh IX' hN hi' hy (v:=.ref Dl) rfl (fun s'' I''=>?_) hf)
 have pC:=I''.pin (C,oC) (List.mem_append_right _ (List.mem_append_right _ (cN (List.mem_singleton.mpr rfl) hoC)))
 refine ⟨mC,⟨oC,es,ep,pC.1,hdC,hrC⟩,fun h' hs'=>?_⟩
 exact ⟨_,_,I''.unpinned.turned (t':=s''.toks) (it:=C) (fun b o hb e=>hs'.extBut b o hb e) fC.1 fC.2.1 fC.2.2.2.1 fC.2.2.2.2.1 fC.2.2.2.2.2,z Dl nD⟩
end
open PySem PySem.Spec PyProof.Rows
mutual
inductive RdD (K:Frag) (H:Hp):V→PyData→Prop
 | non:RdD K H .non .none
 | bl (b:Bool):RdD K H (.bl b) (.bool b)
 | int (i:Int):RdD K H (.int i) (.int i)
 | str (x:Str):RdD K H (.str x) (.str x)
 | lst {a:Addr} {xs:List V} {ds:List PyData}:SqL K H a xs→dY K H xs ds→RdD K H (.ref a) (.list ds)
 | tup {a:Addr} {xs:List V} {ds:List PyData}:SqT K H a xs→dY K H xs ds→RdD K H (.ref a) (.tuple ds)
inductive dY (K:Frag) (H:Hp):List V→List PyData→Prop
 | nil:dY K H [] []
 | cons {x:V} {xs:List V} {d:PyData} {ds:List PyData}:RdD K H x d→dY K H xs ds→dY K H (x::xs) (d::ds)
end
section
variable {X:Cx} {pins:List (Addr×Obj)} {σ:St} {H:Hp} {s:Shared}
mutual
theorem RdD.reads (I:Inv X pins σ H s):∀ {x:V} {d:PyData} {u:Value},RdD X.K H x d→bh x u→∃ as,Reads s.heap u d as
 | _,_,_,.non,r=>by cases r; exact ⟨_,.none⟩
 | _,_,_,.bl b,r=>by cases r; exact ⟨_,.bool b⟩
 | _,_,_,.int i,r=>by obtain ⟨t,rfl⟩:=r; exact ⟨_,.int i t⟩
 | _,_,_,.str x,r=>by obtain ⟨t,rfl⟩:=r; exact ⟨_,.str x t⟩
 | _,_,_,.lst h q,r=>by
  cases r
  obtain ⟨its,rv,p,_⟩:=I.list h
  obtain ⟨as,ra⟩:=dY.reads I q rv
  obtain ⟨o,ho,hc,n,hd⟩:=p.isList
  exact ⟨_,.list ho hc hd (by simpa using ra)⟩
 | _,_,_,.tup h q,r=>by
  cases r
  obtain ⟨its,rv,p,_⟩:=I.tuple h
  obtain ⟨as,ra⟩:=dY.reads I q rv
  obtain ⟨o,ho,hc,n,hd⟩:=p
  exact ⟨_,.tuple ho hc hd (by simpa using ra)⟩
theorem dY.reads (I:Inv X pins σ H s):∀ {xs:List V} {ds:List PyData} {us:List Value},dY X.K H xs ds→aY xs us→∃ as,ReadsAll s.heap us ds as
 | _,_,_,.nil,.nil=>⟨_,.nil⟩
 | _,_,_,.cons q r,.cons q' r'=>by
  obtain ⟨as,ra⟩:=RdD.reads I q q'
  obtain ⟨bs,rb⟩:=dY.reads I r r'
  exact ⟨_,.cons ra rb⟩
end
end
section
variable {X:Cx}
def CI (K:Frag) (neg:Bool):R2:=fun x y H Q=>∃ d e,RdD K H x d∧RdD K H y e∧SeqAt.shaped d=true∧SeqAt.shaped e=true∧Q (.bl (if neg then !PyData.eqv d e else PyData.eqv d e)) H
theorem uB (hu:X.A.units+64<cLine):OpR X (compareOp .Eq) (CI X.K false):=by
 intro pins s σ H x y v u Q I rx ry h
 obtain ⟨d,e,hd,he,sd,se,q⟩:=h
 obtain ⟨as,ra⟩:=hd.reads I rx
 obtain ⟨bs,rb⟩:=he.reads I ry
 exact eq_dataH ra rb sd se hu (aZ I q rfl)
theorem oa (hu:X.A.units+64<cLine):OpR X (compareOp .NotEq) (CI X.K true):=by
 intro pins s σ H x y v u Q I rx ry h
 obtain ⟨d,e,hd,he,sd,se,q⟩:=h
 obtain ⟨as,ra⟩:=hd.reads I rx
 obtain ⟨bs,rb⟩:=he.reads I ry
 exact ne_dataH ra rb sd se hu (aZ I q rfl)
def yH (K:Frag):R2:=fun x y H Q=>∃ a b ys,x=.ref a∧y=.ref b∧SqT K H a []∧SqT K H b ys∧Q (.ref b) H
theorem gf:OpR X (binaryOp .Add) (yH X.K):=by
 intro pins s σ H x y v u Q I rx ry h
 obtain ⟨a,b,ys,rfl,rfl,ha,hb,q⟩:=h
 cases rx
 cases ry
 obtain ⟨its,r1,p1,_⟩:=I.tuple ha
 obtain ⟨its2,r2,p2,_⟩:=I.tuple hb
 cases r1
 obtain ⟨⟨cls,dd,data,sl⟩,ho,hc,n,hd⟩:=id p1
 obtain ⟨⟨cls2,dd2,data2,sl2⟩,ho2,hc2,n2,hd2⟩:=id p2
 simp only at hc hd hc2 hd2
 subst hc hd hc2 hd2
 exact concat_meets ⟨_,ho,rfl⟩ ⟨_,ho2,rfl⟩ noFill_tuple_add seq_tuple_add PySem.F.slot_tuple_add PySem.F.entry_tuple_add (PySem.F.args_tuple_add_2 _ _)
  (tuple_addW0 a b _ its2.toArray n n2 dd dd2 sl sl2 rfl) ⟨ho,ho2,⟨.ref b,H,I,rfl,q⟩⟩
def Bp (K:Frag):List V→Hp→VK→Prop:=fun xs H Q=>∃ x T t b,xs=[x,.ty T]∧hV K H x t∧PySem.W.kitOne K t (.type T)=some b∧Q (.bl b) H
theorem bf:ef X (.builtin "isinstance") (Bp X.K):=by
 intro pins s σ H xs us Q I r h
 obtain ⟨x,T,t,b,rfl,ht,hk,q⟩:=h
 obtain ⟨u,c,rfl,ru,rc⟩:=xa r
 cases (show c=Value.type T from rc)
 exact wx I ru ht hk fun tk=>⟨.bl b,H,I.tok tk,rfl,q⟩
end
def Its (z:Str):It:=⟨fun i _=>i<z.cps.size,fun i H x H'=>H'=H∧∃ c,z.cps[i]?=some c∧x=.str ⟨#[c]⟩,fun i _=>z.cps.size≤i⟩
theorem sL {P:Program} {w:World} {K:Frag} {tg:Expr} (it:Addr) (z:Str) (t:Tok):ke P w K tg (Its z) [it] it (fun i h=>h.IsStrIter it "str_ascii_iterator" z t i) where
 mem:=by simp
 obj:=fun i h st b hb=>by
  have e:b=it:=by simpa using hb
  subst e
  obtain ⟨o,e,c,d⟩:=st
  exact ⟨o,e,fun v z=>by rw [d] at z; cases z⟩
 keep:=fun i h h' st k=>let ⟨o,e,r⟩:=st; ⟨o,k it (by simp) o e,r⟩
 item:=by
  intro X hP hw hK hc i pins s σ H E I hf st hg
  subst hP hw hK
  have hi:i<z.cps.size:=hg
  obtain ⟨f0,f1,f2,f3,f4,f5⟩:=hf it (by simp)
  refine wpAny_pyNext_ascii_item st (c:=z.cps[i]) (by simp [hi]) fun h' st' sb=>?_
  have I1:Inv X pins σ H { s with heap:=h',toks:=s.toks+1 }:=I.turned (t':=s.toks+1) (fun b o hb e=>(sb.2 b hb).trans e) f0 f1 f3 f4 f5
  obtain ⟨o,e,c,d⟩:=id st'
  exact ⟨_,rfl,jS (s:={ s with heap:=h',toks:=s.toks+1 }) e c d (by decide) ⟨.str ⟨#[z.cps[i]]⟩,H,I1,⟨_,rfl⟩,⟨rfl,z.cps[i],by simp [hi],rfl⟩,st',fun b hb=>(hf b hb).1⟩⟩
 done:=by
  intro X hP hw hK hc i pins s σ H E I hf st hg
  subst hP hw hK
  have hi:z.cps.size≤i:=hg
  obtain ⟨f0,f1,f2,f3,f4,f5⟩:=hf it (by simp)
  exact wpAny_pyNext_ascii_end (I.ok.hd hc) st (by simp [hi]) fun h' eb=>⟨rfl,I.turned (t':=s.toks) (fun b o hb e=>eb b o hb e) f0 f1 f3 f4 f5⟩
 self:=fun _ _ _ _ _ st h=>wpAny_pyIter_striter_ascii st h
theorem wM {P:Program} {w:World} {K:Frag} {tg:Expr} (it:Addr) (z:Str) (t:Tok):ke P w K tg (Its z) [it] it (fun i h=>h.IsStrIter it "str_iterator" z t i) where
 mem:=by simp
 obj:=fun i h st b hb=>by
  have e:b=it:=by simpa using hb
  subst e
  obtain ⟨o,e,c,d⟩:=st
  exact ⟨o,e,fun v z=>by rw [d] at z; cases z⟩
 keep:=fun i h h' st k=>let ⟨o,e,r⟩:=st; ⟨o,k it (by simp) o e,r⟩
 item:=by
  intro X hP hw hK hc i pins s σ H E I hf st hg
  subst hP hw hK
  have hi:i<z.cps.size:=hg
  obtain ⟨f0,f1,f2,f3,f4,f5⟩:=hf it (by simp)
  refine wpAny_pyNext_wide_item st (c:=z.cps[i]) (by simp [hi]) fun h' st' sb=>?_
  have I1:Inv X pins σ H { s with heap:=h',toks:=s.toks+1 }:=I.turned (t':=s.toks+1) (fun b o hb e=>(sb.2 b hb).trans e) f0 f1 f3 f4 f5
  obtain ⟨o,e,c,d⟩:=id st'
  exact ⟨_,rfl,jS (s:={ s with heap:=h',toks:=s.toks+1 }) e c d (by decide) ⟨.str ⟨#[z.cps[i]]⟩,H,I1,⟨_,rfl⟩,⟨rfl,z.cps[i],by simp [hi],rfl⟩,st',fun b hb=>(hf b hb).1⟩⟩
 done:=by
  intro X hP hw hK hc i pins s σ H E I hf st hg
  subst hP hw hK
  have hi:z.cps.size≤i:=hg
  obtain ⟨f0,f1,f2,f3,f4,f5⟩:=hf it (by simp)
  exact wpAny_pyNext_wide_end (I.ok.hd hc) st (by simp [hi]) fun h' eb=>⟨rfl,I.turned (t':=s.toks) (fun b o hb e=>eb b o hb e) f0 f1 f3 f4 f5⟩
 self:=fun _ _ _ _ _ st h=>wpAny_pyIter_striter_wide st h
section
variable {X:Cx} {tg:Expr}
def Dk (tl:TE):TI:=fun σ H R=>tl σ H fun x H1=>∃ z,x=.str z∧R (Its z) H1
theorem mU {l:Expr} {tl:TE} (hl:PE X l tl):PI X tg l (Dk tl):=by
 intro pins s σ H R I h
 refine thn (hl pins s σ H _ I h) fun v s1 ⟨x,H1,I1,r1,q1⟩=>?_
 obtain ⟨z,e,q⟩:=q1
 subst e
 obtain ⟨t,rfl⟩:=r1
 have fp:∀ b∈[s1.heap.objs.size],fU X pins H1 b:=fun b hb=>by
  have e:b=s1.heap.objs.size:=by simpa using hb
  subst e
  exact I1.fpOk (Nat.le_refl _) (I1.hok.fresh (Nat.le_refl _))
 cases ha:z.cps.all (·<128)
 ·exact wpAny_pyIter_wide ha ⟨s1.heap.objs.size,[s1.heap.objs.size],_,_,H1,rfl,I1.kept (t':=s1.toks) fun b o e=>Heap.get?_push_of_some _ e,wM _ z t,⟨_,Heap.get?_push_size _ rfl,rfl,rfl⟩,fp,q⟩
 ·exact wpAny_pyIter_ascii ha ⟨s1.heap.objs.size,[s1.heap.objs.size],_,_,H1,rfl,I1.kept (t':=s1.toks) fun b o e=>Heap.get?_push_of_some _ e,sL _ z t,⟨_,Heap.get?_push_size _ rfl,rfl,rfl⟩,fp,q⟩
theorem cy (hc:X.calm=true):ef X (.builtin "all") (fun xs H Q=>∃ p bs,xs=[.ref p]∧SqL X.K H p (List.map V.bl bs)∧Q (.bl (bs.all id)) H):=by
 intro pins s σ H xs us Q I r h
 obtain ⟨p,bs,rfl,hq,q⟩:=h
 obtain ⟨u,rfl,ru⟩:=jB r
 cases ru
 obtain ⟨its,rv,pl,hz⟩:=I.list hq
 have vb:∀ (i:Nat) v,its[i]?=some v→∃ b,bs[i]?=some b∧v=.bool b:=fun i v e=>by
  have hl:=rv.length
  rw [List.length_map] at hl
  have hi:i<its.length:=(List.getElem?_eq_some_iff.mp e).1
  have hb:bs[i]?=some bs[i]:=List.getElem?_eq_getElem (by omega)
  obtain ⟨u',e',r'⟩:=rv.get (i:=i) (x:=.bl bs[i]) (by rw [List.getElem?_map,hb]; rfl)
  rw [e] at e'
  cases e'
  exact ⟨_,hb,r'⟩
 obtain ⟨ol,hol,hol'⟩:=pl.isList
 refine call_all_walk (wpAny_pyIter_list pl.isList ⟨s.heap.objs.size,_,_,_,_,_,(fun i=>(bs[i]?).getD false),rfl,Walks.list (prog:=X.prog) (w:=X.w) (A:=X.A.in1) (I.ok.hd hc) s.heap.objs.size p (Nat.ne_of_lt (Heap.lt_size hol)) its.toArray,⟨⟨_,Heap.get?_push_size _ rfl,rfl,rfl⟩,⟨ol,Heap.get?_push_of_some _ hol,hol'⟩⟩,?_,fun h' tk k=>?_⟩)
 ·intro i v s' Q' E' hP hQ
  obtain ⟨b,hb,rfl⟩:=vb i v (by simpa using hP)
  have hQ':Q' ((bs[i]?).getD false) s':=hQ
  rw [hb] at hQ'
  exact wpAny_pure hQ'
 ·have e:(List.range its.toArray.size).all (fun i=>(bs[i]?).getD false)=bs.all id:=by
   have hl:its.toArray.size=bs.length:=by rw [List.size_toArray,← rv.length,List.length_map]
   rw [hl,Bool.eq_iff_iff,List.all_eq_true,List.all_eq_true]
   constructor
   ·intro a x hx
    obtain ⟨i,hi,rfl⟩:=List.mem_iff_getElem.mp hx
    have:=a i (List.mem_range.mpr hi)
    rw [List.getElem?_eq_getElem hi] at this
    exact this
   ·intro a i hi
    have hi':=List.mem_range.mp hi
    rw [List.getElem?_eq_getElem hi']
    exact a _ (List.getElem_mem hi')
  rw [e]
  refine ⟨.bl (bs.all id),H,I.kept fun b o hb=>k b o (fun z=>?_) (Heap.get?_push_of_some _ hb),rfl,q⟩
  have z':b=s.heap.objs.size:=by simpa using z
  exact absurd (Heap.lt_size hb) (by rw [z']; exact Nat.lt_irrefl _)
end
open PySem PySem.Spec PyProof.Rows
def gk (fs scope:Scope):List (Str×NameKind):=scope.names.map fun (n,k)=>if (k==NameKind.free&&fs.kind==.function&&fs.names.lookup n==some .cell) then (n,NameKind.cell) else (n,k)
def Da (fs:Scope) (N:List Str) (scope:Scope) (N':List Str) (ρ:List (Option Nat)) (m:Nat):Bool :=
 (scope.kind==.function)&&scope.names.all (fun x=>x.2 != .cell)&&scope.names.all (fun x=>x.2 != .local||scope.names.lookup x.1==some .local)
 &&scope.names.all (fun x=>x.2 != .free||fs.names.lookup x.1==some .cell||fs.names.lookup x.1==some .free)&&(ρ.length==N'.length)
 &&(List.range ρ.length).all fun i=>match ρ[i]?,N'[i]? with
   | some (some j),some x=>decide (m≤i)&&N[j]?==some x&&scope.names.any (fun y=>y.1==x&&y.2==.free)&&(gk fs scope).lookup x != some .local
   | some (some _),none=>false
   | _,_=>true
theorem bF.of {X:Cx} {fs scope:Scope} {N N':List Str} {ρ:List (Option Nat)} {m:Nat} (hs:X.env.scope=fs) (hN:X.N=N) (h:Da fs N scope N' ρ m=true):bF X scope N' ρ m:=by
 unfold Da at h
 simp only [Bool.and_eq_true] at h
 obtain ⟨⟨⟨⟨⟨h1,h2⟩,h3⟩,h4⟩,h5⟩,h6⟩:=h
 have at6:∀ (i j:Nat),ρ[i]?=some (some j)→∃ x,N'[i]?=some x∧m≤i∧N[j]?=some x∧(x,NameKind.free)∈scope.names∧(gk fs scope).lookup x≠some .local:=fun i j e=>by
  have hi:i<ρ.length:=(List.getElem?_eq_some_iff.mp e).1
  have q:=List.all_eq_true.mp h6 i (List.mem_range.mpr hi)
  rw [e] at q
  cases e2:N'[i]? with
  | none=>rw [e2] at q; cases q
  | some x =>
   rw [e2] at q
   simp only [Bool.and_eq_true,decide_eq_true_eq,beq_iff_eq,bne_iff_ne,List.any_eq_true] at q
   obtain ⟨⟨⟨q1,q2⟩,⟨y,hy,q3,q4⟩⟩,q5⟩:=q
   refine ⟨x,rfl,q1,q2,?_,q5⟩
   obtain ⟨a,b⟩:=y
   simp only at q3 q4
   subst q3 q4
   exact hy
 refine ⟨by simpa using h1,fun x hx=>by simpa using List.all_eq_true.mp h2 x hx,fun x hx hl=>?_,fun x hx hf=>?_,by simpa using h5,fun i j e=>?_,fun i j x e e2=>?_,fun i j x e e2=>?_⟩
 ·have q:=List.all_eq_true.mp h3 x hx
  simpa [hl] using q
 ·have q:=List.all_eq_true.mp h4 x hx
  show X.env.scope.names.lookup x.1=_∨X.env.scope.names.lookup x.1=_
  rw [hs]
  simpa [hf] using q
 ·obtain ⟨_,_,q,_⟩:=at6 i j e; exact q
 ·obtain ⟨y,q1,_,q2,q3,_⟩:=at6 i j e
  rw [e2] at q1; cases q1
  exact ⟨by rw [hN]; exact q2,q3⟩
 ·obtain ⟨y,q1,_,_,_,q4⟩:=at6 i j e
  rw [e2] at q1; cases q1
  have e3:(relabel scope X.env).names=gk fs scope:=by
   unfold relabel gk Env.kindOf
   rw [hs]
  rw [e3]
  exact q4
section
variable {X:Cx} {K:Frag}
theorem dU (h:X.K=K):IxR X (Ce K):=h ▸ av
end
section
variable {m:Nat} {g:TG} {tt:TT} {te:TE} {σ':St} {Z:List V→Hp→Prop} {H1:Hp} {K:Frag}
def NxT (n:Nat) (Pv:Nat→List V→Hp→Prop) (i:Nat) (acc:List V) (v:V) (H:Hp):Prop:=acc.length<sizeLine∧∃ k',k'<n - i∧(k'=n - (i+1)∧i+1≤n∧(acc++[v]).length≤i+1∧Pv (i+1) (acc++[v]) H)
def NxF (n:Nat) (Pv:Nat→List V→Hp→Prop) (i:Nat) (acc:List V) (H:Hp):Prop:=∃ k',k'<n - i∧(k'=n - (i+1)∧i+1≤n∧acc.length≤i+1∧Pv (i+1) acc H)
theorem nxT {n:Nat} {Pv:Nat→List V→Hp→Prop} {i:Nat} {acc:List V} {v:V} {H:Hp} (hn:n≤1000) (hi:i<n) (hl:acc.length≤i) (p:Pv (i+1) (acc++[v]) H):NxT n Pv i acc v H :=
 ⟨cH (by omega),n - (i+1),by omega,rfl,hi,by rw [List.length_append,List.length_singleton]; omega,p⟩
theorem iX {J:It} (n:Nat) (hn:n≤1000) (Pv:Nat→List V→Hp→Prop) (h0:Pv 0 [] H1)
  (hs:∀ i acc H,i<n→acc.length≤i→Pv i acc H→J.go i H∧∀ x H',J.yld i H x H'→g x σ' H' fun σ2 H2=>(σ2.drop m=σ'.drop m∧σ2.length=σ'.length)∧tt σ2 H2 fun b H3=>if b=true then te σ2 H3 fun v H4=>NxT n Pv i acc v H4 else NxF n Pv i acc H3)
  (hd:∀ acc H,Pv n acc H→acc.length≤n→J.stop n H∧Z acc H):eW J m g tt te σ' Z H1:=by
 refine ⟨fun i k acc H=>k=n - i∧i≤n∧acc.length≤i∧Pv i acc H,⟨n,by simp,Nat.zero_le _,Nat.le_refl _,h0⟩,?_⟩
 rintro i k acc H ⟨rfl,hi,la,p⟩
 refine ⟨Nat.le_of_lt (cH (by omega)),?_⟩
 by_cases hlt:i<n
 ·exact .inr (hs i acc H hlt la p)
 ·have e:i=n:=by omega
  subst e
  exact .inl (hd acc H p la)
theorem oP {z:Str} (n:Nat) (hz:n=z.cps.size) (hn:n≤1000) (Pv:Nat→List V→Hp→Prop) (h0:Pv 0 [] H1)
  (hs:∀ i acc H c,i<n→acc.length≤i→z.cps[i]?=some c→Pv i acc H→g (.str ⟨#[c]⟩) σ' H fun σ2 H2=>(σ2.drop m=σ'.drop m∧σ2.length=σ'.length)∧tt σ2 H2 fun b H3=>if b=true then te σ2 H3 fun v H4=>NxT n Pv i acc v H4 else NxF n Pv i acc H3)
  (hd:∀ acc H,Pv n acc H→acc.length≤n→Z acc H):eW (Its z) m g tt te σ' Z H1 :=
 iX n hn Pv h0 (fun i acc H hi la p=>⟨show i<z.cps.size by omega,fun x H' y=>by obtain ⟨e,c,hc,y⟩:=y; subst e y; exact hs i acc _ c hi la hc p⟩) fun acc H p la=>⟨show z.cps.size≤n by omega,hd acc H p la⟩
theorem bU {a:Addr} {xs:List V} (n:Nat) (hz:n=xs.length) (hn:n≤1000) (Pv:Nat→List V→Hp→Prop) (h0:Pv 0 [] H1) (hq:∀ i acc H,Pv i acc H→SqT K H a xs)
  (hs:∀ i acc H x,i<n→acc.length≤i→xs[i]?=some x→Pv i acc H→g x σ' H fun σ2 H2=>(σ2.drop m=σ'.drop m∧σ2.length=σ'.length)∧tt σ2 H2 fun b H3=>if b=true then te σ2 H3 fun v H4=>NxT n Pv i acc v H4 else NxF n Pv i acc H3)
  (hd:∀ acc H,Pv n acc H→acc.length≤n→Z acc H):eW (Itt K a) m g tt te σ' Z H1 :=
 iX n hn Pv h0 (fun i acc H hi la p=>by
  have hx:xs[i]?=some (xs[i]'(by omega)):=List.getElem?_eq_getElem (by omega)
  exact ⟨⟨xs,_,hq i acc H p,hx⟩,fun x H' y=>by obtain ⟨e,y⟩:=y; subst e; exact hs i acc _ x hi la (y xs (hq i acc _ p)) p⟩) fun acc H p la=>⟨⟨xs,hq n acc H p,by omega⟩,hd acc H p la⟩
end
theorem bu {σ:St} {H:Hp} {A B:Hp→Prop} (h:A H):lE σ H (fun b H3=>if b=true then A H3 else B H3):=by
 show if true=true then A H else B H
 exact bz h
end L2
namespace PySem
section
variable {prog:Program} {w:World} {A:Around} {E:Value→Shared→Prop} {h:Heap} {g:Array GenState} {d:Drawn} {t:Nat} {os:OsState} {a:Addr} {items:Array Value} {n:Nat} {sl:Array (Option Value)}
theorem kh:typeLookup (.type "tuple") "keys"=pure none:=am_miss_of_fast (by decide +kernel)
theorem hU:typeLookup (.type "tuple") "__getattr__"=pure none:=by rw [typeLookup_type,builtinLookup_eq_fast]; kernel_rfl
theorem iq {tk:Tok} {Q:Fin→Shared→Prop} (hx:h.get? a=some ⟨.type "tuple",none,.seq items n,sl⟩) (hA:A.handled=none)
  (hQ:∀ h' tk' e,Heap.NewAttrErr h h' e (.ref a) "keys"→E (.ref e) ⟨h',g,d,tk',os⟩) :
  wpAny (model prog w) A (Builtin.«object.__getattribute__» ⟨[.ref a,.str "keys" tk],[]⟩) Q E ⟨h,g,d,t,os⟩:=by
 have hT:(⟨h,g,d,t,os⟩:Shared).TypeIs (.ref a) "tuple":=⟨_,hx,rfl⟩
 have f4:=kh
 unfold Builtin.«object.__getattribute__»
 repeat (any_goals (first | assumption | wp_step))
 exact wpAny_raiseAttrError (s:=⟨h,g,d,t,os⟩) hA hQ (attrMsg_fits (by decide +kernel) (by decide))
theorem iJ {tk:Tok} {R:Result→Shared→Prop} (hx:h.get? a=some ⟨.type "tuple",none,.seq items n,sl⟩) (hA:A.handled=none)
  (hQ:∀ h' tk' e,Heap.NewAttrErr h h' e (.ref a) "keys"→R (.error (.ref e)) ⟨h',g,d,tk',os⟩) :
  codeAny (model prog w) A (.call (.builtin "tuple.__getattribute__") ⟨[.ref a,.str "keys" tk],[]⟩) R ⟨h,g,d,t,os⟩ :=
 codeAny_call_builtin F.slot_tuple_getattribute.plain F.entry_tuple_ga (F.slot_tuple_getattribute.check _ _ _ _ _ _ _ _ (show (⟨h,g,d,t,os⟩:Shared).TypeIs (.ref a) "tuple" from ⟨_,hx,rfl⟩) (F.args_tuple_getattribute_2 _ _) (iq hx hA hQ))
theorem ki {tk:Tok} {Q:Value→Shared→Prop} (hx:h.get? a=some ⟨.type "tuple",none,.seq items n,sl⟩) (hA:A.handled=none)
  (hQ:∀ h' tk' e,Heap.NewAttrErr h h' e (.ref a) "keys"→E (.ref e) ⟨h',g,d,tk',os⟩):wpAny (model prog w) A (getAttrBy (.ref a) (.str "keys" tk) false) Q E ⟨h,g,d,t,os⟩:=by
 have hT:(⟨h,g,d,t,os⟩:Shared).TypeIs (.ref a) "tuple":=⟨_,hx,rfl⟩
 have f1:=sub_AttributeError
 have f2:=F.slot_tuple_getattribute.lookup
 have f3:=F.slot_tuple_getattribute.bind (.ref a)
 have f5:=hU
 unfold getAttrBy
 repeat (any_goals (first | assumption | wp_step))
 refine iJ hx hA fun h' tk' e hx'=>?_
 obtain ⟨t',u',he⟩:=hx'.there
 show wpAny _ _ (getattributeRaised _ _ _ _ _ _ _) _ _ _
 unfold getattributeRaised
 repeat (any_goals (first | assumption | wp_step))
 exact hQ _ _ _ hx'
theorem iK {Q:Option Value→Shared→Prop} (hx:h.get? a=some ⟨.type "tuple",none,.seq items n,sl⟩) (hA:A.handled=none)
  (hQ:∀ h' tk',(∀ b o,h.get? b=some o→h'.get? b=some o)→Q none ⟨h',g,d,tk',os⟩):wpAny (model prog w) A (getAttr? (.ref a) "keys") Q E ⟨h,g,d,t,os⟩:=by
 have f1:=sub_AttributeError
 unfold getAttr? getAttrBy?
 refine wpAny_bind (wpAny_mkText (wpAny_bind (wpAny_attempt (ki hx hA fun h' tk' e hx'=>?_))))
 obtain ⟨t',u',he⟩:=hx'.there
 have hT:(⟨h',g,d,tk',os⟩:Shared).TypeIs (.ref e) "AttributeError":=⟨_,he,rfl⟩
 refine wpAny_bind (wpAny_isInstance hT f1 ?_)
 exact wpAny_pure (hQ h' tk' hx'.keeps)
end
end PySem
namespace L2
open PySem PySem.Spec PyProof.Rows
theorem kI:entryFor table "dict.update.loop"=some Builtin.«dict.update.loop»:=entryFor_of_tree (by kernel_rfl)
theorem fb:plainId "dict.update.loop"=true:=by decide +kernel
theorem tf {κ:Type} [DecidableEq κ] {kvs:List (κ×Value)} {k:κ} {v:Value} (h:k∉kvs.map (·.1)):stored kvs k v=kvs++[(k,v)]:=by
 unfold stored
 rw [if_neg]
 intro q
 obtain ⟨x,hx,e⟩:=List.any_eq_true.mp q
 exact h (List.mem_map.mpr ⟨x,hx,of_decide_eq_true e⟩)
section
variable {prog:Program} {w:World} {A:Around} {R:Result→Shared→Prop} {dd it tp:Addr} {items:List Value} {ps:List (Str×Value)}
def Bs (h:Heap) (it dd:Addr) (v:Value) (p:Str×Value):Prop:=∃ q t,v=.ref q∧q≠it∧q≠dd∧IsTup h q #[.str p.1 t,p.2]
theorem wb (hh:A.handled=none) (hid:it≠dd) (hti:tp≠it) (htd:tp≠dd) (hlen:items.length=ps.length) (hsz:items.length≤1000) (hnd:(ps.map (·.1)).Nodup) :
  ∀ (k i:Nat) (s:Shared),items.length - i=k→i≤items.length→s.heap.IsTupleIter it tp i→s.heap.IsTuple tp items.toArray→s.heap.DictOf (br prog w) dd ((ps.take i).map fun p=>(Sum.inr p.1,p.2)) →
  (∀ (j:Nat) v p,items[j]?=some v→ps[j]?=some p→Bs s.heap it dd v p) →
  (∀ h' tk,h'.DictOf (br prog w) dd (ps.map fun p=>(Sum.inr p.1,p.2))→(∀ b o,b≠it→b≠dd→s.heap.get? b=some o→h'.get? b=some o)→R (.ok (.ret .none)) { s with heap:=h',toks:=tk }) →
  codeAny (model prog w) A (.builtin "dict.update.loop" ⟨[.ref dd,.ref it,rawInt i,.none],[]⟩) R s:=by
 intro k
 induction k with
 | zero =>
  intro i s hk hi st tpl hd hp hR
  have hin:i=items.length:=by omega
  subst hin
  refine codeAny_builtin kI ?_
  rw [Around.under_plainId fb _]
  show wpAny _ A.in1 (pyNext (.ref it) >>= _) _ _ s
  refine wpAny_bind (wpAny_pyNext_tuple_end hh st tpl (by simp) fun h' eb=>?_)
  refine wpAny_bind (wpAny_pure (wpAny_pure ?_))
  refine hR h' s.toks ?_ fun b o hb _ e=>eb b o hb e
  rw [hlen,List.take_length] at hd
  exact hd.extBut (fun b o hb e=>eb b o hb e) (Ne.symm hid)
 | succ k ih =>
  intro i s hk hi st tpl hd hp hR
  have hlt:i<items.length:=by omega
  have hv:items[i]?=some items[i]:=List.getElem?_eq_getElem hlt
  have hq:ps[i]?=some (ps[i]'(by omega)):=List.getElem?_eq_getElem (by omega)
  obtain ⟨q,t,ev,hqi,hqd,tq⟩:=hp i _ _ hv hq
  refine codeAny_builtin kI ?_
  rw [Around.under_plainId fb _]
  show wpAny _ A.in1 (pyNext (.ref it) >>= _) _ _ s
  refine wpAny_bind (wpAny_pyNext_tuple_item st tpl (x:=items[i]) (by simpa using hv) fun h1 st1 sb1=>?_)
  rw [ev]
  have tq1:IsTup h1 q #[.str (ps[i]'(by omega)).1 t,(ps[i]'(by omega)).2]:=let ⟨o,e,r⟩:=tq; ⟨o,(sb1.2 q hqi).trans e,r⟩
  obtain ⟨oq,eq,cq,nq,dq⟩:=id tq1
  refine wpAny_bind (wpAny_holding (wpAny_bind (wpAny_tryCatch ?_)))
  unfold Builtin.Dict.pairItems
  refine wpAny_bind (wpAny_typeOf (T := "tuple") ⟨oq,eq,cq⟩ ?_)
  rw [if_pos (by decide)]
  refine wpAny_bind (wpAny_seqItems eq dq (wpAny_pure ?_))
  show wpAny _ _ (holding [_,_] (dictSet dd (.str (ps[i]'(by omega)).1 t) (ps[i]'(by omega)).2)) _ _ _
  have hd1:h1.DictOf (br prog w) dd ((ps.take i).map fun p=>(Sum.inr p.1,p.2)):=hd.extBut sb1.extBut (Ne.symm hid)
  refine wpAny_holding (wpAny_dictSet_pairs (knd:=br prog w) (k:=Sum.inr (ps[i]'(by omega)).1) (iB _ _ _ _) hd1 (fun h2 hd2 sb2=>?_) (Nat.le_of_lt (cH (by rw [List.length_map,List.length_take]; omega))))
  have nw:stored ((ps.take i).map fun p=>((Sum.inr p.1:Key),p.2)) (Sum.inr (ps[i]'(by omega)).1) (ps[i]'(by omega)).2=(ps.take (i+1)).map fun p=>(Sum.inr p.1,p.2):=by
   rw [tf,List.take_add_one,hq,List.map_append]
   ·rfl
   ·intro z
    rw [List.map_map] at z
    obtain ⟨p,hp',e⟩:=List.mem_map.mp z
    have e':p.1=(ps[i]'(by omega)).1:=Sum.inr.inj e
    obtain ⟨j,hj,ej⟩:=List.mem_take_iff_getElem.mp hp'
    have hj':j<ps.length:=by omega
    have:(ps.map (·.1))[j]'(by simpa using hj')=(ps.map (·.1))[i]'(by rw [List.length_map]; omega):=by simp only [List.getElem_map]; rw [ej]; exact e'
    have:=(List.getElem_inj hnd).mp this
    omega
  rw [nw] at hd2
  have up:∀ b o,b≠it→b≠dd→s.heap.get? b=some o→h2.get? b=some o:=fun b o hb hb2 e=>(sb2.2 b hb2).trans ((sb1.2 b hb).trans e)
  refine wpAny_pure ⟨plainId_quiet fb _,?_⟩
  have nx:=ih (i+1) { s with heap:=h2,toks:=s.toks+1 } (by omega) hlt (by obtain ⟨o,e,r⟩:=st1; exact ⟨o,(sb2.2 it hid).trans e,r⟩) (by obtain ⟨o,e,r⟩:=tpl; exact ⟨o,up _ _ hti htd e,r⟩) hd2
   (fun j v p ej ep=>by obtain ⟨q,t,e,n1,n2,o,e2,r⟩:=hp j v p ej ep; exact ⟨q,t,e,n1,n2,o,up _ _ n1 n2 e2,r⟩)
   fun h' tk hd' up'=>hR h' tk hd' fun b o hb hb2 e=>up' b o hb hb2 (up b o hb hb2 e)
  exact nx
end
open PySem PySem.Spec PyProof.Rows
section
variable {X:Cx}
def wY (K:Frag) (H:Hp) (y:V) (p:Str×V):Prop:=∃ q,y=.ref q∧SqT K H q [.str p.1,p.2]
theorem jr {α β:Type} {F:α→β→Prop}:∀ {l:List α} {m:List β},Paired F l m→∀ (j:Nat) a b,l[j]?=some a→m[j]?=some b→F a b
 | _,_,.nil,_,_,_,h,_=>by simp at h
 | _,_,.cons h t,0,_,_,h1,h2=>by simp at h1 h2; subst h1 h2; exact h
 | _,_,.cons h t,j+1,_,_,h1,h2=>jr t j _ _ (by simpa using h1) (by simpa using h2)
theorem aY.vals_pairs {I:Unit} {X:Cx} {pins:List (Addr×Obj)} {σ:St} {H:Hp} {s:Shared} (J:Inv X pins σ H s):∀ {ys:List V} {ps:List (Str×V)} {its:List Value},Paired (wY X.K H) ys ps→aY ys its →
  ∃ qs:List (Str×Value),Paired (fun (p:Str×V) (q:Str×Value)=>p.1=q.1∧bh p.2 q.2) ps qs∧Paired (fun v (p:Str×Value)=>∃ q t,v=.ref q∧q<s.heap.objs.size∧IsTup s.heap q #[.str p.1 t,p.2]) its qs
 | _,_,_,.nil,.nil=>⟨[],.nil,.nil⟩
 | _,_,_,.cons h t,.cons r rr=>by
  obtain ⟨qs,h1,h2⟩:=aY.vals_pairs (I:=I) J t rr
  obtain ⟨q,e,hq⟩:=h
  subst e
  cases r
  obtain ⟨it2,rv,p,_⟩:=J.tuple hq
  obtain ⟨u1,u2,e2,r1,r2⟩:=xa rv
  subst e2
  obtain ⟨t,e3⟩:=(show ∃ t,u1=Value.str _ t from r1)
  subst e3
  exact ⟨(_,u2)::qs,.cons ⟨rfl,r2⟩ h1,.cons ⟨q,t,rfl,p.lt,p⟩ h2⟩
theorem xc:∀ {ps:List (Str×V)} {qs:List (Str×Value)},Paired (fun (p:Str×V) (q:Str×Value)=>p.1=q.1∧bh p.2 q.2) ps qs→KV (ps.map fun p=>((Sum.inr p.1:Key),p.2)) (qs.map fun p=>(Sum.inr p.1,p.2))
 | _,_,.nil=>.nil
 | _,_,.cons h t=>.cons ⟨by show Sum.inr _=Sum.inr _; rw [h.1],h.2⟩ (xc t)
theorem vI:∀ {ps:List (Str×V)} {qs:List (Str×Value)},Paired (fun (p:Str×V) (q:Str×Value)=>p.1=q.1∧bh p.2 q.2) ps qs→ps.map (·.1)=qs.map (·.1)
 | _,_,.nil=>rfl
 | _,_,.cons h t=>by rw [List.map_cons,List.map_cons,h.1,vI t]
def BW (K:Frag):List V→Hp→VK→Prop:=fun xs H Q=>∃ p ys ps,xs=[.ref p]∧H p=some (.tup ys)∧ys.length≤1000∧(List.map (fun q:Str×V=>q.1) ps).Nodup∧Paired (wY K H) ys ps ∧
 ∀ l,H l=none→Q (.ref l) (upd H l (.dK (ps.map fun p=>(Sum.inr p.1,p.2))))
theorem rQ (hc:X.calm=true):ef X (.type "dict") (BW X.K):=by
 intro pins s σ H xs us Q I r h
 obtain ⟨p,ys,ps,rfl,hp,hl,hnd,hpr,q⟩:=h
 obtain ⟨u,rfl,ru⟩:=jB r
 cases ru
 obtain ⟨hz,its,rv,tp,o2,e2,d2⟩:=(show bL X.prog X.w H s.heap p (.tup ys) from I.hok p _ hp)
 obtain ⟨qs,k1,k2⟩:=aY.vals_pairs (I:=()) I hpr rv
 obtain ⟨⟨cls,dct,data,sl⟩,ho,hcl,n,hdt⟩:=id tp
 rw [ho] at e2
 cases e2
 simp only at hcl hdt d2
 subst hcl hdt d2
 have hlt:p<s.heap.objs.size:=Heap.lt_size ho
 refine callType_codes (Q₁:=fun obj s₁=>obj=.ref s.heap.objs.size∧s₁={ s with heap:=s.heap.push { cls:=.type "dict",data:=.dict #[] } }) F.kt_called_dict (F.kt_typeCall_dict_1 _) F.entry_dict_init (kt_code_dict_new _ ⟨rfl,rfl⟩) ?_
 rintro obj s₁ ⟨rfl,rfl⟩
 have hnew:(s.heap.push { cls:=.type "dict",data:=.dict #[] }).DictOf (br X.prog X.w) s.heap.objs.size []:=Heap.DictOf.new s.heap
 refine ⟨hnew.typeIs,F.args_dict_init_2 _ _,?_⟩
 unfold Builtin.«dict.__init__»
 refine wpAny_bind ?_
 unfold Builtin.Dict.selfAndRest
 refine wpAny_bind (wpAny_notOrdered_dict hnew.typeIs ?_)
 show wpAny _ _ (pure (s.heap.objs.size,[Value.ref p])) _ _ _
 refine wpAny_pure ?_
 show wpAny _ _ (Builtin.Dict.updateFrom "dict.__init__" s.heap.objs.size (.ref p) [] .none) _ _ _
 unfold Builtin.Dict.updateFrom
 have ho1:(s.heap.push { cls:=.type "dict",data:=.dict #[] }).get? p=some ⟨.type "tuple",none,.seq its.toArray n,sl⟩:=Heap.get?_push_of_some _ ho
 refine wpAny_bind (wpAny_typeOf (T := "tuple") ⟨_,ho1,rfl⟩ ?_)
 rw [if_pos (by decide)]
 refine wpAny_bind (iK (h:=s.heap.push { cls:=.type "dict",data:=.dict #[] }) (g:=s.gens) (d:=s.drawn) (t:=s.toks) (os:=s.os) ho1 (I.ok.hd hc) fun h1 tk1 kp1=>?_)
 rw [if_pos (show (none:Option Value).isNone=true from rfl)]
 refine wpAny_bind (wpAny_rule (wpAny_bind (wpAny_pyIter_tuple (show h1.IsTuple p its.toArray from ⟨_,kp1 _ _ ho1,rfl,n,rfl⟩) ?_)))
 have old:∀ b o,s.heap.get? b=some o→(h1.push { cls:=.type "tuple_iterator",data:=.fields #[.ref p,.int 0 0] }).get? b=some o:=fun b o e=>Heap.get?_push_of_some _ (kp1 b o (Heap.get?_push_of_some _ e))
 have hnew1:h1.DictOf (br X.prog X.w) s.heap.objs.size []:=by obtain ⟨o,es,ep,e,rr⟩:=hnew; exact ⟨o,es,ep,kp1 _ _ e,rr⟩
 have hdl:s.heap.objs.size<h1.objs.size:=by obtain ⟨o,es,ep,e,rr⟩:=hnew1; exact Heap.lt_size e
 refine wpAny_pure ⟨plainId_quiet fb _,?_⟩
 refine wb (A:=X.A.in1) (prog:=X.prog) (w:=X.w) (dd:=s.heap.objs.size) (it:=h1.objs.size) (tp:=p) (items:=its) (ps:=qs) (I.ok.hd hc) (Nat.ne_of_gt hdl) (Nat.ne_of_lt (Nat.lt_trans hlt hdl)) (Nat.ne_of_lt hlt) (Paired.length k2) (by rw [← rv.length]; exact hl) (by rw [← vI k1]; exact hnd)
  its.length 0 ⟨h1.push { cls:=.type "tuple_iterator",data:=.fields #[.ref p,.int 0 0] },s.gens,s.drawn,tk1,s.os⟩ rfl (Nat.zero_le _) ⟨_,Heap.get?_push_size _ rfl,rfl,rfl⟩ ⟨_,old _ _ ho,rfl,n,rfl⟩ (by exact hnew1.push _) (fun j v pr ej ep=>?_) fun h' tk hd' up=>?_
 ·obtain ⟨q',t,e,hlq,o,e3,r3⟩:=jr k2 j v pr ej ep
  exact ⟨q',t,e,Nat.ne_of_lt (Nat.lt_trans hlq hdl),Nat.ne_of_lt hlq,o,old _ _ e3,r3⟩
 ·refine ⟨rfl,.ref s.heap.objs.size,upd H s.heap.objs.size (.dK (ps.map fun p=>(Sum.inr p.1,p.2))),?_,rfl,q _ (I.hok.fresh (Nat.le_refl _))⟩
  refine I.laid (h':=h') (t':=tk) (fun b o e=>up b o (Nat.ne_of_lt (Nat.lt_trans (Heap.lt_size e) hdl)) (Nat.ne_of_lt (Heap.lt_size e)) (old b o e)) (Nat.le_refl _) ?_
  refine ⟨?_,?_,_,xc k1,hd'⟩
  ·rw [List.length_map,Paired.length k1,← Paired.length k2,← rv.length]; exact Nat.le_of_lt (cH hl)
  ·have hbig:mainGlobals<s.heap.objs.size:=(I.mod.glob.keeps I.bk).lt
   exact beq_eq_false_iff_ne.mpr (Nat.ne_of_gt (Nat.lt_trans (by decide) hbig))
end
end L2
namespace PySem
section
variable {prog:Program} {w:World} {A:Around} {E:Value→Shared→Prop} {s:Shared}
theorem jp {it t:Addr} {i:Nat} {items:Array Value} {Q:Value→Shared→Prop} (hh:A.handled=none) (hit:s.heap.IsTupleIter it t i) (ht:s.heap.IsTuple t items)
  (hQ:∀ x,items[i]?=some x→∀ h',h'.IsTupleIter it t (i+1)→Heap.SameBut it s.heap h'→Q x { s with heap:=h' })
  (hE:items[i]?=none→∀ h' e,Heap.ExtBut it s.heap h'→(∃ o,h'.get? e=some o∧o.cls=.type "StopIteration")→E (.ref e) { s with heap:=h' }) :
  wpAny (model prog w) A (Builtin.SmallTypes.nextOf (.ref it)) Q E s:=by
 obtain ⟨oi,gi,ci,di⟩:=id hit
 obtain ⟨ot,gt,_,m,dt⟩:=ht
 have sl:=F.slot_tuple_iterator_next
 unfold Builtin.SmallTypes.nextOf
 refine wpAny_bind (wpAny_callSpecial?_slot (name:=Str.ofString "__next__") hit.typeIs sl (wpAny_call_entry sl hit.typeIs F.entry_tuple_iterator_next ?_ (F.args_tuple_iterator_next_1 _)))
 refine wpAny_bind (m:=field (.ref it) 0) (wpAny_field gi di (x:=.ref t) rfl ?_)
 have nn:¬ ((Value.ref t==Value.none)=true):=Bool.false_ne_true
 show wpAny _ _ (if (Value.ref t==Value.none)=true then _ else _) _ _ _
 rw [if_neg nn]
 refine wpAny_bind (m:=field (.ref it) 1) (wpAny_field gi di (x:=.int i 0) rfl (wpAny_bind (m:=seqItems? (.ref t)) (wpAny_seqItems gt dt ?_)))
 cases q:items[i]? with
 | some x =>
  simp only [Int.toNat_natCast,q]
  refine wpAny_bind (wpAny_setField gi di (by simp) (wpAny_pure ⟨x,rfl,wpAny_pure (hQ x q _ ⟨_,Heap.get?_update_self _ gi ?_,?_,?_⟩ (Heap.SameBut.update ..))⟩))
  ·exact Obj.isFreed_of_fields (Obj.data_mapFields di _)
  ·exact (Obj.cls_mapFields ..).trans ci
  ·rw [Obj.data_mapFields di]
   simp [rawInt]
 | none =>
  simp only [Int.toNat_natCast,q]
  refine wpAny_bind (wpAny_rule (wpAny_bind (wpAny_setField gi di (by simp) (wpAny_bind (m:=newExc (.type "StopIteration") []) ?_))))
  simp only [newExc,newTuple]
  refine wpAny_bind (wpAny_newObj_type (wpAny_bind (m:=firstArgMember _ _) (wpAny_of_eq (a:=Value.none) (by first | rfl | (simp only [firstArgMember]; rfl)) (wpAny_newObj_type ?_ (by size_fits)))) (by size_fits))
  simp only [raiseNew]
  refine wpAny_bind (wpAny_handled ?_)
  rw [show A.in1.handled=none from hh]
  exact wpAny_bind (wpAny_pure (wpAny_throw (hE q _ _ (((Heap.SameBut.update ..).extBut.push _).push _) ⟨_,Heap.get?_push_size _ rfl,rfl⟩)))
end
theorem Draws.tup {prog:Program} {w:World} {A:Around} (hh:A.handled=none) (it l:Addr) (hne:l≠it) (items:Array Value) :
  Draws prog w A it [it,l] items.size (fun i v=>items[i]?=some v) (fun i h=>h.IsTupleIter it l i∧h.IsTuple l items) where
 live:=fun _ _ st=>let ⟨o,ho,_⟩:=st.1; ⟨o,ho⟩
 frame:=fun _ _ _ st hk=>⟨st.1.at fun o e=>hk it (by simp) o e,let ⟨o,e,r⟩:=st.2; ⟨o,hk l (by simp) o e,r⟩⟩
 item:=fun i s Q E hi st hQ=>jp hh st.1 st.2 (fun x ex h' st' sb=>hQ x h' s.toks ex ⟨st',st.2.extBut sb.extBut hne⟩ sb) fun e=>by simp at e; omega
 done:=fun s Q E st hE=>jp hh st.1 st.2 (fun x ex=>by simp at ex) fun _=>hE
section
variable {prog:Program} {w:World} {A:Around} {E:Value→Shared→Prop} {s:Shared} {z TI TO i1 i2:Addr} {f1 f2:List Addr} {n1 n2 k1 k2:Nat} {P1 P2:Nat→Value→Prop} {S1 S2:Nat→Heap→Prop} {a b:Value}
end
end PySem
namespace PySem
end PySem
namespace L2
open PySem PySem.Spec PyProof.Rows
def SqX (k:Bool) (K:Frag) (H:Hp) (a:Addr) (xs:List V):Prop:=match k with | true=>SqT K H a xs | false=>SqL K H a xs
section
variable {X:Cx} {pins:List (Addr×Obj)} {σ:St} {H:Hp} {s:Shared} {a:Addr} {xs ys:List V} {h':Heap}
theorem Rd.ne {u:HO} {c:Addr} (r:Rd H a u) (h:H c=none):a≠c:=fun e=>by
 subst e
 rcases r with r | ⟨o,r⟩<;>(rw [h] at r; cases r)
theorem Ct {o:Obj} {c:Addr} (I:Inv X pins σ H s) (e:X.K.lookup a=some o) (f:fU X pins H c):a≠c:=fun q=>by
 subst q
 have hb:=I.ok.mod.kin a o e
 rcases f.2.2.2.1 with m | m
 ·exact I.ok.noex a o hb m
 ·exact absurd (Nat.lt_of_lt_of_le (Heap.lt_size hb) (Nat.le_trans I.ok.bsz m)) (Nat.lt_irrefl _)
theorem Inv.sq_ne {k:Bool} {c:Addr} (I:Inv X pins σ H s) (h:SqX k X.K H a xs) (f:fU X pins H c):a≠c:=by
 cases k with
 | true=>rcases h with r | ⟨o,_,_,e,_⟩; exact r.ne f.1; exact Ct I e f
 | false=>rcases h with r | ⟨o,_,_,e,_⟩; exact r.ne f.1; exact Ct I e f
theorem Inv.turnedL {t':Nat} {its:List Addr} (I:Inv X pins σ H s) (k:∀ b o,b∉its→s.heap.get? b=some o→h'.get? b=some o) (hf:∀ b∈its,fU X pins H b) :
  Inv X pins σ H { s with heap:=h',toks:=t' }:=by
 have nit:∀ b u,H b=some u→b∉its:=fun b u e z=>by rw [(hf b z).1] at e; cases e
 refine I.step (g':=s.gens) (d':=s.drawn) (ch:=its) (fun b hb=>⟨(hf b hb).2.2.2.1,(hf b hb).2.1,(hf b hb).2.2.2.2.1,(hf b hb).2.2.2.2.2⟩) (fun b o _ _ hc e _=>k b o hc e) (fun b o _ _ hc e _=>⟨o.slots,k b o hc e⟩) (fun _ _ _ _ n=>n)
  (fun b o hc e=>⟨o,k b o hc e⟩) (fun _ _ e=>e) (fun _ _ _ e=>e) (fun b ps e=>⟨#[],by rw [e]; simp⟩) (fun m hm=>?_) (fun b u e=>?_) I.bare
 ·obtain ⟨o,es,ep,ho,r⟩:=hm
  exact ⟨o,es,ep,k _ o (fun z=>(hf _ z).2.1 rfl) ho,r⟩
 ·refine (I.hok b u e).stay (fun c v hc q=>k c v ?_ q) (fun _ q=>q) fun _ _ q=>q
  rcases hc with z | z
  ·rw [z]; exact nit b u e
  ·exact nit c _ z
end
section
variable {X:Cx}
end
open PySem PySem.Spec PyProof.Rows
section
variable {κ:Type} [DecidableEq κ]
def jg (kvs:List (κ×V)) (k:κ):Option V:=(kvs.find? fun kv=>decide (kv.1=k)).map (·.2)
theorem jt {p:κ×V} {r:List (κ×V)} {k:κ} (e:p.1=k):jg (p::r) k=some p.2:=by simp [jg,List.find?_cons,e]
theorem jx {p:κ×V} {r:List (κ×V)} {k:κ} (e:¬ p.1=k):jg (p::r) k=jg r k:=by simp [jg,List.find?_cons,e]
theorem jP.getD {o:Option V} {u:Option Value} {d:V} {d':Value} (r:jP o u) (rd:bh d d'):bh (o.getD d) (u.getD d'):=by
 cases o with
 | none=>cases u with
  | none=>exact rd
  | some _=>exact (show False from r).elim
 | some _=>cases u with
  | none=>exact (show False from r).elim
  | some _=>exact r
theorem KV.val {kvs:List (κ×V)} {vs:List (κ×Value)} (r:KV kvs vs) (k:κ):jP (jg kvs k) (valueAt vs k):=by
 unfold KV at r
 induction r with
 | nil=>exact True.intro
 | @cons p q ps qs h t ih =>
  obtain ⟨h1,h2⟩:=h
  by_cases e:p.1=k
  ·have e':q.1=k:=h1.symm.trans e
   have b:valueAt (q::qs) k=some q.2:=by simp [valueAt,List.find?_cons,e']
   rw [jt e,b]; exact h2
  ·have e':¬ q.1=k:=fun z=>e (h1.trans z)
   have b:valueAt (q::qs) k=valueAt qs k:=by simp [valueAt,List.find?_cons,e']
   rw [jx e,b]; exact ih
end
theorem Ai {P:Program} {w:World} {k:Key} {u:Value} (r:bh (kV k) u):(br P w).is k u=true:=by
 cases k with
 | inl i=>obtain ⟨t,e⟩:=(show ∃ t,u=Value.int i t from r); subst e; exact pU P w i t
 | inr x=>obtain ⟨t,e⟩:=(show ∃ t,u=Value.str x t from r); subst e; exact iB P w x t
theorem lG {P:Program} {w:World}:∀ {ks:List Key} {us:List Value},aY (ks.map kV) us→ItemsAre (br P w) ks us
 | [],_,r=>by rw [List.map_nil] at r; cases r; exact .nil
 | k::ks,_,r=>by
  rw [List.map_cons] at r
  cases r with
  | cons h t=>exact .cons (Ai h) (lG t)
abbrev KT (H:Hp):List (List Key×V)→List (List Key×Addr×Value)→Prop:=Paired fun p q=>p.1=q.1∧H q.2.1=some (.tup (p.1.map kV))∧bh p.2 q.2.2
theorem KT.val {H:Hp} {kvs:List (List Key×V)} {xs:List (List Key×Addr×Value)} (r:KT H kvs xs) (k:List Key):jP (jg kvs k) ((atKey xs k).map (·.2)):=by
 induction r with
 | nil=>exact True.intro
 | @cons p q ps qs h t ih =>
  obtain ⟨h1,_,h2⟩:=h
  by_cases e:p.1=k
  ·have e':q.1=k:=h1.symm.trans e
   have b:atKey (q::qs) k=some q.2:=by simp [atKey,List.find?_cons,e']
   rw [jt e,b]; exact h2
  ·have e':¬ q.1=k:=fun z=>e (h1.trans z)
   have b:atKey (q::qs) k=atKey qs k:=by simp [atKey,List.find?_cons,e']
   rw [jx e,b]; exact ih
section
variable {P:Program} {w:World} {H:Hp} {h:Heap} {a:Addr}
theorem Ay {u:HO} (ok:HOk P w H h) (e:Rd H a u):bL P w H h a u:=e.ok ok
theorem AE {kvs:List (Key×V)} (ok:HOk P w H h) (e:Rd H a (.dK kvs)):kvs.length≤sizeLine∧(a==sysModules)=false∧∃ vs,KV kvs vs∧h.DictOf (br P w) a vs :=
 show bL P w H h a (.dK kvs) from Ay ok e
theorem xr {ks:List Key} (ok:HOk P w H h) (e:H a=some (.tup (ks.map kV))):(tupleKind (br P w)).is h ks a:=by
 obtain ⟨_,its,r,⟨o,h1,h2,n,h3⟩,_⟩:=(show bL P w H h a (.tup (ks.map kV)) from ok a _ e)
 exact ⟨o,its.toArray,n,h1,h2,h3,by simpa using lG r⟩
theorem zX {kvs:List (List Key×V)} (ok:HOk P w H h) (e:Rd H a (.dT kvs)):kvs.length≤sizeLine∧(a==sysModules)=false ∧
  ∃ xs,KT H kvs xs∧h.DictOfH (tupleKind (br P w)) a xs:=by
 obtain ⟨z,y,xs,r,o,es,ep,h1,h2,h3,h4,h5⟩:=(show bL P w H h a (.dT kvs) from Ay ok e)
 refine ⟨z,y,xs,r,o,es,ep,h1,h2,h3,h4,fun x hx=>?_,h5⟩
 have all:∀ {l:List (List Key×V)} {m:List (List Key×Addr×Value)},KT H l m→∀ x∈m,(tupleKind (br P w)).is h x.1 x.2.1:=by
  intro l m q
  induction q with
  | nil=>intro x hx; exact nomatch hx
  | @cons p q ps qs hq t ih =>
   intro x hx
   rcases List.mem_cons.mp hx with e | hx
   ·subst e
    exact xr ok (by rw [← hq.1]; exact hq.2.1)
   ·exact ih x hx
 exact all r x hx
end
def yh (H:Hp) (a:Addr) (y:V) (r:Option V):Prop :=
 (∃ kvs k,Rd H a (.dK kvs)∧y=kV k∧r=jg kvs k)∨∃ kvs k b,Rd H a (.dT kvs)∧y=.ref b∧H b=some (.tup (k.map kV))∧r=jg kvs k
theorem yh.k {H:Hp} {a:Addr} {kvs:List (Key×V)} {k:Key} (e:H a=some (.dK kvs)):yh H a (kV k) (jg kvs k):=.inl ⟨kvs,k,.inl e,rfl,rfl⟩
section
variable {X:Cx} {pins:List (Addr×Obj)} {σ:St} {H:Hp} {s:Shared} {a:Addr} {y v:V} {u r:Value} {o:Option V} {A:Around} {E:Value→Shared→Prop}
end
section
variable {X:Cx} {pins:List (Addr×Obj)} {σ:St} {H:Hp} {s:Shared} {a:Addr} {kvs:List (Key×V)} {k:Key} {u:Value} {A:Around} {E:Value→Shared→Prop}
end
section
variable {X:Cx} {o i e value:Expr} {pos pos' tpos:Pos} {td ty tv:TE}
end
section
variable {X:Cx} {pos:Pos}
end
structure M1 (X:Cx) (o:Expr) (m:Str) (apos:Pos) (e:Expr) (cpos:Pos):Prop where
 base:attributeBase o m X.env (eval o X.env)=eval o X.env
 few:((backTo cpos (starEach [e] X.env)).all (fun x=>!x.1)&&(backToKw cpos (keywordEach [] X.env)).all (fun x=>x.1.isSome)
 &&decide (([e]:List Expr).length+([]:List Keyword).length+(if ([]:List Keyword).isEmpty then 0 else 1)<30))=true
 line:(apos.endLine==cpos.line)=true
 trees:backTo cpos (starEach [e] X.env)=[(false,eval e X.env)]
def IsD (H:Hp) (a:Addr):Prop:=(∃ kvs,Rd H a (.dK kvs))∨∃ kvs,Rd H a (.dT kvs)
theorem Bt {X:Cx} {pins:List (Addr×Obj)} {σ:St} {H:Hp} {s:Shared} {a:Addr} (I:Inv X pins σ H s) (d:IsD H a) :
  s.TypeIs (.ref a) "dict"∧(∀ b,Value.ref a=.ref b→∃ ob,s.heap.get? b=some ob∧ob.dict=none)∧(a==sysModules)=false:=by
 rcases d with ⟨kvs,e⟩ | ⟨kvs,e⟩
 ·obtain ⟨_,hd,vs,_,dd⟩:=AE I.hok e
  refine ⟨dd.typeIs,fun b q=>?_,hd⟩
  cases q
  obtain ⟨ob,_,_,h1,h2,_⟩:=dd
  exact ⟨ob,h1,h2.2.1⟩
 ·obtain ⟨_,hd,xs,_,dd⟩:=zX I.hok e
  refine ⟨dd.typeIs,fun b q=>?_,hd⟩
  cases q
  obtain ⟨ob,_,_,h1,h2,_⟩:=dd
  exact ⟨ob,h1,h2.2.1⟩
section
variable {X:Cx} {pins:List (Addr×Obj)} {σ:St} {H:Hp} {s:Shared} {a:Addr} {y d:V} {u r:Value} {o:Option V} {A:Around} {E:Value→Shared→Prop}
theorem BL {Q:Value→Shared→Prop} (hu:A.units+1<cLine) (I:Inv X pins σ H s) (g:yh H a y o) (ry:bh y u) (h:∀ w' s',Inv X pins σ H s'→bh (o.getD .non) w'→Q w' s') :
  wpAny (model X.prog X.w) A (call (.builtin "dict.get") [.ref a,u]) Q E s:=by
 rcases g with ⟨kvs,k,e,ey,l⟩ | ⟨kvs,k,b,e,ey,eb,l⟩
 ·subst ey
  obtain ⟨z,hd,vs,rel,dd⟩:=AE I.hok e
  refine call_meetsIn PySem.F.slot_dict_get dd.typeIs PySem.F.entry_dict_get (PySem.F.args_dict_get_2 _ _) (meets_dict_get (br X.prog X.w) a (Ai ry) hd) ⟨_,dd.mapOf,h _ _ (I.tok _) ?_⟩
  rw [l]
  exact (rel.val k).getD rfl
 ·subst ey
  cases (show u=Value.ref b from ry)
  obtain ⟨z,hd,xs,rel,dd⟩:=zX I.hok e
  refine call_meetsIn PySem.F.slot_dict_get dd.typeIs PySem.F.entry_dict_get (PySem.F.args_dict_get_2 _ _) (meetsH_dict_get (tupleKind (br X.prog X.w)) a b hd) ⟨tupleKind_room_in1 hu,k,xs,xr I.hok eb,dd,h _ _ (I.tok _) ?_⟩
  rw [l]
  exact (rel.val k).getD rfl
end
def BG (td ty:TE):TE:=fun σ H Q=>td σ H fun x H1=>∃ a,x=.ref a∧IsD H1 a∧ty σ H1 fun y H2=>∃ o,yh H2 a y o∧Q (o.getD .non) H2
section
variable {X:Cx} {o e f:Expr} {apos cpos:Pos} {td ty tx:TE}
theorem yr (hu:X.A.units+1<cLine) (ho:PE X o td) (he:PE X e ty) (m:M1 X o "get" apos e cpos):PE X (.Call (.Attribute o "get" apos) [e] [] cpos) (BG td ty):=by
 intro pins s σ H Q I h
 refine wpAny_Call_method m.base m.few m.line PySem.F.plainAttrs_dict PySem.F.slot_dict_get PySem.F.type_dict_get (thn (ho pins s σ H _ I h) fun u s1 ⟨x,H1,I1,rx,a,ex,d,q1⟩=>?_)
 subst ex
 obtain rfl:u=Value.ref a:=rx
 obtain ⟨t1,t2,_⟩:=Bt I1 d
 refine ⟨t1,t2,?_⟩
 rw [m.trees]
 refine Calls.callWith_builtin rfl (Calls.evalArgs_plain (Calls.spliced_cons (thn (he pins s1 σ H1 _ I1 q1) fun iv s2 ⟨y,H2,I2,ry,ov,g,q2⟩=>Calls.spliced_nil ?_)))
 exact BL hu I2 g ry fun w' s3 I3 rw'=>⟨_,H2,I3,rw',q2⟩
end
section
variable {X:Cx} {pins:List (Addr×Obj)} {σ:St} {H:Hp} {s:Shared} {a:Addr} {kvs:List (Key×V)} {A:Around} {E:Value→Shared→Prop}
end
section
variable {X:Cx} {pins:List (Addr×Obj)} {σ:St} {H:Hp} {s:Shared} {a:Addr} {y:V} {u:Value} {A:Around} {E:Value→Shared→Prop}
end
section
variable {X:Cx}
end
section
variable {κ:Type} [DecidableEq κ]
end
open PySem PySem.Spec PyProof.Rows
section
variable {m:Nat} {g:TG} {tt:TT} {te:TE} {σ':St} {Z:List V→Hp→Prop} {H1:Hp} {K:Frag}
theorem cZ {a:Addr} {xs:List V} (n:Nat) (hz:n=xs.length) (hn:n≤1000) (Pv:Nat→List V→Hp→Prop) (h0:Pv 0 [] H1) (hq:∀ i acc H,Pv i acc H→SqL K H a xs)
  (hs:∀ i acc H x,i<n→acc.length≤i→xs[i]?=some x→Pv i acc H→g x σ' H fun σ2 H2=>(σ2.drop m=σ'.drop m∧σ2.length=σ'.length)∧tt σ2 H2 fun b H3=>if b=true then te σ2 H3 fun v H4=>NxT n Pv i acc v H4 else NxF n Pv i acc H3)
  (hd:∀ acc H,Pv n acc H→acc.length≤n→Z acc H):eW (Itl K a) m g tt te σ' Z H1 :=
 iX n hn Pv h0 (fun i acc H hi la p=>by
  have hx:xs[i]?=some (xs[i]'(by omega)):=List.getElem?_eq_getElem (by omega)
  exact ⟨⟨xs,_,hq i acc H p,hx⟩,fun x H' y=>by obtain ⟨e,y⟩:=y; subst e; exact hs i acc _ x hi la (y xs (hq i acc _ p)) p⟩) fun acc H p la=>⟨⟨xs,hq n acc H p,by omega⟩,hd acc H p la⟩
end
section
variable {X:Cx}
open PySem PySem.Spec PyProof.Rows
end
end L2
namespace PySem
namespace F
theorem no_tuple_reversed:typeLookup (.type "tuple") "__reversed__"=pure none:=by rw [typeLookup_type,builtinLookup_eq_fast]; kernel_rfl
theorem eK:Manifest.owners.lookup (String.ofList ['d','e','s','r','e','v','e','r'].reverse)=some Manifest.sig_reversed:=by kernel_rfl
theorem fT:Slot "reversed" "__init__" "object.__init__" :=
 .of (owner := "object") (n := "__init__") (by rw [typeLookup_type,builtinLookup_eq_fast]; kernel_rfl) (by decide +kernel) (by decide +kernel) (by decide +kernel)
  (by first | exact .inl (by decide +kernel) | exact .inr (by decide +kernel)) (by rw [isSubtype_type]; kernel_rfl)
theorem slot_reversed_next:Slot "reversed" "__next__" "reversed.__next__" :=
 .of (owner := "reversed") (n := "__next__") (by rw [typeLookup_type,builtinLookup_eq_fast]; kernel_rfl) (by decide +kernel) (by decide +kernel) (by decide +kernel)
  (by first | exact .inl (by decide +kernel) | exact .inr (by decide +kernel)) (by rw [isSubtype_type]; kernel_rfl)
theorem slot_reversed_iter:Slot "reversed" "__iter__" "reversed.__iter__" :=
 .of (owner := "reversed") (n := "__iter__") (by rw [typeLookup_type,builtinLookup_eq_fast]; kernel_rfl) (by decide +kernel) (by decide +kernel) (by decide +kernel)
  (by first | exact .inl (by decide +kernel) | exact .inr (by decide +kernel)) (by rw [isSubtype_type]; kernel_rfl)
theorem entry_reversed_next:entryFor table "reversed.__next__"=some Builtin.«reversed.__next__»:=entryFor_of_tree (by kernel_rfl)
theorem args_reversed_next_1 (a:Value):argsOk "reversed.__next__" ⟨[a],[]⟩:=by
 unfold argsOk; rw [signature?_of (id := "reversed.__next__") (n:=['_','_','t','x','e','n','_','_']) (o:=['d','e','s','r','e','v','e','r']) (by kernel_rfl) eK]; kernel_rfl
theorem args_reversed_iter_1 (a:Value):argsOk "reversed.__iter__" ⟨[a],[]⟩:=by
 unfold argsOk; rw [signature?_of (id := "reversed.__iter__") (n:=['_','_','r','e','t','i','_','_']) (o:=['d','e','s','r','e','v','e','r']) (by kernel_rfl) eK]; kernel_rfl
theorem entry_reversed_iter:entryFor table "reversed.__iter__"=some Builtin.«dict_keyiterator.__iter__» :=
 entryFor_alias (id' := "dict_keyiterator.__iter__") (by kernel_rfl) (by first | rfl | decide +kernel | (unfold String.splitOn; simp +decide [String.splitOnAux])) (by decide +kernel) (by kernel_rfl)
theorem called_reversed:TypeCalled "reversed" "reversed.__new__" "object.__init__" :=
 ⟨by decide +kernel,by decide +kernel,⟨_,_,mro_reversed⟩,made_reversed,by decide +kernel,by rw [isSubtype_type]; kernel_rfl,fT⟩
end F
section
variable {prog:Program} {w:World} {A:Around} {E:Value→Shared→Prop} {s:Shared}
def mJ (t:Addr) (i:Int):Obj:={ cls:=.type "reversed",data:=.fields #[.ref t,rawInt i] }
theorem fX (t:Addr) (items:Array Value) (hz:¬ (items.size:Int) ≥ 2 ^ 63) :
  Meets (Builtin.«reversed.__new__» ⟨[.type "reversed",.ref t],[]⟩) (fun _ R s=>PyProof.Rows.IsTup s.heap t items ∧
   R (.ok (.ret (.ref s.heap.objs.size))) { s with heap:=s.heap.push (mJ t ((items.size:Int) - 1)),toks:=s.toks+1+1 }) :=
 .of_wp fun prog w A R s h=>by
  obtain ⟨ht,h⟩:=h
  have hT:s.TypeIs (.ref t) "tuple":=ht.typeIs
  unfold Builtin.«reversed.__new__»
  refine wpAny_bind (wpAny_of_eq (newClass_reversed _) ?_)
  try dsimp only
  refine wpAny_bind (wpAny_of_eq (a:=()) (by first | rfl | kernel_rfl) ?_)
  refine wpAny_bind (wpAny_of_eq (a:=()) (by first | rfl | kernel_rfl) ?_)
  try dsimp only
  refine wpAny_bind (wpAny_specialOf hT F.no_tuple_reversed ?_)
  try dsimp only
  refine wpAny_bind ?_
  show wpAny _ _ (isInstance (.ref t) (.type "dict") >>= _) _ _ _
  refine wpAny_bind (wpAny_isInstance hT F.sub_tuple_dict ?_)
  rw [if_neg (by decide)]
  refine wpAny_bind (wpAny_specialOf hT F.slot_tuple_getitem.lookup ?_)
  dsimp only
  rw [if_pos (by decide +kernel)]
  refine wpAny_pure ?_
  rw [if_neg (by decide)]
  refine wpAny_bind (PyProof.Rows.len_tuple ht (by omega) ?_)
  refine wpAny_bind (wpAny_of_eq (a:=some ((items.size:Nat):Int)) rfl ?_)
  dsimp only
  unfold Builtin.SmallTypes.newRecord
  exact wpAny_bind (wpAny_newObj_type (wpAny_pure ⟨_,rfl,h⟩))
theorem ft {t:Addr} {items:Array Value} {Q:Value→Shared→Prop} (ht:PyProof.Rows.IsTup s.heap t items) (hz:¬ (items.size:Int) ≥ 2 ^ 63)
  (h:Q (.ref s.heap.objs.size) { s with heap:=s.heap.push (mJ t ((items.size:Int) - 1)),toks:=s.toks+1+1 }):wpAny (model prog w) A (call (.type "reversed") [.ref t]) Q E s:=by
 refine callType_new F.called_reversed (by decide) (F.typeCall_reversed_1 _) (F.newCall_reversed_1 _) (fun obj=>F.args_object_init_2 obj _) F.entry_reversed_new (fX t items hz) ⟨ht,?_⟩
 exact ⟨⟨_,Heap.get?_push_size _ rfl,rfl⟩,h⟩
def Heap.IsRvt (h:Heap) (a t:Addr) (i:Int):Prop:=∃ o,h.get? a=some o∧o.cls=.type "reversed"∧o.data=.fields #[.ref t,rawInt i]
theorem Heap.IsRvt.typeIs {a l:Addr} {i:Int} (x:s.heap.IsRvt a l i):s.TypeIs (.ref a) "reversed":=let ⟨o,ho,hc,_⟩:=x; ⟨o,ho,hc⟩
theorem Heap.IsRvt.at {h h':Heap} {a l:Addr} {i:Int} (x:h.IsRvt a l i) (e:∀ o,h.get? a=some o→h'.get? a=some o):h'.IsRvt a l i:=let ⟨o,ho,r⟩:=x; ⟨o,e _ ho,r⟩
theorem iP {it t:Addr} {i:Nat} {items:Array Value} {x:Value} {Q:Option Value→Shared→Prop} (hit:s.heap.IsRvt it t (i:Int)) (ht:PyProof.Rows.IsTup s.heap t items) (hb:(i:Int)<2 ^ 63) (hx:items[i]?=some x)
  (hQ:∀ h' tk,h'.IsRvt it t ((i:Int) - 1)→Heap.SameBut it s.heap h'→Q (some x) { s with heap:=h',toks:=tk }):wpAny (model prog w) A (pyNext (.ref it)) Q E s:=by
 obtain ⟨o,ho,hc,hd⟩:=id hit
 have hT:s.TypeIs (.ref t) "tuple":=ht.typeIs
 unfold pyNext
 refine wpAny_bind (wpAny_attempt (wpAny_callSpecial?_slot (name:=Str.ofString "__next__") hit.typeIs F.slot_reversed_next
  (wpAny_call_entry F.slot_reversed_next hit.typeIs F.entry_reversed_next ?_ (F.args_reversed_next_1 _))))
 unfold Builtin.«reversed.__next__»
 refine wpAny_bind (wpAny_of_eq (a:=(Value.ref it,[])) rfl ?_)
 try dsimp only
 refine wpAny_bind (wpAny_field ho hd (x:=.ref t) rfl ?_)
 refine wpAny_bind (wpAny_field ho hd (x:=rawInt (i:Int)) rfl ?_)
 show wpAny _ _ (if (i:Int)<0 then _ else _) _ _ s
 rw [if_neg (by omega)]
 refine wpAny_bind (wpAny_specialOf hT F.slot_tuple_getitem.lookup ?_)
 rw [if_neg (by simp)]
 refine wpAny_bind (wpAny_mkInt ?_)
 have hi:i<items.size:=(Array.getElem?_eq_some_iff.mp hx).1
 refine wpAny_bind (wpAny_attempt (PyProof.Rows.getItem_tuple ht (by omega) hb (j:=i) (by simp [seqIndex?]; omega) hx ?_))
 dsimp only
 refine wpAny_bind (wpAny_field ho hd (x:=rawInt (i:Int)) rfl ?_)
 show wpAny _ _ (setField (.ref it) 1 (rawInt ((i:Int) - 1)) >>= _) _ _ _
 refine wpAny_bind (wpAny_setField ho hd (by simp) ?_)
 refine wpAny_pure ⟨x,rfl,wpAny_pure (hQ _ _ ?_ (Heap.SameBut.update ..))⟩
 exact ⟨_,Heap.get?_update_self _ ho (Obj.isFreed_of_fields (Obj.data_mapFields hd _)),(Obj.cls_mapFields ..).trans hc,by
  rw [Obj.data_mapFields hd]; simp⟩
theorem jK {it t:Addr} {Q:Option Value→Shared→Prop} (hh:A.handled=none) (hit:s.heap.IsRvt it t (-1))
  (hQ:∀ h',Heap.ExtBut it s.heap h'→Q none { s with heap:=h' }):wpAny (model prog w) A (pyNext (.ref it)) Q E s:=by
 obtain ⟨o,ho,hc,hd⟩:=id hit
 unfold pyNext
 refine wpAny_bind (wpAny_attempt (wpAny_callSpecial?_slot (name:=Str.ofString "__next__") hit.typeIs F.slot_reversed_next
  (wpAny_call_entry F.slot_reversed_next hit.typeIs F.entry_reversed_next ?_ (F.args_reversed_next_1 _))))
 unfold Builtin.«reversed.__next__»
 refine wpAny_bind (wpAny_of_eq (a:=(Value.ref it,[])) rfl ?_)
 try dsimp only
 refine wpAny_bind (wpAny_field ho hd (x:=.ref t) rfl ?_)
 refine wpAny_bind (wpAny_field ho hd (x:=rawInt (-1)) rfl ?_)
 show wpAny _ _ (if (-1:Int)<0 then _ else _) _ _ s
 rw [if_pos (by decide)]
 refine wpAny_bind (wpAny_rule ?_)
 refine wpAny_bind ?_
 show wpAny _ _ (setField (.ref it) 1 (rawInt (-1)) >>= fun _=>setField (.ref it) 0 .none) _ _ _
 refine wpAny_bind (wpAny_setField ho hd (by simp) ?_)
 have ho2:=Heap.get?_update_self (Obj.mapFields fun f=>f.set! 1 (rawInt (-1))) ho (Obj.isFreed_of_fields (Obj.data_mapFields hd _))
 refine wpAny_setField ho2 (Obj.data_mapFields hd _) (by simp) ?_
 have eb:Heap.ExtBut it s.heap ((s.heap.update it (Obj.mapFields fun x=>x.setIfInBounds 1 (rawInt (-1)))).update it (Obj.mapFields fun x=>x.setIfInBounds 0 Value.none)):=fun b o hb e=>(Heap.get?_update_other _ _ (Ne.symm hb)).trans ((Heap.get?_update_other _ _ (Ne.symm hb)).trans e)
 refine wpAny_bind ?_
 show wpAny _ _ (newExc (.type "StopIteration") [] >>= _) _ _ _
 refine wpAny_bind ?_
 simp only [newExc,newTuple]
 refine wpAny_bind (wpAny_newObj_type ?_ (by size_fits))
 refine wpAny_bind (m:=firstArgMember _ _) (wpAny_of_eq (a:=Value.none) (by first | rfl | (simp only [firstArgMember]; rfl)) ?_)
 refine wpAny_newObj_type ?_ (by size_fits)
 simp only [raiseNew]
 refine wpAny_bind (wpAny_handled ?_)
 first | rw [show A.in1.handled=none from hh] | rw [hh]
 refine wpAny_bind (wpAny_pure (wpAny_throw ?_))
 refine wpAny_bind (wpAny_isInstance (T := "StopIteration") (b:=true) ⟨_,Heap.get?_push_size _ rfl,rfl⟩ isSubtype_stop ?_)
 exact wpAny_pure (hQ _ ((eb.push _).push _))
theorem jq {it t:Addr} {i:Int} {Q:Value→Shared→Prop} (hit:s.heap.IsRvt it t i) (h:Q (.ref it) s):wpAny (model prog w) A (pyIter (.ref it)) Q E s:=by
 refine wpAny_pyIter_slot hit.typeIs F.slot_reversed_iter (wpAny_call_entry F.slot_reversed_iter hit.typeIs F.entry_reversed_iter ?_ (F.args_reversed_iter_1 _))
 show wpAny _ _ (ret (.ref it)) _ _ s
 exact wpAny_pure ⟨_,rfl, "reversed",_,hit.typeIs,F.slot_reversed_next.lookup,h⟩
end
end PySem
namespace PySem
namespace F
end F
section
variable {prog:Program} {w:World} {A:Around} {E:Value→Shared→Prop} {s:Shared}
end
section
variable {prog:Program} {w:World} {A:Around} {s:Shared} {R:Result→Shared→Prop}
variable {I:Addr} {fp wr:List Addr} {n:Nat} {P:Nat→Value→Prop} {St:Nat→Heap→Prop}
end
section
variable {prog:Program} {w:World} {A:Around} {E:Value→Shared→Prop} {s:Shared}
variable {I:Addr} {fp wr:List Addr} {n:Nat} {P:Nat→Value→Prop} {St:Nat→Heap→Prop}
end
end PySem
namespace L2
open PySem PySem.Spec PyProof.Rows
theorem fB:bootBuiltins "reversed"=some (.type "reversed"):=by decide +kernel
section
variable {X:Cx}
end
open PySem PySem.Spec PyProof.Rows
def Itv (K:Frag) (a:Addr) (n:Nat):It :=
 ⟨fun i H=>i<n∧∃ xs,SqL K H a xs∧xs.length=n,fun i H x H'=>H'=H∧∀ xs,SqL K H a xs→xs[n - 1 - i]?=some x,fun i _=>i=n⟩
theorem xt {P:Program} {w:World} {K:Frag} {tg:Expr} (a it:Addr) (n:Nat):ke P w K tg (Itv K a n) [it] it (fun i h=>h.IsRevIter it a ((n:Int) - 1 - (i:Int))) where
 mem:=by simp
 obj:=fun i h st b hb=>by
  have e:b=it:=by simpa using hb
  subst e
  obtain ⟨o,e,c,d⟩:=st
  exact ⟨o,e,fun v z=>by rw [d] at z; cases z⟩
 keep:=fun i h h' st k=>st.at fun o e=>k it (by simp) o e
 item:=by
  intro X hP hw hK hc i pins s σ H E I hf st hg
  subst hP hw hK
  obtain ⟨hi,xs,hq,hn⟩:=hg
  obtain ⟨its,rv,p,hz⟩:=I.list hq
  have hx:xs[n - 1 - i]?=some (xs[n - 1 - i]'(by omega)):=List.getElem?_eq_getElem (by omega)
  obtain ⟨u,hu,ru⟩:=rv.get hx
  obtain ⟨f0,f1,f2,f3,f4,f5⟩:=hf it (by simp)
  have e:(n:Int) - 1 - (i:Int)=((n - 1 - i:Nat):Int):=by omega
  have st1:=st
  rw [e] at st1
  refine wpAny_pyNext_rev_item st1 p.isList (x:=u) (by simpa using hu) fun h' st' sb=>?_
  have e2:((n - 1 - i:Nat):Int) - 1=(n:Int) - 1 - ((i+1:Nat):Int):=by omega
  rw [e2] at st'
  have I1:Inv X pins σ H { s with heap:=h' }:=I.turned (t':=s.toks) (fun b o hb e=>(sb.2 b hb).trans e) f0 f1 f3 f4 f5
  obtain ⟨o,eo,c,d⟩:=id st'
  exact ⟨u,rfl,jS (s:={ s with heap:=h' }) eo c d (by decide) ⟨_,H,I1,ru,⟨rfl,fun ys hy=>by rw [I.list_inj hy hq]; exact hx⟩,st',fun b hb=>(hf b hb).1⟩⟩
 done:=by
  intro X hP hw hK hc i pins s σ H E I hf st hg
  subst hP hw hK
  obtain ⟨f0,f1,f2,f3,f4,f5⟩:=hf it (by simp)
  have hg2:i=n:=hg
  have e:(n:Int) - 1 - (i:Int)=-1:=by omega
  have st1:=st
  rw [e] at st1
  exact wpAny_pyNext_rev_end (I.ok.hd hc) st1 fun h' eb=>⟨rfl,I.turned (t':=s.toks) (fun b o hb e=>eb b o hb e) f0 f1 f3 f4 f5⟩
 self:=fun _ _ _ _ _ st h=>wpAny_pyIter_revIter st h
section
variable {X:Cx} {tg:Expr}
def DK (K:Frag) (te:TE):TI:=fun σ H R=>te σ H fun x H1=>∃ a xs,x=.ref a∧SqL K H1 a xs∧R (Itv K a xs.length) H1
theorem AS {e:Expr} {te:TE} {p pos:Pos} (hg:Gl X "reversed") (hm:X.mg "reversed"=none) (he:PE X e te)
  (hs:starEach [e] X.env=(false,eval e X.env)::starEach [] X.env:=by exact ac rfl):PI X tg (.Call (.Name "reversed" p) [e] [] pos) (DK X.K te):=by
 intro pins s σ H R I h
 refine wpAny_Call_Name_kw (dN I hg hm fB ?_)
 refine PyProof.Rows.callWith_type1 ?_ hs rfl
 rw [hs]
 show wpAny _ _ (spliced ((false,eval e X.env)::[])) _ _ s
 refine Calls.spliced_cons (thn (he pins s σ H _ I h) fun u s1 ⟨x,H1,I1,r1,q1⟩=>?_)
 obtain ⟨a,xs,rfl,hq,q⟩:=q1
 cases r1
 refine Calls.spliced_nil ?_
 obtain ⟨its,r',pl,hz⟩:=I1.list hq
 have hlen:=r'.length
 refine call_reversed_list pl.isList ?_
 have hit:(s1.heap.push (revObj a ((its.toArray.size:Int) - 1))).IsRevIter s1.heap.objs.size a ((its.toArray.size:Int) - 1):=⟨_,Heap.get?_push_size _ rfl,rfl,rfl⟩
 refine wpAny_pyIter_revIter (s:={ s1 with heap:=s1.heap.push (revObj a ((its.toArray.size:Int) - 1)) }) hit ?_
 refine ⟨s1.heap.objs.size,[s1.heap.objs.size],_,_,H1,rfl,I1.kept (t':=s1.toks) fun b o e=>Heap.get?_push_of_some _ e,xt a _ xs.length,?_,fun b hb=>?_,q⟩
 ·have z:(xs.length:Int) - 1 - ((0:Nat):Int)=(its.toArray.size:Int) - 1:=by simp only [List.size_toArray]; omega
  show Heap.IsRevIter _ _ _ ((xs.length:Int) - 1 - ((0:Nat):Int))
  rw [z]
  exact hit
 ·have e:b=s1.heap.objs.size:=by simpa using hb
  subst e
  exact I1.fpOk (Nat.le_refl _) (I1.hok.fresh (Nat.le_refl _))
end
theorem zR {K:Frag} {a:Addr} {xs:List V} {g:TG} {tb:TS} {D:kn} {σ:St} {H:Hp} (Pv:Nat→St→Hp→Prop) (h0:Pv 0 σ H) (hl:∀ i σ H,i≤xs.length→Pv i σ H→SqL K H a xs)
  (hs:∀ i x σ H,xs.reverse[i]?=some x→Pv i σ H→g x σ H fun σ2 H2=>tb { D with nx:=Pv (i+1),ct:=Pv (i+1),bk:=D.nx } σ2 H2) (hd:∀ σ H,Pv xs.length σ H→D.nx σ H) :
  ∃ W:Nat→Nat→St→Hp→Prop,(∃ m,W 0 m σ H)∧∀ i m σ H,W i m σ H →
   ((Itv K a xs.length).stop i H∧D.nx σ H)∨((Itv K a xs.length).go i H∧∃ N:St→Hp→Prop,(∀ σ' H',N σ' H'→∃ m',m'<m∧W (i+1) m' σ' H')∧∀ x H',(Itv K a xs.length).yld i H x H'→g x σ H' fun σ2 H2=>tb { D with nx:=N,ct:=N,bk:=D.nx } σ2 H2):=by
 refine ⟨fun i m σ H=>m=xs.length - i∧i≤xs.length∧Pv i σ H,⟨xs.length,by simp,Nat.zero_le _,h0⟩,?_⟩
 rintro i m σ H ⟨rfl,hi,p⟩
 have q:=hl i σ H hi p
 by_cases hlt:i<xs.length
 ·refine .inr ⟨⟨hlt,xs,q,rfl⟩,Pv (i+1),fun σ' H' p'=>⟨xs.length - (i+1),by omega,rfl,hlt,p'⟩,fun x H' y=>?_⟩
  obtain ⟨e,y⟩:=y
  subst e
  exact hs i x σ _ (by rw [List.getElem?_reverse hlt]; exact y xs q) p
 ·have e:i=xs.length:=by omega
  subst e
  exact .inl ⟨rfl,hd σ H p⟩
end L2
namespace PySem
section
variable {prog:Program} {w:World} {A:Around} {R:Result→Shared→Prop} {I:Addr} {fp wr:List Addr} {G:Array GenState→Array GenState→Prop} {n:Nat} {P:Nat→Value→Prop} {St:Nat→Shared→Prop}
theorem kR {prog:Program} {w:World} {S:Addr} {f:Str→Bool} {n:Nat} {h h':Heap} (x:h.SetOf (strKind prog w) S f n) (k:∀ o,h.get? S=some o→h'.get? S=some o):h'.SetOf (strKind prog w) S f n :=
 let ⟨o,es,ep,t,ho,r⟩:=x; ⟨o,es,ep,t,k _ ho,r⟩
theorem wL {ts:List Str} {i:Nat} {z:Str} (nd:ts.Nodup) (h:ts[i]?=some z):(ts.take i).any (·==z)=false:=by
 rw [Bool.eq_false_iff]
 intro c
 obtain ⟨y,hy,e⟩:=List.any_eq_true.mp c
 have e':y=z:=eq_of_beq e
 subst e'
 obtain ⟨hlt,ez⟩:=List.getElem?_eq_some_iff.mp h
 have hd:=List.drop_eq_getElem_cons hlt
 rw [ez] at hd
 rw [← List.take_append_drop i ts,hd] at nd
 exact (List.nodup_append.mp nd).2.2 y hy y List.mem_cons_self rfl
theorem jF (W:WalksS prog w A.in1 I fp wr G n P St) (S:Addr) (hSf:S∉fp) (ts:List Str) (hn:n=ts.length) (nd:ts.Nodup) (hval:∀ i v,P i v→∃ z t,ts[i]?=some z∧v=.str z t) (hb:n+1<scanBound) :
  ∀ (k i:Nat) (s:Shared),n - i=k→i≤n→St i s→s.heap.SetOf (strKind prog w) S (fun z=>(ts.take i).any (·==z)) i →
   (∀ s',Moved (S::wr) G s s'→s'.heap.SetOf (strKind prog w) S (fun z=>ts.any (·==z)) n→R (.ok (.ret .none)) s')→codeAny (model prog w) A (.builtin "set.update.loop" ⟨[.ref S,.ref I],[]⟩) R s:=by
 have hSw:S∉wr:=fun h=>hSf (W.sub _ h)
 have up:∀ b∈wr,b∈S::wr:=fun b h=>List.mem_cons_of_mem _ h
 intro k
 induction k with
 | zero =>
  intro i s hk hi hst hS hR
  obtain rfl:i=n:=by omega
  refine codeAny_builtin PyProof.Rows.F.entry_set_update_loop ?_
  rw [Around.under_plainId PyProof.Rows.F.plain_set_update_loop]
  show wpAny _ A.in1 (pyNext (.ref I) >>= _) _ _ _
  refine wpAny_bind (W.done s _ _ hst fun s' hm=>wpAny_pure (hR s' (hm.mono up) ?_))
  have e:ts.take i=ts:=by rw [hn,List.take_length]
  rw [e] at hS
  exact kR hS fun o ho=>hm.heap S o hSw ho
 | succ k ih =>
  intro i s hk hi hst hS hR
  refine codeAny_builtin PyProof.Rows.F.entry_set_update_loop ?_
  rw [Around.under_plainId PyProof.Rows.F.plain_set_update_loop]
  show wpAny _ A.in1 (pyNext (.ref I) >>= _) _ _ _
  refine wpAny_bind (W.item i s _ _ (by omega) hst fun v s' hP hst' hm=>?_)
  obtain ⟨z,t,hz,rfl⟩:=hval i v hP
  have hS1:=kR hS (h':=s'.heap) fun o ho=>hm.heap S o hSw ho
  show wpAny _ A.in1 (holding [Value.str z t] (setAdd S (.str z t)) >>= _) _ _ s'
  refine wpAny_bind (wpAny_holding ?_)
  unfold setAdd
  refine wpAny_holding (wpAny_bind ((strKind prog w).pyHash (k:=z) (strKind_is _ _ _ _) ?_))
  refine wpAny_setAddHashed_of (knd:=strKind prog w) (s:={ s' with toks:=s'.toks+1 }) (strKind_is _ _ _ _) rfl hS1 (by omega) fun h' hsb hS2=>?_
  have hno:=wL nd hz
  have hS3:h'.SetOf (strKind prog w) S (fun y=>(ts.take (i+1)).any (·==y)) (i+1):=by
   refine PyProof.Rows.SetOf_congr hS2 (fun y=>?_) (by rw [hno]; rfl)
   rw [List.take_add_one,hz,List.any_append]
   simp [Bool.beq_eq_decide_eq,eq_comm]
  refine wpAny_pure ⟨plainId_quiet PyProof.Rows.F.plain_set_update_loop _,ih (i+1) _ (by omega) (by omega) (W.frame _ s' _ _ hst' (Nat.le_succ _) fun b hb o e=>?_) hS3 fun s2 hm2 hS4=>?_⟩
  ·rw [hsb.2 b (fun h=>hSf (h ▸ hb))]
   exact e
  ·refine hR s2 (Moved.trans W.gtrans ((hm.mono up).then_heap (Nat.le_succ _) fun b o hb e=>?_) hm2) hS4
   rw [hsb.2 b (fun h=>hb (by rw [h]; exact List.mem_cons_self))]
   exact e
end
end PySem
namespace PySem
section
variable {prog:Program} {w:World} {A:Around} {E:Value→Shared→Prop} {s:Shared}
abbrev qw (led:Bool):Obj:={ cls:=.type "set",dict:=none,data:=.set #[] 0 (.fresh 0 0 led) }
theorem ji {l:Addr} {items:Array Value} {ts:List Str} {Q:Value→Shared→Prop} (hh:A.handled=none) (hl:s.heap.IsList l items) (hi:items.size=ts.length) (hv:∀ (i:Nat) (v:Value),items[i]?=some v→∃ z t,ts[i]?=some z∧v=Value.str z t) (nd:ts.Nodup) (hb:items.size+1<scanBound)
  (h:∀ (h':Heap) (tk:Nat),h'.SetOf (strKind prog w) s.heap.objs.size (fun z=>ts.any (·==z)) items.size→(∀ b o,b<s.heap.objs.size→s.heap.get? b=some o→h'.get? b=some o)→Q (.ref s.heap.objs.size) { s with heap:=h',toks:=tk }) :
  wpAny (model prog w) A (call (.type "set") [.ref l]) Q E s:=by
 obtain ⟨c,tl,hmro⟩:=F.called_set.mro; have hmade:=F.called_set.made; have hsub:=F.called_set.sub
 refine wpAny_call (codeAny_of_tree ?_); show wpAny _ _ (callAny (.type "set") _) _ _ _
 refine wpAny_pure ⟨Code.quiet_builtin _ (by decide +kernel),codeAny_builtin F.entry_type_call ?_⟩; rw [Around.under_plain (weight_type_call_type "set" [.ref l] []) rfl]
 have h1:=F.called_set.notType; have h2:=F.called_set.canCreate; have hct:=F.typeCall_set_1 (.ref l)
 repeat (any_goals (first | assumption | wp_step)) -- the type's own road
 refine codeAny_mono (code_set_new_1 (.ref l) (E:=E) (Q₁:=fun obj s₁=>∃ led:Bool,obj=.ref s.heap.objs.size∧s₁={ s with heap:=s.heap.push (qw led) }) fun led=>⟨led,rfl,rfl⟩) fun r s₁ hr=>?_
 match r,hr with
 | .error e,hr=>exact hr
 | .ok (.ret obj),hr =>
  obtain ⟨led,rfl,rfl⟩:=hr
  have hS:(s.heap.push (qw led)).get? s.heap.objs.size=some (qw led):=Heap.get?_push_size _ rfl
  have hT:Shared.TypeIs { s with heap:=s.heap.push (qw led) } (.ref s.heap.objs.size) "set":=⟨_,hS,rfl⟩
  have hli:=F.called_set.init.lookup; have hbi:=F.called_set.init.bind (.ref s.heap.objs.size)
  repeat (any_goals (first | assumption | wp_step)) -- to its init
  refine codeAny_mono (codeAny_call_builtin (R:=wants (fun r s₂=>r=.none∧∃ h' tk,s₂={ s with heap:=h',toks:=tk }∧h'.SetOf (strKind prog w) s.heap.objs.size (fun z=>ts.any (·==z)) items.size∧(∀ b o,b<s.heap.objs.size→s.heap.get? b=some o→h'.get? b=some o)) E) F.called_set.init.plain F.entry_set_init (check_set_init_1 hT ?_)) fun r₂ s₂ hr₂=>?_
  ·obtain ⟨⟨ocls,odict,odata,oslots⟩,hol,hcl,nl,hdl⟩:=hl
   simp only at hcl hdl; subst hcl; subst hdl
   have hol':(s.heap.push (qw led)).get? l=some { cls:=.type "list",dict:=odict,data:=.seq items nl,slots:=oslots }:=Heap.get?_push_of_some _ hol
   have hsls:=F.sub_list_set; have hslf:=F.sub_list_frozenset; have hne:(Value.type "list"==Value.type "dict")=false:=by decide
   have hl1:(s.heap.push (qw led)).IsList l items:=⟨_,hol',rfl,nl,rfl⟩
   unfold Builtin.«set.__init__» noKeywords Builtin.Frozenset.updateFrom; generalize hPI:pyIter=PI; wp_walk; subst hPI
   refine wpAny_pyIter_list hl1 (wpAny_bind (wpAny_runValue ?_))
   have hlS:l<s.heap.objs.size:=Heap.lt_size hol
   have hneI:l≠(s.heap.push (qw led)).objs.size:=by rw [Heap.size_push]; exact Nat.ne_of_lt (Nat.lt_succ_of_lt hlS)
   have hSf:s.heap.objs.size∉[(s.heap.push (qw led)).objs.size,l]:=by rw [Heap.size_push]; simp only [List.mem_cons,List.mem_singleton,List.not_mem_nil,or_false,not_or]; exact ⟨Nat.ne_of_lt (Nat.lt_succ_self _),Nat.ne_of_gt hlS⟩
   refine jF ((Walks.list (A:=A.in1.in1.in1) (by simp [hh]) _ l hneI items).toS) s.heap.objs.size hSf ts hi nd hv hb (items.size - 0) 0 _ (by omega) (Nat.zero_le _) ⟨⟨_,Heap.get?_push_size _ rfl,rfl,rfl⟩,hl1.push _⟩ ?zA ?zB
   case zA=>exact PyProof.Rows.SetOf_congr ((PyProof.Rows.setObjOf_fresh (knd:=strKind prog w) led).setOf (Heap.get?_push_of_some _ hS) (by unfold scanBound; omega)) (fun _=>rfl) rfl
   case zB =>
    rintro ⟨h',g',d',tk',os'⟩ hm hS'
    obtain rfl:g'=s.gens:=hm.gens
    obtain rfl:d'=s.drawn:=hm.drawn
    obtain rfl:os'=s.os:=hm.os
    show wpAny _ _ _ _ _ _
    refine wpAny_pure ?_; show wpAny _ _ (ret Value.none) _ _ _
    refine wpAny_pure ⟨rfl,h',tk',rfl,hS',fun b o hb e=>hm.heap b o ?_ (Heap.get?_push_of_some _ (Heap.get?_push_of_some _ e))⟩
    simp only [List.mem_cons,List.mem_singleton,List.not_mem_nil,or_false,not_or]
    exact ⟨Nat.ne_of_lt hb,by rw [Heap.size_push]; exact Nat.ne_of_lt (Nat.lt_succ_of_lt hb)⟩
  ·match r₂,hr₂ with
   | .error e,hr₂=>exact hr₂
   | .ok (.ret r),hr₂ =>
    obtain ⟨rfl,h',tk,rfl,hS',hk'⟩:=hr₂
    repeat (any_goals (first | assumption | wp_step)) -- and back
    exact h _ _ hS' hk'
end
end PySem
namespace L2
open PySem PySem.Spec PyProof.Rows
theorem yf:bootBuiltins "set"=some (.type "set"):=by decide +kernel
theorem jN:∀ {ts:List Str} {vs:List Value},aY (ts.map V.str) vs→∀ (i:Nat) (v:Value),vs[i]?=some v→∃ z t,ts[i]?=some z∧v=Value.str z t
 | [],_,.nil,i,v,h=>by simp at h
 | z::r,_,.cons h1 h2,0,v,h=>by
  obtain ⟨t,rfl⟩:=h1
  exact ⟨z,t,rfl,by simpa using h.symm⟩
 | z::r,_,.cons h1 h2,i+1,v,h=>by
  obtain ⟨y,t,e1,e2⟩:=jN h2 i v (by simpa using h)
  exact ⟨y,t,by simpa using e1,e2⟩
section
variable {X:Cx}
def zH (K:Frag) (te:TE):TE:=fun σ H Q=>te σ H fun x H1=>∃ a,∃ ts:List Str,x=.ref a∧SqL K H1 a (ts.map V.str)∧ts.Nodup∧ts.length≤1000∧Q (.int ts.length) H1
theorem kF {e:Expr} {te:TE} {p1 p2 p3 p4:Pos} (hc:X.calm=true) (hgl:Gl X "len") (hml:X.mg "len"=none) (hgs:Gl X "set") (hms:X.mg "set"=none) (he:PE X e te)
  (hs1:starEach [.Call (.Name "set" p2) [e] [] p3] X.env=(false,eval (.Call (.Name "set" p2) [e] [] p3) X.env)::starEach [] X.env:=by exact ac rfl) (hs2:starEach [e] X.env=(false,eval e X.env)::starEach [] X.env:=by exact ac rfl) :
  PE X (.Call (.Name "len" p1) [.Call (.Name "set" p2) [e] [] p3] [] p4) (zH X.K te):=by
 intro pins s σ H Q I h
 refine wpAny_Call_Name_kw (dN I hgl hml boot_len ?_)
 refine PyProof.Rows.callWith_builtin1 ?_ hs1 (ak rfl)
 rw [hs1]
 show wpAny _ _ (spliced ((false,eval (.Call (.Name "set" p2) [e] [] p3) X.env)::[])) _ _ s
 refine Calls.spliced_cons ?_
 refine wpAny_Call_Name_kw (dN I hgs hms yf ?_)
 refine PyProof.Rows.callWith_type1 ?_ hs2 rfl
 rw [hs2]
 show wpAny _ _ (spliced ((false,eval e X.env)::[])) _ _ s
 refine Calls.spliced_cons (thn (he pins s σ H _ I h) fun u s1 ⟨x,H1,I1,r1,q1⟩=>?_)
 obtain ⟨a,ts,rfl,hq,nd,hl,q⟩:=q1
 cases r1
 refine Calls.spliced_nil ?_
 obtain ⟨its,r',pl,hz⟩:=I1.list hq
 have hlen:=r'.length
 rw [List.length_map] at hlen
 have hsz:its.toArray.size=ts.length:=by rw [List.size_toArray]; exact hlen.symm
 refine ji (I1.ok.hd hc) pl.isList hsz (fun i v hv=>jN r' i v (by simpa using hv)) nd (by rw [hsz]; unfold scanBound; omega) fun h' tk hS hk=>?_
 refine Calls.spliced_nil ?_
 obtain ⟨o,es,ep,t,ho,hex,hd,_,_,_,hf,hn⟩:=hS
 refine call_len_set (s:={ s1 with heap:=h',toks:=tk }) ho hex hd hf (by rw [hn,hsz]; omega) ?_
 refine ⟨.int ts.length,H1,I1.kept (t':=tk+1+1) fun b o e=>hk b o (Heap.lt_size e) e,⟨tk+1,?_⟩,q⟩
 show Value.int _ _=Value.int _ _
 rw [hn,hsz]
end
end L2
namespace K6
open PySem L2
def Tk (H H':Hp):Prop:=∀ b xs,H b=some (.tup xs)→H' b=some (.tup xs)
theorem Tk.trans {H H1 H2:Hp} (a:Tk H H1) (b:Tk H1 H2):Tk H H2:=fun c xs h=>b c xs (a c xs h)
theorem ar {H H':Hp} (g:aO H H'):Tk H H':=fun b xs h=>g b _ h
theorem ag {H:Hp} {p:Addr} (h:H p=none) (o:HO):aO H (upd H p o):=fun b u q=>by rw [bd (aU q h)]; exact q
theorem fQ {H:Hp} {p:Addr} (h:H p=none) (o:HO):Tk H (upd H p o):=ar (ag h o)
theorem dC {H:Hp} {p:Addr} {xs:List V} (h:H p=some (.lst xs)) (o:HO):Tk H (upd H p o):=fun b ys e=>by rw [bd (xE e h (fun z=>by cases z))]; exact e
def Ext (tp:Addr) (H H':Hp):Prop:=∀ b o,b≠tp→H b=some o→H' b=some o
theorem Ext.refl (tp:Addr) (H:Hp):Ext tp H H:=fun _ _ _ h=>h
theorem Ext.trans {tp:Addr} {H H1 H2:Hp} (a:Ext tp H H1) (b:Ext tp H1 H2):Ext tp H H2:=fun c o n h=>b c o n (a c o n h)
theorem aO.ext {tp:Addr} {H H':Hp} (a:aO H H'):Ext tp H H':=fun c o _ h=>a c o h
theorem Ext.upd {tp:Addr} {H:Hp} {o:HO}:Ext tp H (L2.upd H tp o):=fun b u n h=>by rw [bd n]; exact h
theorem zp {H H':Hp} {t:Addr} {ys:List V} (g:Ext t H H') (h:H t=some (.lst ys)):Tk H H':=fun b xs e=>g b _ (xE e h (fun z=>by cases z)) e
def TT (K:Frag) (H:Hp) (a:Addr) (xs:List V):Prop:=H a=some (.tup xs)∨False
theorem TT.mono {K:Frag} {H H':Hp} (t:Tk H H') {a:Addr} {xs:List V} (h:TT K H a xs):TT K H' a xs:=h.imp (t _ _) id
theorem TT.hp {K:Frag} {H:Hp} {a:Addr} {xs:List V} (h:TT K H a xs):H a=some (.tup xs):=h.elim id False.elim
mutual
inductive DT (K:Frag) (H:Hp):V→PyData→Prop
 | int (i:Int):DT K H (.int i) (.int i)
 | str (x:Str):DT K H (.str x) (.str x)
 | tup {a:Addr} {xs:List V} {ds:List PyData}:TT K H a xs→DTs K H xs ds→DT K H (.ref a) (.tuple ds)
inductive DTs (K:Frag) (H:Hp):List V→List PyData→Prop
 | nil:DTs K H [] []
 | cons {x:V} {xs:List V} {d:PyData} {ds:List PyData}:DT K H x d→DTs K H xs ds→DTs K H (x::xs) (d::ds)
end
mutual
theorem DT.mono {K:Frag} {H H':Hp} (e:Tk H H'):∀ {v:V} {d:PyData},DT K H v d→DT K H' v d
 | _,_,.int i=>.int i
 | _,_,.str x=>.str x
 | _,_,.tup h r=>.tup (h.mono e) (DTs.mono e r)
theorem DTs.mono {K:Frag} {H H':Hp} (e:Tk H H'):∀ {v:List V} {d:List PyData},DTs K H v d→DTs K H' v d
 | _,_,.nil=>.nil
 | _,_,.cons h r=>.cons (DT.mono e h) (DTs.mono e r)
end
theorem DTs.len {K:Frag} {H:Hp}:∀ {v:List V} {d:List PyData},DTs K H v d→v.length=d.length
 | _,_,.nil=>rfl
 | _,_,.cons h r=>by rw [List.length_cons,List.length_cons,DTs.len r]
theorem DTs.snoc {K:Frag} {H:Hp} {x:V} {d:PyData} (q:DT K H x d):∀ {v:List V} {ds:List PyData},DTs K H v ds→DTs K H (v++[x]) (ds++[d])
 | _,_,.nil=>.cons q .nil
 | _,_,.cons h r=>.cons h (DTs.snoc q r)
theorem DTs.append {K:Frag} {H:Hp}:∀ {v v':List V} {ds ds':List PyData},DTs K H v ds→DTs K H v' ds'→DTs K H (v++v') (ds++ds')
 | _,_,_,_,.nil,q=>q
 | _,_,_,_,.cons h r,q=>.cons h (DTs.append r q)
theorem DTs.get {K:Frag} {H:Hp}:∀ {v:List V} {d:List PyData},DTs K H v d→∀ (i:Nat) (x:V),v[i]?=some x→∃ e,d[i]?=some e∧DT K H x e
 | _,_,.nil,i,x,h=>by simp at h
 | _,_,.cons h r,0,x,q=>by simp at q; subst q; exact ⟨_,rfl,h⟩
 | _,_,.cons h r,i+1,x,q=>by
  obtain ⟨e,e1,e2⟩:=DTs.get r i x (by simpa using q)
  exact ⟨e,by simpa using e1,e2⟩
def top (i:Nat):Stmt:=PySem.Challenge.pw_everyfork_k09_deep_things.main.body.getD i (.Pass ⟨0,0,0,0⟩)
abbrev dM:Stmt:=top 7
abbrev dS:Stmt:=top 8
abbrev cm:Stmt:=top 9
abbrev cI:Stmt:=top 10
abbrev cu:Stmt:=top 11
abbrev eQ:Stmt:=top 12
abbrev cv:Stmt:=top 13
abbrev dO:Stmt:=top 14
abbrev cA:Stmt:=top 25
abbrev cL:Stmt:=top 26
abbrev eP:Stmt:=top 27
abbrev fS:Stmt:=top 28
abbrev eE:Stmt:=top 29
abbrev dH:Stmt:=top 30
abbrev cV:Stmt:=top 31
abbrev fg:Stmt:=top 32
abbrev ff:Stmt:=top 33
abbrev bN:Stmt:=top 34
abbrev cY:Stmt:=top 35
abbrev bZ:Stmt:=top 36
abbrev cU:Stmt:=top 46
abbrev cj:Stmt:=top 47
abbrev eY:Stmt:=top 48
abbrev bT:Stmt:=top 49
abbrev fh:Stmt:=top 50
abbrev cP:Stmt:=top 51
abbrev eA:Stmt:=top 52
abbrev cW:Stmt:=top 53
abbrev bX:Stmt:=top 54
abbrev dj:Stmt:=top 55
abbrev fm:Stmt:=top 56
abbrev bB:Stmt:=top 57
abbrev cC:Stmt:=top 58
abbrev dX:Stmt:=top 60
abbrev jH:Stmt:=top 63
abbrev gj:Stmt:=top 64
abbrev jG:Stmt:=top 65
abbrev eZ:Stmt:=top 66
abbrev ii:Stmt:=top 67
abbrev iy:Stmt:=top 68
theorem bS:bootBuiltins "isinstance"=some (.builtin "isinstance"):=by decide +kernel
theorem Al:bootBuiltins "int"=some (.type "int"):=by decide +kernel
theorem xn:bootBuiltins "bool"=some (.type "bool"):=by decide +kernel
theorem ir:bootBuiltins "str"=some (.type "str"):=by decide +kernel
theorem bY:bootBuiltins "tuple"=some (.type "tuple"):=by decide +kernel
theorem yo:bootBuiltins "list"=some (.type "list"):=by decide +kernel
theorem AR:bootBuiltins "dict"=some (.type "dict"):=by decide +kernel
theorem iE:bootBuiltins "all"=some (.builtin "all"):=by decide +kernel
theorem zY:bootBuiltins "ord"=some (.builtin "ord"):=by decide +kernel
theorem cJ:bootBuiltins "len"=some (.builtin "len"):=by decide +kernel
def PL:List Str:=["num", "text", "row"]
structure G0 (mg:Str→Option Value):Prop where
 isi:mg "isinstance"=none
 int:mg "int"=none
 bool:mg "bool"=none
 str:mg "str"=none
 tuple:mg "tuple"=none
 list:mg "list"=none
 dict:mg "dict"=none
 all:mg "all"=none
 ord:mg "ord"=none
 len:mg "len"=none
 repr:mg "repr"=none
 range:mg "range"=none
structure Cal (P:Program) (w:World) (K:Frag) (mg:Str→Option Value) (base:Heap) (k:Nat) (x:Str) (ps:List Str) (sp:Sp):Prop where
 ex:∃ g gd,aV P w K mg base CX0 k g gd ps sp∧fF K gd ps []∧keepIn K (.ref g)=true∧mg x=some (.ref g)
open PySem L2
abbrev Fld:=Str×Str
abbrev Rec:=Str×List Fld
def eR (H:Hp) (v:V) (p:Fld):Prop:=∃ a,v=.ref a∧H a=some (.tup [.str p.1,.str p.2])
def fO (H:Hp) (v:V) (fs:List Fld):Prop:=∃ a xs,v=.ref a∧H a=some (.tup xs)∧Paired (eR H) xs fs
def fA (H:Hp) (v:V) (r:Rec):Prop:=∃ a y,v=.ref a∧H a=some (.tup [.str r.1,y])∧fO H y r.2
def jl (H:Hp) (v:V) (R:List Rec):Prop:=∃ a xs,v=.ref a∧H a=some (.tup xs)∧Paired (fA H) xs R
def cr (H:Hp) (v:V) (R:List Rec):Prop:=∃ a y z,v=.ref a∧H a=some (.tup [y,z])∧jl H y R
theorem eR.mono {H H':Hp} (t:Tk H H') {v:V} {p:Fld} (h:eR H v p):eR H' v p:=let ⟨a,e,q⟩:=h; ⟨a,e,t _ _ q⟩
theorem fO.mono {H H':Hp} (t:Tk H H') {v:V} {p:List Fld} (h:fO H v p):fO H' v p:=let ⟨a,xs,e,q,r⟩:=h; ⟨a,xs,e,t _ _ q,Paired.mapP r fun _ _ z=>z.mono t⟩
theorem fA.mono {H H':Hp} (t:Tk H H') {v:V} {p:Rec} (h:fA H v p):fA H' v p:=let ⟨a,y,e,q,r⟩:=h; ⟨a,y,e,t _ _ q,r.mono t⟩
theorem jl.mono {H H':Hp} (t:Tk H H') {v:V} {p:List Rec} (h:jl H v p):jl H' v p:=let ⟨a,xs,e,q,r⟩:=h; ⟨a,xs,e,t _ _ q,Paired.mapP r fun _ _ z=>z.mono t⟩
theorem cr.mono {H H':Hp} (t:Tk H H') {v:V} {p:List Rec} (h:cr H v p):cr H' v p:=let ⟨a,y,z,e,q,r⟩:=h; ⟨a,y,z,e,t _ _ q,r.mono t⟩
theorem bI {α β:Type} {F:α→β→Prop}:∀ {l:List α} {m:List β},Paired F l m→∀ (j:Nat) a,l[j]?=some a→∃ b,m[j]?=some b∧F a b
 | _,_,.nil,_,_,h=>by simp at h
 | _,_,.cons h t,0,_,h1=>by simp at h1; subst h1; exact ⟨_,rfl,h⟩
 | _,_,.cons h t,j+1,_,h1=>by
  obtain ⟨b,e,q⟩:=bI t j _ (by simpa using h1)
  exact ⟨b,by simpa using e,q⟩
def look (R:List Rec) (k:Str):List Fld:=((R.find? fun r=>decide (r.1=k)).map (·.2)).getD []
theorem wd {R:List Rec} {i:Nat} {r:Rec} {k:Str} (h:R[i]?=some r):look (R.drop i) k=if r.1=k then r.2 else look (R.drop (i+1)) k:=by
 obtain ⟨hi,e⟩:=List.getElem?_eq_some_iff.mp h
 rw [List.drop_eq_getElem_cons hi,e]
 unfold look
 rw [List.find?_cons]
 by_cases q:r.1=k
 ·rw [if_pos q,decide_eq_true q]; rfl
 ·rw [if_neg q,decide_eq_false q]
theorem Bk:(PL.map V.str).all eF=true:=by decide
theorem eqS {k x:Str} (c:decide (V.str k=V.str x)=true):k=x:=V.str.inj (of_decide_eq_true c)
theorem neS {k x:Str} (c:¬ decide (V.str k=V.str x)=true):¬ k=x:=fun e=>c (decide_eq_true (congrArg V.str e))
theorem at0 {α:Type} (x:α) (ys:List α):atI (x::ys) 0=some x:=ve (j:=0) (show (x::ys)[0]?=some x from rfl)
end K6
namespace L2
open PySem PySem.Spec PyProof.Rows
section
variable {X:Cx}
end
end L2
namespace K6
open PySem L2
def Tp (H:Hp) (tp:Addr):Prop:=∃ sc k r ns,H tp=some (.lst [.ref sc,.int k,.int r])∧H sc=some (.lst (List.map V.int ns))
theorem Tp.same {H H':Hp} {tp:Addr} (t:Tp H tp) (g:aO H H'):Tp H' tp:=by
 obtain ⟨sc,k,r,ns,h1,h2⟩:=t
 exact ⟨sc,k,r,ns,g _ _ h1,g _ _ h2⟩
def TS (tp:Addr) (H H':Hp):Prop:=∀ sc k r,H tp=some (.lst [.ref sc,.int k,.int r])→∃ k' r',H' tp=some (.lst [.ref sc,.int k',.int r'])
section
variable {P:Program} {w:World} {K:Frag} {mg:Str→Option Value} {base:Heap} {f g:Addr} {fd gd:FuncData}
def yM (K:Frag):Sp:=fun vs H Q _=>∃ a ns,vs=[.ref a]∧SqL K H a (List.map V.int ns)∧∀ t H',aO H H'→Tp H' t→Q (.ref t) H'
theorem AX:aK ["_law_script"] ["_law_script"] (defScope jH):=⟨rfl,rfl,rfl,by decide +kernel,rfl,by decide +kernel,by decide +kernel⟩
theorem zd (ns:List Int) (lo hi:Option Int):∃ ms:List Int,iO (ns.map V.int) lo hi=ms.map V.int:=by
 unfold iO
 rw [List.length_map,← List.map_drop,← List.map_take]
 exact ⟨_,rfl⟩
theorem zM (T:G0 mg) (F:Fun K "_law_tape" "_law_tape" jH f fd):aV P w K mg base CX0 1 f fd ["_law_script"] (yM K):=by
 refine F.ok AX (fun vs H Q E h=>?_) (fun cdv A outer s H vs Q E hr h=>?_)
 ·obtain ⟨a,ns,rfl,_⟩:=h
  rfl
 obtain ⟨a,ns,rfl,hS,q⟩:=h
 refine ⟨_,ao (ay (bW (ad (eO zJ (pv 0) gy (gR aj)) (ad aj (ad aj ah))))),?_⟩
 obtain ⟨ms,em⟩:=zd ns none (some 63)
 refine ⟨_,rfl,_,rfl,a,_,rfl,hS,fun p hp=>?_⟩
 refine ⟨(by show 3≤sizeLine; decide),fun t ht=>?_⟩
 refine q t _ ((ag hp _).trans (ag ht _)) ⟨p,0,0,ms,af,?_⟩
 rw [bd (fun z=>by rw [← z,af] at ht; cases ht),af,em]
theorem Bx {α:Type} {xs:List α} {i:Int} (h0:0≤i) (h1:i<xs.length):∃ v,v∈xs∧xs[i.toNat]?=some v∧atI xs i=some v:=by
 have hi:i.toNat<xs.length:=by omega
 have e:xs[i.toNat]?=some xs[i.toNat]:=List.getElem?_eq_getElem hi
 refine ⟨_,List.getElem_mem hi,e,?_⟩
 have q:=ve e
 rwa [show ((i.toNat:Nat):Int)=i by omega] at q
theorem kQ (a:Int):-(2 ^ 64)<a % 2147483629∧a % 2147483629<2 ^ 64:=by
 have h1:=Int.emod_nonneg a (show (2147483629:Int)≠0 by decide)
 have h2:=Int.emod_lt_of_pos a (show (0:Int)<2147483629 by decide)
 constructor<;>omega
theorem sJ:Cv 10 18:=⟨by decide,by decide,by decide⟩
theorem kO {i j:Int} (h1:-(2 ^ 64)<j) (h2:j<2 ^ 64):zE i j:=.inr ⟨h1,h2⟩
def yk:Sp:=fun vs H Q _=>∃ tp many,vs=[.ref tp,.int many]∧Tp H tp∧0<many∧many≤1000∧∀ (v:Int) (H':Hp),0≤v→v<many→Ext tp H H'→Tp H' tp→Q (.int v) H'
def zw:Sp:=fun vs H Q _=>∃ tp many,vs=[.ref tp,.int many]∧Tp H tp∧0<many∧many≤1000∧∀ (v:Int) (H':Hp),0≤v→v<many→Ext tp H H'→Tp H' tp→TS tp H H'→Q (.int v) H'
theorem ia:aK ["_law_tape_here", "_law_many", "_law_cell", "_law_mixed", "_law_found"] ["_law_tape_here", "_law_many"] (defScope gj):=⟨rfl,rfl,rfl,by decide +kernel,rfl,by decide +kernel,by decide +kernel⟩
theorem xY (T:G0 mg) (F:Fun K "_law_draw" "_law_draw" gj f fd):aV P w K mg base CX0 1 f fd ["_law_tape_here", "_law_many"] zw:=by
 refine F.ok ia (fun vs H Q E h=>?_) (fun cdv A outer s H vs Q E hr h=>?_)
 ·obtain ⟨tp,many,rfl,_⟩:=h
  rfl
 obtain ⟨tp,many,rfl,ht,hm0,hm1,q⟩:=h
 obtain ⟨sc,k,r,ns,h1,h2⟩:=ht
 have hne:sc≠tp:=xE h2 h1 (fun z=>by injection z with z; cases ns<;>cases z)
 refine ⟨_,am (rS (bJ ip (aA cx (pv 0) aj (fun _ _=>rfl)) aj) (rD (pv 0) aj jU))
  (am (aT (aD bA (aA cx (pv 0) aj (fun _ _=>rfl)) aj (aJ _))
   (am (aR (i:=2) ia.nd rfl (Or.inl rfl) aj)
    (am (aT (aD qJ (aF bi rfl T.len cJ (ad (aA cx (pv 0) aj (fun _ _=>rfl)) ah)) aj (aJ _))
     (ao (aR (i:=2) ia.nd rfl (Or.inl rfl) (aA cx (aA cx (pv 0) aj (fun _ _=>rfl)) (bJ eC (aA cx (pv 0) aj (fun _ _=>rfl)) (aF bi rfl T.len cJ (ad (aA cx (pv 0) aj (fun _ _=>rfl)) ah))) (fun _ _=>rfl)))) aE)
    (am (aT (aD Cy (pv 2) (bJ xP aj aj) (aJ _))
     (am (aR (i:=3) ia.nd rfl (Or.inl rfl) (bJ eC (bJ ip (bJ ip (bJ nk (bJ eC (pv 2) aj) aj) (bJ nk (aA cx (pv 0) aj (fun _ _=>rfl)) aj)) aj) aj))
      (am (aR (i:=3) ia.nd rfl (Or.inl rfl) (bJ eC (bJ nk (pv 3) (bJ ip (pv 3) aj)) aj))
       (ao (ay (bJ eC (bJ eC (bJ nk (pv 3) aj) aj) (pv 1)))))) aE)
    (ao (rS (bJ AI (pv 2) (bJ xP aj aj)) (rD (pv 0) aj jU))))))
   aE)
  (am (aR (i:=4) ia.nd rfl (Or.inl rfl) (bJ eC (aA cx (pv 0) aj (fun _ _=>rfl)) (pv 1)))
  (am (rS (bJ zf (aA cx (pv 0) aj (fun _ _=>rfl)) (pv 1)) (rD (pv 0) aj jU))
  (ao (ay (pv 4)))))),?_⟩
 have X1:Ext tp H (upd H tp (.lst [.ref sc,.int (k+1),.int r])):=Ext.upd
 have e1:(upd H tp (.lst [.ref sc,.int (k+1),.int r])) tp=some (.lst [.ref sc,.int (k+1),.int r]):=af
 have e2:(upd H tp (.lst [.ref sc,.int (k+1),.int r])) sc=some (.lst (List.map V.int ns)):=X1 _ _ hne h2
 refine ⟨_,rfl,tp,_,_,_,rfl,rfl,SqL.of h1,rfl,_,_,rfl,rfl,_,rfl,tp,_,_,_,rfl,rfl,h1,rfl,?_⟩
 refine ⟨_,rfl,tp,_,_,_,rfl,rfl,SqL.of e1,rfl,rfl,_,rfl,?_⟩
 have fin:∀ {k' r' v:Int} {H':Hp},H' tp=some (.lst [.ref sc,.int k',.int r'])→Ext tp H H'→0≤v→v<many→Q (.int v) H':=fun {k' r' v H'} a b c d=>q v H' c d b ⟨sc,k',r',ns,a,b _ _ hne h2⟩ (fun sc2 k2 r2 e=>by rw [h1] at e; cases e; exact ⟨_,_,a⟩)
 -- the tail: from any state with the tape
 refine az (fun c=>?_) (fun c=>?_)
 ·refine ⟨_,rfl,tp,_,_,_,rfl,rfl,SqL.of e1,rfl,sc,_,rfl,.inl (SqL.of e2),_,_,rfl,rfl,_,rfl,?_⟩
  refine az (fun c2=>?_) (fun c2=>?_)
  ·have hl:0<ns.length:=by simpa using of_decide_eq_true c2
   have hb:=Int.emod_lt_of_pos (k+1) (show (0:Int)<ns.length by omega)
   have ha:=Int.emod_nonneg (k+1) (show (ns.length:Int)≠0 by omega)
   obtain ⟨v,hv,_,hat⟩:=Bx (xs:=List.map V.int ns) (i:=(k+1) % ((List.map V.int ns).length:Nat)) (by rw [List.length_map]; exact ha) (by rw [List.length_map]; exact hb)
   obtain ⟨cell,_,rfl⟩:=List.mem_map.mp hv
   refine ⟨_,rfl,tp,_,_,_,rfl,rfl,SqL.of e1,rfl,_,rfl,tp,_,_,_,rfl,rfl,SqL.of e1,rfl,_,rfl,tp,_,_,_,rfl,rfl,SqL.of e1,rfl,sc,_,rfl,.inl (SqL.of e2),_,_,rfl,rfl,?_,?_⟩
   ·show (0:Int)<((List.map V.int ns).length:Nat)
    rw [List.length_map]; omega
   refine ⟨sc,_,_,_,rfl,rfl,SqL.of e2,hat,?_⟩
   refine ⟨_,rfl,_,_,rfl,rfl,sJ,_,_,rfl,rfl,_,rfl,?_⟩
   refine az (fun c3=>?_) (fun c3=>?_)
   ·refine ⟨_,rfl,_,_,rfl,rfl,(by show (0:Int)<2147483647; decide),_,_,rfl,rfl,kO (by decide) (by decide),_,rfl,tp,_,_,_,rfl,rfl,SqL.of e1,rfl,_,_,rfl,rfl,kO (by decide) (by decide),_,_,rfl,rfl,_,_,rfl,rfl,_,_,rfl,rfl,(by show (0:Int)<2147483629; decide),?_⟩
    refine ⟨_,rfl,_,rfl,_,_,rfl,rfl,_,_,rfl,rfl,?_,_,_,rfl,rfl,(by show (0:Int)<2147483587; decide),_,rfl,_,_,rfl,rfl,kO (by decide) (by decide),_,_,rfl,rfl,(by show (0:Int)<2147483563; decide),_,rfl,_,_,rfl,rfl,hm0,?_⟩
    ·exact .inl (kQ _)
    ·exact fin e1 X1 (Int.emod_nonneg _ (by omega)) (Int.emod_lt_of_pos _ hm0)
   ·refine ⟨_,rfl,_,_,rfl,rfl,sJ,_,_,rfl,rfl,_,rfl,tp,_,_,_,rfl,rfl,e1,rfl,?_⟩
    have e3:(upd (upd H tp (.lst [.ref sc,.int (k+1),.int r])) tp (.lst [.ref sc,.int (k+1),.int (cell - 10 ^ 18)])) tp=some (.lst [.ref sc,.int (k+1),.int (cell - 10 ^ 18)]):=af
    refine ⟨_,rfl,tp,_,_,_,rfl,rfl,SqL.of e3,rfl,_,rfl,_,_,rfl,rfl,hm0,_,rfl,tp,_,_,_,rfl,rfl,SqL.of e3,rfl,_,rfl,_,_,rfl,rfl,⟨hm0,by omega⟩,_,rfl,tp,_,_,_,rfl,rfl,e3,rfl,_,rfl,?_⟩
    exact fin af ((X1.trans Ext.upd).trans Ext.upd) (Int.emod_nonneg _ (by omega)) (Int.emod_lt_of_pos _ hm0)
  ·refine ⟨_,rfl,_,_,rfl,rfl,sJ,_,_,rfl,rfl,_,rfl,?_⟩
   refine az (fun c3=>?_) (fun c3=>absurd (show decide ((0:Int)<10 ^ (18:Int).toNat)=true by decide) c3)
   ·refine ⟨_,rfl,_,_,rfl,rfl,(by show (0:Int)<2147483647; decide),_,_,rfl,rfl,kO (by decide) (by decide),_,rfl,tp,_,_,_,rfl,rfl,SqL.of e1,rfl,_,_,rfl,rfl,kO (by decide) (by decide),_,_,rfl,rfl,_,_,rfl,rfl,_,_,rfl,rfl,(by show (0:Int)<2147483629; decide),?_⟩
    refine ⟨_,rfl,_,rfl,_,_,rfl,rfl,_,_,rfl,rfl,?_,_,_,rfl,rfl,(by show (0:Int)<2147483587; decide),_,rfl,_,_,rfl,rfl,kO (by decide) (by decide),_,_,rfl,rfl,(by show (0:Int)<2147483563; decide),_,rfl,_,_,rfl,rfl,hm0,?_⟩
    ·exact .inl (kQ _)
    ·exact fin e1 X1 (Int.emod_nonneg _ (by omega)) (Int.emod_lt_of_pos _ hm0)
 ·have e3:=e1
  refine ⟨_,rfl,tp,_,_,_,rfl,rfl,SqL.of e3,rfl,_,rfl,_,_,rfl,rfl,hm0,_,rfl,tp,_,_,_,rfl,rfl,SqL.of e3,rfl,_,rfl,_,_,rfl,rfl,⟨hm0,by omega⟩,_,rfl,tp,_,_,_,rfl,rfl,e3,rfl,_,rfl,?_⟩
  exact fin af (X1.trans Ext.upd) (Int.emod_nonneg _ (by omega)) (Int.emod_lt_of_pos _ hm0)
end
open PySem L2
def kf:List Str:=["a", "ab", "abc", "b", "ba", "let", "end", "var", "add", "abcdefgh", "record", "x", "main", "n", "good"]
section
variable {P:Program} {w:World} {K:Frag} {mg:Str→Option Value} {base:Heap} {f g:Addr} {fd gd:FuncData}
end
open PySem L2
def vE (R:List Rec):Prop:=∀ (i:Nat) r,R[i]?=some r→r.1∈kf∧((1≤r.2.length∧r.2.length≤3)∧(r.2.map (·.1)).Nodup∧(∀ p∈r.2,p.1∈kf)∧∀ p∈r.2.drop 1,p.2∈PL)∧∀ p∈r.2,p.2∈PL∨∃ (j:Nat) (r':Rec),j<i∧R[j]?=some r'∧r'.1=p.2
section
variable {P:Program} {w:World} {K:Frag} {mg:Str→Option Value} {base:Heap} {f g:Addr} {fd gd:FuncData}
end
open PySem L2
def TXT:List Str:=["", "a", "b a", "~ !", "ab&"]
end K6
namespace HT
open PySem PySem.Spec PyProof.Rows
section
variable {prog:Program} {w:World} {A:Around} {E:Value→Shared→Prop} {s:Shared}
theorem getItem_tuple_whole {t sl:Addr} {items:Array Value} {vl vu:Value} {lo hi:Option Int} {Q:Value→Shared→Prop} (ht:IsTup s.heap t items) (hs:s.heap.IsSliceOf sl vl vu .none) (pl:IsPart vl lo) (pu:IsPart vu hi)
  (hw:sIx items.size 0 lo=0∧sIx items.size items.size hi=items.size) (h:Q (.ref t) s):wpAny (model prog w) A (getItem (.ref t) (.ref sl)) Q E s:=by
 obtain ⟨os,hos,hcs,hds⟩:=id hs
 have hTs:s.TypeIs (.ref sl) "slice":=⟨os,hos,hcs⟩
 unfold getItem
 try with_reducible refine wpAny_holding ?_
 first | refine wpAny_bind (wpAny_pure ?_) | skip
 refine wpAny_bind (wpAny_sequenceKey ht.typeIs (by decide) ?_)
 refine wpAny_bind (wpAny_callSpecial?_slot (name:=Str.ofString "__getitem__") ht.typeIs PyProof.Rows.slot_tuple_getitem
  (wpAny_call_entry PyProof.Rows.slot_tuple_getitem ht.typeIs entry_tuple_getitem ?_ (args_tuple_getitem _ _)))
 show wpAny _ _ (Builtin.Tuple.tupleItemsOf (.ref t) >>= _) _ _ s
 refine wpAny_bind (tupleItemsOf_ ht ?_)
 refine wpAny_bind (wpAny_typeOf hTs ?_)
 rw [if_pos (by decide)]
 refine wpAny_bind (dc hs pl pu ?_)
 have hyes:(((sIx items.size 0 lo:Nat):Int)==0&&(1:Int)==1&&(sIx items.size items.size hi - sIx items.size 0 lo)==items.size)=true:=by
  rw [hw.1,hw.2]
  simp
 show wpAny _ _ (if (((sIx items.size 0 lo:Nat):Int)==0&&(1:Int)==1&&(sIx items.size items.size hi - sIx items.size 0 lo)==items.size)=true then _ else _) _ _ s
 rw [if_pos hyes]
 refine wpAny_bind ?_
 unfold Builtin.Tuple.tupleIsExact
 refine wpAny_bind (wpAny_typeOf ht.typeIs (wpAny_pure ?_))
 rw [if_pos (by decide)]
 refine wpAny_bind (wpAny_rule ?_)
 exact wpAny_pure ⟨_,rfl,wpAny_pure h⟩
end
end HT
namespace L2
open PySem PySem.Spec PyProof.Rows
section
variable {X:Cx}
def AK (K:Frag):V→Option Int→Option Int→Hp→VK→Prop:=fun x lo hi H Q=>∃ a xs,x=.ref a∧SqT K H a xs∧(HT.sIx xs.length 0 lo=0∧HT.sIx xs.length xs.length hi=xs.length)∧Q (.ref a) H
theorem iR:SlR X (AK X.K):=by
 intro pins s σ H x v vl vu lo hi sl Q I rx hs pl pu h
 obtain ⟨a,xs,rfl,hx,hw,q⟩:=h
 cases rx
 obtain ⟨its,r,ht,hz⟩:=I.tuple hx
 have hlen:its.toArray.size=xs.length:=by rw [List.size_toArray]; exact r.length.symm
 refine ⟨"tuple",_,PyProof.Rows.slot_tuple_getitem.lookup,ht.typeIs,?_⟩
 exact HT.getItem_tuple_whole ht hs pl pu (by rw [hlen]; exact hw) ⟨.ref a,H,I,rfl,q⟩
theorem oG {K:Frag} {H:Hp} {a b:Addr} {xs ys:List V} {Q:VK} (ha:H a=some (.tup xs)) (hb:H b=some (.tup ys)) (hl:xs.length+ys.length≤1000)
  (q:∀ p H',aO H H'→H' p=some (.tup (xs++ys))→Q (.ref p) H'):At K (.ref a) (.ref b) H Q∨yH K (.ref a) (.ref b) H Q:=by
 cases xs with
 | nil=>exact .inr ⟨a,b,ys,rfl,rfl,SqT.of ha,SqT.of hb,q b H (aO.refl _) hb⟩
 | cons x r =>
  refine .inl ⟨a,b,_,_,rfl,rfl,SqT.of ha,SqT.of hb,by simp,Nat.le_of_lt (cH hl),fun e=>?_,fun e p hp=>?_⟩
  ·subst e
   exact q a H (aO.refl _) (by rw [List.append_nil]; exact ha)
  ·exact q p _ (fun c o e=>by rw [bd (aU e hp)]; exact e) af
end
end L2
namespace K6
open PySem L2
end K6
namespace L2
open PySem
theorem DD (xs:List V) (k:Nat) (h:k≤xs.length):iO xs none (some (k:Int))=xs.take k:=by
 unfold iO
 rw [HT.sIx_none,HT.sIx_nat,Nat.min_eq_left h,List.drop_zero,Nat.sub_zero]
theorem Dj (xs:List V) (k:Nat):iO xs (some (k:Int)) none=xs.drop k:=by
 unfold iO
 rw [HT.sIx_none,HT.sIx_nat]
 by_cases h:k≤xs.length
 ·rw [Nat.min_eq_left h,List.take_of_length_le (by rw [List.length_drop]; omega)]
 ·rw [Nat.min_eq_right (by omega),List.drop_length,List.take_nil,List.drop_eq_nil_of_le (by omega)]
end L2
namespace K6
open PySem L2
inductive E where
 | num (i:Int) | text (z:Str) | var (x:Str) | of_ (e:E) (f:Str) | with_ (e:E) (f:Str) (g:E) | new (r:Str) (es:List E)
 | add (a b:E) | sub (a b:E) | times (n:Int) (e:E) | div (e:E) (n:Int) | rest (e:E) (n:Int) | len (e:E) | at_ (a b:E)
 | rows (es:List E) | put (a b c:E) | more (a b:E) | signs (e:E)
inductive C where
 | less (a b:E) | same (a b:E) | and_ (c d:C) | or_ (c d:C) | not_ (c:C)
inductive S where
 | let_ (x:Str) (e:E) | say (w:Str) (c:C) | if_ (c:C) (a b:List S) | while_ (c:C) (a:List S) | call (x f:Str) (es:List E) | give (e:E)
mutual
def E.d:E→PyData
 | .num i=>.tuple [.str "num",.int i]
 | .text z=>.tuple [.str "text",.str z]
 | .var x=>.tuple [.str "var",.str x]
 | .of_ e f=>.tuple [.str "of",e.d,.str f]
 | .with_ e f g=>.tuple [.str "with",e.d,.str f,g.d]
 | .new r es=>.tuple [.str "new",.str r,.tuple (E.ds es)]
 | .add a b=>.tuple [.str "add",a.d,b.d]
 | .sub a b=>.tuple [.str "sub",a.d,b.d]
 | .times n e=>.tuple [.str "times",.int n,e.d]
 | .div e n=>.tuple [.str "div",e.d,.int n]
 | .rest e n=>.tuple [.str "rest",e.d,.int n]
 | .len e=>.tuple [.str "len",e.d]
 | .at_ a b=>.tuple [.str "at",a.d,b.d]
 | .rows es=>.tuple [.str "rows",.tuple (E.ds es)]
 | .put a b c=>.tuple [.str "put",a.d,b.d,c.d]
 | .more a b=>.tuple [.str "more",a.d,b.d]
 | .signs e=>.tuple [.str "signs",e.d]
def E.ds:List E→List PyData
 | []=>[]
 | e::r=>e.d::E.ds r
end
def C.d:C→PyData
 | .less a b=>.tuple [.str "less",a.d,b.d]
 | .same a b=>.tuple [.str "same",a.d,b.d]
 | .and_ c d=>.tuple [.str "and",c.d,d.d]
 | .or_ c d=>.tuple [.str "or",c.d,d.d]
 | .not_ c=>.tuple [.str "not",c.d]
mutual
def S.d:S→PyData
 | .let_ x e=>.tuple [.str "let",.str x,e.d]
 | .say w c=>.tuple [.str "say",.str w,c.d]
 | .if_ c a b=>.tuple [.str "if",c.d,.tuple (S.ds a),.tuple (S.ds b)]
 | .while_ c a=>.tuple [.str "while",c.d,.tuple (S.ds a)]
 | .call x f es=>.tuple [.str "call",.str x,.str f,.tuple (E.ds es)]
 | .give e=>.tuple [.str "give",e.d]
def S.ds:List S→List PyData
 | []=>[]
 | s::r=>s.d::S.ds r
end
theorem E.ds_snoc:∀ (es:List E) (e:E),E.ds (es++[e])=E.ds es++[e.d]
 | [],e=>by simp [E.ds]
 | a::r,e=>by simp [E.ds,E.ds_snoc r e]
theorem E.ds_len:∀ es:List E,(E.ds es).length=es.length
 | []=>rfl
 | a::r=>by simp [E.ds,E.ds_len r]
theorem S.ds_len:∀ es:List S,(S.ds es).length=es.length
 | []=>rfl
 | a::r=>by simp [S.ds,S.ds_len r]
mutual
def Ok (R:List Rec) (V:List Fld):E→Str→Prop
 | .num i,k=>k = "num"∧-1000000≤i∧i≤1000000
 | .text z,k=>k = "text"∧z∈TXT
 | .var x,k=>(x,k)∈V
 | .of_ e f,k=>∃ r,Ok R V e r∧(f,k)∈look R r
 | .with_ e f g,k=>k∉PL∧Ok R V e k∧∃ k',(f,k')∈look R k∧Ok R V g k'
 | .new r es,k=>k=r∧r∉PL∧1≤(look R r).length∧OkL R V es ((look R r).map (·.2))
 | .add a b,k=>k = "num"∧Ok R V a "num"∧Ok R V b "num"
 | .sub a b,k=>k = "num"∧Ok R V a "num"∧Ok R V b "num"
 | .times n e,k=>k = "num"∧(-1000000≤n∧n≤1000000)∧Ok R V e "num"
 | .div e n,k=>k = "num"∧(2≤n∧n≤99)∧Ok R V e "num"
 | .rest e n,k=>k = "num"∧(2≤n∧n≤99)∧Ok R V e "num"
 | .len e,k=>k = "num"∧(Ok R V e "row"∨Ok R V e "text")
 | .at_ a b,k=>k = "num"∧(Ok R V a "row"∨Ok R V a "text")∧Ok R V b "num"
 | .rows es,k=>k = "row"∧es.length≤8∧OkN R V es
 | .put a b c,k=>k = "row"∧Ok R V a "row"∧Ok R V b "num"∧Ok R V c "num"
 | .more a b,k=>k = "row"∧Ok R V a "row"∧Ok R V b "num"
 | .signs e,k=>k = "row"∧Ok R V e "text"
def OkL (R:List Rec) (V:List Fld):List E→List Str→Prop
 | [],[]=>True
 | e::es,k::ks=>Ok R V e k∧OkL R V es ks
 | _,_=>False
def OkN (R:List Rec) (V:List Fld):List E→Prop
 | []=>True
 | e::es=>Ok R V e "num"∧OkN R V es
end
open PySem L2
theorem Paired.app' {α β:Type} {F:α→β→Prop}:∀ {a c:List α} {b d:List β},Paired F a b→Paired F c d→Paired F (a++c) (b++d)
 | _,_,_,_,.nil,q=>q
 | _,_,_,_,.cons h t,q=>.cons h (Paired.app' t q)
abbrev uL:=Str×List Fld×List Fld×Str
def KS (R:List Rec):List Str:=PL++R.map (·.1)
mutual
def E.na:E→Bool
 | .num _=>true
 | .text _=>true
 | .var _=>true
 | .of_ e _=>e.na
 | .with_ e _ g=>e.na&&g.na
 | .new _ es=>E.nas es
 | .add a b=>a.na&&b.na
 | .sub a b=>a.na&&b.na
 | .times _ e=>e.na
 | .div e _=>e.na
 | .rest e _=>e.na
 | .len e=>e.na
 | .at_ _ _=>false
 | .rows es=>E.nas es
 | .put _ _ _=>false
 | .more a b=>a.na&&b.na
 | .signs e=>e.na
def E.nas:List E→Bool
 | []=>true
 | e::r=>e.na&&E.nas r
end
section
variable {P:Program} {w:World} {K:Frag} {mg:Str→Option Value} {base:Heap} {f g:Addr} {fd gd:FuncData}
end
open PySem L2
def isS:List PyData→Bool
 | .str _::_=>true
 | _=>false
mutual
def cD:PyData→Nat
 | .tuple ds=>(if isS ds=true then 1 else 0)+cDs ds
 | _=>0
def cDs:List PyData→Nat
 | []=>0
 | d::r=>cD d+cDs r
end
theorem dv:∀ a b:List PyData,cDs (a++b)=cDs a+cDs b
 | [],b=>by simp [cDs]
 | d::r,b=>by simp only [List.cons_append,cDs,dv r b]; omega
theorem Aq:∀ es:List E,isS (E.ds es)=false
 | []=>by simp [E.ds,isS]
 | e::r=>by cases e<;>simp [E.ds,E.d,isS]
section
variable {P:Program} {w:World} {K:Frag} {mg:Str→Option Value} {base:Heap} {f g:Addr} {fd gd:FuncData}
open PySem L2
theorem De {k:Nat} {ps:List Str} {sp:Sp} (no:∀ vs H Q E,¬ sp vs H Q E):aV P w K mg base CX0 k f fd ps sp :=
 ⟨fun vs H Q E h=>absurd h (no vs H Q E),fun A outer s H args us vs Q E _ _ _ _ h=>absurd h (no vs H Q E)⟩
end
end K6
namespace L2
open PySem
theorem zL {K:Frag} {H:Hp} {a:Addr} {xs:List V} {k:Nat} {Q:VK} (ha:H a=some (.tup xs)) (q:∀ p H',aO H H'→H' p=some (.tup (xs.drop k))→Q (.ref p) H') :
  BK K (.ref a) (some (k:Int)) none H Q∨AK K (.ref a) (some (k:Int)) none H Q:=by
 by_cases h:HT.sIx xs.length 0 (some (k:Int))=0
 ·refine .inr ⟨a,xs,rfl,SqT.of ha,⟨h,HT.sIx_none _ _⟩,q a H (aO.refl _) ?_⟩
  rw [HT.sIx_nat] at h
  rw [ha]
  by_cases hk:k=0
  ·subst hk; rfl
  ·have:xs.length=0:=by omega
   have e:xs=[]:=List.eq_nil_of_length_eq_zero this
   subst e
   rw [List.drop_nil]
 ·refine .inl ⟨a,xs,rfl,SqT.of ha,fun z=>h z.1,fun p hp=>q p _ (fun c o e=>by rw [bd (aU e hp)]; exact e) ?_⟩
  rw [Dj]
  exact af
end L2
namespace K6
open PySem L2
theorem DTs.snoc_inv {K:Frag} {H:Hp}:∀ {zs:List V} {y:V} {ds:List PyData},DTs K H (zs++[y]) ds→∃ es e,ds=es++[e]∧DTs K H zs es∧DT K H y e
 | [],y,_,.cons h .nil=>⟨[],_,rfl,.nil,h⟩
 | z::zs,y,_,.cons h r=>by
  obtain ⟨es,e,rfl,a,b⟩:=DTs.snoc_inv r
  exact ⟨_::es,e,rfl,.cons h a,b⟩
section
variable {P:Program} {w:World} {K:Frag} {mg:Str→Option Value} {base:Heap} {f g:Addr} {fd gd:FuncData}
end
open PySem L2
def OkC (R:List Rec) (Vs:List Fld):C→Prop
 | .less a b=>Ok R Vs a "num"∧a.na=true∧Ok R Vs b "num"∧b.na=true∧cD a.d≤12∧cD b.d≤12
 | .same a b=>Ok R Vs a "num"∧a.na=true∧Ok R Vs b "num"∧b.na=true∧cD a.d≤12∧cD b.d≤12
 | .and_ c d=>OkC R Vs c∧OkC R Vs d
 | .or_ c d=>OkC R Vs c∧OkC R Vs d
 | .not_ c=>OkC R Vs c
def C.cnt:C→Nat
 | .less _ _=>1
 | .same _ _=>1
 | .and_ c d=>1+c.cnt+d.cnt
 | .or_ c d=>1+c.cnt+d.cnt
 | .not_ c=>1+c.cnt
section
variable {P:Program} {w:World} {K:Frag} {mg:Str→Option Value} {base:Heap} {f g:Addr} {fd gd:FuncData}
end
open PySem L2
mutual
def S.cnt:S→Nat
 | .if_ _ a b=>1+S.cnts a+S.cnts b
 | .while_ _ a=>1+S.cnts a
 | _=>1
def S.cnts:List S→Nat
 | []=>0
 | s::r=>s.cnt+S.cnts r
end
mutual
def OkS (R:List Rec) (HS:List uL) (Vs:List Fld) (gv:Str):S→Prop
 | .let_ x e=>∃ k,(x,k)∈Vs∧Ok R Vs e k∧cD e.d≤12
 | .say w c=>w∈kf∧OkC R Vs c∧c.cnt≤6
 | .if_ c a b=>(OkC R Vs c∧c.cnt≤6)∧tm R HS Vs gv a∧tm R HS Vs gv b
 | .while_ c a=>(OkC R Vs c∧c.cnt≤6)∧tm R HS Vs gv a
 | .call x f es=>∃ h∈HS,h.1=f∧(x,h.2.2.2)∈Vs∧OkL R Vs es (h.2.1.map (·.2))∧∀ e∈es,cD e.d≤12
 | .give e=>Ok R Vs e gv∧cD e.d≤12
def tm (R:List Rec) (HS:List uL) (Vs:List Fld) (gv:Str):List S→Prop
 | []=>True
 | s::r=>OkS R HS Vs gv s∧tm R HS Vs gv r
end
section
variable {P:Program} {w:World} {K:Frag} {mg:Str→Option Value} {base:Heap} {f g:Addr} {fd gd:FuncData}
end
open PySem L2
abbrev ql:=uL×List S
def dZ (K:Frag) (H:Hp) (v:V) (F:ql):Prop:=∃ a p q bb xs,v=.ref a∧H a=some (.tup [.str F.1.1,p,q,.str F.1.2.2.2,.ref bb])∧fO H p F.1.2.1∧fO H q F.1.2.2.1∧H bb=some (.tup xs)
theorem dZ.mono {K:Frag} {H H':Hp} (t:Tk H H') {v:V} {F:ql} (h:dZ K H v F):dZ K H' v F:=let ⟨a,p,q,bb,xs,e,h1,h2,h3,h4⟩:=h; ⟨a,p,q,bb,xs,e,t _ _ h1,h2.mono t,h3.mono t,t _ _ h4⟩
def ku (K:Frag) (H:Hp) (v:V) (R:List Rec) (FS:List ql):Prop:=∃ a y z fx,v=.ref a∧H a=some (.tup [y,.ref z])∧jl H y R∧H z=some (.tup fx)∧Paired (dZ K H) fx FS
theorem ku.mono {K:Frag} {H H':Hp} (t:Tk H H') {v:V} {R:List Rec} {FS:List ql} (h:ku K H v R FS):ku K H' v R FS:=let ⟨a,y,z,fx,e,h1,h2,h3,h4⟩:=h; ⟨a,y,z,fx,e,t _ _ h1,h2.mono t,t _ _ h3,Paired.mapP h4 fun _ _ q=>q.mono t⟩
section
variable {P:Program} {w:World} {K:Frag} {mg:Str→Option Value} {base:Heap} {f g:Addr} {fd gd:FuncData}
end
end K6
namespace L2
open PySem PySem.Spec PyProof.Rows
section
variable {X:Cx}
theorem Cg {x y:Str} {p p':Pos} {m:Str} {apos cpos:Pos} (h:(apos.endLine==cpos.line)=true):M1 X (.Name x p) m apos (.Name y p') cpos:=⟨rfl,rfl,h,rfl⟩
structure KDv (K:Frag) (w:World) (a:Addr):Prop where
 ex:∃ es n,K.lookup a=some ⟨.type "dict",none,.dict es n,#[]⟩∧KeysLit w.params es.toList
 lo:(a==sysModules)=false
theorem yF {a:Addr} (h:KDv X.K X.w a):OpR X (compareOp .In) (fun x y H Q=>∃ z r,x=.str z∧y=.ref a∧PySem.W.nsIn X.K a z=some r∧Q (.bl r.isSome) H):=by
 intro pins s σ H x y v u Q I rx ry hh
 obtain ⟨z,r,rfl,rfl,e,q⟩:=hh
 obtain ⟨t,rfl⟩:=rx
 cases ry
 obtain ⟨es,n,hl,hk⟩:=h.ex
 have mo:=PySem.W.mapOf_K (prog:=X.prog) (w:=X.w) I.kIn hl hk
 refine wpAny_in_of (strKind_is X.prog X.w z t) h.lo mo ⟨.bl r.isSome,H,I.tok _,?_,q⟩
 rw [PySem.W.find_K hl e]
 rfl
theorem wE {a:Addr} (h:KDv X.K X.w a):IxR X (fun x y H Q=>∃ z u v,x=.ref a∧y=.str z∧PySem.W.nsIn X.K a z=some (some u)∧bh v u∧Q v H):=by
 intro value slice pins s σ H x y v u Q I rx ry hh hs
 obtain ⟨z,u',v',rfl,rfl,e,rv,q⟩:=hh
 cases rx
 obtain ⟨t,rfl⟩:=ry
 obtain ⟨es,n,hl,hk⟩:=h.ex
 have mo:=PySem.W.mapOf_K (prog:=X.prog) (w:=X.w) I.kIn hl hk
 have fin:EP X pins σ Q u' { s with toks:=s.toks+1 }:=⟨v',H,I.tok _,rv,q⟩
 exact subscriptTail_builtinR (x:=u') mo.typeIs PySem.F.slot_dict_getitem.lookup (wpAny_getItem_of (Q:=fun r s'=>r=_∧EP X pins σ Q r s') (strKind_is X.prog X.w z t) mo (PySem.W.find_K hl e) ⟨rfl,fin⟩) hs
theorem yt (hu:X.A.units+64<cLine):OpR X (compareOp .In) (fun x y H Q=>∃ b p1 p2 d d1 d2,y=.ref b∧SqT X.K H b [.ref p1,.ref p2]∧p1≠p2∧RdD X.K H x d∧RdD X.K H (.ref p1) d1∧RdD X.K H (.ref p2) d2∧d.canLay0=true∧d1.canLay0=true∧d2.canLay0=true∧d.depth≤8∧Q (.bl (PyData.eqv d1 d||PyData.eqv d2 d)) H):=by
 intro pins s σ H x y v u Q I rx ry hh
 obtain ⟨b,p1,p2,d,d1,d2,rfl,hb,hne,rd,r1,r2,c,c1,c2,dp,q⟩:=hh
 cases ry
 obtain ⟨its,r,pl,hz⟩:=I.tuple hb
 obtain ⟨u1,u2,rfl,q1,q2⟩:=xa r
 cases (show u1=Value.ref p1 from q1)
 cases (show u2=Value.ref p2 from q2)
 obtain ⟨as,ra⟩:=rd.reads I rx
 obtain ⟨as1,ra1⟩:=r1.reads I rfl
 obtain ⟨as2,ra2⟩:=r2.reads I rfl
 have hin:X.A.in1.units+8<cLine:=by
  have:X.A.in1.units≤X.A.units+1:=by simp [Around.in1]
  omega
 have m1:min d1.depth d.depth≤8:=Nat.le_trans (Nat.min_le_right _ _) dp
 have m2:min d2.depth d.depth≤8:=Nat.le_trans (Nat.min_le_right _ _) dp
 refine SeqAt.in_tupleAt (fun w=>match w with | .ref a=>if a=p1 then PyData.eqv d1 d else PyData.eqv d2 d | _=>false) pl (fun w hw=>?_) ⟨.bl (PyData.eqv d1 d||PyData.eqv d2 d),H,I,?_,q⟩
 ·have hw':w=.ref p1∨w=.ref p2:=by simpa using hw
  rcases hw' with rfl | rfl
  ·show SeqAt.EqAt _ _ _ _ (if p1=p1 then _ else _)
   rw [if_pos rfl]
   exact PySem.SeqAt.eqAt_reads d1 d _ _ _ _ _ _ ra1 ra c1 c (by omega)
  ·show SeqAt.EqAt _ _ _ _ (if p2=p1 then _ else _)
   rw [if_neg hne.symm]
   exact PySem.SeqAt.eqAt_reads d2 d _ _ _ _ _ _ ra2 ra c2 c (by omega)
 ·show Value.bool _=Value.bool _
  simp [hne.symm]
end
end L2
namespace K6
open PySem L2
def GBT:List (Str×List Str×Str):=[("add",["num", "num"], "num"),("sub",["num", "num"], "num"),("times",["num"], "num"),("div",["num"], "num"),("rest",["num"], "num"),("put",["row", "num", "num"], "row"),("more",["row", "num"], "row"),("signs",["text"], "row")]
def GBN:List Str:=["len", "at", "rows", "of", "with", "new"]
structure G (K:Frag) (w:World) (mg:Str→Option Value):Prop where
 t:G0 mg
 gb:∃ aB,mg "GOES_BY"=some (.ref aB)∧KDv K w aB∧(∀ p∈GBT,∃ a b,PySem.W.nsIn K aB p.1=some (some (.ref a))∧(∀ H,SqT K H a [.ref b,.str p.2.2])∧∀ H,SqT K H b (p.2.1.map V.str))∧∀ z∈GBN,PySem.W.nsIn K aB z=some none
 mn:∃ t,mg "MOST_NUMBER"=some (.int 1000000 t)
 ms:∃ t,mg "MOST_SIGNS"=some (.int 40 t)
 mr:∃ t,mg "MOST_IN_ROWS"=some (.int 8 t)
theorem ku.prog {K:Frag} {H:Hp} {v:V} {R:List Rec} {FS:List ql} (h:ku K H v R FS):cr H v R:=let ⟨a,y,z,fx,e,h1,h2,h3,h4⟩:=h; ⟨a,y,.ref z,e,h1,h2⟩
def inner:E→List E
 | .num _=>[]
 | .text _=>[]
 | .var _=>[]
 | .of_ e _=>[e]
 | .with_ e _ g=>[e,g]
 | .new _ es=>es
 | .add a b=>[a,b]
 | .sub a b=>[a,b]
 | .times _ e=>[e]
 | .div e _=>[e]
 | .rest e _=>[e]
 | .len e=>[e]
 | .at_ a b=>[a,b]
 | .rows es=>es
 | .put a b c=>[a,b,c]
 | .more a b=>[a,b]
 | .signs e=>[e]
theorem BM {l:List Fld} {x a b:Str} (hnd:(l.map (·.1)).Nodup) (h1:(x,a)∈l) (h2:(x,b)∈l):a=b:=by
 induction l with
 | nil=>cases h1
 | cons p r ih =>
  rw [List.map_cons,List.nodup_cons] at hnd
  rcases List.mem_cons.mp h1 with e1 | m1
  ·rcases List.mem_cons.mp h2 with e2 | m2
   ·rw [← e1] at e2; exact (Prod.mk.inj e2).2.symm
   ·exact absurd (List.mem_map.mpr ⟨_,m2,by rw [← e1]⟩) hnd.1
  ·rcases List.mem_cons.mp h2 with e2 | m2
   ·exact absurd (List.mem_map.mpr ⟨_,m1,by rw [← e2]⟩) hnd.1
   ·exact ih hnd.2 m1 m2
theorem BD {l:List ql} {a b:ql} (hnd:(l.map (·.1.1)).Nodup) (h1:a∈l) (h2:b∈l) (e:a.1.1=b.1.1):a=b:=by
 induction l with
 | nil=>cases h1
 | cons p r ih =>
  rw [List.map_cons,List.nodup_cons] at hnd
  rcases List.mem_cons.mp h1 with e1 | m1
  ·rcases List.mem_cons.mp h2 with e2 | m2
   ·rw [e1,e2]
   ·exact absurd (List.mem_map.mpr ⟨_,m2,by rw [← e1,e]⟩) hnd.1
  ·rcases List.mem_cons.mp h2 with e2 | m2
   ·exact absurd (List.mem_map.mpr ⟨_,m1,by rw [← e2,e]⟩) hnd.1
   ·exact ih hnd.2 m1 m2
theorem yE {Vs:List Fld} {x k:Str} {y:V} (hnd:(Vs.map (·.1)).Nodup) (hm:(x,k)∈Vs):(jg (Vs.map fun p=>((Sum.inr p.1:Key),V.str p.2)) (Sum.inr x:Key)).getD y=V.str k:=by
 induction Vs with
 | nil=>cases hm
 | cons p r ih =>
  rw [List.map_cons,List.nodup_cons] at hnd
  rw [List.map_cons]
  rcases List.mem_cons.mp hm with e | m
  ·rw [← e,jt rfl]; rfl
  ·have hne:¬ (Sum.inr p.1:Key)=Sum.inr x:=fun z=>hnd.1 (by rw [Sum.inr.inj z]; exact List.mem_map.mpr ⟨_,m,rfl⟩)
   rw [jx hne]
   exact ih hnd.2 m
theorem pM {K:Frag} {H:Hp}:∀ {xs:List V} {fs:List Fld},Paired (eR H) xs fs→Paired (wY K H) xs (fs.map fun p=>(p.1,V.str p.2))
 | _,_,.nil=>.nil
 | _,_,.cons ⟨a,e,h⟩ t=>.cons ⟨a,e,SqT.of h⟩ (pM t)
theorem DT.open {K:Frag} {H:Hp} {u:V} {ds:List PyData} (h:DT K H u (.tuple ds)):∃ a xs,u=.ref a∧H a=some (.tup xs)∧DTs K H xs ds:=by
 cases h with
 | tup a b=>exact ⟨_,_,rfl,a.hp,b⟩
theorem DTs.open {K:Frag} {H:Hp} {xs:List V} {d:PyData} {ds:List PyData} (h:DTs K H xs (d::ds)):∃ x r,xs=x::r∧DT K H x d∧DTs K H r ds:=by
 cases h with
 | cons a b=>exact ⟨_,_,rfl,a,b⟩
theorem DT.str_inv {K:Frag} {H:Hp} {u:V} {z:Str} (h:DT K H u (.str z)):u=.str z:=by cases h; rfl
theorem DT.int_inv {K:Frag} {H:Hp} {u:V} {z:Int} (h:DT K H u (.int z)):u=.int z:=by cases h; rfl
section
variable {P:Program} {w:World} {K:Frag} {mg:Str→Option Value} {base:Heap} {f g:Addr} {fd gd:FuncData}
def ju:Sp:=fun vs H Q _=>∃ v k R,vs=[v,.str k]∧cr H v R∧∀ y H',aO H H'→fO H' y (look R k)→Q y H'
theorem ph:aK ["program", "kind", "record"] ["program", "kind"] (defScope eQ):=⟨rfl,rfl,rfl,by decide +kernel,rfl,by decide +kernel,by decide +kernel⟩
theorem wq (F:Fun K "fields_of" "fields_of" eQ f fd):aV P w K mg base CX0 1 f fd ["program", "kind"] ju:=by
 refine F.ok ph (fun vs H Q E h=>?_) (fun cdv A outer s H vs Q E hr h=>?_)
 ·obtain ⟨v,k,R,rfl,_⟩:=h
  rfl
 obtain ⟨v,k,R,rfl,hp,q⟩:=h
 obtain ⟨a,y,z,rfl,ha,b,xs,rfl,hb,rs⟩:=hp
 refine ⟨_,am (cB PassesOwn.never rfl (ca (aA av (pv 0) aj (fun _ _=>rfl))) (aQ (i:=2) ph.nd rfl (Or.inl rfl))
   (ao (aT (aD bA (aA av (pv 2) aj (fun _ _=>rfl)) (pv 1) (aJ _)) (ao (ay (aA av (pv 2) aj (fun _ _=>rfl)))) aE)))
  (ao (ay (aH ah))),?_⟩
 refine ⟨_,rfl,a,_,_,_,rfl,rfl,SqT.of ha,rfl,b,rfl,⟨xs,SqT.of hb⟩,iW (xs:=xs) (fun i σ H'=>∃ m,σ=[some (.ref a),some (.str k),m]∧H'=H∧look R k=look (R.drop i) k) ⟨none,rfl,rfl,rfl⟩ (fun i σ H' _ p=>?_) (fun i x σ H' hx p=>?_) (fun σ H' p=>?_)⟩
 ·obtain ⟨_,_,rfl,_⟩:=p
  exact SqT.of hb
 ·obtain ⟨m,rfl,rfl,e⟩:=p
  obtain ⟨r,hr',c,y',rfl,hc,hf⟩:=bI rs i x hx
  refine ⟨_,rfl,c,_,_,_,rfl,rfl,SqT.of hc,rfl,_,rfl,rfl,_,rfl,?_⟩
  rw [wd hr'] at e
  refine az (fun cc=>?_) (fun cc=>?_)
  ·have ck:r.1=k:=V.str.inj (of_decide_eq_true cc)
   rw [if_pos ck] at e
   exact ⟨_,rfl,c,_,_,_,rfl,rfl,SqT.of hc,rfl,q _ _ (aO.refl _) (e ▸ hf)⟩
  ·have ck:¬ r.1=k:=fun z=>cc (decide_eq_true (congrArg V.str z))
   rw [if_neg ck] at e
   exact ⟨_,rfl,rfl,e⟩
 ·obtain ⟨m,rfl,rfl,e⟩:=p
  refine ⟨(by show 0≤sizeLine; decide),fun t ht=>q _ _ (ag ht _) ⟨t,[],rfl,af,?_⟩⟩
  rw [e,Paired.length rs,List.drop_length]
  exact .nil
def vV:Sp:=fun vs H Q _=>∃ v k R,vs=[v,.str k]∧cr H v R∧(look R k).length≤3∧∀ r H',aO H H'→H r=none→H' r=some (.lst ((look R k).map fun p=>V.str p.2))→Q (.ref r) H'
theorem zS:aK ["program", "kind"] ["program", "kind"] (defScope cv):=⟨rfl,rfl,rfl,by decide +kernel,rfl,by decide +kernel,by decide +kernel⟩
theorem yQ (F:Fun K "field_kinds" "field_kinds" cv f fd) (D:Cal P w K mg base 1 "fields_of" ["program", "kind"] ju):aV P w K mg base CX0 2 f fd ["program", "kind"] vV:=by
 obtain ⟨g,gd,Gd,bG,kG,mG⟩:=D.ex
 refine F.ok zS (fun vs H Q E h=>?_) (fun cdv A outer s H vs Q E hr h=>?_)
 ·obtain ⟨v,k,R,rfl,_⟩:=h
  rfl
 obtain ⟨v,k,R,rfl,hp,hl,q⟩:=h
 refine ⟨_,ao (ay (bt (N':=["field"]) (ρ:=[none]) (m:=1) (bF.of (fs:=defScope cv) (N:=["program", "kind"]) rfl rfl (by decide +kernel)) rfl (ca (au Gd hr rfl mG kG bG .nil aI (ad (pv 0) (ad (pv 1) ah))))
    (fun _ _ _ _=>aQ (i:=0) (show List.Nodup (["field"]:List Str) by decide +kernel) rfl (Or.inl rfl)) (fun _ _ _ _=>bq) (fun _ _ _ _=>aA (dU (K:=K) rfl) (pv 0) aj (fun _ _=>rfl)))),?_⟩
 refine ⟨_,rfl,_,rfl,v,k,R,rfl,hp,fun y H1 g1 hy=>?_⟩
 obtain ⟨b,xs,rfl,hb,rs⟩:=hy
 have lx:xs.length≤1000:=by rw [Paired.length rs]; omega
 refine ⟨b,rfl,⟨xs,SqT.of hb⟩,bU (xs:=xs) xs.length rfl lx (fun i acc H'=>H'=H1∧acc=((look R k).take i).map fun p=>V.str p.2) ⟨rfl,rfl⟩ (fun i acc H' p=>by rw [p.1]; exact SqT.of hb) (fun i acc H' x hi la hx p=>?_) (fun acc H' p la D hD=>?_)⟩
 ·obtain ⟨rfl,rfl⟩:=p
  obtain ⟨fl,hfl,c,rfl,hc⟩:=bI rs i x hx
  refine ⟨⟨rfl,rfl⟩,bu ?_⟩
  refine ⟨_,rfl,c,_,_,_,rfl,rfl,SqT.of hc,rfl,nxT lx hi la ⟨rfl,?_⟩⟩
  rw [List.take_add_one,hfl,List.map_append]
  rfl
 ·obtain ⟨rfl,rfl⟩:=p
  refine q D _ (g1.trans (ag hD _)) (g1.free hD) ?_
  rw [af,Paired.length rs,List.take_length]
def wa:Sp:=fun vs H Q _=>∃ i,vs=[.int i]∧Q (.bl true) H
abbrev uR:List Str:=["thing"]
theorem ix:aK uR ["thing"] (defScope dM):=⟨rfl,rfl,rfl,by decide +kernel,rfl,by decide +kernel,by decide +kernel⟩
theorem xJ (T:G0 mg) (F:Fun K "is_whole" "is_whole" dM f fd):aV P w K mg base CX0 1 f fd ["thing"] wa:=by
 refine F.ok ix (fun vs H Q EX h=>?_) (fun cdv A outer s H vs Q EX hr h=>?_)
 ·obtain ⟨i,rfl,_⟩:=h
  rfl
 obtain ⟨i,rfl,q⟩:=h
 refine ⟨_,(@ao _ _ _ (@ay _ _ _ _ (bR (@aF _ _ _ _ _ _ _ _ _ bf rfl T.isi bS (@ad _ _ _ _ _ (pv 0) (@ad _ _ _ _ _ (bp (v:=.ty "int") rfl T.int Al rfl) ah (ac rfl)) (ac rfl)) (by decide) (by decide) (ac rfl) (ak rfl)) (bH (ua (@aF _ _ _ _ _ _ _ _ _ bf rfl T.isi bS (@ad _ _ _ _ _ (pv 0) (@ad _ _ _ _ _ (bp (v:=.ty "bool") rfl T.bool xn rfl) ah (ac rfl)) (ac rfl)) (by decide) (by decide) (ac rfl) (ak rfl))))))),?_⟩
 exact ⟨_,rfl,_,_,_,true,rfl,.int i,rfl,_,rfl,bz ⟨_,rfl,_,_,_,false,rfl,.int i,rfl,_,rfl,q⟩⟩
def lg:Sp:=fun vs H Q _=>∃ i a b,vs=[.int i,.int a,.int b]∧a≤i∧i≤b∧Q (.bl true) H
abbrev mh:List Str:=["thing", "least", "most"]
theorem kz:aK mh ["thing", "least", "most"] (defScope dS):=⟨rfl,rfl,rfl,by decide +kernel,rfl,by decide +kernel,by decide +kernel⟩
theorem tU (T:G0 mg) (F:Fun K "is_between" "is_between" dS f fd) (D_is_whole:Cal P w K mg base 1 "is_whole" ["thing"] wa):aV P w K mg base CX0 2 f fd ["thing", "least", "most"] lg:=by
 obtain ⟨g_is_whole,gd_is_whole,G_is_whole,b_is_whole,k_is_whole,m_is_whole⟩:=D_is_whole.ex
 refine F.ok kz (fun vs H Q EX h=>?_) (fun cdv A outer s H vs Q EX hr h=>?_)
 ·obtain ⟨i,a,b,rfl,_⟩:=h
  rfl
 obtain ⟨i,a,b,rfl,h1,h2,q⟩:=h
 refine ⟨_,(@ao _ _ _ (@ay _ _ _ _ (bR (@au _ _ _ _ _ _ _ _ _ _ _ _ _ _ _ _ G_is_whole (hr.mono (by omega)) rfl m_is_whole k_is_whole b_is_whole .nil aI (@ad _ _ _ _ _ (pv 0) ah (ac rfl)) (by decide) (ac rfl) (ak rfl)) (bH (gH cQ cQ (pv 1) (pv 0) (pv 2)))))),?_⟩
 refine ⟨_,rfl,i,rfl,_,rfl,bz ?_⟩
 refine ⟨_,rfl,_,rfl,_,_,rfl,rfl,_,rfl,?_⟩
 refine az (fun c=>?_) (fun c=>absurd (decide_eq_true h1) c)
 refine ⟨_,rfl,_,_,rfl,rfl,?_⟩
 have:decide (i≤b)=true:=decide_eq_true h2
 show Q (.bl (decide (i≤b))) H
 rw [this]
 exact q
def df (i:Int):Bool:=decide (32≤i)&&decide (i≤126)&&decide (i≠37)
def uo:Sp:=fun vs H Q _=>∃ i,vs=[.int i]∧Q (.bl (df i)) H
theorem Bb:aK ["number"] ["number"] (defScope cm):=⟨rfl,rfl,rfl,by decide +kernel,rfl,by decide +kernel,by decide +kernel⟩
theorem zo (F:Fun K "is_sign_number" "is_sign_number" cm f fd):aV P w K mg base CX0 1 f fd ["number"] uo:=by
 refine F.ok Bb (fun vs H Q E h=>?_) (fun cdv A outer s H vs Q E hr h=>?_)
 ·obtain ⟨i,rfl,_⟩:=h
  rfl
 obtain ⟨i,rfl,q⟩:=h
 refine ⟨_,ao (ay (bR (gH cQ cQ aj (pv 0) aj) (bH (bC lj (pv 0) aj (aJ _))))),?_⟩
 refine ⟨_,rfl,_,_,rfl,rfl,_,rfl,?_⟩
 refine az (fun c1=>?_) (fun c1=>?_)
 ·refine ⟨_,_,rfl,rfl,_,rfl,?_⟩
  refine az (fun c2=>?_) (fun c2=>?_)
  ·refine ⟨_,rfl,rfl,?_⟩
   have e:df i=(!decide (V.int i=V.int 37)):=by
    unfold df
    rw [c1,c2]
    simp
   rw [e] at q
   exact q
  ·have e:df i=false:=by
    unfold df
    rw [Bool.eq_false_iff.mpr c2]
    simp
   rw [e] at q
   exact q
 ·refine ⟨_,rfl,bv ?_⟩
  have e:df i=false:=by
   unfold df
   rw [Bool.eq_false_iff.mpr c1]
   simp
  rw [e] at q
  exact q
def xX:Sp:=fun vs H Q _=>∃ z,vs=[.str z]∧z∈TXT∧∀ H',aO H H'→Q (.bl true) H'
theorem wv (z:Str) (i:Nat) (c:Nat) (h:z.cps[i]?=some c):(z.cps.toList.take (i+1)).map (fun c:Nat=>df (c:Int))=(z.cps.toList.take i).map (fun c:Nat=>df (c:Int))++[df (c:Int)]:=by
 rw [List.take_add_one,List.map_append]
 have:z.cps.toList[i]?=some c:=by simpa using h
 rw [this]; rfl
abbrev ic:List Str:=["thing"]
abbrev dA:List Str:=["sign"]
theorem fG:dA.Nodup:=by decide +kernel
theorem jA:aK ic ["thing"] (defScope cI):=⟨rfl,rfl,rfl,by decide +kernel,rfl,by decide +kernel,by decide +kernel⟩
theorem jQ:∀ z∈TXT,(z.cps.toList.all fun c:Nat=>df (c:Int))=true∧z.length≤40:=by decide +kernel
theorem zI (T:G0 mg) (F:Fun K "is_text" "is_text" cI f fd) (D_is_sign_number:Cal P w K mg base 1 "is_sign_number" ["number"] uo):aV P w K mg base CX0 2 f fd ["thing"] xX:=by
 obtain ⟨g_is_sign_number,gd_is_sign_number,G_is_sign_number,b_is_sign_number,k_is_sign_number,m_is_sign_number⟩:=D_is_sign_number.ex
 refine F.ok jA (fun vs H Q EX h=>?_) (fun cdv A outer s H vs Q EX hr h=>?_)
 ·obtain ⟨z,rfl,_⟩:=h
  rfl
 obtain ⟨z,rfl,hz,q⟩:=h
 have ht:z.cps.size≤1000:=by have:=(jQ z hz).2; show z.length≤1000; omega
 refine ⟨_,(@ao _ _ _ (@ay _ _ _ _ (bR (@aF _ _ _ _ _ _ _ _ _ bf rfl T.isi bS (@ad _ _ _ _ _ (pv 0) (@ad _ _ _ _ _ (bp (v:=.ty "str") rfl T.str ir rfl) ah (ac rfl)) (ac rfl)) (by decide) (by decide) (ac rfl) (ak rfl)) (bH (@aF _ _ _ _ _ _ _ _ _ (cy rfl) rfl T.all iE (@ad _ _ _ _ _ (bt (N':=dA) (ρ:=[none]) (m:=1) (bF.of (fs:=defScope cI) (N:=ic) rfl rfl (by decide +kernel)) rfl (mU (pv 0)) (fun _ _ _ _=>(aQ (i:=0) fG rfl (Or.inl rfl))) (fun _ _ _ _=>bq) (fun _ _ _ _=>(au G_is_sign_number (hr.mono (by omega)) rfl m_is_sign_number k_is_sign_number b_is_sign_number .nil aI (ad (aF qD rfl T.ord zY (ad (pv 0) ah)) ah)))) ah (ac rfl)) (by decide) (by decide) (ac rfl) (ak rfl)))))),?_⟩
 refine ⟨_,rfl,_,_,_,true,rfl,.str z,rfl,_,rfl,bz ?_⟩
 refine ⟨_,rfl,z,rfl,oP z.cps.size rfl ht (fun i acc H'=>H'=H∧acc=((z.cps.toList.take i).map (fun c:Nat=>df (c:Int))).map V.bl) ⟨rfl,rfl⟩ (fun i acc H' c hi la hc p=>?_) (fun acc H' p la D hD=>?_)⟩
 ·obtain ⟨rfl,rfl⟩:=p
  refine ⟨⟨rfl,rfl⟩,bu ?_⟩
  refine ⟨_,rfl,_,rfl,rfl,_,rfl,nxT ht hi la ⟨rfl,?_⟩⟩
  rw [wv z i c hc,List.map_append]
  rfl
 ·obtain ⟨rfl,rfl⟩:=p
  refine ⟨D,_,rfl,SqL.of af,?_⟩
  have e:(List.map (fun c:Nat=>df (c:Int)) (z.cps.toList.take z.cps.size)).all id=true:=by
   rw [← Array.length_toList,List.take_length,List.all_map]
   exact (jQ z hz).1
  rw [e]
  exact q _ (ag hD _)
def uV:Sp:=fun vs H Q _=>∃ v k fl k' R,vs=[v,.str k,.str fl]∧cr H v R∧(fl,k')∈look R k∧((look R k).map (·.1)).Nodup∧∀ H',aO H H'→Q (.str k') H'
abbrev ox:List Str:=["program", "kind", "field", "pair"]
theorem fH:aK ox ["program", "kind", "field"] (defScope dO):=⟨rfl,rfl,rfl,by decide +kernel,rfl,by decide +kernel,by decide +kernel⟩
theorem xk (F:Fun K "field_kind" "field_kind" dO f fd) (D_fields_of:Cal P w K mg base 1 "fields_of" ["program", "kind"] ju):aV P w K mg base CX0 2 f fd ["program", "kind", "field"] uV:=by
 obtain ⟨g_fields_of,gd_fields_of,G_fields_of,b_fields_of,k_fields_of,m_fields_of⟩:=D_fields_of.ex
 refine F.ok fH (fun vs H Q EX h=>?_) (fun cdv A outer s H vs Q EX hr h=>?_)
 ·obtain ⟨v,k,fl,k',R,rfl,_⟩:=h
  rfl
 obtain ⟨v,k,fl,k',R,rfl,hp,hm,hnd,q⟩:=h
 refine ⟨_,(@am _ _ _ _ _ (@cB _ _ _ _ _ _ _ _ PassesOwn.never rfl (ca (@au _ _ _ _ _ _ _ _ _ _ _ _ _ _ _ _ G_fields_of (hr.mono (by omega)) rfl m_fields_of k_fields_of b_fields_of .nil aI (@ad _ _ _ _ _ (pv 0) (@ad _ _ _ _ _ (pv 1) ah (ac rfl)) (ac rfl)) (by decide) (ac rfl) (ak rfl))) (aQ (i:=3) fH.nd rfl (Or.inl rfl)) (@ao _ _ _ (@aT _ _ _ _ _ _ _ _ (@aD _ _ _ _ _ _ _ _ bA (@aA _ _ _ _ _ _ _ av (pv 3) aj (fun _ _=>rfl)) (pv 2) (aJ _)) (@ao _ _ _ (@ay _ _ _ _ (@aA _ _ _ _ _ _ _ av (pv 3) aj (fun _ _=>rfl)))) aE)) (fun _=>rfl)) (@ao _ _ _ (@ay _ _ _ _ bE))),?_⟩
 refine ⟨_,rfl,_,rfl,v,k,R,rfl,hp,fun y H1 g1 hy=>?_⟩
 obtain ⟨b,xs,rfl,hb,rs⟩:=hy
 refine ⟨b,rfl,⟨xs,SqT.of hb⟩,iW (xs:=xs) (fun i σ H'=>∃ m,σ=[some v,some (.str k),some (.str fl),m]∧H'=H1∧(fl,k')∈(look R k).drop i) ⟨none,rfl,rfl,hm⟩ (fun i σ H' _ p=>?_) (fun i x σ H' hx p=>?_) (fun σ H' p=>?_)⟩
 ·obtain ⟨_,_,rfl,_⟩:=p
  exact SqT.of hb
 ·obtain ⟨m,rfl,rfl,e⟩:=p
  obtain ⟨pr,hpr,c,rfl,hc⟩:=bI rs i x hx
  refine ⟨_,rfl,c,_,_,_,rfl,rfl,SqT.of hc,rfl,_,rfl,rfl,_,rfl,?_⟩
  obtain ⟨hi,ee⟩:=List.getElem?_eq_some_iff.mp hpr
  rw [List.drop_eq_getElem_cons hi,ee] at e
  refine az (fun cc=>?_) (fun cc=>?_)
  ·have ck:pr.1=fl:=eqS cc
   have ek:pr.2=k':=by
    have m1:(fl,pr.2)∈look R k:=by
     have:=List.mem_of_getElem? hpr
     rw [← ck]; exact this
    exact BM hnd m1 hm
   rw [← ek] at q
   exact ⟨_,rfl,c,_,_,_,rfl,rfl,SqT.of hc,rfl,q _ g1⟩
  ·have ck:¬ pr.1=fl:=neS cc
   rcases List.mem_cons.mp e with z | z
   ·exact absurd (by rw [← z]) ck
   ·exact ⟨_,rfl,rfl,z⟩
 ·obtain ⟨m,rfl,rfl,e⟩:=p
  rw [Paired.length rs,List.drop_length] at e
  cases e
abbrev pP (Vs:List Fld):List (Key×V):=Vs.map fun p=>(Sum.inr p.1,V.str p.2)
def iQ:Sp:=fun vs H Q _=>∃ kk x k Vs,vs=[.ref kk,.str x]∧H kk=some (.dK (pP Vs))∧(Vs.map (·.1)).Nodup∧(x,k)∈Vs∧Q (.str k) H
abbrev mi:List Str:=["kinds", "thing"]
theorem kD:aK mi ["kinds", "thing"] (defScope dH):=⟨rfl,rfl,rfl,by decide +kernel,rfl,by decide +kernel,by decide +kernel⟩
theorem yv (T:G0 mg) (F:Fun K "named_kind" "named_kind" dH f fd):aV P w K mg base CX0 1 f fd ["kinds", "thing"] iQ:=by
 refine F.ok kD (fun vs H Q EX h=>?_) (fun cdv A outer s H vs Q EX hr h=>?_)
 ·obtain ⟨kk,x,k,Vs,rfl,_⟩:=h
  rfl
 obtain ⟨kk,x,k,Vs,rfl,hk,hnd,hm,q⟩:=h
 refine ⟨_,(@ao _ _ _ (@ay _ _ _ _ (@bO _ _ _ _ _ _ _ _ (aW (@aF _ _ _ _ _ _ _ _ _ bf rfl T.isi bS (@ad _ _ _ _ _ (pv 1) (@ad _ _ _ _ _ (bp (v:=.ty "str") rfl T.str ir rfl) ah (ac rfl)) (ac rfl)) (by decide) (by decide) (ac rfl) (ak rfl))) (yr (Cs hr) (pv 0) (pv 1) (Cg rfl)) bE))),?_⟩
 refine ⟨_,rfl,_,_,_,true,rfl,.str x,rfl,_,rfl,bz ?_⟩
 refine ⟨_,rfl,kk,rfl,.inl ⟨_,.inl hk⟩,_,rfl,_,yh.k (k:=Sum.inr x) hk,?_⟩
 rw [yE hnd hm]
 exact q
def jJ (K:Frag):Sp:=fun vs H Q _=>∃ v z R FS F,vs=[v,.str z]∧ku K H v R FS∧(FS.map (·.1.1)).Nodup∧F∈FS∧F.1.1=z∧∀ u,dZ K H u F→Q u H
abbrev kb:List Str:=["program", "f", "function"]
theorem ei:aK kb ["program", "f"] (defScope cU):=⟨rfl,rfl,rfl,by decide +kernel,rfl,by decide +kernel,by decide +kernel⟩
theorem qr (F:Fun K "function_of" "function_of" cU f fd):aV P w K mg base CX0 1 f fd ["program", "f"] (jJ K):=by
 refine F.ok ei (fun vs H Q EX h=>?_) (fun cdv A outer s H vs Q EX hr h=>?_)
 ·obtain ⟨v,z,R,FS,F,rfl,_⟩:=h
  rfl
 obtain ⟨v,z,R,FS,F,rfl,hp,hnd,hm,hz,q⟩:=h
 obtain ⟨a,y,zz,fx,rfl,ha,hR,hzz,pf⟩:=hp
 refine ⟨_,(@am _ _ _ _ _ (@cB _ _ _ _ _ _ _ _ PassesOwn.never rfl (ca (@aA _ _ _ _ _ _ _ av (pv 0) aj (fun _ _=>rfl))) (aQ (i:=2) ei.nd rfl (Or.inl rfl)) (@ao _ _ _ (@aT _ _ _ _ _ _ _ _ (@aD _ _ _ _ _ _ _ _ bA (@aA _ _ _ _ _ _ _ av (pv 2) aj (fun _ _=>rfl)) (pv 1) (aJ _)) (@ao _ _ _ (@ay _ _ _ _ (pv 2))) aE)) (fun _=>rfl)) (@ao _ _ _ (@ay _ _ _ _ bE))),?_⟩
 refine ⟨_,rfl,a,_,_,_,rfl,rfl,SqT.of ha,rfl,zz,rfl,⟨fx,SqT.of hzz⟩,iW (xs:=fx) (fun i σ H'=>∃ m,σ=[some (.ref a),some (.str z),m]∧H'=H∧F∈FS.drop i) ⟨none,rfl,rfl,hm⟩ (fun i σ H' _ p=>?_) (fun i x σ H' hx p=>?_) (fun σ H' p=>?_)⟩
 ·obtain ⟨_,_,rfl,_⟩:=p
  exact SqT.of hzz
 ·obtain ⟨m,rfl,rfl,e⟩:=p
  obtain ⟨G,hG,hGa⟩:=bI pf i x hx
  obtain ⟨c,p1,q1,bb,xs,rfl,hc,r1,r2,r3⟩:=id hGa
  refine ⟨_,rfl,c,_,_,_,rfl,rfl,SqT.of hc,rfl,_,rfl,rfl,_,rfl,?_⟩
  obtain ⟨hi,ee⟩:=List.getElem?_eq_some_iff.mp hG
  rw [List.drop_eq_getElem_cons hi,ee] at e
  refine az (fun cc=>?_) (fun cc=>?_)
  ·have ck:G.1.1=z:=eqS cc
   have eG:G=F:=BD hnd (List.mem_of_getElem? hG) hm (by rw [ck,hz])
   exact ⟨_,rfl,q _ (eG ▸ hGa)⟩
  ·have ck:¬ G.1.1=z:=neS cc
   rcases List.mem_cons.mp e with e | e
   ·exact absurd (by rw [← e]; exact hz) ck
   ·exact ⟨_,rfl,rfl,e⟩
 ·obtain ⟨m,rfl,rfl,e⟩:=p
  rw [Paired.length pf,List.drop_length] at e
  cases e
def xu (K:Frag):Sp:=fun vs H Q _=>∃ u F,vs=[u]∧dZ K H u F∧((F.1.2.1++F.1.2.2.1).map (·.1)).Nodup∧(F.1.2.1++F.1.2.2.1).length≤5∧∀ kk H',aO H H'→H' kk=some (.dK (pP (F.1.2.1++F.1.2.2.1)))→Q (.ref kk) H'
abbrev ib:List Str:=["function"]
theorem gU:aK ib ["function"] (defScope cj):=⟨rfl,rfl,rfl,by decide +kernel,rfl,by decide +kernel,by decide +kernel⟩
theorem zU (T:G0 mg) (F:Fun K "variable_kinds" "variable_kinds" cj f fd):aV P w K mg base CX0 1 f fd ["function"] (xu K):=by
 refine F.ok gU (fun vs H Q EX h=>?_) (fun cdv A outer s H vs Q EX hr h=>?_)
 ·obtain ⟨u,F,rfl,_⟩:=h
  rfl
 obtain ⟨u,F,rfl,hF,hnd,hl,q⟩:=h
 obtain ⟨a,p,q',bb,xs,rfl,ha,⟨pa,px,rfl,hpa,ppx⟩,⟨qa,qx,rfl,hqa,pqx⟩,hb⟩:=hF
 refine ⟨_,(@ao _ _ _ (@ay _ _ _ _ (@fo _ _ _ _ _ _ _ _ _ (rQ rfl) rfl T.dict AR (@ad _ _ _ _ _ (@bJ _ _ _ _ _ _ _ _ (iY.or gf) (@aA _ _ _ _ _ _ _ av (pv 0) aj (fun _ _=>rfl)) (@aA _ _ _ _ _ _ _ av (pv 0) aj (fun _ _=>rfl))) ah (ac rfl)) (by decide) (by decide) (ac rfl) (ak rfl)))),?_⟩
 have lpq:px.length+qx.length≤5:=by rw [Paired.length ppx,Paired.length pqx,← List.length_append]; exact hl
 refine ⟨_,rfl,a,_,_,_,rfl,rfl,SqT.of ha,rfl,_,rfl,a,_,_,_,rfl,rfl,SqT.of ha,rfl,?_⟩
 refine oG hpa hqa (by omega) fun pc H1 g1 hpc=>?_
 have pall:=Paired.mapP (Paired.app' ppx pqx) fun _ _ z=>eR.mono (ar g1) z
 refine ⟨pc,px++qx,(F.1.2.1++F.1.2.2.1).map fun p=>(p.1,V.str p.2),rfl,hpc,by rw [List.length_append]; omega,by rw [List.map_map]; exact hnd,pM pall,fun l hl2=>?_⟩
 refine q l _ (g1.trans (ag hl2 _)) ?_
 rw [af,List.map_map]
 rfl
abbrev jY:List Str:=["shaped", "word"]
abbrev fE:List Str:=["place", "shaped"]
theorem jM:fE.Nodup:=by decide +kernel
theorem iD:aK jY ["shaped"] (defScope cL):=⟨rfl,rfl,rfl,by decide +kernel,rfl,by decide +kernel,by decide +kernel⟩
def lI (K:Frag):Sp:=fun vs H Q _=>∃ u e,vs=[u]∧DT K H u (E.d e)∧(inner e).length≤1000∧∀ r ys H',aO H H'→H r=none→H' r=some (.lst ys)→DTs K H' ys (E.ds (inner e))→Q (.ref r) H'
def yY (K:Frag):Sp:=fun vs H Q _=>∃ u e R Vs k,vs=[u]∧DT K H u (E.d e)∧Ok R Vs e k∧∀ H',aO H H'→Q (.bl true) H'
abbrev qN:List Str:=["e", "word"]
theorem gI:aK qN ["e"] (defScope eE):=⟨rfl,rfl,rfl,by decide +kernel,rfl,by decide +kernel,by decide +kernel⟩
theorem BU (T:G K w mg) (F:Fun K "own_right" "own_right" eE f fd) (D_is_between:Cal P w K mg base 2 "is_between" ["thing", "least", "most"] lg) (D_is_text:Cal P w K mg base 2 "is_text" ["thing"] xX):aV P w K mg base CX0 3 f fd ["e"] (yY K):=by
 obtain ⟨tN,mN⟩:=T.mn
 obtain ⟨tM,mM⟩:=T.ms
 have T:=T.t
 obtain ⟨g_is_between,gd_is_between,G_is_between,b_is_between,k_is_between,m_is_between⟩:=D_is_between.ex
 obtain ⟨g_is_text,gd_is_text,G_is_text,b_is_text,k_is_text,m_is_text⟩:=D_is_text.ex
 refine F.ok gI (fun vs H Q EX h=>?_) (fun cdv A outer s H vs Q EX hr h=>?_)
 ·obtain ⟨u,e,R,Vs,k,rfl,_⟩:=h
  rfl
 obtain ⟨u,e,R,Vs,k,rfl,hu,ho,q⟩:=h
 refine ⟨_,(@am _ _ _ _ _ (@aR _ _ 1 _ _ _ _ gI.nd rfl (Or.inl rfl) (@aA _ _ _ _ _ _ _ av (pv 0) aj (fun _ _=>rfl)) (aC rfl) (.inr rfl)) (@am _ _ _ _ _ (@aT _ _ _ _ _ _ _ _ (@aD _ _ _ _ _ _ _ _ cg (pv 1) (@aH _ _ _ _ _ (@ad _ _ _ _ _ aG (@ad _ _ _ _ _ aG ah (ac rfl)) (ac rfl))) rfl) (@ao _ _ _ (@ay _ _ _ _ (@au _ _ _ _ _ _ _ _ _ _ _ _ _ _ _ _ G_is_between (hr.mono (by omega)) rfl m_is_between k_is_between b_is_between .nil aI (@ad _ _ _ _ _ (@aA _ _ _ _ _ _ _ av (pv 0) aj (fun _ _=>rfl)) (@ad _ _ _ _ _ (@fJ _ _ _ _ _ _ cS (aX (v:=.int 1000000) rfl mN ⟨_,rfl⟩)) (@ad _ _ _ _ _ (aX (v:=.int 1000000) rfl mN ⟨_,rfl⟩) ah (ac rfl)) (ac rfl)) (ac rfl)) (by decide) (ac rfl) (ak rfl)))) aE) (@am _ _ _ _ _ (@aT _ _ _ _ _ _ _ _ (@aD _ _ _ _ _ _ _ _ cg (pv 1) (@aH _ _ _ _ _ (@ad _ _ _ _ _ aG (@ad _ _ _ _ _ aG ah (ac rfl)) (ac rfl))) rfl) (@ao _ _ _ (@ay _ _ _ _ (@au _ _ _ _ _ _ _ _ _ _ _ _ _ _ _ _ G_is_between (hr.mono (by omega)) rfl m_is_between k_is_between b_is_between .nil aI (@ad _ _ _ _ _ (@aA _ _ _ _ _ _ _ av (pv 0) aj (fun _ _=>rfl)) (@ad _ _ _ _ _ aj (@ad _ _ _ _ _ aj ah (ac rfl)) (ac rfl)) (ac rfl)) (by decide) (ac rfl) (ak rfl)))) aE) (@am _ _ _ _ _ (@aT _ _ _ _ _ _ _ _ (@aD _ _ _ _ _ _ _ _ bA (pv 1) aG (aJ _)) (@ao _ _ _ (@ay _ _ _ _ (bR (@au _ _ _ _ _ _ _ _ _ _ _ _ _ _ _ _ G_is_text (hr.mono (by omega)) rfl m_is_text k_is_text b_is_text .nil aI (@ad _ _ _ _ _ (@aA _ _ _ _ _ _ _ av (pv 0) aj (fun _ _=>rfl)) ah (ac rfl)) (by decide) (ac rfl) (ak rfl)) (bH (@bC _ _ _ _ _ _ _ _ cQ (@aF _ _ _ _ _ _ _ _ _ du rfl T.len cJ (@ad _ _ _ _ _ (@aA _ _ _ _ _ _ _ av (pv 0) aj (fun _ _=>rfl)) ah (ac rfl)) (by decide) (by decide) (ac rfl) (ak rfl)) (aX (v:=.int 40) rfl mM ⟨_,rfl⟩) (aJ _)))))) aE) (@ao _ _ _ (@ay _ _ _ _ bo)))))),?_⟩
 cases e with
 | num y1 =>
  simp only [E.d] at hu
  obtain ⟨a,xs,rfl,ha,dx0⟩:=hu.open
  obtain ⟨x0,r0,rfl,h0,dx1⟩:=dx0.open
  obtain rfl:=h0.str_inv
  obtain ⟨x1,r1,rfl,h1,dx2⟩:=dx1.open
  obtain rfl:=h1.int_inv
  cases dx2
  simp only [Ok] at ho
  refine ⟨_,rfl,a,_,_,_,rfl,rfl,SqT.of ha,rfl,?_⟩
  refine ⟨_,rfl,(by show 2≤sizeLine; decide),fun p1 hp1=>⟨p1,_,rfl,.inr (SqT.of af),rfl,rfl,_,rfl,?_⟩⟩
  have g1:=ag hp1 (.tup [.str "num",.str "times"])
  refine az (fun c=>?_) (fun c=>absurd (by decide +kernel) c)
  exact ⟨_,rfl,a,_,_,_,rfl,rfl,SqT.of (g1 _ _ ha),rfl,_,rfl,_,_,_,rfl,ho.2.1,ho.2.2,q _ g1⟩
 | text y1 =>
  simp only [E.d] at hu
  obtain ⟨a,xs,rfl,ha,dx0⟩:=hu.open
  obtain ⟨x0,r0,rfl,h0,dx1⟩:=dx0.open
  obtain rfl:=h0.str_inv
  obtain ⟨x1,r1,rfl,h1,dx2⟩:=dx1.open
  obtain rfl:=h1.str_inv
  cases dx2
  simp only [Ok] at ho
  refine ⟨_,rfl,a,_,_,_,rfl,rfl,SqT.of ha,rfl,?_⟩
  refine ⟨_,rfl,(by show 2≤sizeLine; decide),fun p1 hp1=>⟨p1,_,rfl,.inr (SqT.of af),rfl,rfl,_,rfl,?_⟩⟩
  have g1:=ag hp1 (.tup [.str "num",.str "times"])
  refine az (fun c=>absurd c (by decide +kernel)) (fun c=>?_)
  refine ⟨_,rfl,(by show 2≤sizeLine; decide),fun p2 hp2=>⟨p2,_,rfl,.inr (SqT.of af),rfl,rfl,_,rfl,?_⟩⟩
  have g2:=g1.trans (ag hp2 (.tup [.str "div",.str "rest"]))
  refine az (fun c=>absurd c (by decide +kernel)) (fun c=>?_)
  refine ⟨_,rfl,rfl,_,rfl,?_⟩
  refine az (fun c=>?_) (fun c=>absurd (by decide +kernel) c)
  have tz:=jQ y1 ho.2
  refine ⟨_,rfl,a,_,_,_,rfl,rfl,SqT.of (g2 _ _ ha),rfl,y1,rfl,ho.2,fun H3 g3=>⟨_,rfl,bz ?_⟩⟩
  refine ⟨_,rfl,a,_,_,_,rfl,rfl,SqT.of (g3 _ _ (g2 _ _ ha)),rfl,y1,rfl,by rw [sizeLine_eq]; omega,_,_,rfl,rfl,?_⟩
  have e40:decide ((y1.length:Int)≤40)=true:=decide_eq_true (by omega)
  show Q (.bl (decide ((y1.length:Int)≤40))) H3
  rw [e40]
  exact q _ (g2.trans g3)
 | var y1 =>
  simp only [E.d] at hu
  obtain ⟨a,xs,rfl,ha,dx0⟩:=hu.open
  obtain ⟨x0,r0,rfl,h0,dx1⟩:=dx0.open
  obtain rfl:=h0.str_inv
  obtain ⟨x1,r1,rfl,h1,dx2⟩:=dx1.open
  obtain rfl:=h1.str_inv
  cases dx2
  simp only [Ok] at ho
  refine ⟨_,rfl,a,_,_,_,rfl,rfl,SqT.of ha,rfl,?_⟩
  refine ⟨_,rfl,(by show 2≤sizeLine; decide),fun p1 hp1=>⟨p1,_,rfl,.inr (SqT.of af),rfl,rfl,_,rfl,?_⟩⟩
  have g1:=ag hp1 (.tup [.str "num",.str "times"])
  refine az (fun c=>absurd c (by decide +kernel)) (fun c=>?_)
  refine ⟨_,rfl,(by show 2≤sizeLine; decide),fun p2 hp2=>⟨p2,_,rfl,.inr (SqT.of af),rfl,rfl,_,rfl,?_⟩⟩
  have g2:=g1.trans (ag hp2 (.tup [.str "div",.str "rest"]))
  refine az (fun c=>absurd c (by decide +kernel)) (fun c=>?_)
  refine ⟨_,rfl,rfl,_,rfl,?_⟩
  exact az (fun c=>absurd c (by decide +kernel)) (fun c=>q _ g2)
 | of_ y1 y2 =>
  simp only [E.d] at hu
  obtain ⟨a,xs,rfl,ha,dx0⟩:=hu.open
  obtain ⟨x0,r0,rfl,h0,dx1⟩:=dx0.open
  obtain rfl:=h0.str_inv
  obtain ⟨x1,r1,rfl,h1,dx2⟩:=dx1.open
  obtain ⟨x2,r2,rfl,h2,dx3⟩:=dx2.open
  obtain rfl:=h2.str_inv
  cases dx3
  simp only [Ok] at ho
  refine ⟨_,rfl,a,_,_,_,rfl,rfl,SqT.of ha,rfl,?_⟩
  refine ⟨_,rfl,(by show 2≤sizeLine; decide),fun p1 hp1=>⟨p1,_,rfl,.inr (SqT.of af),rfl,rfl,_,rfl,?_⟩⟩
  have g1:=ag hp1 (.tup [.str "num",.str "times"])
  refine az (fun c=>absurd c (by decide +kernel)) (fun c=>?_)
  refine ⟨_,rfl,(by show 2≤sizeLine; decide),fun p2 hp2=>⟨p2,_,rfl,.inr (SqT.of af),rfl,rfl,_,rfl,?_⟩⟩
  have g2:=g1.trans (ag hp2 (.tup [.str "div",.str "rest"]))
  refine az (fun c=>absurd c (by decide +kernel)) (fun c=>?_)
  refine ⟨_,rfl,rfl,_,rfl,?_⟩
  exact az (fun c=>absurd c (by decide +kernel)) (fun c=>q _ g2)
 | with_ y1 y2 y3 =>
  simp only [E.d] at hu
  obtain ⟨a,xs,rfl,ha,dx0⟩:=hu.open
  obtain ⟨x0,r0,rfl,h0,dx1⟩:=dx0.open
  obtain rfl:=h0.str_inv
  obtain ⟨x1,r1,rfl,h1,dx2⟩:=dx1.open
  obtain ⟨x2,r2,rfl,h2,dx3⟩:=dx2.open
  obtain rfl:=h2.str_inv
  obtain ⟨x3,r3,rfl,h3,dx4⟩:=dx3.open
  cases dx4
  simp only [Ok] at ho
  refine ⟨_,rfl,a,_,_,_,rfl,rfl,SqT.of ha,rfl,?_⟩
  refine ⟨_,rfl,(by show 2≤sizeLine; decide),fun p1 hp1=>⟨p1,_,rfl,.inr (SqT.of af),rfl,rfl,_,rfl,?_⟩⟩
  have g1:=ag hp1 (.tup [.str "num",.str "times"])
  refine az (fun c=>absurd c (by decide +kernel)) (fun c=>?_)
  refine ⟨_,rfl,(by show 2≤sizeLine; decide),fun p2 hp2=>⟨p2,_,rfl,.inr (SqT.of af),rfl,rfl,_,rfl,?_⟩⟩
  have g2:=g1.trans (ag hp2 (.tup [.str "div",.str "rest"]))
  refine az (fun c=>absurd c (by decide +kernel)) (fun c=>?_)
  refine ⟨_,rfl,rfl,_,rfl,?_⟩
  exact az (fun c=>absurd c (by decide +kernel)) (fun c=>q _ g2)
 | new y1 y2 =>
  simp only [E.d] at hu
  obtain ⟨a,xs,rfl,ha,dx0⟩:=hu.open
  obtain ⟨x0,r0,rfl,h0,dx1⟩:=dx0.open
  obtain rfl:=h0.str_inv
  obtain ⟨x1,r1,rfl,h1,dx2⟩:=dx1.open
  obtain rfl:=h1.str_inv
  obtain ⟨x2,r2,rfl,h2,dx3⟩:=dx2.open
  cases dx3
  simp only [Ok] at ho
  refine ⟨_,rfl,a,_,_,_,rfl,rfl,SqT.of ha,rfl,?_⟩
  refine ⟨_,rfl,(by show 2≤sizeLine; decide),fun p1 hp1=>⟨p1,_,rfl,.inr (SqT.of af),rfl,rfl,_,rfl,?_⟩⟩
  have g1:=ag hp1 (.tup [.str "num",.str "times"])
  refine az (fun c=>absurd c (by decide +kernel)) (fun c=>?_)
  refine ⟨_,rfl,(by show 2≤sizeLine; decide),fun p2 hp2=>⟨p2,_,rfl,.inr (SqT.of af),rfl,rfl,_,rfl,?_⟩⟩
  have g2:=g1.trans (ag hp2 (.tup [.str "div",.str "rest"]))
  refine az (fun c=>absurd c (by decide +kernel)) (fun c=>?_)
  refine ⟨_,rfl,rfl,_,rfl,?_⟩
  exact az (fun c=>absurd c (by decide +kernel)) (fun c=>q _ g2)
 | add y1 y2 =>
  simp only [E.d] at hu
  obtain ⟨a,xs,rfl,ha,dx0⟩:=hu.open
  obtain ⟨x0,r0,rfl,h0,dx1⟩:=dx0.open
  obtain rfl:=h0.str_inv
  obtain ⟨x1,r1,rfl,h1,dx2⟩:=dx1.open
  obtain ⟨x2,r2,rfl,h2,dx3⟩:=dx2.open
  cases dx3
  simp only [Ok] at ho
  refine ⟨_,rfl,a,_,_,_,rfl,rfl,SqT.of ha,rfl,?_⟩
  refine ⟨_,rfl,(by show 2≤sizeLine; decide),fun p1 hp1=>⟨p1,_,rfl,.inr (SqT.of af),rfl,rfl,_,rfl,?_⟩⟩
  have g1:=ag hp1 (.tup [.str "num",.str "times"])
  refine az (fun c=>absurd c (by decide +kernel)) (fun c=>?_)
  refine ⟨_,rfl,(by show 2≤sizeLine; decide),fun p2 hp2=>⟨p2,_,rfl,.inr (SqT.of af),rfl,rfl,_,rfl,?_⟩⟩
  have g2:=g1.trans (ag hp2 (.tup [.str "div",.str "rest"]))
  refine az (fun c=>absurd c (by decide +kernel)) (fun c=>?_)
  refine ⟨_,rfl,rfl,_,rfl,?_⟩
  exact az (fun c=>absurd c (by decide +kernel)) (fun c=>q _ g2)
 | sub y1 y2 =>
  simp only [E.d] at hu
  obtain ⟨a,xs,rfl,ha,dx0⟩:=hu.open
  obtain ⟨x0,r0,rfl,h0,dx1⟩:=dx0.open
  obtain rfl:=h0.str_inv
  obtain ⟨x1,r1,rfl,h1,dx2⟩:=dx1.open
  obtain ⟨x2,r2,rfl,h2,dx3⟩:=dx2.open
  cases dx3
  simp only [Ok] at ho
  refine ⟨_,rfl,a,_,_,_,rfl,rfl,SqT.of ha,rfl,?_⟩
  refine ⟨_,rfl,(by show 2≤sizeLine; decide),fun p1 hp1=>⟨p1,_,rfl,.inr (SqT.of af),rfl,rfl,_,rfl,?_⟩⟩
  have g1:=ag hp1 (.tup [.str "num",.str "times"])
  refine az (fun c=>absurd c (by decide +kernel)) (fun c=>?_)
  refine ⟨_,rfl,(by show 2≤sizeLine; decide),fun p2 hp2=>⟨p2,_,rfl,.inr (SqT.of af),rfl,rfl,_,rfl,?_⟩⟩
  have g2:=g1.trans (ag hp2 (.tup [.str "div",.str "rest"]))
  refine az (fun c=>absurd c (by decide +kernel)) (fun c=>?_)
  refine ⟨_,rfl,rfl,_,rfl,?_⟩
  exact az (fun c=>absurd c (by decide +kernel)) (fun c=>q _ g2)
 | times y1 y2 =>
  simp only [E.d] at hu
  obtain ⟨a,xs,rfl,ha,dx0⟩:=hu.open
  obtain ⟨x0,r0,rfl,h0,dx1⟩:=dx0.open
  obtain rfl:=h0.str_inv
  obtain ⟨x1,r1,rfl,h1,dx2⟩:=dx1.open
  obtain rfl:=h1.int_inv
  obtain ⟨x2,r2,rfl,h2,dx3⟩:=dx2.open
  cases dx3
  simp only [Ok] at ho
  refine ⟨_,rfl,a,_,_,_,rfl,rfl,SqT.of ha,rfl,?_⟩
  refine ⟨_,rfl,(by show 2≤sizeLine; decide),fun p1 hp1=>⟨p1,_,rfl,.inr (SqT.of af),rfl,rfl,_,rfl,?_⟩⟩
  have g1:=ag hp1 (.tup [.str "num",.str "times"])
  refine az (fun c=>?_) (fun c=>absurd (by decide +kernel) c)
  exact ⟨_,rfl,a,_,_,_,rfl,rfl,SqT.of (g1 _ _ ha),rfl,_,rfl,_,_,_,rfl,ho.2.1.1,ho.2.1.2,q _ g1⟩
 | div y1 y2 =>
  simp only [E.d] at hu
  obtain ⟨a,xs,rfl,ha,dx0⟩:=hu.open
  obtain ⟨x0,r0,rfl,h0,dx1⟩:=dx0.open
  obtain rfl:=h0.str_inv
  obtain ⟨x1,r1,rfl,h1,dx2⟩:=dx1.open
  obtain ⟨x2,r2,rfl,h2,dx3⟩:=dx2.open
  obtain rfl:=h2.int_inv
  cases dx3
  simp only [Ok] at ho
  refine ⟨_,rfl,a,_,_,_,rfl,rfl,SqT.of ha,rfl,?_⟩
  refine ⟨_,rfl,(by show 2≤sizeLine; decide),fun p1 hp1=>⟨p1,_,rfl,.inr (SqT.of af),rfl,rfl,_,rfl,?_⟩⟩
  have g1:=ag hp1 (.tup [.str "num",.str "times"])
  refine az (fun c=>absurd c (by decide +kernel)) (fun c=>?_)
  refine ⟨_,rfl,(by show 2≤sizeLine; decide),fun p2 hp2=>⟨p2,_,rfl,.inr (SqT.of af),rfl,rfl,_,rfl,?_⟩⟩
  have g2:=g1.trans (ag hp2 (.tup [.str "div",.str "rest"]))
  refine az (fun c=>?_) (fun c=>absurd (by decide +kernel) c)
  exact ⟨_,rfl,a,_,_,_,rfl,rfl,SqT.of (g2 _ _ ha),rfl,_,_,_,rfl,ho.2.1.1,ho.2.1.2,q _ g2⟩
 | rest y1 y2 =>
  simp only [E.d] at hu
  obtain ⟨a,xs,rfl,ha,dx0⟩:=hu.open
  obtain ⟨x0,r0,rfl,h0,dx1⟩:=dx0.open
  obtain rfl:=h0.str_inv
  obtain ⟨x1,r1,rfl,h1,dx2⟩:=dx1.open
  obtain ⟨x2,r2,rfl,h2,dx3⟩:=dx2.open
  obtain rfl:=h2.int_inv
  cases dx3
  simp only [Ok] at ho
  refine ⟨_,rfl,a,_,_,_,rfl,rfl,SqT.of ha,rfl,?_⟩
  refine ⟨_,rfl,(by show 2≤sizeLine; decide),fun p1 hp1=>⟨p1,_,rfl,.inr (SqT.of af),rfl,rfl,_,rfl,?_⟩⟩
  have g1:=ag hp1 (.tup [.str "num",.str "times"])
  refine az (fun c=>absurd c (by decide +kernel)) (fun c=>?_)
  refine ⟨_,rfl,(by show 2≤sizeLine; decide),fun p2 hp2=>⟨p2,_,rfl,.inr (SqT.of af),rfl,rfl,_,rfl,?_⟩⟩
  have g2:=g1.trans (ag hp2 (.tup [.str "div",.str "rest"]))
  refine az (fun c=>?_) (fun c=>absurd (by decide +kernel) c)
  exact ⟨_,rfl,a,_,_,_,rfl,rfl,SqT.of (g2 _ _ ha),rfl,_,_,_,rfl,ho.2.1.1,ho.2.1.2,q _ g2⟩
 | len y1 =>
  simp only [E.d] at hu
  obtain ⟨a,xs,rfl,ha,dx0⟩:=hu.open
  obtain ⟨x0,r0,rfl,h0,dx1⟩:=dx0.open
  obtain rfl:=h0.str_inv
  obtain ⟨x1,r1,rfl,h1,dx2⟩:=dx1.open
  cases dx2
  simp only [Ok] at ho
  refine ⟨_,rfl,a,_,_,_,rfl,rfl,SqT.of ha,rfl,?_⟩
  refine ⟨_,rfl,(by show 2≤sizeLine; decide),fun p1 hp1=>⟨p1,_,rfl,.inr (SqT.of af),rfl,rfl,_,rfl,?_⟩⟩
  have g1:=ag hp1 (.tup [.str "num",.str "times"])
  refine az (fun c=>absurd c (by decide +kernel)) (fun c=>?_)
  refine ⟨_,rfl,(by show 2≤sizeLine; decide),fun p2 hp2=>⟨p2,_,rfl,.inr (SqT.of af),rfl,rfl,_,rfl,?_⟩⟩
  have g2:=g1.trans (ag hp2 (.tup [.str "div",.str "rest"]))
  refine az (fun c=>absurd c (by decide +kernel)) (fun c=>?_)
  refine ⟨_,rfl,rfl,_,rfl,?_⟩
  exact az (fun c=>absurd c (by decide +kernel)) (fun c=>q _ g2)
 | at_ y1 y2 =>
  simp only [E.d] at hu
  obtain ⟨a,xs,rfl,ha,dx0⟩:=hu.open
  obtain ⟨x0,r0,rfl,h0,dx1⟩:=dx0.open
  obtain rfl:=h0.str_inv
  obtain ⟨x1,r1,rfl,h1,dx2⟩:=dx1.open
  obtain ⟨x2,r2,rfl,h2,dx3⟩:=dx2.open
  cases dx3
  simp only [Ok] at ho
  refine ⟨_,rfl,a,_,_,_,rfl,rfl,SqT.of ha,rfl,?_⟩
  refine ⟨_,rfl,(by show 2≤sizeLine; decide),fun p1 hp1=>⟨p1,_,rfl,.inr (SqT.of af),rfl,rfl,_,rfl,?_⟩⟩
  have g1:=ag hp1 (.tup [.str "num",.str "times"])
  refine az (fun c=>absurd c (by decide +kernel)) (fun c=>?_)
  refine ⟨_,rfl,(by show 2≤sizeLine; decide),fun p2 hp2=>⟨p2,_,rfl,.inr (SqT.of af),rfl,rfl,_,rfl,?_⟩⟩
  have g2:=g1.trans (ag hp2 (.tup [.str "div",.str "rest"]))
  refine az (fun c=>absurd c (by decide +kernel)) (fun c=>?_)
  refine ⟨_,rfl,rfl,_,rfl,?_⟩
  exact az (fun c=>absurd c (by decide +kernel)) (fun c=>q _ g2)
 | rows y1 =>
  simp only [E.d] at hu
  obtain ⟨a,xs,rfl,ha,dx0⟩:=hu.open
  obtain ⟨x0,r0,rfl,h0,dx1⟩:=dx0.open
  obtain rfl:=h0.str_inv
  obtain ⟨x1,r1,rfl,h1,dx2⟩:=dx1.open
  cases dx2
  simp only [Ok] at ho
  refine ⟨_,rfl,a,_,_,_,rfl,rfl,SqT.of ha,rfl,?_⟩
  refine ⟨_,rfl,(by show 2≤sizeLine; decide),fun p1 hp1=>⟨p1,_,rfl,.inr (SqT.of af),rfl,rfl,_,rfl,?_⟩⟩
  have g1:=ag hp1 (.tup [.str "num",.str "times"])
  refine az (fun c=>absurd c (by decide +kernel)) (fun c=>?_)
  refine ⟨_,rfl,(by show 2≤sizeLine; decide),fun p2 hp2=>⟨p2,_,rfl,.inr (SqT.of af),rfl,rfl,_,rfl,?_⟩⟩
  have g2:=g1.trans (ag hp2 (.tup [.str "div",.str "rest"]))
  refine az (fun c=>absurd c (by decide +kernel)) (fun c=>?_)
  refine ⟨_,rfl,rfl,_,rfl,?_⟩
  exact az (fun c=>absurd c (by decide +kernel)) (fun c=>q _ g2)
 | put y1 y2 y3 =>
  simp only [E.d] at hu
  obtain ⟨a,xs,rfl,ha,dx0⟩:=hu.open
  obtain ⟨x0,r0,rfl,h0,dx1⟩:=dx0.open
  obtain rfl:=h0.str_inv
  obtain ⟨x1,r1,rfl,h1,dx2⟩:=dx1.open
  obtain ⟨x2,r2,rfl,h2,dx3⟩:=dx2.open
  obtain ⟨x3,r3,rfl,h3,dx4⟩:=dx3.open
  cases dx4
  simp only [Ok] at ho
  refine ⟨_,rfl,a,_,_,_,rfl,rfl,SqT.of ha,rfl,?_⟩
  refine ⟨_,rfl,(by show 2≤sizeLine; decide),fun p1 hp1=>⟨p1,_,rfl,.inr (SqT.of af),rfl,rfl,_,rfl,?_⟩⟩
  have g1:=ag hp1 (.tup [.str "num",.str "times"])
  refine az (fun c=>absurd c (by decide +kernel)) (fun c=>?_)
  refine ⟨_,rfl,(by show 2≤sizeLine; decide),fun p2 hp2=>⟨p2,_,rfl,.inr (SqT.of af),rfl,rfl,_,rfl,?_⟩⟩
  have g2:=g1.trans (ag hp2 (.tup [.str "div",.str "rest"]))
  refine az (fun c=>absurd c (by decide +kernel)) (fun c=>?_)
  refine ⟨_,rfl,rfl,_,rfl,?_⟩
  exact az (fun c=>absurd c (by decide +kernel)) (fun c=>q _ g2)
 | more y1 y2 =>
  simp only [E.d] at hu
  obtain ⟨a,xs,rfl,ha,dx0⟩:=hu.open
  obtain ⟨x0,r0,rfl,h0,dx1⟩:=dx0.open
  obtain rfl:=h0.str_inv
  obtain ⟨x1,r1,rfl,h1,dx2⟩:=dx1.open
  obtain ⟨x2,r2,rfl,h2,dx3⟩:=dx2.open
  cases dx3
  simp only [Ok] at ho
  refine ⟨_,rfl,a,_,_,_,rfl,rfl,SqT.of ha,rfl,?_⟩
  refine ⟨_,rfl,(by show 2≤sizeLine; decide),fun p1 hp1=>⟨p1,_,rfl,.inr (SqT.of af),rfl,rfl,_,rfl,?_⟩⟩
  have g1:=ag hp1 (.tup [.str "num",.str "times"])
  refine az (fun c=>absurd c (by decide +kernel)) (fun c=>?_)
  refine ⟨_,rfl,(by show 2≤sizeLine; decide),fun p2 hp2=>⟨p2,_,rfl,.inr (SqT.of af),rfl,rfl,_,rfl,?_⟩⟩
  have g2:=g1.trans (ag hp2 (.tup [.str "div",.str "rest"]))
  refine az (fun c=>absurd c (by decide +kernel)) (fun c=>?_)
  refine ⟨_,rfl,rfl,_,rfl,?_⟩
  exact az (fun c=>absurd c (by decide +kernel)) (fun c=>q _ g2)
 | signs y1 =>
  simp only [E.d] at hu
  obtain ⟨a,xs,rfl,ha,dx0⟩:=hu.open
  obtain ⟨x0,r0,rfl,h0,dx1⟩:=dx0.open
  obtain rfl:=h0.str_inv
  obtain ⟨x1,r1,rfl,h1,dx2⟩:=dx1.open
  cases dx2
  simp only [Ok] at ho
  refine ⟨_,rfl,a,_,_,_,rfl,rfl,SqT.of ha,rfl,?_⟩
  refine ⟨_,rfl,(by show 2≤sizeLine; decide),fun p1 hp1=>⟨p1,_,rfl,.inr (SqT.of af),rfl,rfl,_,rfl,?_⟩⟩
  have g1:=ag hp1 (.tup [.str "num",.str "times"])
  refine az (fun c=>absurd c (by decide +kernel)) (fun c=>?_)
  refine ⟨_,rfl,(by show 2≤sizeLine; decide),fun p2 hp2=>⟨p2,_,rfl,.inr (SqT.of af),rfl,rfl,_,rfl,?_⟩⟩
  have g2:=g1.trans (ag hp2 (.tup [.str "div",.str "rest"]))
  refine az (fun c=>absurd c (by decide +kernel)) (fun c=>?_)
  refine ⟨_,rfl,rfl,_,rfl,?_⟩
  exact az (fun c=>absurd c (by decide +kernel)) (fun c=>q _ g2)
end
open PySem L2
def eg (R:List Rec):Prop:=∀ k,(look R k).length≤3∧((look R k).map (·.1)).Nodup∧∀ p∈look R k,PyData.strOk p.2=true
theorem vW:∀ z∈kf,PyData.strOk z=true:=by decide +kernel
theorem Ap:∀ z∈PL,PyData.strOk z=true:=by decide +kernel
theorem vE.looks {R:List Rec} (g:vE R):eg R:=by
 intro k
 unfold look
 cases e:R.find? fun r=>decide (r.1=k) with
 | none=>exact ⟨Nat.zero_le _,List.nodup_nil,fun p h=>nomatch h⟩
 | some r =>
  obtain ⟨i,hi⟩:=List.mem_iff_getElem?.mp (List.mem_of_find?_eq_some e)
  obtain ⟨_,⟨⟨_,h3⟩,hn,_⟩,hk⟩:=g i r hi
  refine ⟨h3,hn,fun p hp=>?_⟩
  rcases hk p hp with h | ⟨j,r',_,hj,h⟩
  ·exact Ap _ h
  ·rw [← h]; exact vW _ (g j r' hj).1
def By (R:List Rec) (Vs:List Fld):E→List Str→Str→Prop
 | .num _,_,k=>k = "num"
 | .text _,_,k=>k = "text"
 | .var x,_,k=>(x,k)∈Vs
 | .of_ _ f,ks,k=>∃ r,ks=[r]∧(f,k)∈look R r
 | .with_ _ f _,ks,k=>∃ k',ks=[k,k']∧(f,k')∈look R k
 | .new r _,ks,k=>k=r∧1≤(look R r).length∧ks=(look R r).map (·.2)
 | .len _,ks,k=>k = "num"∧(ks=(["row"]:List Str)∨ks=(["text"]:List Str))
 | .at_ _ _,ks,k=>k = "num"∧(ks=(["row", "num"]:List Str)∨ks=(["text", "num"]:List Str))
 | .rows _,ks,k=>k = "row"∧ks.length≤8∧∀ z∈ks,z = "num"
 | .add _ _,ks,k=>k = "num"∧ks=(["num", "num"]:List Str)
 | .sub _ _,ks,k=>k = "num"∧ks=(["num", "num"]:List Str)
 | .times _ _,ks,k=>k = "num"∧ks=(["num"]:List Str)
 | .div _ _,ks,k=>k = "num"∧ks=(["num"]:List Str)
 | .rest _ _,ks,k=>k = "num"∧ks=(["num"]:List Str)
 | .put _ _ _,ks,k=>k = "row"∧ks=(["row", "num", "num"]:List Str)
 | .more _ _,ks,k=>k = "row"∧ks=(["row", "num"]:List Str)
 | .signs _,ks,k=>k = "row"∧ks=(["text"]:List Str)
theorem OkN.l {R:List Rec} {Vs:List Fld}:∀ {es:List E},OkN R Vs es→OkL R Vs es (es.map fun _ => "num")
 | [],_=>by simp only [List.map_nil,OkL]
 | e::r,h=>by
  simp only [OkN] at h
  simp only [List.map_cons,OkL]
  exact ⟨h.1,OkN.l h.2⟩
theorem OkL.len {R:List Rec} {Vs:List Fld}:∀ {es:List E} {ks:List Str},OkL R Vs es ks→es.length=ks.length
 | [],[],_=>rfl
 | e::r,k::s,h=>by
  simp only [OkL] at h
  rw [List.length_cons,List.length_cons,OkL.len h.2]
 | [],_::_,h=>by simp only [OkL] at h
 | _::_,[],h=>by simp only [OkL] at h
theorem OkL.at {R:List Rec} {Vs:List Fld}:∀ {es:List E} {ks:List Str} {i:Nat} {e:E},OkL R Vs es ks→es[i]?=some e→∃ k,ks[i]?=some k∧Ok R Vs e k
 | a::r,k::s,0,e,h,q=>by
  simp only [OkL] at h
  cases q
  exact ⟨k,rfl,h.1⟩
 | a::r,k::s,i+1,e,h,q=>by
  simp only [OkL] at h
  exact OkL.at (i:=i) h.2 q
 | [],_,i,e,_,q=>by simp at q
 | _::_,[],_,_,h,_=>by simp only [OkL] at h
theorem rp {R:List Rec} {Vs:List Fld} {a:E} {x:Str} (h:Ok R Vs a x):OkL R Vs [a] [x]:=by simp only [OkL]; exact ⟨h,trivial⟩
theorem wQ {R:List Rec} {Vs:List Fld} {a b:E} {x y:Str} (h:Ok R Vs a x) (h2:Ok R Vs b y):OkL R Vs [a,b] [x,y]:=by simp only [OkL]; exact ⟨h,h2,trivial⟩
theorem DG {R:List Rec} {Vs:List Fld} {a b c:E} {x y z:Str} (h:Ok R Vs a x) (h2:Ok R Vs b y) (h3:Ok R Vs c z):OkL R Vs [a,b,c] [x,y,z]:=by simp only [OkL]; exact ⟨h,h2,h3,trivial⟩
theorem AZ {R:List Rec} {Vs:List Fld}:OkL R Vs [] []:=by simp only [OkL]
theorem Cn {R:List Rec} {Vs:List Fld} (g:eg R):∀ {e:E} {k:Str},Ok R Vs e k→∃ ks,OkL R Vs (inner e) ks∧By R Vs e ks k∧ks.length≤8
 | .num _,k,h=>by simp only [Ok] at h; exact ⟨[],AZ,h.1,by decide⟩
 | .text _,k,h=>by simp only [Ok] at h; exact ⟨[],AZ,h.1,by decide⟩
 | .var _,k,h=>by simp only [Ok] at h; exact ⟨[],AZ,h,by decide⟩
 | .of_ _ _,k,h=>by simp only [Ok] at h; obtain ⟨r,h1,h2⟩:=h; exact ⟨[r],rp h1,⟨r,rfl,h2⟩,by simp⟩
 | .with_ _ _ _,k,h=>by simp only [Ok] at h; obtain ⟨_,h1,k',h2,h3⟩:=h; exact ⟨[k,k'],wQ h1 h3,⟨k',rfl,h2⟩,by simp⟩
 | .new r _,k,h=>by simp only [Ok] at h; obtain ⟨h1,_,h2,h3⟩:=h; exact ⟨_,h3,⟨h1,h2,rfl⟩,by rw [List.length_map]; have:=(g r).1; omega⟩
 | .len _,k,h=>by
  simp only [Ok] at h
  obtain ⟨h1,h2 | h2⟩:=h
  ·exact ⟨["row"],rp h2,⟨h1,.inl rfl⟩,by decide⟩
  ·exact ⟨["text"],rp h2,⟨h1,.inr rfl⟩,by decide⟩
 | .at_ _ _,k,h=>by
  simp only [Ok] at h
  obtain ⟨h1,h2 | h2,h3⟩:=h
  ·exact ⟨["row", "num"],wQ h2 h3,⟨h1,.inl rfl⟩,by decide⟩
  ·exact ⟨["text", "num"],wQ h2 h3,⟨h1,.inr rfl⟩,by decide⟩
 | .rows es,k,h=>by
  simp only [Ok] at h
  exact ⟨_,h.2.2.l,⟨h.1,by rw [List.length_map]; exact h.2.1,fun z hz=>by obtain ⟨_,_,e⟩:=List.mem_map.mp hz; exact e.symm⟩,by rw [List.length_map]; exact h.2.1⟩
 | .add _ _,k,h=>by simp only [Ok] at h; exact ⟨(["num", "num"]:List Str),wQ h.2.1 h.2.2,⟨h.1,rfl⟩,by decide⟩
 | .sub _ _,k,h=>by simp only [Ok] at h; exact ⟨(["num", "num"]:List Str),wQ h.2.1 h.2.2,⟨h.1,rfl⟩,by decide⟩
 | .times _ _,k,h=>by simp only [Ok] at h; exact ⟨(["num"]:List Str),rp h.2.2,⟨h.1,rfl⟩,by decide⟩
 | .div _ _,k,h=>by simp only [Ok] at h; exact ⟨(["num"]:List Str),rp h.2.2,⟨h.1,rfl⟩,by decide⟩
 | .rest _ _,k,h=>by simp only [Ok] at h; exact ⟨(["num"]:List Str),rp h.2.2,⟨h.1,rfl⟩,by decide⟩
 | .put _ _ _,k,h=>by simp only [Ok] at h; exact ⟨(["row", "num", "num"]:List Str),DG h.2.1 h.2.2.1 h.2.2.2,⟨h.1,rfl⟩,by decide⟩
 | .more _ _,k,h=>by simp only [Ok] at h; exact ⟨(["row", "num"]:List Str),wQ h.2.1 h.2.2,⟨h.1,rfl⟩,by decide⟩
 | .signs _,k,h=>by simp only [Ok] at h; exact ⟨(["text"]:List Str),rp h.2,⟨h.1,rfl⟩,by decide⟩
theorem ba {K:Frag} {H:Hp}:∀ ks:List Str,dY K H (ks.map V.str) (ks.map PyData.str)
 | []=>.nil
 | k::r=>.cons (.str k) (ba r)
theorem gK:∀ {ks:List Str},(∀ k∈ks,PyData.strOk k=true)→PyData.canLayAll0 (ks.map PyData.str)=true
 | [],_=>by simp only [List.map_nil,PyData.canLayAll0]
 | k::r,h=>by
  simp only [List.map_cons,PyData.canLayAll0,PyData.canLay0,Bool.and_eq_true]
  exact ⟨h k (List.mem_cons_self ..),gK fun z hz=>h z (List.mem_cons_of_mem _ hz)⟩
theorem pZ:∀ ks:List Str,PyData.depthAll (ks.map PyData.str)=0
 | []=>by simp only [List.map_nil,PyData.depthAll]
 | k::r=>by simp only [List.map_cons,PyData.depthAll,PyData.depth,pZ r]; rfl
theorem iZ {ks:List Str} (h:∀ k∈ks,PyData.strOk k=true):SeqAt.shaped (.list (ks.map PyData.str))=true∧SeqAt.shaped (.tuple (ks.map PyData.str))=true:=by
 have h1:=gK h
 have h2:=pZ ks
 constructor<;>simp only [SeqAt.shaped,PyData.canLay0,PyData.depth,h1,h2]<;>rfl
theorem qA {ks:List Str} (h:∀ k∈ks,PyData.strOk k=true):PyData.eqv (.list (ks.map PyData.str)) (.list (ks.map PyData.str))=true∧PyData.eqv (.tuple (ks.map PyData.str)) (.tuple (ks.map PyData.str))=true :=
 ⟨SeqAt.eqv_refl _ (by simp only [PyData.canLay0]; exact gK h),SeqAt.eqv_refl _ (by simp only [PyData.canLay0]; exact gK h)⟩
def Cb:E→Bool
 | .of_ _ _=>true
 | .with_ _ _ _=>true
 | .new _ _=>true
 | _=>false
section
variable {P:Program} {w:World} {K:Frag} {mg:Str→Option Value} {base:Heap} {f g:Addr} {fd gd:FuncData}
def Aw (K:Frag):Sp:=fun vs H Q _=>∃ v u it e R Vs ks k,vs=[v,u,.ref it]∧cr H v R∧eg R∧DT K H u (E.d e)∧H it=some (.tup (ks.map V.str))∧By R Vs e ks k∧Cb e=true∧∀ H',aO H H'→Q (.str k) H'
abbrev kC:List Str:=["program", "e", "inner", "wanted"]
theorem eX:aK kC ["program", "e", "inner"] (defScope cV):=⟨rfl,rfl,rfl,by decide +kernel,rfl,by decide +kernel,by decide +kernel⟩
theorem BO (T:G0 mg) (F:Fun K "record_kind" "record_kind" cV f fd) (D_field_kinds:Cal P w K mg base 2 "field_kinds" ["program", "kind"] vV) (D_field_kind:Cal P w K mg base 2 "field_kind" ["program", "kind", "field"] uV):aV P w K mg base CX0 3 f fd ["program", "e", "inner"] (Aw K):=by
 obtain ⟨g_field_kinds,gd_field_kinds,G_field_kinds,b_field_kinds,k_field_kinds,m_field_kinds⟩:=D_field_kinds.ex
 obtain ⟨g_field_kind,gd_field_kind,G_field_kind,b_field_kind,k_field_kind,m_field_kind⟩:=D_field_kind.ex
 refine F.ok eX (fun vs H Q EX h=>?_) (fun cdv A outer s H vs Q EX hr h=>?_)
 ·obtain ⟨v,u,it,e,R,Vs,ks,k,rfl,_⟩:=h
  rfl
 obtain ⟨v,u,it,e,R,Vs,ks,k,rfl,hp,hl,hu,hit,hb,hre,q⟩:=h
 refine ⟨_,(@am _ _ _ _ _ (@aT _ _ _ _ _ _ _ _ (@aD _ _ _ _ _ _ _ _ bA (@aA _ _ _ _ _ _ _ av (pv 1) aj (fun _ _=>rfl)) aG (aJ _)) (@ao _ _ _ (@ay _ _ _ _ (@au _ _ _ _ _ _ _ _ _ _ _ _ _ _ _ _ G_field_kind (hr.mono (by omega)) rfl m_field_kind k_field_kind b_field_kind .nil aI (@ad _ _ _ _ _ (pv 0) (@ad _ _ _ _ _ (@aA _ _ _ _ _ _ _ av (pv 2) aj (fun _ _=>rfl)) (@ad _ _ _ _ _ (@aA _ _ _ _ _ _ _ av (pv 1) aj (fun _ _=>rfl)) ah (ac rfl)) (ac rfl)) (ac rfl)) (by decide) (ac rfl) (ak rfl)))) aE) (@am _ _ _ _ _ (@aT _ _ _ _ _ _ _ _ (@aD _ _ _ _ _ _ _ _ bA (@aA _ _ _ _ _ _ _ av (pv 1) aj (fun _ _=>rfl)) aG (aJ _)) (@ao _ _ _ (@ay _ _ _ _ (@bO _ _ _ _ _ _ _ _ (@aD _ _ _ _ _ _ _ _ bA (@au _ _ _ _ _ _ _ _ _ _ _ _ _ _ _ _ G_field_kind (hr.mono (by omega)) rfl m_field_kind k_field_kind b_field_kind .nil aI (@ad _ _ _ _ _ (pv 0) (@ad _ _ _ _ _ (@aA _ _ _ _ _ _ _ av (pv 2) aj (fun _ _=>rfl)) (@ad _ _ _ _ _ (@aA _ _ _ _ _ _ _ av (pv 1) aj (fun _ _=>rfl)) ah (ac rfl)) (ac rfl)) (ac rfl)) (by decide) (ac rfl) (ak rfl)) (@aA _ _ _ _ _ _ _ av (pv 2) aj (fun _ _=>rfl)) (aJ _)) (@aA _ _ _ _ _ _ _ av (pv 2) aj (fun _ _=>rfl)) bE))) aE) (@am _ _ _ _ _ (@aR _ _ 3 _ _ _ _ eX.nd rfl (Or.inl rfl) (@au _ _ _ _ _ _ _ _ _ _ _ _ _ _ _ _ G_field_kinds (hr.mono (by omega)) rfl m_field_kinds k_field_kinds b_field_kinds .nil aI (@ad _ _ _ _ _ (pv 0) (@ad _ _ _ _ _ (@aA _ _ _ _ _ _ _ av (pv 1) aj (fun _ _=>rfl)) ah (ac rfl)) (ac rfl)) (by decide) (ac rfl) (ak rfl)) (aC rfl) (.inr rfl)) (@ao _ _ _ (@ay _ _ _ _ (@bO _ _ _ _ _ _ _ _ (PW.pt (zc (@aD _ _ _ _ _ _ _ _ qJ (@aF _ _ _ _ _ _ _ _ _ bi rfl T.len cJ (@ad _ _ _ _ _ (pv 3) ah (ac rfl)) (by decide) (by decide) (ac rfl) (ak rfl)) aj (aJ _)) (vJ (@aD _ _ _ _ _ _ _ _ (uB hr.units) (pv 3) (@fo _ _ _ _ _ _ _ _ _ hJ rfl T.list yo (@ad _ _ _ _ _ (pv 2) ah (ac rfl)) (by decide) (by decide) (ac rfl) (ak rfl)) (aJ _))))) (@aA _ _ _ _ _ _ _ av (pv 1) aj (fun _ _=>rfl)) bE)))))),?_⟩
 cases e with
 | num y1 =>
  cases hre
 | text y1 =>
  cases hre
 | var y1 =>
  cases hre
 | of_ y1 y2 =>
  simp only [E.d] at hu
  obtain ⟨a,xs,rfl,ha,dx0⟩:=hu.open
  obtain ⟨x0,r0,rfl,h0,dx1⟩:=dx0.open
  obtain rfl:=h0.str_inv
  obtain ⟨x1,r1,rfl,h1,dx2⟩:=dx1.open
  obtain ⟨x2,r2,rfl,h2,dx3⟩:=dx2.open
  obtain rfl:=h2.str_inv
  cases dx3
  simp only [By] at hb
  refine ⟨_,rfl,a,_,_,_,rfl,rfl,SqT.of ha,rfl,rfl,_,rfl,?_⟩
  obtain ⟨r,rfl,hm⟩:=hb
  refine az (fun c=>?_) (fun c=>absurd (by decide +kernel) c)
  exact ⟨_,rfl,_,rfl,it,_,_,_,rfl,rfl,SqT.of hit,rfl,_,rfl,a,_,_,_,rfl,rfl,SqT.of ha,rfl,v,r,_,k,R,rfl,hp,hm,(hl r).2.1,q⟩
 | with_ y1 y2 y3 =>
  simp only [E.d] at hu
  obtain ⟨a,xs,rfl,ha,dx0⟩:=hu.open
  obtain ⟨x0,r0,rfl,h0,dx1⟩:=dx0.open
  obtain rfl:=h0.str_inv
  obtain ⟨x1,r1,rfl,h1,dx2⟩:=dx1.open
  obtain ⟨x2,r2,rfl,h2,dx3⟩:=dx2.open
  obtain rfl:=h2.str_inv
  obtain ⟨x3,r3,rfl,h3,dx4⟩:=dx3.open
  cases dx4
  simp only [By] at hb
  refine ⟨_,rfl,a,_,_,_,rfl,rfl,SqT.of ha,rfl,rfl,_,rfl,?_⟩
  refine az (fun c=>absurd c (by decide +kernel)) (fun c=>?_)
  refine ⟨_,rfl,a,_,_,_,rfl,rfl,SqT.of ha,rfl,rfl,_,rfl,?_⟩
  obtain ⟨k',rfl,hm⟩:=hb
  refine az (fun c=>?_) (fun c=>absurd (by decide +kernel) c)
  refine ⟨_,rfl,_,rfl,it,_,_,_,rfl,rfl,SqT.of hit,rfl,_,rfl,a,_,_,_,rfl,rfl,SqT.of ha,rfl,v,k,_,k',R,rfl,hp,hm,(hl k).2.1,fun H1 g1=>?_⟩
  refine ⟨_,rfl,it,_,_,_,rfl,rfl,SqT.of (g1 _ _ hit),rfl,rfl,_,rfl,?_⟩
  refine az (fun c=>?_) (fun c=>absurd (decide_eq_true rfl) c)
  exact ⟨_,rfl,it,_,_,_,rfl,rfl,SqT.of (g1 _ _ hit),rfl,q _ g1⟩
 | new y1 y2 =>
  simp only [E.d] at hu
  obtain ⟨a,xs,rfl,ha,dx0⟩:=hu.open
  obtain ⟨x0,r0,rfl,h0,dx1⟩:=dx0.open
  obtain rfl:=h0.str_inv
  obtain ⟨x1,r1,rfl,h1,dx2⟩:=dx1.open
  obtain rfl:=h1.str_inv
  obtain ⟨x2,r2,rfl,h2,dx3⟩:=dx2.open
  cases dx3
  simp only [By] at hb
  refine ⟨_,rfl,a,_,_,_,rfl,rfl,SqT.of ha,rfl,rfl,_,rfl,?_⟩
  refine az (fun c=>absurd c (by decide +kernel)) (fun c=>?_)
  refine ⟨_,rfl,a,_,_,_,rfl,rfl,SqT.of ha,rfl,rfl,_,rfl,?_⟩
  obtain ⟨rfl,h1,rfl⟩:=hb
  refine az (fun c=>absurd c (by decide +kernel)) (fun c=>?_)
  refine ⟨_,rfl,_,rfl,a,_,_,_,rfl,rfl,SqT.of ha,rfl,v,k,R,rfl,hp,(hl k).1,fun wr H1 g1 hw0 hw=>?_⟩
  refine ⟨_,rfl,wr,_,rfl,.inl (SqL.of hw),_,_,rfl,rfl,_,rfl,?_⟩
  refine az (fun c=>?_) (fun c=>absurd (decide_eq_true (by rw [List.length_map]; omega)) c)
  refine ⟨_,rfl,_,rfl,it,_,rfl,.inr (SqT.of (g1 _ _ hit)),fun l2 hl2=>?_⟩
  have g2:=ag hl2 (.lst (List.map V.str (List.map (fun x=>x.2) (look R k))))
  have so:∀ z∈List.map (fun x:Fld=>x.2) (look R k),PyData.strOk z=true:=fun z hz=>by
   obtain ⟨p,hp2,rfl⟩:=List.mem_map.mp hz
   exact (hl k).2.2 p hp2
  refine ⟨.list ((List.map (fun x:Fld=>x.2) (look R k)).map PyData.str),.list ((List.map (fun x:Fld=>x.2) (look R k)).map PyData.str),.lst (SqL.of ((g2 _ _ hw).trans (by rw [List.map_map]; rfl))) (ba _),.lst (SqL.of af) (ba _),(iZ so).1,(iZ so).1,_,rfl,?_⟩
  rw [(qA so).1]
  exact bz ⟨_,rfl,a,_,_,_,rfl,rfl,SqT.of (g2 _ _ (g1 _ _ ha)),rfl,q _ (g1.trans g2)⟩
 | add y1 y2 =>
  cases hre
 | sub y1 y2 =>
  cases hre
 | times y1 y2 =>
  cases hre
 | div y1 y2 =>
  cases hre
 | rest y1 y2 =>
  cases hre
 | len y1 =>
  cases hre
 | at_ y1 y2 =>
  cases hre
 | rows y1 =>
  cases hre
 | put y1 y2 y3 =>
  cases hre
 | more y1 y2 =>
  cases hre
 | signs y1 =>
  cases hre
def BS (K:Frag):Sp:=fun vs H Q _=>∃ v kk u it e R Vs ks k,vs=[v,.ref kk,u,.ref it]∧cr H v R∧eg R∧H kk=some (.dK (pP Vs))∧(Vs.map (·.1)).Nodup∧DT K H u (E.d e)∧H it=some (.tup (ks.map V.str))∧By R Vs e ks k∧∀ H',aO H H'→Q (.str k) H'
abbrev kP:List Str:=["program", "kinds", "e", "inner", "word"]
abbrev gO:List Str:=["kind"]
theorem ky:gO.Nodup:=by decide +kernel
theorem jy:aK kP ["program", "kinds", "e", "inner"] (defScope fg):=⟨rfl,rfl,rfl,by decide +kernel,rfl,by decide +kernel,by decide +kernel⟩
theorem AQ (T:G K w mg) (F:Fun K "kind_by" "kind_by" fg f fd) (D_record_kind:Cal P w K mg base 3 "record_kind" ["program", "e", "inner"] (Aw K)) (D_named_kind:Cal P w K mg base 1 "named_kind" ["kinds", "thing"] iQ):aV P w K mg base CX0 4 f fd ["program", "kinds", "e", "inner"] (BS K):=by
 obtain ⟨aB,mB,kB,hB,hBn⟩:=T.gb
 obtain ⟨tR,mR⟩:=T.mr
 have T:=T.t
 obtain ⟨g_record_kind,gd_record_kind,G_record_kind,b_record_kind,k_record_kind,m_record_kind⟩:=D_record_kind.ex
 obtain ⟨g_named_kind,gd_named_kind,G_named_kind,b_named_kind,k_named_kind,m_named_kind⟩:=D_named_kind.ex
 refine F.ok jy (fun vs H Q EX h=>?_) (fun cdv A outer s H vs Q EX hr h=>?_)
 ·obtain ⟨v,kk,u,it,e,R,Vs,ks,k,rfl,_⟩:=h
  rfl
 obtain ⟨v,kk,u,it,e,R,Vs,ks,k,rfl,hp,hl,hk,hnd,hu,hit,hb,q⟩:=h
 have hu0:=hu
 refine ⟨_,(@am _ _ _ _ _ (@aR _ _ 4 _ _ _ _ jy.nd rfl (Or.inl rfl) (@aA _ _ _ _ _ _ _ av (pv 2) aj (fun _ _=>rfl)) (aC rfl) (.inr rfl)) (@am _ _ _ _ _ (@aT _ _ _ _ _ _ _ _ (@aD _ _ _ _ _ _ _ _ cg (pv 4) (@aH _ _ _ _ _ (@ad _ _ _ _ _ aG (@ad _ _ _ _ _ aG ah (ac rfl)) (ac rfl))) rfl) (@ao _ _ _ (@ay _ _ _ _ (pv 4))) aE) (@am _ _ _ _ _ (@aT _ _ _ _ _ _ _ _ (@aD _ _ _ _ _ _ _ _ bA (pv 4) aG (aJ _)) (@ao _ _ _ (@ay _ _ _ _ (@au _ _ _ _ _ _ _ _ _ _ _ _ _ _ _ _ G_named_kind (hr.mono (by omega)) rfl m_named_kind k_named_kind b_named_kind .nil aI (@ad _ _ _ _ _ (pv 1) (@ad _ _ _ _ _ (@aA _ _ _ _ _ _ _ av (pv 2) aj (fun _ _=>rfl)) ah (ac rfl)) (ac rfl)) (by decide) (ac rfl) (ak rfl)))) aE) (@am _ _ _ _ _ (@aT _ _ _ _ _ _ _ _ (@aD _ _ _ _ _ _ _ _ (yF kB) (pv 4) (aX (v:=.ref aB) rfl mB rfl) rfl) (@ao _ _ _ (@ay _ _ _ _ (@bO _ _ _ _ _ _ _ _ (@aD _ _ _ _ _ _ _ _ (uB hr.units) (pv 3) (@aA _ _ _ _ _ _ _ av (@aA _ _ _ _ _ _ _ (wE kB) (aX (v:=.ref aB) rfl mB rfl) (pv 4) (fun _ _=>rfl)) aj (fun _ _=>rfl)) (aJ _)) (@aA _ _ _ _ _ _ _ av (@aA _ _ _ _ _ _ _ (wE kB) (aX (v:=.ref aB) rfl mB rfl) (pv 4) (fun _ _=>rfl)) aj (fun _ _=>rfl)) bE))) aE) (@am _ _ _ _ _ (@aT _ _ _ _ _ _ _ _ (@aD _ _ _ _ _ _ _ _ bA (pv 4) aG (aJ _)) (@ao _ _ _ (@ay _ _ _ _ (@bO _ _ _ _ _ _ _ _ (@aD _ _ _ _ _ _ _ _ (yt hr.units) (pv 3) (@aH _ _ _ _ _ (@ad _ _ _ _ _ (@aH _ _ _ _ _ (@ad _ _ _ _ _ aG ah (ac rfl))) (@ad _ _ _ _ _ (@aH _ _ _ _ _ (@ad _ _ _ _ _ aG ah (ac rfl))) ah (ac rfl)) (ac rfl))) rfl) aG bE))) aE) (@am _ _ _ _ _ (@aT _ _ _ _ _ _ _ _ (@aD _ _ _ _ _ _ _ _ bA (pv 4) aG (aJ _)) (@ao _ _ _ (@ay _ _ _ _ (@bO _ _ _ _ _ _ _ _ (@aD _ _ _ _ _ _ _ _ (yt hr.units) (pv 3) (@aH _ _ _ _ _ (@ad _ _ _ _ _ (@aH _ _ _ _ _ (@ad _ _ _ _ _ aG (@ad _ _ _ _ _ aG ah (ac rfl)) (ac rfl))) (@ad _ _ _ _ _ (@aH _ _ _ _ _ (@ad _ _ _ _ _ aG (@ad _ _ _ _ _ aG ah (ac rfl)) (ac rfl))) ah (ac rfl)) (ac rfl))) rfl) aG bE))) aE) (@am _ _ _ _ _ (@aT _ _ _ _ _ _ _ _ (@aD _ _ _ _ _ _ _ _ bA (pv 4) aG (aJ _)) (@ao _ _ _ (@ay _ _ _ _ (@bO _ _ _ _ _ _ _ _ (PW.pt (zc (@aD _ _ _ _ _ _ _ _ cQ (@aF _ _ _ _ _ _ _ _ _ bi rfl T.len cJ (@ad _ _ _ _ _ (pv 3) ah (ac rfl)) (by decide) (by decide) (ac rfl) (ak rfl)) (aX (v:=.int 8) rfl mR ⟨_,rfl⟩) (aJ _)) (vJ (aW (@aF _ _ _ _ _ _ _ _ _ (cy rfl) rfl T.all iE (@ad _ _ _ _ _ (bt (N':=gO) (ρ:=[none]) (m:=1) (bF.of (fs:=defScope fg) (N:=kP) rfl rfl (by decide +kernel)) rfl (ca (pv 3)) (fun _ _ _ _=>(aQ (i:=0) ky rfl (Or.inl rfl))) (fun _ _ _ _=>bq) (fun _ _ _ _=>(bC bA (pv 0) aG (aJ _)))) ah (ac rfl)) (by decide) (by decide) (ac rfl) (ak rfl)))))) aG bE))) aE) (@ao _ _ _ (@ay _ _ _ _ (@au _ _ _ _ _ _ _ _ _ _ _ _ _ _ _ _ G_record_kind (hr.mono (by omega)) rfl m_record_kind k_record_kind b_record_kind .nil aI (@ad _ _ _ _ _ (pv 0) (@ad _ _ _ _ _ (pv 2) (@ad _ _ _ _ _ (pv 3) ah (ac rfl)) (ac rfl)) (ac rfl)) (by decide) (ac rfl) (ak rfl))))))))))),?_⟩
 cases e with
 | num y1 =>
  simp only [E.d] at hu
  obtain ⟨a,xs,rfl,ha,dx0⟩:=hu.open
  obtain ⟨x0,r0,rfl,h0,dx1⟩:=dx0.open
  obtain rfl:=h0.str_inv
  obtain ⟨x1,r1,rfl,h1,dx2⟩:=dx1.open
  obtain rfl:=h1.int_inv
  cases dx2
  simp only [By] at hb
  refine ⟨_,rfl,a,_,_,_,rfl,rfl,SqT.of ha,rfl,?_⟩
  refine ⟨_,rfl,(by show 2≤sizeLine; decide),fun p1 hp1=>⟨p1,_,rfl,.inr (SqT.of af),rfl,rfl,_,rfl,?_⟩⟩
  have g1:=ag hp1 (.tup [.str "num",.str "text"])
  refine az (fun c=>?_) (fun c=>absurd (by decide +kernel) c)
  subst hb
  exact ⟨_,rfl,q _ g1⟩
 | text y1 =>
  simp only [E.d] at hu
  obtain ⟨a,xs,rfl,ha,dx0⟩:=hu.open
  obtain ⟨x0,r0,rfl,h0,dx1⟩:=dx0.open
  obtain rfl:=h0.str_inv
  obtain ⟨x1,r1,rfl,h1,dx2⟩:=dx1.open
  obtain rfl:=h1.str_inv
  cases dx2
  simp only [By] at hb
  refine ⟨_,rfl,a,_,_,_,rfl,rfl,SqT.of ha,rfl,?_⟩
  refine ⟨_,rfl,(by show 2≤sizeLine; decide),fun p1 hp1=>⟨p1,_,rfl,.inr (SqT.of af),rfl,rfl,_,rfl,?_⟩⟩
  have g1:=ag hp1 (.tup [.str "num",.str "text"])
  refine az (fun c=>?_) (fun c=>absurd (by decide +kernel) c)
  subst hb
  exact ⟨_,rfl,q _ g1⟩
 | var y1 =>
  simp only [E.d] at hu
  obtain ⟨a,xs,rfl,ha,dx0⟩:=hu.open
  obtain ⟨x0,r0,rfl,h0,dx1⟩:=dx0.open
  obtain rfl:=h0.str_inv
  obtain ⟨x1,r1,rfl,h1,dx2⟩:=dx1.open
  obtain rfl:=h1.str_inv
  cases dx2
  simp only [By] at hb
  refine ⟨_,rfl,a,_,_,_,rfl,rfl,SqT.of ha,rfl,?_⟩
  refine ⟨_,rfl,(by show 2≤sizeLine; decide),fun p1 hp1=>⟨p1,_,rfl,.inr (SqT.of af),rfl,rfl,_,rfl,?_⟩⟩
  have g1:=ag hp1 (.tup [.str "num",.str "text"])
  refine az (fun c=>absurd c (by decide +kernel)) (fun c=>?_)
  refine ⟨_,rfl,rfl,_,rfl,?_⟩
  refine az (fun c=>?_) (fun c=>absurd (by decide +kernel) c)
  exact ⟨_,rfl,_,rfl,a,_,_,_,rfl,rfl,SqT.of (g1 _ _ ha),rfl,kk,_,k,Vs,rfl,g1 _ _ hk,hnd,hb,q _ g1⟩
 | of_ y1 y2 =>
  simp only [E.d] at hu
  obtain ⟨a,xs,rfl,ha,dx0⟩:=hu.open
  obtain ⟨x0,r0,rfl,h0,dx1⟩:=dx0.open
  obtain rfl:=h0.str_inv
  obtain ⟨x1,r1,rfl,h1,dx2⟩:=dx1.open
  obtain ⟨x2,r2,rfl,h2,dx3⟩:=dx2.open
  obtain rfl:=h2.str_inv
  cases dx3
  refine ⟨_,rfl,a,_,_,_,rfl,rfl,SqT.of ha,rfl,?_⟩
  refine ⟨_,rfl,(by show 2≤sizeLine; decide),fun p1 hp1=>⟨p1,_,rfl,.inr (SqT.of af),rfl,rfl,_,rfl,?_⟩⟩
  have g1:=ag hp1 (.tup [.str "num",.str "text"])
  refine az (fun c=>absurd c (by decide +kernel)) (fun c=>?_)
  refine ⟨_,rfl,rfl,_,rfl,?_⟩
  refine az (fun c=>absurd c (by decide +kernel)) (fun c=>?_)
  refine ⟨_,rfl,_,none,rfl,rfl,hBn "of" (by decide +kernel),_,rfl,bv ?_⟩
  refine ⟨_,rfl,rfl,_,rfl,?_⟩
  refine az (fun c=>absurd c (by decide +kernel)) (fun c=>?_)
  refine ⟨_,rfl,rfl,_,rfl,?_⟩
  refine az (fun c=>absurd c (by decide +kernel)) (fun c=>?_)
  refine ⟨_,rfl,rfl,_,rfl,?_⟩
  refine az (fun c=>absurd c (by decide +kernel)) (fun c=>?_)
  exact ⟨_,rfl,_,rfl,_,rfl,v,_,it,_,R,Vs,ks,k,rfl,hp.mono (ar g1),hl,hu0.mono (ar g1),g1 _ _ hit,hb,rfl,fun H' g'=>q _ (g1.trans g')⟩
 | with_ y1 y2 y3 =>
  simp only [E.d] at hu
  obtain ⟨a,xs,rfl,ha,dx0⟩:=hu.open
  obtain ⟨x0,r0,rfl,h0,dx1⟩:=dx0.open
  obtain rfl:=h0.str_inv
  obtain ⟨x1,r1,rfl,h1,dx2⟩:=dx1.open
  obtain ⟨x2,r2,rfl,h2,dx3⟩:=dx2.open
  obtain rfl:=h2.str_inv
  obtain ⟨x3,r3,rfl,h3,dx4⟩:=dx3.open
  cases dx4
  refine ⟨_,rfl,a,_,_,_,rfl,rfl,SqT.of ha,rfl,?_⟩
  refine ⟨_,rfl,(by show 2≤sizeLine; decide),fun p1 hp1=>⟨p1,_,rfl,.inr (SqT.of af),rfl,rfl,_,rfl,?_⟩⟩
  have g1:=ag hp1 (.tup [.str "num",.str "text"])
  refine az (fun c=>absurd c (by decide +kernel)) (fun c=>?_)
  refine ⟨_,rfl,rfl,_,rfl,?_⟩
  refine az (fun c=>absurd c (by decide +kernel)) (fun c=>?_)
  refine ⟨_,rfl,_,none,rfl,rfl,hBn "with" (by decide +kernel),_,rfl,bv ?_⟩
  refine ⟨_,rfl,rfl,_,rfl,?_⟩
  refine az (fun c=>absurd c (by decide +kernel)) (fun c=>?_)
  refine ⟨_,rfl,rfl,_,rfl,?_⟩
  refine az (fun c=>absurd c (by decide +kernel)) (fun c=>?_)
  refine ⟨_,rfl,rfl,_,rfl,?_⟩
  refine az (fun c=>absurd c (by decide +kernel)) (fun c=>?_)
  exact ⟨_,rfl,_,rfl,_,rfl,v,_,it,_,R,Vs,ks,k,rfl,hp.mono (ar g1),hl,hu0.mono (ar g1),g1 _ _ hit,hb,rfl,fun H' g'=>q _ (g1.trans g')⟩
 | new y1 y2 =>
  simp only [E.d] at hu
  obtain ⟨a,xs,rfl,ha,dx0⟩:=hu.open
  obtain ⟨x0,r0,rfl,h0,dx1⟩:=dx0.open
  obtain rfl:=h0.str_inv
  obtain ⟨x1,r1,rfl,h1,dx2⟩:=dx1.open
  obtain rfl:=h1.str_inv
  obtain ⟨x2,r2,rfl,h2,dx3⟩:=dx2.open
  cases dx3
  refine ⟨_,rfl,a,_,_,_,rfl,rfl,SqT.of ha,rfl,?_⟩
  refine ⟨_,rfl,(by show 2≤sizeLine; decide),fun p1 hp1=>⟨p1,_,rfl,.inr (SqT.of af),rfl,rfl,_,rfl,?_⟩⟩
  have g1:=ag hp1 (.tup [.str "num",.str "text"])
  refine az (fun c=>absurd c (by decide +kernel)) (fun c=>?_)
  refine ⟨_,rfl,rfl,_,rfl,?_⟩
  refine az (fun c=>absurd c (by decide +kernel)) (fun c=>?_)
  refine ⟨_,rfl,_,none,rfl,rfl,hBn "new" (by decide +kernel),_,rfl,bv ?_⟩
  refine ⟨_,rfl,rfl,_,rfl,?_⟩
  refine az (fun c=>absurd c (by decide +kernel)) (fun c=>?_)
  refine ⟨_,rfl,rfl,_,rfl,?_⟩
  refine az (fun c=>absurd c (by decide +kernel)) (fun c=>?_)
  refine ⟨_,rfl,rfl,_,rfl,?_⟩
  refine az (fun c=>absurd c (by decide +kernel)) (fun c=>?_)
  exact ⟨_,rfl,_,rfl,_,rfl,v,_,it,_,R,Vs,ks,k,rfl,hp.mono (ar g1),hl,hu0.mono (ar g1),g1 _ _ hit,hb,rfl,fun H' g'=>q _ (g1.trans g')⟩
 | add y1 y2 =>
  simp only [E.d] at hu
  obtain ⟨a,xs,rfl,ha,dx0⟩:=hu.open
  obtain ⟨x0,r0,rfl,h0,dx1⟩:=dx0.open
  obtain rfl:=h0.str_inv
  obtain ⟨x1,r1,rfl,h1,dx2⟩:=dx1.open
  obtain ⟨x2,r2,rfl,h2,dx3⟩:=dx2.open
  cases dx3
  simp only [By] at hb
  refine ⟨_,rfl,a,_,_,_,rfl,rfl,SqT.of ha,rfl,?_⟩
  refine ⟨_,rfl,(by show 2≤sizeLine; decide),fun p1 hp1=>⟨p1,_,rfl,.inr (SqT.of af),rfl,rfl,_,rfl,?_⟩⟩
  have g1:=ag hp1 (.tup [.str "num",.str "text"])
  refine az (fun c=>absurd c (by decide +kernel)) (fun c=>?_)
  refine ⟨_,rfl,rfl,_,rfl,?_⟩
  refine az (fun c=>absurd c (by decide +kernel)) (fun c=>?_)
  obtain ⟨rfl,rfl⟩:=hb
  obtain ⟨aw,bw,w1,w2,w3⟩:=hB ("add",(["num", "num"]:List Str), "num") (by decide +kernel)
  refine ⟨_,rfl,_,_,rfl,rfl,w1,_,rfl,bz ?_⟩
  refine ⟨_,rfl,_,rfl,_,_,.ref aw,rfl,rfl,w1,rfl,aw,_,_,_,rfl,rfl,w2 _,rfl,.tuple ((["num", "num"]:List Str).map PyData.str),.tuple ((["num", "num"]:List Str).map PyData.str),.tup (SqT.of (g1 _ _ hit)) (ba _),.tup (w3 _) (ba _),by decide +kernel,by decide +kernel,_,rfl,?_⟩
  refine az (fun c=>?_) (fun c=>absurd (by decide +kernel) c)
  exact ⟨_,rfl,_,_,.ref aw,rfl,rfl,w1,rfl,aw,_,_,_,rfl,rfl,w2 _,rfl,q _ g1⟩
 | sub y1 y2 =>
  simp only [E.d] at hu
  obtain ⟨a,xs,rfl,ha,dx0⟩:=hu.open
  obtain ⟨x0,r0,rfl,h0,dx1⟩:=dx0.open
  obtain rfl:=h0.str_inv
  obtain ⟨x1,r1,rfl,h1,dx2⟩:=dx1.open
  obtain ⟨x2,r2,rfl,h2,dx3⟩:=dx2.open
  cases dx3
  simp only [By] at hb
  refine ⟨_,rfl,a,_,_,_,rfl,rfl,SqT.of ha,rfl,?_⟩
  refine ⟨_,rfl,(by show 2≤sizeLine; decide),fun p1 hp1=>⟨p1,_,rfl,.inr (SqT.of af),rfl,rfl,_,rfl,?_⟩⟩
  have g1:=ag hp1 (.tup [.str "num",.str "text"])
  refine az (fun c=>absurd c (by decide +kernel)) (fun c=>?_)
  refine ⟨_,rfl,rfl,_,rfl,?_⟩
  refine az (fun c=>absurd c (by decide +kernel)) (fun c=>?_)
  obtain ⟨rfl,rfl⟩:=hb
  obtain ⟨aw,bw,w1,w2,w3⟩:=hB ("sub",(["num", "num"]:List Str), "num") (by decide +kernel)
  refine ⟨_,rfl,_,_,rfl,rfl,w1,_,rfl,bz ?_⟩
  refine ⟨_,rfl,_,rfl,_,_,.ref aw,rfl,rfl,w1,rfl,aw,_,_,_,rfl,rfl,w2 _,rfl,.tuple ((["num", "num"]:List Str).map PyData.str),.tuple ((["num", "num"]:List Str).map PyData.str),.tup (SqT.of (g1 _ _ hit)) (ba _),.tup (w3 _) (ba _),by decide +kernel,by decide +kernel,_,rfl,?_⟩
  refine az (fun c=>?_) (fun c=>absurd (by decide +kernel) c)
  exact ⟨_,rfl,_,_,.ref aw,rfl,rfl,w1,rfl,aw,_,_,_,rfl,rfl,w2 _,rfl,q _ g1⟩
 | times y1 y2 =>
  simp only [E.d] at hu
  obtain ⟨a,xs,rfl,ha,dx0⟩:=hu.open
  obtain ⟨x0,r0,rfl,h0,dx1⟩:=dx0.open
  obtain rfl:=h0.str_inv
  obtain ⟨x1,r1,rfl,h1,dx2⟩:=dx1.open
  obtain rfl:=h1.int_inv
  obtain ⟨x2,r2,rfl,h2,dx3⟩:=dx2.open
  cases dx3
  simp only [By] at hb
  refine ⟨_,rfl,a,_,_,_,rfl,rfl,SqT.of ha,rfl,?_⟩
  refine ⟨_,rfl,(by show 2≤sizeLine; decide),fun p1 hp1=>⟨p1,_,rfl,.inr (SqT.of af),rfl,rfl,_,rfl,?_⟩⟩
  have g1:=ag hp1 (.tup [.str "num",.str "text"])
  refine az (fun c=>absurd c (by decide +kernel)) (fun c=>?_)
  refine ⟨_,rfl,rfl,_,rfl,?_⟩
  refine az (fun c=>absurd c (by decide +kernel)) (fun c=>?_)
  obtain ⟨rfl,rfl⟩:=hb
  obtain ⟨aw,bw,w1,w2,w3⟩:=hB ("times",(["num"]:List Str), "num") (by decide +kernel)
  refine ⟨_,rfl,_,_,rfl,rfl,w1,_,rfl,bz ?_⟩
  refine ⟨_,rfl,_,rfl,_,_,.ref aw,rfl,rfl,w1,rfl,aw,_,_,_,rfl,rfl,w2 _,rfl,.tuple ((["num"]:List Str).map PyData.str),.tuple ((["num"]:List Str).map PyData.str),.tup (SqT.of (g1 _ _ hit)) (ba _),.tup (w3 _) (ba _),by decide +kernel,by decide +kernel,_,rfl,?_⟩
  refine az (fun c=>?_) (fun c=>absurd (by decide +kernel) c)
  exact ⟨_,rfl,_,_,.ref aw,rfl,rfl,w1,rfl,aw,_,_,_,rfl,rfl,w2 _,rfl,q _ g1⟩
 | div y1 y2 =>
  simp only [E.d] at hu
  obtain ⟨a,xs,rfl,ha,dx0⟩:=hu.open
  obtain ⟨x0,r0,rfl,h0,dx1⟩:=dx0.open
  obtain rfl:=h0.str_inv
  obtain ⟨x1,r1,rfl,h1,dx2⟩:=dx1.open
  obtain ⟨x2,r2,rfl,h2,dx3⟩:=dx2.open
  obtain rfl:=h2.int_inv
  cases dx3
  simp only [By] at hb
  refine ⟨_,rfl,a,_,_,_,rfl,rfl,SqT.of ha,rfl,?_⟩
  refine ⟨_,rfl,(by show 2≤sizeLine; decide),fun p1 hp1=>⟨p1,_,rfl,.inr (SqT.of af),rfl,rfl,_,rfl,?_⟩⟩
  have g1:=ag hp1 (.tup [.str "num",.str "text"])
  refine az (fun c=>absurd c (by decide +kernel)) (fun c=>?_)
  refine ⟨_,rfl,rfl,_,rfl,?_⟩
  refine az (fun c=>absurd c (by decide +kernel)) (fun c=>?_)
  obtain ⟨rfl,rfl⟩:=hb
  obtain ⟨aw,bw,w1,w2,w3⟩:=hB ("div",(["num"]:List Str), "num") (by decide +kernel)
  refine ⟨_,rfl,_,_,rfl,rfl,w1,_,rfl,bz ?_⟩
  refine ⟨_,rfl,_,rfl,_,_,.ref aw,rfl,rfl,w1,rfl,aw,_,_,_,rfl,rfl,w2 _,rfl,.tuple ((["num"]:List Str).map PyData.str),.tuple ((["num"]:List Str).map PyData.str),.tup (SqT.of (g1 _ _ hit)) (ba _),.tup (w3 _) (ba _),by decide +kernel,by decide +kernel,_,rfl,?_⟩
  refine az (fun c=>?_) (fun c=>absurd (by decide +kernel) c)
  exact ⟨_,rfl,_,_,.ref aw,rfl,rfl,w1,rfl,aw,_,_,_,rfl,rfl,w2 _,rfl,q _ g1⟩
 | rest y1 y2 =>
  simp only [E.d] at hu
  obtain ⟨a,xs,rfl,ha,dx0⟩:=hu.open
  obtain ⟨x0,r0,rfl,h0,dx1⟩:=dx0.open
  obtain rfl:=h0.str_inv
  obtain ⟨x1,r1,rfl,h1,dx2⟩:=dx1.open
  obtain ⟨x2,r2,rfl,h2,dx3⟩:=dx2.open
  obtain rfl:=h2.int_inv
  cases dx3
  simp only [By] at hb
  refine ⟨_,rfl,a,_,_,_,rfl,rfl,SqT.of ha,rfl,?_⟩
  refine ⟨_,rfl,(by show 2≤sizeLine; decide),fun p1 hp1=>⟨p1,_,rfl,.inr (SqT.of af),rfl,rfl,_,rfl,?_⟩⟩
  have g1:=ag hp1 (.tup [.str "num",.str "text"])
  refine az (fun c=>absurd c (by decide +kernel)) (fun c=>?_)
  refine ⟨_,rfl,rfl,_,rfl,?_⟩
  refine az (fun c=>absurd c (by decide +kernel)) (fun c=>?_)
  obtain ⟨rfl,rfl⟩:=hb
  obtain ⟨aw,bw,w1,w2,w3⟩:=hB ("rest",(["num"]:List Str), "num") (by decide +kernel)
  refine ⟨_,rfl,_,_,rfl,rfl,w1,_,rfl,bz ?_⟩
  refine ⟨_,rfl,_,rfl,_,_,.ref aw,rfl,rfl,w1,rfl,aw,_,_,_,rfl,rfl,w2 _,rfl,.tuple ((["num"]:List Str).map PyData.str),.tuple ((["num"]:List Str).map PyData.str),.tup (SqT.of (g1 _ _ hit)) (ba _),.tup (w3 _) (ba _),by decide +kernel,by decide +kernel,_,rfl,?_⟩
  refine az (fun c=>?_) (fun c=>absurd (by decide +kernel) c)
  exact ⟨_,rfl,_,_,.ref aw,rfl,rfl,w1,rfl,aw,_,_,_,rfl,rfl,w2 _,rfl,q _ g1⟩
 | len y1 =>
  simp only [E.d] at hu
  obtain ⟨a,xs,rfl,ha,dx0⟩:=hu.open
  obtain ⟨x0,r0,rfl,h0,dx1⟩:=dx0.open
  obtain rfl:=h0.str_inv
  obtain ⟨x1,r1,rfl,h1,dx2⟩:=dx1.open
  cases dx2
  simp only [By] at hb
  refine ⟨_,rfl,a,_,_,_,rfl,rfl,SqT.of ha,rfl,?_⟩
  refine ⟨_,rfl,(by show 2≤sizeLine; decide),fun p1 hp1=>⟨p1,_,rfl,.inr (SqT.of af),rfl,rfl,_,rfl,?_⟩⟩
  have g1:=ag hp1 (.tup [.str "num",.str "text"])
  refine az (fun c=>absurd c (by decide +kernel)) (fun c=>?_)
  refine ⟨_,rfl,rfl,_,rfl,?_⟩
  refine az (fun c=>absurd c (by decide +kernel)) (fun c=>?_)
  refine ⟨_,rfl,_,none,rfl,rfl,hBn "len" (by decide +kernel),_,rfl,bv ?_⟩
  refine ⟨_,rfl,rfl,_,rfl,?_⟩
  refine az (fun c=>?_) (fun c=>absurd (by decide +kernel) c)
  obtain ⟨rfl,hks⟩:=hb
  refine ⟨_,rfl,(by show 1≤sizeLine; decide),fun p2 hp2=>⟨(by show 1≤sizeLine; decide),fun p3 hp3=>⟨(by show 2≤sizeLine; decide),fun p4 hp4=>?_⟩⟩⟩
  have g2:=g1.trans (ag hp2 (.tup [.str "row"]))
  have g3:=ag hp3 (.tup [.str "text"])
  have g4:=ag hp4 (.tup [.ref p2,.ref p3])
  have t2:=g4 _ _ (g3 _ _ (af (H:=L2.upd H p1 (.tup [.str "num",.str "text"])) (o:=.tup [.str "row"]) (a:=p2)))
  refine ⟨p4,p2,p3,.tuple (ks.map PyData.str),.tuple ((["row"]:List Str).map PyData.str),.tuple ((["text"]:List Str).map PyData.str),rfl,SqT.of af,aU af hp3,.tup (SqT.of (g4 _ _ (g3 _ _ (g2 _ _ hit)))) (ba _),.tup (SqT.of t2) (ba ["row"]),.tup (SqT.of (g4 _ _ af)) (ba ["text"]),?_,by decide +kernel,by decide +kernel,?_,_,rfl,?_⟩
  ·rcases hks with rfl | rfl<;>decide +kernel
  ·rcases hks with rfl | rfl<;>decide +kernel
  ·refine az (fun c=>q _ (g2.trans (g3.trans g4))) (fun c=>absurd ?_ c)
   rcases hks with rfl | rfl<;>decide +kernel
 | at_ y1 y2 =>
  simp only [E.d] at hu
  obtain ⟨a,xs,rfl,ha,dx0⟩:=hu.open
  obtain ⟨x0,r0,rfl,h0,dx1⟩:=dx0.open
  obtain rfl:=h0.str_inv
  obtain ⟨x1,r1,rfl,h1,dx2⟩:=dx1.open
  obtain ⟨x2,r2,rfl,h2,dx3⟩:=dx2.open
  cases dx3
  simp only [By] at hb
  refine ⟨_,rfl,a,_,_,_,rfl,rfl,SqT.of ha,rfl,?_⟩
  refine ⟨_,rfl,(by show 2≤sizeLine; decide),fun p1 hp1=>⟨p1,_,rfl,.inr (SqT.of af),rfl,rfl,_,rfl,?_⟩⟩
  have g1:=ag hp1 (.tup [.str "num",.str "text"])
  refine az (fun c=>absurd c (by decide +kernel)) (fun c=>?_)
  refine ⟨_,rfl,rfl,_,rfl,?_⟩
  refine az (fun c=>absurd c (by decide +kernel)) (fun c=>?_)
  refine ⟨_,rfl,_,none,rfl,rfl,hBn "at" (by decide +kernel),_,rfl,bv ?_⟩
  refine ⟨_,rfl,rfl,_,rfl,?_⟩
  refine az (fun c=>absurd c (by decide +kernel)) (fun c=>?_)
  refine ⟨_,rfl,rfl,_,rfl,?_⟩
  refine az (fun c=>?_) (fun c=>absurd (by decide +kernel) c)
  obtain ⟨rfl,hks⟩:=hb
  refine ⟨_,rfl,(by show 2≤sizeLine; decide),fun p2 hp2=>⟨(by show 2≤sizeLine; decide),fun p3 hp3=>⟨(by show 2≤sizeLine; decide),fun p4 hp4=>?_⟩⟩⟩
  have g2:=g1.trans (ag hp2 (.tup [.str "row",.str "num"]))
  have g3:=ag hp3 (.tup [.str "text",.str "num"])
  have g4:=ag hp4 (.tup [.ref p2,.ref p3])
  have t2:=g4 _ _ (g3 _ _ (af (H:=L2.upd H p1 (.tup [.str "num",.str "text"])) (o:=.tup [.str "row",.str "num"]) (a:=p2)))
  refine ⟨p4,p2,p3,.tuple (ks.map PyData.str),.tuple ((["row", "num"]:List Str).map PyData.str),.tuple ((["text", "num"]:List Str).map PyData.str),rfl,SqT.of af,aU af hp3,.tup (SqT.of (g4 _ _ (g3 _ _ (g2 _ _ hit)))) (ba _),.tup (SqT.of t2) (ba ["row", "num"]),.tup (SqT.of (g4 _ _ af)) (ba ["text", "num"]),?_,by decide +kernel,by decide +kernel,?_,_,rfl,?_⟩
  ·rcases hks with rfl | rfl<;>decide +kernel
  ·rcases hks with rfl | rfl<;>decide +kernel
  ·refine az (fun c=>q _ (g2.trans (g3.trans g4))) (fun c=>absurd ?_ c)
   rcases hks with rfl | rfl<;>decide +kernel
 | rows y1 =>
  simp only [E.d] at hu
  obtain ⟨a,xs,rfl,ha,dx0⟩:=hu.open
  obtain ⟨x0,r0,rfl,h0,dx1⟩:=dx0.open
  obtain rfl:=h0.str_inv
  obtain ⟨x1,r1,rfl,h1,dx2⟩:=dx1.open
  cases dx2
  simp only [By] at hb
  refine ⟨_,rfl,a,_,_,_,rfl,rfl,SqT.of ha,rfl,?_⟩
  refine ⟨_,rfl,(by show 2≤sizeLine; decide),fun p1 hp1=>⟨p1,_,rfl,.inr (SqT.of af),rfl,rfl,_,rfl,?_⟩⟩
  have g1:=ag hp1 (.tup [.str "num",.str "text"])
  refine az (fun c=>absurd c (by decide +kernel)) (fun c=>?_)
  refine ⟨_,rfl,rfl,_,rfl,?_⟩
  refine az (fun c=>absurd c (by decide +kernel)) (fun c=>?_)
  refine ⟨_,rfl,_,none,rfl,rfl,hBn "rows" (by decide +kernel),_,rfl,bv ?_⟩
  refine ⟨_,rfl,rfl,_,rfl,?_⟩
  refine az (fun c=>absurd c (by decide +kernel)) (fun c=>?_)
  refine ⟨_,rfl,rfl,_,rfl,?_⟩
  refine az (fun c=>absurd c (by decide +kernel)) (fun c=>?_)
  refine ⟨_,rfl,rfl,_,rfl,?_⟩
  refine az (fun c=>?_) (fun c=>absurd (by decide +kernel) c)
  obtain ⟨rfl,h8,hks⟩:=hb
  refine ⟨_,rfl,it,_,rfl,.inr (SqT.of (g1 _ _ hit)),_,_,rfl,rfl,_,rfl,?_⟩
  refine az (fun c=>?_) (fun c=>absurd (decide_eq_true (by rw [List.length_map]; omega)) c)
  have lk:(ks.map V.str).length≤1000:=by rw [List.length_map]; omega
  refine ⟨_,rfl,it,rfl,⟨_,SqT.of (g1 _ _ hit)⟩,bU (xs:=ks.map V.str) ks.length (by rw [List.length_map]) (by omega) (fun i acc H'=>H'=L2.upd H p1 (.tup [.str "num",.str "text"])∧acc=((ks.take i).map fun _=>true).map V.bl) ⟨rfl,rfl⟩ (fun i acc H' p=>by rw [p.1]; exact SqT.of (g1 _ _ hit)) (fun i acc H' x hi la hx p=>?_) (fun acc H' p la D hD=>?_)⟩
  ·obtain ⟨rfl,rfl⟩:=p
   rw [List.getElem?_map] at hx
   obtain ⟨z,hz,rfl⟩:=Option.map_eq_some_iff.mp hx
   obtain rfl:=hks z (List.mem_of_getElem? hz)
   exact ⟨⟨rfl,rfl⟩,bu ⟨_,rfl,rfl,nxT (by omega) hi la ⟨rfl,by rw [List.take_add_one,hz]; simp⟩⟩⟩
  ·obtain ⟨rfl,rfl⟩:=p
   refine ⟨D,_,rfl,SqL.of af,_,rfl,?_⟩
   have e:(((ks.take ks.length).map fun _=>true).all id)=true:=by simp
   rw [e]
   exact bz (q _ (g1.trans (ag hD _)))
 | put y1 y2 y3 =>
  simp only [E.d] at hu
  obtain ⟨a,xs,rfl,ha,dx0⟩:=hu.open
  obtain ⟨x0,r0,rfl,h0,dx1⟩:=dx0.open
  obtain rfl:=h0.str_inv
  obtain ⟨x1,r1,rfl,h1,dx2⟩:=dx1.open
  obtain ⟨x2,r2,rfl,h2,dx3⟩:=dx2.open
  obtain ⟨x3,r3,rfl,h3,dx4⟩:=dx3.open
  cases dx4
  simp only [By] at hb
  refine ⟨_,rfl,a,_,_,_,rfl,rfl,SqT.of ha,rfl,?_⟩
  refine ⟨_,rfl,(by show 2≤sizeLine; decide),fun p1 hp1=>⟨p1,_,rfl,.inr (SqT.of af),rfl,rfl,_,rfl,?_⟩⟩
  have g1:=ag hp1 (.tup [.str "num",.str "text"])
  refine az (fun c=>absurd c (by decide +kernel)) (fun c=>?_)
  refine ⟨_,rfl,rfl,_,rfl,?_⟩
  refine az (fun c=>absurd c (by decide +kernel)) (fun c=>?_)
  obtain ⟨rfl,rfl⟩:=hb
  obtain ⟨aw,bw,w1,w2,w3⟩:=hB ("put",(["row", "num", "num"]:List Str), "row") (by decide +kernel)
  refine ⟨_,rfl,_,_,rfl,rfl,w1,_,rfl,bz ?_⟩
  refine ⟨_,rfl,_,rfl,_,_,.ref aw,rfl,rfl,w1,rfl,aw,_,_,_,rfl,rfl,w2 _,rfl,.tuple ((["row", "num", "num"]:List Str).map PyData.str),.tuple ((["row", "num", "num"]:List Str).map PyData.str),.tup (SqT.of (g1 _ _ hit)) (ba _),.tup (w3 _) (ba _),by decide +kernel,by decide +kernel,_,rfl,?_⟩
  refine az (fun c=>?_) (fun c=>absurd (by decide +kernel) c)
  exact ⟨_,rfl,_,_,.ref aw,rfl,rfl,w1,rfl,aw,_,_,_,rfl,rfl,w2 _,rfl,q _ g1⟩
 | more y1 y2 =>
  simp only [E.d] at hu
  obtain ⟨a,xs,rfl,ha,dx0⟩:=hu.open
  obtain ⟨x0,r0,rfl,h0,dx1⟩:=dx0.open
  obtain rfl:=h0.str_inv
  obtain ⟨x1,r1,rfl,h1,dx2⟩:=dx1.open
  obtain ⟨x2,r2,rfl,h2,dx3⟩:=dx2.open
  cases dx3
  simp only [By] at hb
  refine ⟨_,rfl,a,_,_,_,rfl,rfl,SqT.of ha,rfl,?_⟩
  refine ⟨_,rfl,(by show 2≤sizeLine; decide),fun p1 hp1=>⟨p1,_,rfl,.inr (SqT.of af),rfl,rfl,_,rfl,?_⟩⟩
  have g1:=ag hp1 (.tup [.str "num",.str "text"])
  refine az (fun c=>absurd c (by decide +kernel)) (fun c=>?_)
  refine ⟨_,rfl,rfl,_,rfl,?_⟩
  refine az (fun c=>absurd c (by decide +kernel)) (fun c=>?_)
  obtain ⟨rfl,rfl⟩:=hb
  obtain ⟨aw,bw,w1,w2,w3⟩:=hB ("more",(["row", "num"]:List Str), "row") (by decide +kernel)
  refine ⟨_,rfl,_,_,rfl,rfl,w1,_,rfl,bz ?_⟩
  refine ⟨_,rfl,_,rfl,_,_,.ref aw,rfl,rfl,w1,rfl,aw,_,_,_,rfl,rfl,w2 _,rfl,.tuple ((["row", "num"]:List Str).map PyData.str),.tuple ((["row", "num"]:List Str).map PyData.str),.tup (SqT.of (g1 _ _ hit)) (ba _),.tup (w3 _) (ba _),by decide +kernel,by decide +kernel,_,rfl,?_⟩
  refine az (fun c=>?_) (fun c=>absurd (by decide +kernel) c)
  exact ⟨_,rfl,_,_,.ref aw,rfl,rfl,w1,rfl,aw,_,_,_,rfl,rfl,w2 _,rfl,q _ g1⟩
 | signs y1 =>
  simp only [E.d] at hu
  obtain ⟨a,xs,rfl,ha,dx0⟩:=hu.open
  obtain ⟨x0,r0,rfl,h0,dx1⟩:=dx0.open
  obtain rfl:=h0.str_inv
  obtain ⟨x1,r1,rfl,h1,dx2⟩:=dx1.open
  cases dx2
  simp only [By] at hb
  refine ⟨_,rfl,a,_,_,_,rfl,rfl,SqT.of ha,rfl,?_⟩
  refine ⟨_,rfl,(by show 2≤sizeLine; decide),fun p1 hp1=>⟨p1,_,rfl,.inr (SqT.of af),rfl,rfl,_,rfl,?_⟩⟩
  have g1:=ag hp1 (.tup [.str "num",.str "text"])
  refine az (fun c=>absurd c (by decide +kernel)) (fun c=>?_)
  refine ⟨_,rfl,rfl,_,rfl,?_⟩
  refine az (fun c=>absurd c (by decide +kernel)) (fun c=>?_)
  obtain ⟨rfl,rfl⟩:=hb
  obtain ⟨aw,bw,w1,w2,w3⟩:=hB ("signs",(["text"]:List Str), "row") (by decide +kernel)
  refine ⟨_,rfl,_,_,rfl,rfl,w1,_,rfl,bz ?_⟩
  refine ⟨_,rfl,_,rfl,_,_,.ref aw,rfl,rfl,w1,rfl,aw,_,_,_,rfl,rfl,w2 _,rfl,.tuple ((["text"]:List Str).map PyData.str),.tuple ((["text"]:List Str).map PyData.str),.tup (SqT.of (g1 _ _ hit)) (ba _),.tup (w3 _) (ba _),by decide +kernel,by decide +kernel,_,rfl,?_⟩
  refine az (fun c=>?_) (fun c=>absurd (by decide +kernel) c)
  exact ⟨_,rfl,_,_,.ref aw,rfl,rfl,w1,rfl,aw,_,_,_,rfl,rfl,w2 _,rfl,q _ g1⟩
end
open PySem L2
theorem mX:∀ {es:List E} {e:E},e∈es→e.d.depth≤PyData.depthAll (E.ds es)
 | a::r,e,h=>by
  simp only [E.ds,PyData.depthAll]
  rcases List.mem_cons.mp h with rfl | h
  ·exact Nat.le_max_left _ _
  ·exact Nat.le_trans (mX h) (Nat.le_max_right _ _)
theorem dep_inner {e e1:E} (h:e1∈inner e):e1.d.depth<e.d.depth:=by
 cases e with
 | num y1 =>
  cases h
 | text y1 =>
  cases h
 | var y1 =>
  cases h
 | of_ y1 y2 =>
  simp only [inner,List.mem_cons,List.not_mem_nil,or_false] at h
  simp only [E.d,PyData.depth,PyData.depthAll]
  subst h
  omega
 | with_ y1 y2 y3 =>
  simp only [inner,List.mem_cons,List.not_mem_nil,or_false] at h
  simp only [E.d,PyData.depth,PyData.depthAll]
  rcases h with rfl | rfl<;>omega
 | new y1 y2 =>
  have:=mX (show e1∈y2 from h)
  simp only [E.d,PyData.depth,PyData.depthAll]
  omega
 | add y1 y2 =>
  simp only [inner,List.mem_cons,List.not_mem_nil,or_false] at h
  simp only [E.d,PyData.depth,PyData.depthAll]
  rcases h with rfl | rfl<;>omega
 | sub y1 y2 =>
  simp only [inner,List.mem_cons,List.not_mem_nil,or_false] at h
  simp only [E.d,PyData.depth,PyData.depthAll]
  rcases h with rfl | rfl<;>omega
 | times y1 y2 =>
  simp only [inner,List.mem_cons,List.not_mem_nil,or_false] at h
  simp only [E.d,PyData.depth,PyData.depthAll]
  subst h
  omega
 | div y1 y2 =>
  simp only [inner,List.mem_cons,List.not_mem_nil,or_false] at h
  simp only [E.d,PyData.depth,PyData.depthAll]
  subst h
  omega
 | rest y1 y2 =>
  simp only [inner,List.mem_cons,List.not_mem_nil,or_false] at h
  simp only [E.d,PyData.depth,PyData.depthAll]
  subst h
  omega
 | len y1 =>
  simp only [inner,List.mem_cons,List.not_mem_nil,or_false] at h
  simp only [E.d,PyData.depth,PyData.depthAll]
  subst h
  omega
 | at_ y1 y2 =>
  simp only [inner,List.mem_cons,List.not_mem_nil,or_false] at h
  simp only [E.d,PyData.depth,PyData.depthAll]
  rcases h with rfl | rfl<;>omega
 | rows y1 =>
  have:=mX (show e1∈y1 from h)
  simp only [E.d,PyData.depth,PyData.depthAll]
  omega
 | put y1 y2 y3 =>
  simp only [inner,List.mem_cons,List.not_mem_nil,or_false] at h
  simp only [E.d,PyData.depth,PyData.depthAll]
  rcases h with rfl | rfl | rfl<;>omega
 | more y1 y2 =>
  simp only [inner,List.mem_cons,List.not_mem_nil,or_false] at h
  simp only [E.d,PyData.depth,PyData.depthAll]
  rcases h with rfl | rfl<;>omega
 | signs y1 =>
  simp only [inner,List.mem_cons,List.not_mem_nil,or_false] at h
  simp only [E.d,PyData.depth,PyData.depthAll]
  subst h
  omega
theorem sO {K:Frag} {H:Hp}:∀ {ys:List V} {es:List E} {i:Nat} {x:V},DTs K H ys (E.ds es)→ys[i]?=some x→∃ e,es[i]?=some e∧DT K H x e.d
 | _,[],i,x,h,q=>by simp only [E.ds] at h; cases h; simp at q
 | _,e::r,0,x,h,q=>by
  simp only [E.ds] at h
  cases h with
  | cons a b=>cases q; exact ⟨e,rfl,a⟩
 | _,e::r,i+1,x,h,q=>by
  simp only [E.ds] at h
  cases h with
  | cons a b=>exact sO (i:=i) b q
theorem oU {t:Addr} {H H1 H':Hp} (h:H t=none) (a:aO H H1) (x:Ext t H1 H'):aO H H':=fun b o q=>x b o (aU q h) (a b o q)
section
variable {P:Program} {w:World} {K:Frag} {mg:Str→Option Value} {base:Heap} {f g:Addr} {fd gd:FuncData}
def ln (K:Frag) (n:Nat):Sp:=fun vs H Q _=>∃ v kk u e R Vs k,vs=[v,.ref kk,u]∧cr H v R∧eg R∧H kk=some (.dK (pP Vs))∧(Vs.map (·.1)).Nodup∧DT K H u (E.d e)∧e.d.depth≤n∧Ok R Vs e k∧∀ H',aO H H'→Q (.str k) H'
abbrev pKi:List Str:=["program", "kinds", "e"]
abbrev wk:List Str:=["program", "kinds", "e", "inner", "one", "kind"]
theorem dG:aK wk ["program", "kinds", "e"] (defScope ff):=⟨rfl,rfl,rfl,by decide +kernel,rfl,by decide +kernel,by decide +kernel⟩
theorem yV {n r:Nat} {spC:Sp} (hrm:r≤n+4) (hR:∀ m,n=m+1→∀ vs H Q E,ln K m vs H Q E→spC vs H Q E) (T:G0 mg) (F:Fun K "kind_in" "kind_in" ff f fd) (D_own_right:Cal P w K mg base 3 "own_right" ["e"] (yY K)) (D_kind_by:Cal P w K mg base 4 "kind_by" ["program", "kinds", "e", "inner"] (BS K)) (D_inner_of:Cal P w K mg base 1 "inner_of" ["shaped"] (lI K)) (D_kind_in:Cal P w K mg base r "kind_in" pKi spC) :
  aV P w K mg base CX0 (n+5) f fd pKi (ln K n):=by
 obtain ⟨g_own_right,gd_own_right,G_own_right,b_own_right,k_own_right,m_own_right⟩:=D_own_right.ex
 obtain ⟨g_kind_by,gd_kind_by,G_kind_by,b_kind_by,k_kind_by,m_kind_by⟩:=D_kind_by.ex
 obtain ⟨g_inner_of,gd_inner_of,G_inner_of,b_inner_of,k_inner_of,m_inner_of⟩:=D_inner_of.ex
 obtain ⟨g_kind_in,gd_kind_in,G_kind_in,b_kind_in,k_kind_in,m_kind_in⟩:=D_kind_in.ex
 refine F.ok dG (fun vs H Q EX h=>?_) (fun cdv A outer s H vs Q EX hr h=>?_)
 ·obtain ⟨v,kk,u,e,R,Vs,k,rfl,_⟩:=h
  rfl
 obtain ⟨v,kk,u,e,R,Vs,k,rfl,hp,hl,hk,hnd,hu,hd,ho,q⟩:=h
 obtain ⟨ks,hks,hb,h8⟩:=Cn hl ho
 have li:=hks.len
 refine ⟨_,(@am _ _ _ _ _ (@aR _ _ 3 _ _ _ _ dG.nd rfl (Or.inl rfl) (@bW _ _ _ _ ah) (aC rfl) (.inr rfl)) (@am _ _ _ _ _ (@cB _ _ _ _ _ _ _ _ PassesOwn.never rfl (dR (@au _ _ _ _ _ _ _ _ _ _ _ _ _ _ _ _ G_inner_of (hr.mono (by omega)) rfl m_inner_of k_inner_of b_inner_of .nil aI (@ad _ _ _ _ _ (pv 2) ah (ac rfl)) (by decide) (ac rfl) (ak rfl))) (aQ (i:=4) dG.nd rfl (Or.inl rfl)) (@am _ _ _ _ _ (@aR _ _ 5 _ _ _ _ dG.nd rfl (Or.inl rfl) (@au _ _ _ _ _ _ _ _ _ _ _ _ _ _ _ _ G_kind_in (hr.mono (by omega)) rfl m_kind_in k_kind_in b_kind_in .nil aI (@ad _ _ _ _ _ (pv 0) (@ad _ _ _ _ _ (pv 1) (@ad _ _ _ _ _ (pv 4) ah (ac rfl)) (ac rfl)) (ac rfl)) (by decide) (ac rfl) (ak rfl)) (aC rfl) (.inr rfl)) (@am _ _ _ _ _ (@aT _ _ _ _ _ _ _ _ (@aD _ _ _ _ _ _ _ _ oo (pv 5) bE (aJ _)) (@ao _ _ _ (@ay _ _ _ _ bE)) aE) (@ao _ _ _ (@fj _ _ _ _ (@lr _ _ _ _ _ _ _ _ _ _ _ _ PySem.F.plainAttrs_list PySem.F.slot_list_append PySem.F.type_list_append kY (pv 3) (@ad _ _ _ _ _ (pv 5) ah (ac rfl)) rfl (fW rfl rfl) rfl (ac rfl) (ak rfl)) (aC rfl))))) (fun _=>rfl)) (@ao _ _ _ (@ay _ _ _ _ (@bO _ _ _ _ _ _ _ _ (aW (@au _ _ _ _ _ _ _ _ _ _ _ _ _ _ _ _ G_own_right (hr.mono (by omega)) rfl m_own_right k_own_right b_own_right .nil aI (@ad _ _ _ _ _ (pv 2) ah (ac rfl)) (by decide) (ac rfl) (ak rfl))) (@au _ _ _ _ _ _ _ _ _ _ _ _ _ _ _ _ G_kind_by (hr.mono (by omega)) rfl m_kind_by k_kind_by b_kind_by .nil aI (@ad _ _ _ _ _ (pv 0) (@ad _ _ _ _ _ (pv 1) (@ad _ _ _ _ _ (pv 2) (@ad _ _ _ _ _ (@fo _ _ _ _ _ _ _ _ _ ko rfl T.tuple bY (@ad _ _ _ _ _ (pv 3) ah (ac rfl)) (by decide) (by decide) (ac rfl) (ak rfl)) ah (ac rfl)) (ac rfl)) (ac rfl)) (ac rfl)) (by decide) (ac rfl) (ak rfl)) bE))))),?_⟩
 refine ⟨(by show 0≤sizeLine; decide),fun il hil=>?_⟩
 have g1:=ag hil (.lst [])
 refine ⟨_,rfl,u,e,rfl,hu.mono (ar g1),by omega,fun r ys H1 gg hr0 hr1 dys=>?_⟩
 have ly:=dys.len
 rw [E.ds_len] at ly
 have hne:r≠il:=(aU (af (H:=H) (a:=il) (o:=.lst [])) hr0).symm
 have i1:H1 il=some (.lst []):=gg _ _ af
 have G1:aO H H1:=g1.trans gg
 refine ⟨r,rfl,⟨ys,SqL.of hr1⟩,xz (xs:=ys) (fun i σ H'=>∃ m4 m5,σ=[some v,some (.ref kk),some u,some (.ref il),m4,m5]∧Ext il H1 H'∧H' il=some (.lst ((ks.take i).map V.str))) ⟨none,none,rfl,Ext.refl _ _,i1⟩ (fun i σ H' _ p=>?_) (fun i x σ H' hx p=>?_) (fun σ H' p=>?_)⟩
 ·obtain ⟨_,_,rfl,x,_⟩:=p
  exact SqL.of (x _ _ hne hr1)
 ·obtain ⟨m4,m5,rfl,x',hi'⟩:=p
  have tk':Tk H1 H':=zp x' i1
  have GH:aO H H':=oU hil G1 x'
  obtain ⟨e1,he1,de1⟩:=sO dys hx
  obtain ⟨k1,hk1,ok1⟩:=hks.at he1
  have dd:=dep_inner (List.mem_of_getElem? he1)
  have hi8:i<ks.length:=(List.getElem?_eq_some_iff.mp hk1).1
  obtain ⟨m,hm⟩:∃ m,n=m+1:=⟨n - 1,by omega⟩
  refine ⟨_,rfl,_,rfl,_,rfl,hR m hm _ _ _ _ ⟨v,kk,x,e1,R,Vs,k1,rfl,hp.mono (ar GH),hl,GH _ _ hk,hnd,de1.mono tk',by omega,ok1,fun H2 g2=>?_⟩⟩
  refine ⟨_,rfl,rfl,_,rfl,?_⟩
  refine az (fun c=>absurd (of_decide_eq_true c) (fun z=>by cases z)) (fun c=>?_)
  refine ⟨_,rfl,.inl ⟨rfl,_,SqL.of (g2 _ _ hi')⟩,_,rfl,il,_,_,rfl,rfl,g2 _ _ hi',?_,?_⟩
  ·rw [List.length_map,List.length_take,sizeLine_eq]; omega
  refine ⟨_,_,rfl,x'.trans ((aO.ext g2).trans Ext.upd),?_⟩
  rw [af,List.take_add_one,hk1,List.map_append]
  rfl
 ·obtain ⟨m4,m5,rfl,x',hi'⟩:=p
  have GH:aO H H':=oU hil G1 x'
  rw [ly,li,List.take_length] at hi'
  refine ⟨_,rfl,u,e,R,Vs,k,rfl,hu.mono (ar GH),ho,fun H3 g3=>⟨_,rfl,bz ?_⟩⟩
  refine ⟨_,rfl,_,rfl,_,rfl,_,rfl,il,_,rfl,.inl ⟨SqL.of (g3 _ _ hi'),fun tp htp=>?_⟩⟩
  have G4:=(GH.trans g3).trans (ag htp (.tup (ks.map V.str)))
  exact ⟨v,kk,u,tp,e,R,Vs,ks,k,rfl,hp.mono (ar G4),hl,G4 _ _ hk,hnd,hu.mono (ar G4),af,hb,fun H' g'=>q _ (G4.trans g')⟩
theorem vY (T:G0 mg) (F:Fun K "kind_in" "kind_in" ff f fd) (b:fF K fd pKi []) (m:mg "kind_in"=some (.ref f)) (D1:Cal P w K mg base 3 "own_right" ["e"] (yY K)) (D2:Cal P w K mg base 4 "kind_by" ["program", "kinds", "e", "inner"] (BS K)) (D3:Cal P w K mg base 1 "inner_of" ["shaped"] (lI K)):∀ n:Nat,aV P w K mg base CX0 (n+5) f fd pKi (ln K n)
 | 0=>yV (r:=1) (spC:=fun _ _ _ _=>False) (by omega) (fun m h=>absurd h (by omega)) T F D1 D2 D3 ⟨f,fd,De (fun _ _ _ _ h=>h),b,F.kp,m⟩
 | n+1=>yV (r:=n+5) (spC:=ln K n) (by omega) (fun m h vs H Q E q=>(Nat.succ.inj h) ▸ q) T F D1 D2 D3 ⟨f,fd,vY T F b m D1 D2 D3 n,b,F.kp,m⟩
end
open PySem L2
def LET:Str:=Str.ofString "abcdefghijklmnopqrstuvwxyz"
def NO:List Str:=["num", "text", "row", "gives", "rounds", "range"]
structure GN (K:Frag) (mg:Str→Option Value):Prop where
 pk:∃ a,mg "PLAIN_KINDS"=some (.ref a)∧∀ H,SqT K H a (PL.map V.str)
 nn:∃ a,mg "NO_NAMES"=some (.ref a)∧∀ H,SqT K H a (NO.map V.str)
 lt:∃ t,mg "LETTERS"=some (.str LET t)
def kH (c:Nat):Bool:=!(Builtin.Str.occurrences LET ⟨#[c]⟩ 0 LET.length 1).isEmpty
def AB (z:Str):Bool:=decide (1≤(z.length:Int))&&decide ((z.length:Int)≤8)&&(!inV (.str z) (NO.map V.str))&&z.cps.toList.all kH
theorem wU:∀ z∈kf,AB z=true:=by decide +kernel
theorem AY:(NO.map V.str).all eF=true:=by decide
theorem wD (z:Str) (i:Nat) (c:Nat) (h:z.cps[i]?=some c):(z.cps.toList.take (i+1)).map kH=(z.cps.toList.take i).map kH++[kH c]:=by
 rw [List.take_add_one,List.map_append]
 have:z.cps.toList[i]?=some c:=by simpa using h
 rw [this]; rfl
section
variable {P:Program} {w:World} {K:Frag} {mg:Str→Option Value} {base:Heap} {f g:Addr} {fd gd:FuncData}
abbrev ka:List Str:=["thing", "least", "most"]
theorem eI:aK ka ["thing", "least", "most"] (defScope bT):=⟨rfl,rfl,rfl,by decide +kernel,rfl,by decide +kernel,by decide +kernel⟩
def zQ:Sp:=fun vs H Q _=>∃ a lo hi xs,vs=[.ref a,.int lo,.int hi]∧H a=some (.tup xs)∧lo≤(xs.length:Int)∧(xs.length:Int)≤hi∧Q (.bl true) H
theorem Av (T:G0 mg) (F:Fun K "is_tuple_of" "is_tuple_of" bT f fd):aV P w K mg base CX0 1 f fd ["thing", "least", "most"] zQ:=by
 refine F.ok eI (fun vs H Q EX h=>?_) (fun cdv A outer s H vs Q EX hr h=>?_)
 ·obtain ⟨a,lo,hi,xs,rfl,_⟩:=h
  rfl
 obtain ⟨a,lo,hi,xs,rfl,ha,h1,h2,q⟩:=h
 refine ⟨_,(@ao _ _ _ (@ay _ _ _ _ (bR (@aF _ _ _ _ _ _ _ _ _ bf rfl T.isi bS (@ad _ _ _ _ _ (pv 0) (@ad _ _ _ _ _ (bp (v:=.ty "tuple") rfl T.tuple bY rfl) ah (ac rfl)) (ac rfl)) (by decide) (by decide) (ac rfl) (ak rfl)) (bH (gH cQ cQ (pv 1) (@aF _ _ _ _ _ _ _ _ _ bi rfl T.len cJ (@ad _ _ _ _ _ (pv 0) ah (ac rfl)) (by decide) (by decide) (ac rfl) (ak rfl)) (pv 2)))))),?_⟩
 refine ⟨_,rfl,_,_,_,true,rfl,.tup ha,rfl,_,rfl,bz ?_⟩
 refine ⟨_,rfl,_,rfl,a,xs,rfl,.inr (SqT.of ha),_,_,rfl,rfl,_,rfl,?_⟩
 refine az (fun c=>?_) (fun c=>absurd (decide_eq_true h1) c)
 refine ⟨_,rfl,_,_,rfl,rfl,?_⟩
 show Q (.bl (decide ((xs.length:Int)≤hi))) H
 rw [decide_eq_true h2]
 exact q
abbrev ie:List Str:=["thing"]
abbrev dF:List Str:=["sign"]
theorem fN:dF.Nodup:=by decide +kernel
theorem jT:aK ie ["thing"] (defScope cu):=⟨rfl,rfl,rfl,by decide +kernel,rfl,by decide +kernel,by decide +kernel⟩
def jI:Sp:=fun vs H Q _=>∃ z,vs=[.str z]∧z∈kf∧∀ H',aO H H'→Q (.bl true) H'
theorem vj (T:G0 mg) (TN:GN K mg) (F:Fun K "is_name" "is_name" cu f fd):aV P w K mg base CX0 1 f fd ["thing"] jI:=by
 refine F.ok jT (fun vs H Q EX h=>?_) (fun cdv A outer s H vs Q EX hr h=>?_)
 ·obtain ⟨z,rfl,_⟩:=h
  rfl
 obtain ⟨z,rfl,hz,q⟩:=h
 obtain ⟨aN,mN,sN⟩:=TN.nn
 obtain ⟨tL,mL⟩:=TN.lt
 have nb:=wU z hz
 unfold AB at nb
 simp only [Bool.and_eq_true] at nb
 obtain ⟨⟨⟨n1,n2⟩,n3⟩,n4⟩:=nb
 have hz8:z.length≤8:=by have:=of_decide_eq_true n2; omega
 refine ⟨_,(@am _ _ _ _ _ (@aT _ _ _ _ _ _ _ _ (PW.pt (bK (bc (aW (@aF _ _ _ _ _ _ _ _ _ bf rfl T.isi bS (@ad _ _ _ _ _ (pv 0) (@ad _ _ _ _ _ (bp (v:=.ty "str") rfl T.str ir rfl) ah (ac rfl)) (ac rfl)) (by decide) (by decide) (ac rfl) (ak rfl)))) (bP (bc (pJ cQ cQ aj (@aF _ _ _ _ _ _ _ _ _ du rfl T.len cJ (@ad _ _ _ _ _ (pv 0) ah (ac rfl)) (by decide) (by decide) (ac rfl) (ak rfl)) aj))))) (@ao _ _ _ (@ay _ _ _ _ bo)) aE) (@ao _ _ _ (@ay _ _ _ _ (bR (@bC _ _ _ _ _ _ _ _ dI (pv 0) (aX (v:=.ref aN) rfl mN rfl) rfl) (bH (@aF _ _ _ _ _ _ _ _ _ (cy rfl) rfl T.all iE (@ad _ _ _ _ _ (bt (N':=dF) (ρ:=[none]) (m:=1) (bF.of (fs:=defScope cu) (N:=ie) rfl rfl (by decide +kernel)) rfl (mU (pv 0)) (fun _ _ _ _=>(aQ (i:=0) fN rfl (Or.inl rfl))) (fun _ _ _ _=>bq) (fun _ _ _ _=>(bC lc (pv 0) (aX (v:=.str LET) rfl mL ⟨tL,rfl⟩) rfl))) ah (ac rfl)) (by decide) (by decide) (ac rfl) (ak rfl))))))),?_⟩
 have hz':z.length≤sizeLine:=by rw [sizeLine_eq]; omega
 refine ⟨_,rfl,_,_,_,true,rfl,.str z,rfl,_,rfl,bv ?_⟩
 refine ⟨_,rfl,z,rfl,hz',_,_,rfl,rfl,_,rfl,?_⟩
 refine az (fun c1=>?_) (fun c1=>absurd n1 c1)
 refine ⟨_,_,rfl,rfl,_,rfl,?_⟩
 refine az (fun c2=>absurd c2 (by rw [n2]; decide)) (fun c2=>?_)
 refine ⟨_,rfl,aN,_,rfl,.inr (sN _),rfl,AY,_,rfl,?_⟩
 refine az (fun c3=>?_) (fun c3=>absurd n3 c3)
 refine ⟨_,rfl,z,rfl,oP z.cps.size rfl (by show z.length≤_; omega) (fun i acc H'=>H'=H∧acc=((z.cps.toList.take i).map kH).map V.bl) ⟨rfl,rfl⟩ (fun i acc H' c hi la hc p=>?_) (fun acc H' p la D hD=>?_)⟩
 ·obtain ⟨rfl,rfl⟩:=p
  refine ⟨⟨rfl,rfl⟩,bu ?_⟩
  refine ⟨_,rfl,_,_,rfl,rfl,nxT (by show z.length≤_; omega) hi la ⟨rfl,?_⟩⟩
  rw [wD z i c hc,List.map_append]
  rfl
 ·obtain ⟨rfl,rfl⟩:=p
  have e:((z.cps.toList.take z.cps.size).map kH).all id=true:=by
   rw [← Array.length_toList,List.take_length,List.all_map]
   exact n4
  refine ⟨D,_,rfl,SqL.of af,?_⟩
  rw [e]
  exact q _ (ag hD _)
abbrev lD:List Str:=["records", "thing"]
abbrev gL:List Str:=["record"]
theorem kl:gL.Nodup:=by decide +kernel
theorem ue:aK lD ["records", "thing"] (defScope fh):=⟨rfl,rfl,rfl,by decide +kernel,rfl,by decide +kernel,by decide +kernel⟩
def jo:Sp:=fun vs H Q _=>∃ ra rx R k,vs=[.ref ra,.str k]∧H ra=some (.tup rx)∧Paired (fA H) rx R∧R.length≤10∧k∈KS R∧∀ H',aO H H'→Q (.bl true) H'
theorem oy {k:Str} {l:List Str}:inV (.str k) (l.map V.str)=decide (k∈l):=by
 induction l with
 | nil=>rfl
 | cons a r ih =>
  have e:inV (.str k) ((a::r).map V.str)=((a==k)||inV (.str k) (r.map V.str)):=rfl
  rw [e,ih,Bool.eq_iff_iff]
  simp only [Bool.or_eq_true,beq_iff_eq,decide_eq_true_eq,List.mem_cons]
  constructor
  ·rintro (h | h)
   ·exact .inl h.symm
   ·exact .inr h
  ·rintro (h | h)
   ·exact .inl h.symm
   ·exact .inr h
theorem gw (l:List Str):(l.map V.str).all eF=true:=by
 rw [List.all_map]
 exact List.all_eq_true.mpr fun x _=>rfl
theorem wj (T:G0 mg) (TN:GN K mg) (F:Fun K "is_kind" "is_kind" fh f fd):aV P w K mg base CX0 1 f fd ["records", "thing"] jo:=by
 refine F.ok ue (fun vs H Q EX h=>?_) (fun cdv A outer s H vs Q EX hr h=>?_)
 ·obtain ⟨ra,rx,R,k,rfl,_⟩:=h
  rfl
 obtain ⟨ra,rx,R,k,rfl,hra,pR,hl,hk,q⟩:=h
 obtain ⟨aP,mP,sP⟩:=TN.pk
 have lR:=Paired.length pR
 refine ⟨_,(@ao _ _ _ (@ay _ _ _ _ (bR (@aF _ _ _ _ _ _ _ _ _ bf rfl T.isi bS (@ad _ _ _ _ _ (pv 1) (@ad _ _ _ _ _ (bp (v:=.ty "str") rfl T.str ir rfl) ah (ac rfl)) (ac rfl)) (by decide) (by decide) (ac rfl) (ak rfl)) (bH (yj (@bC _ _ _ _ _ _ _ _ cg (pv 1) (aX (v:=.ref aP) rfl mP rfl) rfl) (bH (@bC _ _ _ _ _ _ _ _ cg (pv 1) (bt (N':=gL) (ρ:=[none]) (m:=1) (bF.of (fs:=defScope fh) (N:=lD) rfl rfl (by decide +kernel)) rfl (ca (pv 0)) (fun _ _ _ _=>(aQ (i:=0) kl rfl (Or.inl rfl))) (fun _ _ _ _=>bq) (fun _ _ _ _=>(aA (dU (K:=K) rfl) (pv 0) aj (fun _ _=>rfl)))) rfl))))))),?_⟩
 refine ⟨_,rfl,_,_,_,true,rfl,.str k,rfl,_,rfl,bz ?_⟩
 refine ⟨_,rfl,aP,_,rfl,.inr (sP _),rfl,Bk,_,rfl,?_⟩
 refine az (fun c=>?_) (fun c=>?_)
 ·exact q _ (aO.refl _)
 ·have hk2:k∈R.map (·.1):=by
   rcases List.mem_append.mp hk with h | h
   ·exact absurd (by show inV (.str k) (PL.map V.str)=true; rw [oy]; exact decide_eq_true h) c
   ·exact h
  refine ⟨_,rfl,_,rfl,ra,rfl,⟨rx,SqT.of hra⟩,bU (xs:=rx) rx.length rfl (by omega) (fun i acc H'=>H'=H∧acc=((R.take i).map (·.1)).map V.str) ⟨rfl,rfl⟩ (fun i acc H' p=>by rw [p.1]; exact SqT.of hra) (fun i acc H' x hi la hx p=>?_) (fun acc H' p la D hD=>?_)⟩
  ·obtain ⟨rfl,rfl⟩:=p
   obtain ⟨r,hr',c,y,rfl,hc,hf⟩:=bI pR i x hx
   refine ⟨⟨rfl,rfl⟩,bu ⟨_,rfl,c,_,_,_,rfl,rfl,SqT.of hc,rfl,nxT (by omega) hi la ⟨rfl,?_⟩⟩⟩
   rw [List.take_add_one,hr',List.map_append,List.map_append]
   rfl
  ·obtain ⟨rfl,rfl⟩:=p
   rw [lR,List.take_length]
   refine ⟨D,_,rfl,.inl (SqL.of af),rfl,gw _,?_⟩
   show Q (.bl (inV (.str k) ((R.map (·.1)).map V.str))) _
   rw [oy,decide_eq_true hk2]
   exact q _ (ag hD _)
end
end K6
namespace L2
open PySem PySem.Spec PyProof.Rows
section
variable {X:Cx} {o e:Expr} {apos cpos:Pos} {td ty:TE}
theorem kW {a:Addr} (h:KDv X.K X.w a):OpR X (compareOp .NotIn) (fun x y H Q=>∃ z r,x=.str z∧y=.ref a∧PySem.W.nsIn X.K a z=some r∧Q (.bl (!r.isSome)) H):=by
 intro pins s σ H x y v u Q I rx ry hh
 obtain ⟨z,r,rfl,rfl,e,q⟩:=hh
 obtain ⟨t,rfl⟩:=rx
 cases ry
 obtain ⟨es,n,hl,hk⟩:=h.ex
 have mo:=PySem.W.mapOf_K (prog:=X.prog) (w:=X.w) I.kIn hl hk
 refine wpAny_notIn_of (strKind_is X.prog X.w z t) h.lo mo ⟨.bl (!r.isSome),H,I.tok _,?_,q⟩
 rw [PySem.W.find_K hl e]
 rfl
def CU (K:Frag) (a:Addr) (td ty:TE):TE:=fun σ H Q=>td σ H fun x H1=>x=.ref a∧ty σ H1 fun y H2=>∃ z u v,y=.str z∧PySem.W.nsIn K a z=some (some u)∧bh v u∧Q v H2
theorem vS {a:Addr} (h:KDv X.K X.w a) (ho:PE X o td) (he:PE X e ty) (m:M1 X o "get" apos e cpos):PE X (.Call (.Attribute o "get" apos) [e] [] cpos) (CU X.K a td ty):=by
 intro pins s σ H Q I q
 refine wpAny_Call_method m.base m.few m.line PySem.F.plainAttrs_dict PySem.F.slot_dict_get PySem.F.type_dict_get (thn (ho pins s σ H _ I q) fun u s1 ⟨x,H1,I1,rx,ex,q1⟩=>?_)
 subst ex
 obtain rfl:u=Value.ref a:=rx
 obtain ⟨es,n,hl,hk⟩:=h.ex
 have mo1:=PySem.W.mapOf_K (prog:=X.prog) (w:=X.w) I1.kIn hl hk
 refine ⟨mo1.typeIs,fun b eb=>?_,?_⟩
 ·cases eb
  exact ⟨_,I1.kIn _ _ hl,rfl⟩
 rw [m.trees]
 refine Calls.callWith_builtin rfl (Calls.evalArgs_plain (Calls.spliced_cons (thn (he pins s1 σ H1 _ I1 q1) fun iv s2 ⟨y,H2,I2,ry,z,u',v',ey,en,rv,q2⟩=>Calls.spliced_nil ?_)))
 subst ey
 obtain ⟨t,rfl⟩:=ry
 have mo:=PySem.W.mapOf_K (prog:=X.prog) (w:=X.w) I2.kIn hl hk
 refine call_meetsIn PySem.F.slot_dict_get mo.typeIs PySem.F.entry_dict_get (PySem.F.args_dict_get_2 _ _) (meets_dict_get (strKind X.prog X.w) a (strKind_is X.prog X.w z t) h.lo) ⟨_,mo,⟨v',H2,I2.tok _,?_,q2⟩⟩
 rw [PySem.W.find_K hl en]
 exact rv
end
end L2
namespace K6
open PySem L2
def SH4:List (Str×Str×Int):=[("let", "statement",3),("say", "statement",3),("if", "statement",4),("while", "statement",3),("call", "statement",4),("give", "statement",2),("num", "expression",2),("text", "expression",2),("var", "expression",2),("of", "expression",3),("with", "expression",4),("new", "expression",3),("add", "expression",3),("sub", "expression",3),("times", "expression",3),("div", "expression",3),("rest", "expression",3),("len", "expression",2),("at", "expression",3),("rows", "expression",2),("put", "expression",4),("more", "expression",3),("signs", "expression",2),("less", "condition",3),("same", "condition",3),("and", "condition",3),("or", "condition",3),("not", "condition",2)]
def LIT:List (Str×Int):=[("call",3),("new",2),("rows",1)]
structure GS (K:Frag) (w:World) (mg:Str→Option Value):Prop where
 sh:∃ aS,mg "SHAPES"=some (.ref aS)∧KDv K w aS∧∀ p∈SH4,∃ a b,PySem.W.nsIn K aS p.1=some (some (.ref a))∧∀ H,SqT K H a [.str p.2.1,.int p.2.2,.ref b]
 li:∃ aL,mg "LISTED"=some (.ref aL)∧KDv K w aL∧(∀ p∈LIT,∃ t,PySem.W.nsIn K aL p.1=some (some (.int p.2 t)))∧∀ p∈SH4,(∀ q∈LIT,q.1≠p.1)→PySem.W.nsIn K aL p.1=some none
section
variable {P:Program} {w:World} {K:Frag} {mg:Str→Option Value} {base:Heap} {f g:Addr} {fd gd:FuncData}
abbrev pT:List Str:=["thing", "sort", "shape"]
theorem cG:aK pT ["thing", "sort"] (defScope cA):=⟨rfl,rfl,rfl,by decide +kernel,rfl,by decide +kernel,by decide +kernel⟩
def gu:Sp:=fun vs H Q _=>∃ a z rs so,vs=[.ref a,.str so]∧H a=some (.tup (.str z::rs))∧(z,so,((rs.length+1:Nat):Int))∈SH4∧((∀ q∈LIT,q.1≠z)∨∃ i al ys,(z,i)∈LIT∧atI (.str z::rs) i=some (.ref al)∧H al=some (.tup ys))∧Q (.bl true) H
theorem kN (T:G0 mg) (TS:GS K w mg) (F:Fun K "is_shaped" "is_shaped" cA f fd):aV P w K mg base CX0 1 f fd ["thing", "sort"] gu:=by
 obtain ⟨aS,mS_,kS,hS⟩:=TS.sh
 obtain ⟨aL,mL,kL,hLs,hLn⟩:=TS.li
 refine F.ok cG (fun vs H Q EX h=>?_) (fun cdv A outer s H vs Q EX hr h=>?_)
 ·obtain ⟨a,z,rs,so,rfl,_⟩:=h
  rfl
 obtain ⟨a,z,rs,so,rfl,ha,hm,hli,q⟩:=h
 obtain ⟨b,c,g1,g2⟩:=hS _ hm
 refine ⟨_,(@am _ _ _ _ _ (@aT _ _ _ _ _ _ _ _ (PW.pt (bK (bc (aW (@aF _ _ _ _ _ _ _ _ _ bf rfl T.isi bS (@ad _ _ _ _ _ (pv 0) (@ad _ _ _ _ _ (bp (v:=.ty "tuple") rfl T.tuple bY rfl) ah (ac rfl)) (ac rfl)) (by decide) (by decide) (ac rfl) (ak rfl)))) (bK (@aD _ _ _ _ _ _ _ _ bA (@aF _ _ _ _ _ _ _ _ _ bi rfl T.len cJ (@ad _ _ _ _ _ (pv 0) ah (ac rfl)) (by decide) (by decide) (ac rfl) (ak rfl)) aj (aJ _)) (bP (bc (aW (@aF _ _ _ _ _ _ _ _ _ bf rfl T.isi bS (@ad _ _ _ _ _ (@aA _ _ _ _ _ _ _ av (pv 0) aj (fun _ _=>rfl)) (@ad _ _ _ _ _ (bp (v:=.ty "str") rfl T.str ir rfl) ah (ac rfl)) (ac rfl)) (by decide) (by decide) (ac rfl) (ak rfl)))))))) (@ao _ _ _ (@ay _ _ _ _ bo)) aE) (@am _ _ _ _ _ (@aR _ _ 2 _ _ _ _ cG.nd rfl (Or.inl rfl) (vS kS (aX (v:=.ref aS) rfl mS_ rfl) (@aA _ _ _ _ _ _ _ av (pv 0) aj (fun _ _=>rfl)) ⟨rfl,rfl,rfl,rfl⟩) (aC rfl) (.inr rfl)) (@am _ _ _ _ _ (@aT _ _ _ _ _ _ _ _ (PW.pt (bK (@aD _ _ _ _ _ _ _ _ oo (pv 2) bE (aJ _)) (bK (@aD _ _ _ _ _ _ _ _ lj (@aA _ _ _ _ _ _ _ av (pv 2) aj (fun _ _=>rfl)) (pv 1) (aJ _)) (bP (@aD _ _ _ _ _ _ _ _ lj (@aA _ _ _ _ _ _ _ av (pv 2) aj (fun _ _=>rfl)) (@aF _ _ _ _ _ _ _ _ _ bi rfl T.len cJ (@ad _ _ _ _ _ (pv 0) ah (ac rfl)) (by decide) (by decide) (ac rfl) (ak rfl)) (aJ _)))))) (@ao _ _ _ (@ay _ _ _ _ bo)) aE) (@ao _ _ _ (@ay _ _ _ _ (yj (@bC _ _ _ _ _ _ _ _ (kW kL) (@aA _ _ _ _ _ _ _ av (pv 0) aj (fun _ _=>rfl)) (aX (v:=.ref aL) rfl mL rfl) rfl) (bH (@aF _ _ _ _ _ _ _ _ _ bf rfl T.isi bS (@ad _ _ _ _ _ (@aA _ _ _ _ _ _ _ av (pv 0) (@aA _ _ _ _ _ _ _ (wE kL) (aX (v:=.ref aL) rfl mL rfl) (@aA _ _ _ _ _ _ _ av (pv 0) aj (fun _ _=>rfl)) (fun _ _=>rfl)) (fun _ _=>rfl)) (@ad _ _ _ _ _ (bp (v:=.ty "tuple") rfl T.tuple bY rfl) ah (ac rfl)) (ac rfl)) (by decide) (by decide) (ac rfl) (ak rfl))))))))),?_⟩
 refine ⟨_,rfl,_,_,_,true,rfl,.tup ha,rfl,_,rfl,bv ?_⟩
 refine ⟨_,rfl,a,_,rfl,.inr (SqT.of ha),rfl,_,rfl,?_⟩
 refine az (fun c=>absurd (V.int.inj (of_decide_eq_true c)) (by rw [List.length_cons]; omega)) (fun c=>?_)
 refine ⟨_,rfl,a,_,_,_,rfl,rfl,SqT.of ha,at0 _ _,_,_,_,true,rfl,.str z,rfl,_,rfl,bv ?_⟩
 refine ⟨rfl,_,rfl,a,_,_,_,rfl,rfl,SqT.of ha,at0 _ _,z,.ref b,.ref b,rfl,g1,rfl,?_⟩
 refine ⟨_,rfl,rfl,_,rfl,bv ?_⟩
 refine ⟨_,rfl,b,_,_,_,rfl,rfl,g2 _,rfl,_,rfl,rfl,_,rfl,?_⟩
 refine az (fun c=>absurd c (by simp)) (fun c=>?_)
 refine ⟨_,rfl,b,_,_,_,rfl,rfl,g2 _,rfl,_,rfl,a,_,rfl,.inr (SqT.of ha),rfl,_,rfl,?_⟩
 refine az (fun c=>absurd c (by simp)) (fun c=>?_)
 rcases hli with hl | ⟨i,al,ys,hi,hat,hal⟩
 ·have hn:=hLn _ hm hl
  refine ⟨_,rfl,a,_,_,_,rfl,rfl,SqT.of ha,at0 _ _,z,none,rfl,rfl,hn,_,rfl,bz ?_⟩
  exact q
 ·obtain ⟨t,ht⟩:=hLs _ hi
  refine ⟨_,rfl,a,_,_,_,rfl,rfl,SqT.of ha,at0 _ _,z,_,rfl,rfl,ht,_,rfl,bv ?_⟩
  refine ⟨_,rfl,_,rfl,a,_,_,_,rfl,rfl,SqT.of ha,at0 _ _,z,.int i t,.int i,rfl,rfl,ht,⟨_,rfl⟩,a,_,_,_,rfl,rfl,SqT.of ha,hat,_,_,_,true,rfl,.tup hal,rfl,?_⟩
  exact q
abbrev iz:List Str:=["records", "thing", "least", "most", "pair"]
abbrev eh:List Str:=["pair"]
theorem iH:eh.Nodup:=by decide +kernel
theorem gP:aK iz ["records", "thing", "least", "most"] (defScope cP):=⟨rfl,rfl,rfl,by decide +kernel,rfl,by decide +kernel,by decide +kernel⟩
def Ah:Sp:=fun vs H Q _=>∃ ra rx R fa fx fs lo hi,vs=[.ref ra,.ref fa,.int lo,.int hi]∧H ra=some (.tup rx)∧Paired (fA H) rx R∧R.length≤10∧H fa=some (.tup fx)∧Paired (eR H) fx fs∧lo≤(fs.length:Int)∧(fs.length:Int)≤hi∧fs.length≤10∧(∀ p∈fs,p.1∈kf∧p.2∈KS R)∧(fs.map (·.1)).Nodup∧∀ H',aO H H'→Q (.bl true) H'
theorem AV (T:G0 mg) (TS:mg "set"=none) (F:Fun K "are_named" "are_named" cP f fd) (D_is_tuple_of:Cal P w K mg base 1 "is_tuple_of" ["thing", "least", "most"] zQ) (D_is_name:Cal P w K mg base 1 "is_name" ["thing"] jI) (D_is_kind:Cal P w K mg base 1 "is_kind" ["records", "thing"] jo):aV P w K mg base CX0 2 f fd ["records", "thing", "least", "most"] Ah:=by
 obtain ⟨g_is_kind,gd_is_kind,G_is_kind,b_is_kind,k_is_kind,m_is_kind⟩:=D_is_kind.ex
 obtain ⟨g_is_name,gd_is_name,G_is_name,b_is_name,k_is_name,m_is_name⟩:=D_is_name.ex
 obtain ⟨g_is_tuple_of,gd_is_tuple_of,G_is_tuple_of,b_is_tuple_of,k_is_tuple_of,m_is_tuple_of⟩:=D_is_tuple_of.ex
 refine F.ok gP (fun vs H Q EX h=>?_) (fun cdv A outer s H vs Q EX hr h=>?_)
 ·obtain ⟨ra,rx,R,fa,fx,fs,lo,hi,rfl,_⟩:=h
  rfl
 obtain ⟨ra,rx,R,fa,fx,fs,lo,hi,rfl,hra,pR,lR,hfa,pF,h1,h2,l10,hok,hnd,q⟩:=h
 have lF:=Paired.length pF
 refine ⟨_,(@am _ _ _ _ _ (@aT _ _ _ _ _ _ _ _ (bc (aW (@au _ _ _ _ _ _ _ _ _ _ _ _ _ _ _ _ G_is_tuple_of (hr.mono (by omega)) rfl m_is_tuple_of k_is_tuple_of b_is_tuple_of .nil aI (@ad _ _ _ _ _ (pv 1) (@ad _ _ _ _ _ (pv 2) (@ad _ _ _ _ _ (pv 3) ah (ac rfl)) (ac rfl)) (ac rfl)) (by decide) (ac rfl) (ak rfl)))) (@ao _ _ _ (@ay _ _ _ _ bo)) aE) (@am _ _ _ _ _ (@cB _ _ _ _ _ _ _ _ PassesOwn.never rfl (ca (pv 1)) (aQ (i:=4) gP.nd rfl (Or.inl rfl)) (@ao _ _ _ (@aT _ _ _ _ _ _ _ _ (PW.pt (bK (bc (aW (@au _ _ _ _ _ _ _ _ _ _ _ _ _ _ _ _ G_is_tuple_of (hr.mono (by omega)) rfl m_is_tuple_of k_is_tuple_of b_is_tuple_of .nil aI (@ad _ _ _ _ _ (pv 4) (@ad _ _ _ _ _ aj (@ad _ _ _ _ _ aj ah (ac rfl)) (ac rfl)) (ac rfl)) (by decide) (ac rfl) (ak rfl)))) (bK (bc (aW (@au _ _ _ _ _ _ _ _ _ _ _ _ _ _ _ _ G_is_name (hr.mono (by omega)) rfl m_is_name k_is_name b_is_name .nil aI (@ad _ _ _ _ _ (@aA _ _ _ _ _ _ _ av (pv 4) aj (fun _ _=>rfl)) ah (ac rfl)) (by decide) (ac rfl) (ak rfl)))) (bP (bc (aW (@au _ _ _ _ _ _ _ _ _ _ _ _ _ _ _ _ G_is_kind (hr.mono (by omega)) rfl m_is_kind k_is_kind b_is_kind .nil aI (@ad _ _ _ _ _ (pv 0) (@ad _ _ _ _ _ (@aA _ _ _ _ _ _ _ av (pv 4) aj (fun _ _=>rfl)) ah (ac rfl)) (ac rfl)) (by decide) (ac rfl) (ak rfl)))))))) (@ao _ _ _ (@ay _ _ _ _ bo)) aE)) (fun _=>rfl)) (@ao _ _ _ (@ay _ _ _ _ (@bC _ _ _ _ _ _ _ _ bA (kF rfl rfl T.len rfl TS (bt (N':=eh) (ρ:=[none]) (m:=1) (bF.of (fs:=defScope cP) (N:=iz) rfl rfl (by decide +kernel)) rfl (ca (pv 1)) (fun _ _ _ _=>(aQ (i:=0) iH rfl (Or.inl rfl))) (fun _ _ _ _=>bq) (fun _ _ _ _=>(aA (dU (K:=K) rfl) (pv 0) aj (fun _ _=>rfl))))) (@aF _ _ _ _ _ _ _ _ _ bi rfl T.len cJ (@ad _ _ _ _ _ (pv 1) ah (ac rfl)) (by decide) (by decide) (ac rfl) (ak rfl)) (aJ _)))))),?_⟩
 refine ⟨_,rfl,_,rfl,_,rfl,fa,lo,hi,fx,rfl,hfa,by rw [lF]; exact h1,by rw [lF]; exact h2,_,rfl,bv ?_⟩
 refine ⟨_,rfl,fa,rfl,⟨fx,SqT.of hfa⟩,iW (xs:=fx) (fun i σ H'=>∃ m4,σ=[some (.ref ra),some (.ref fa),some (.int lo),some (.int hi),m4]∧aO H H') ⟨none,rfl,aO.refl _⟩ (fun i σ H' _ p=>?_) (fun i x σ H' hx p=>?_) (fun σ H' p=>?_)⟩
 ·obtain ⟨_,rfl,g⟩:=p
  exact SqT.of (g _ _ hfa)
 ·obtain ⟨m4,rfl,g⟩:=p
  obtain ⟨p,hp,c,rfl,hc⟩:=bI pF i x hx
  obtain ⟨o1,o2⟩:=hok p (List.mem_of_getElem? hp)
  have hc':=g _ _ hc
  refine ⟨_,rfl,c,2,2,_,rfl,hc',by simp,by simp,_,rfl,bv ?_⟩
  refine ⟨_,rfl,c,_,_,_,rfl,rfl,SqT.of hc',rfl,p.1,rfl,o1,fun H2 g2=>⟨_,rfl,bv ?_⟩⟩
  refine ⟨_,rfl,_,rfl,c,_,_,_,rfl,rfl,SqT.of (g2 _ _ hc'),rfl,ra,rx,R,p.2,rfl,g2 _ _ (g _ _ hra),Paired.mapP pR fun _ _ z=>fA.mono (ar (g.trans g2)) z,lR,o2,fun H3 g3=>⟨_,rfl,bv ?_⟩⟩
  exact ⟨_,rfl,(g.trans g2).trans g3⟩
 ·obtain ⟨m4,rfl,g⟩:=p
  refine ⟨_,rfl,fa,rfl,⟨fx,SqT.of (g _ _ hfa)⟩,bU (xs:=fx) fx.length rfl (by omega) (fun i acc H2=>H2=H'∧acc=((fs.take i).map (·.1)).map V.str) ⟨rfl,rfl⟩ (fun i acc H2 p=>by rw [p.1]; exact SqT.of (g _ _ hfa)) (fun i acc H2 x hi la hx p=>?_) (fun acc H2 p la D hD=>?_)⟩
  ·obtain ⟨rfl,rfl⟩:=p
   obtain ⟨p,hp,c,rfl,hc⟩:=bI pF i x hx
   refine ⟨⟨rfl,rfl⟩,bu ⟨_,rfl,c,_,_,_,rfl,rfl,SqT.of (g _ _ hc),rfl,nxT (by omega) hi la ⟨rfl,?_⟩⟩⟩
   rw [List.take_add_one,hp,List.map_append,List.map_append]
   rfl
  ·obtain ⟨rfl,rfl⟩:=p
   rw [lF,List.take_length]
   refine ⟨D,fs.map (·.1),rfl,SqL.of af,hnd,by rw [List.length_map]; omega,_,rfl,fa,fx,rfl,.inr (SqT.of (ag hD _ _ _ (g _ _ hfa))),rfl,?_⟩
   have e:decide (V.int (((fs.map (·.1)).length:Nat):Int)=V.int ((fx.length:Nat):Int))=true:=decide_eq_true (by rw [List.length_map,lF])
   show Q (.bl (decide _)) _
   rw [e]
   exact q _ (g.trans (ag hD _))
end
open PySem L2
def PLC:List (Str×List Int):=[("num",[]),("text",[]),("var",[]),("of",[1]),("with",[1,3]),("add",[1,2]),("sub",[1,2]),("times",[2]),("div",[1]),("rest",[1]),("len",[1]),("at",[1,2]),("put",[1,2,3]),("more",[1,2]),("signs",[1]),("less",[1,2]),("same",[1,2]),("and",[1,2]),("or",[1,2]),("not",[1])]
structure GP (K:Frag) (w:World) (mg:Str→Option Value):Prop where
 sh:∃ aS,mg "SHAPES"=some (.ref aS)∧KDv K w aS∧∀ p∈PLC,∃ a b s n,PySem.W.nsIn K aS p.1=some (some (.ref a))∧(∀ H,SqT K H a [.str s,.int n,.ref b])∧∀ H,SqT K H b (p.2.map V.int)
 li:∃ aL,mg "LISTED"=some (.ref aL)∧KDv K w aL∧(∀ p∈LIT,∃ t,PySem.W.nsIn K aL p.1=some (some (.int p.2 t)))∧∀ p∈PLC,PySem.W.nsIn K aL p.1=some none
theorem nz {K:Frag} {H:Hp} {u:V} {e:E} (h:DT K H u (E.d e)):∃ a z rs,u=.ref a∧H a=some (.tup (.str z::rs))∧(z,("expression":Str),((rs.length+1:Nat):Int))∈SH4 ∧
  (((∀ q∈LIT,q.1≠z)∧∃ (ps:List Int) (L:List V),(z,ps)∈PLC∧ps.length≤10∧L.length=ps.length∧(∀ (i:Nat) (p:Int),ps[i]?=some p→∃ y,atI (.str z::rs) p=some y∧L[i]?=some y)∧DTs K H L (E.ds (inner e))) ∨
   (∃ p al ys,(z,p)∈LIT∧atI (.str z::rs) p=some (.ref al)∧H al=some (.tup ys)∧DTs K H ys (E.ds (inner e))))∧cD (E.d e)=1+cDs (E.ds (inner e)):=by
 cases e with
 | num y1 =>
  simp only [E.d] at h ⊢
  obtain ⟨a,xs,rfl,ha,dx0⟩:=h.open
  obtain ⟨x0,r0,rfl,h0,dx1⟩:=dx0.open
  obtain rfl:=h0.str_inv
  obtain ⟨x1,r1,rfl,h1,dx2⟩:=dx1.open
  cases dx2
  exact ⟨a,_,_,rfl,ha,(show (("num":Str),("expression":Str),(2:Int))∈SH4 by decide +kernel),.inl ⟨by decide +kernel,[],[],by decide +kernel,by decide,rfl,fun i p h=>match i,h with | n,h=>by simp at h,by simp only [inner,E.ds]; exact .nil⟩,by simp [cD,cDs,isS,inner,E.ds]⟩
 | text y1 =>
  simp only [E.d] at h ⊢
  obtain ⟨a,xs,rfl,ha,dx0⟩:=h.open
  obtain ⟨x0,r0,rfl,h0,dx1⟩:=dx0.open
  obtain rfl:=h0.str_inv
  obtain ⟨x1,r1,rfl,h1,dx2⟩:=dx1.open
  cases dx2
  exact ⟨a,_,_,rfl,ha,(show (("text":Str),("expression":Str),(2:Int))∈SH4 by decide +kernel),.inl ⟨by decide +kernel,[],[],by decide +kernel,by decide,rfl,fun i p h=>match i,h with | n,h=>by simp at h,by simp only [inner,E.ds]; exact .nil⟩,by simp [cD,cDs,isS,inner,E.ds]⟩
 | var y1 =>
  simp only [E.d] at h ⊢
  obtain ⟨a,xs,rfl,ha,dx0⟩:=h.open
  obtain ⟨x0,r0,rfl,h0,dx1⟩:=dx0.open
  obtain rfl:=h0.str_inv
  obtain ⟨x1,r1,rfl,h1,dx2⟩:=dx1.open
  cases dx2
  exact ⟨a,_,_,rfl,ha,(show (("var":Str),("expression":Str),(2:Int))∈SH4 by decide +kernel),.inl ⟨by decide +kernel,[],[],by decide +kernel,by decide,rfl,fun i p h=>match i,h with | n,h=>by simp at h,by simp only [inner,E.ds]; exact .nil⟩,by simp [cD,cDs,isS,inner,E.ds]⟩
 | of_ y1 y2 =>
  simp only [E.d] at h ⊢
  obtain ⟨a,xs,rfl,ha,dx0⟩:=h.open
  obtain ⟨x0,r0,rfl,h0,dx1⟩:=dx0.open
  obtain rfl:=h0.str_inv
  obtain ⟨x1,r1,rfl,h1,dx2⟩:=dx1.open
  obtain ⟨x2,r2,rfl,h2,dx3⟩:=dx2.open
  cases dx3
  exact ⟨a,_,_,rfl,ha,(show (("of":Str),("expression":Str),(3:Int))∈SH4 by decide +kernel),.inl ⟨by decide +kernel,[1],[x1],by decide +kernel,by decide,rfl,fun i p h=>match i,h with | 0,h=>by cases h; exact ⟨_,rfl,rfl⟩ | n+1,h=>by simp at h,by simp only [inner,E.ds]; exact (.cons h1 .nil)⟩,by simp [cD,cDs,isS,inner,E.ds]⟩
 | with_ y1 y2 y3 =>
  simp only [E.d] at h ⊢
  obtain ⟨a,xs,rfl,ha,dx0⟩:=h.open
  obtain ⟨x0,r0,rfl,h0,dx1⟩:=dx0.open
  obtain rfl:=h0.str_inv
  obtain ⟨x1,r1,rfl,h1,dx2⟩:=dx1.open
  obtain ⟨x2,r2,rfl,h2,dx3⟩:=dx2.open
  obtain ⟨x3,r3,rfl,h3,dx4⟩:=dx3.open
  cases dx4
  exact ⟨a,_,_,rfl,ha,(show (("with":Str),("expression":Str),(4:Int))∈SH4 by decide +kernel),.inl ⟨by decide +kernel,[1,3],[x1,x3],by decide +kernel,by decide,rfl,fun i p h=>match i,h with | 0,h=>by cases h; exact ⟨_,rfl,rfl⟩ | 1,h=>by cases h; exact ⟨_,rfl,rfl⟩ | n+2,h=>by simp at h,by simp only [inner,E.ds]; exact (.cons h1 (.cons h3 .nil))⟩,by simp [cD,cDs,isS,inner,E.ds]⟩
 | new y1 y2 =>
  simp only [E.d] at h ⊢
  obtain ⟨a,xs,rfl,ha,dx0⟩:=h.open
  obtain ⟨x0,r0,rfl,h0,dx1⟩:=dx0.open
  obtain rfl:=h0.str_inv
  obtain ⟨x1,r1,rfl,h1,dx2⟩:=dx1.open
  obtain ⟨x2,r2,rfl,h2,dx3⟩:=dx2.open
  cases dx3
  obtain ⟨al,ys,rfl,hal,dys⟩:=h2.open
  exact ⟨a,_,_,rfl,ha,(show (("new":Str),("expression":Str),(3:Int))∈SH4 by decide +kernel),.inr ⟨2,al,ys,by decide +kernel,rfl,hal,by simp only [inner]; exact dys⟩,by have e0:=Aq y2; simp only [cD,cDs,inner,e0]; simp [isS]⟩
 | add y1 y2 =>
  simp only [E.d] at h ⊢
  obtain ⟨a,xs,rfl,ha,dx0⟩:=h.open
  obtain ⟨x0,r0,rfl,h0,dx1⟩:=dx0.open
  obtain rfl:=h0.str_inv
  obtain ⟨x1,r1,rfl,h1,dx2⟩:=dx1.open
  obtain ⟨x2,r2,rfl,h2,dx3⟩:=dx2.open
  cases dx3
  exact ⟨a,_,_,rfl,ha,(show (("add":Str),("expression":Str),(3:Int))∈SH4 by decide +kernel),.inl ⟨by decide +kernel,[1,2],[x1,x2],by decide +kernel,by decide,rfl,fun i p h=>match i,h with | 0,h=>by cases h; exact ⟨_,rfl,rfl⟩ | 1,h=>by cases h; exact ⟨_,rfl,rfl⟩ | n+2,h=>by simp at h,by simp only [inner,E.ds]; exact (.cons h1 (.cons h2 .nil))⟩,by simp [cD,cDs,isS,inner,E.ds]⟩
 | sub y1 y2 =>
  simp only [E.d] at h ⊢
  obtain ⟨a,xs,rfl,ha,dx0⟩:=h.open
  obtain ⟨x0,r0,rfl,h0,dx1⟩:=dx0.open
  obtain rfl:=h0.str_inv
  obtain ⟨x1,r1,rfl,h1,dx2⟩:=dx1.open
  obtain ⟨x2,r2,rfl,h2,dx3⟩:=dx2.open
  cases dx3
  exact ⟨a,_,_,rfl,ha,(show (("sub":Str),("expression":Str),(3:Int))∈SH4 by decide +kernel),.inl ⟨by decide +kernel,[1,2],[x1,x2],by decide +kernel,by decide,rfl,fun i p h=>match i,h with | 0,h=>by cases h; exact ⟨_,rfl,rfl⟩ | 1,h=>by cases h; exact ⟨_,rfl,rfl⟩ | n+2,h=>by simp at h,by simp only [inner,E.ds]; exact (.cons h1 (.cons h2 .nil))⟩,by simp [cD,cDs,isS,inner,E.ds]⟩
 | times y1 y2 =>
  simp only [E.d] at h ⊢
  obtain ⟨a,xs,rfl,ha,dx0⟩:=h.open
  obtain ⟨x0,r0,rfl,h0,dx1⟩:=dx0.open
  obtain rfl:=h0.str_inv
  obtain ⟨x1,r1,rfl,h1,dx2⟩:=dx1.open
  obtain ⟨x2,r2,rfl,h2,dx3⟩:=dx2.open
  cases dx3
  exact ⟨a,_,_,rfl,ha,(show (("times":Str),("expression":Str),(3:Int))∈SH4 by decide +kernel),.inl ⟨by decide +kernel,[2],[x2],by decide +kernel,by decide,rfl,fun i p h=>match i,h with | 0,h=>by cases h; exact ⟨_,rfl,rfl⟩ | n+1,h=>by simp at h,by simp only [inner,E.ds]; exact (.cons h2 .nil)⟩,by simp [cD,cDs,isS,inner,E.ds]⟩
 | div y1 y2 =>
  simp only [E.d] at h ⊢
  obtain ⟨a,xs,rfl,ha,dx0⟩:=h.open
  obtain ⟨x0,r0,rfl,h0,dx1⟩:=dx0.open
  obtain rfl:=h0.str_inv
  obtain ⟨x1,r1,rfl,h1,dx2⟩:=dx1.open
  obtain ⟨x2,r2,rfl,h2,dx3⟩:=dx2.open
  cases dx3
  exact ⟨a,_,_,rfl,ha,(show (("div":Str),("expression":Str),(3:Int))∈SH4 by decide +kernel),.inl ⟨by decide +kernel,[1],[x1],by decide +kernel,by decide,rfl,fun i p h=>match i,h with | 0,h=>by cases h; exact ⟨_,rfl,rfl⟩ | n+1,h=>by simp at h,by simp only [inner,E.ds]; exact (.cons h1 .nil)⟩,by simp [cD,cDs,isS,inner,E.ds]⟩
 | rest y1 y2 =>
  simp only [E.d] at h ⊢
  obtain ⟨a,xs,rfl,ha,dx0⟩:=h.open
  obtain ⟨x0,r0,rfl,h0,dx1⟩:=dx0.open
  obtain rfl:=h0.str_inv
  obtain ⟨x1,r1,rfl,h1,dx2⟩:=dx1.open
  obtain ⟨x2,r2,rfl,h2,dx3⟩:=dx2.open
  cases dx3
  exact ⟨a,_,_,rfl,ha,(show (("rest":Str),("expression":Str),(3:Int))∈SH4 by decide +kernel),.inl ⟨by decide +kernel,[1],[x1],by decide +kernel,by decide,rfl,fun i p h=>match i,h with | 0,h=>by cases h; exact ⟨_,rfl,rfl⟩ | n+1,h=>by simp at h,by simp only [inner,E.ds]; exact (.cons h1 .nil)⟩,by simp [cD,cDs,isS,inner,E.ds]⟩
 | len y1 =>
  simp only [E.d] at h ⊢
  obtain ⟨a,xs,rfl,ha,dx0⟩:=h.open
  obtain ⟨x0,r0,rfl,h0,dx1⟩:=dx0.open
  obtain rfl:=h0.str_inv
  obtain ⟨x1,r1,rfl,h1,dx2⟩:=dx1.open
  cases dx2
  exact ⟨a,_,_,rfl,ha,(show (("len":Str),("expression":Str),(2:Int))∈SH4 by decide +kernel),.inl ⟨by decide +kernel,[1],[x1],by decide +kernel,by decide,rfl,fun i p h=>match i,h with | 0,h=>by cases h; exact ⟨_,rfl,rfl⟩ | n+1,h=>by simp at h,by simp only [inner,E.ds]; exact (.cons h1 .nil)⟩,by simp [cD,cDs,isS,inner,E.ds]⟩
 | at_ y1 y2 =>
  simp only [E.d] at h ⊢
  obtain ⟨a,xs,rfl,ha,dx0⟩:=h.open
  obtain ⟨x0,r0,rfl,h0,dx1⟩:=dx0.open
  obtain rfl:=h0.str_inv
  obtain ⟨x1,r1,rfl,h1,dx2⟩:=dx1.open
  obtain ⟨x2,r2,rfl,h2,dx3⟩:=dx2.open
  cases dx3
  exact ⟨a,_,_,rfl,ha,(show (("at":Str),("expression":Str),(3:Int))∈SH4 by decide +kernel),.inl ⟨by decide +kernel,[1,2],[x1,x2],by decide +kernel,by decide,rfl,fun i p h=>match i,h with | 0,h=>by cases h; exact ⟨_,rfl,rfl⟩ | 1,h=>by cases h; exact ⟨_,rfl,rfl⟩ | n+2,h=>by simp at h,by simp only [inner,E.ds]; exact (.cons h1 (.cons h2 .nil))⟩,by simp [cD,cDs,isS,inner,E.ds]⟩
 | rows y1 =>
  simp only [E.d] at h ⊢
  obtain ⟨a,xs,rfl,ha,dx0⟩:=h.open
  obtain ⟨x0,r0,rfl,h0,dx1⟩:=dx0.open
  obtain rfl:=h0.str_inv
  obtain ⟨x1,r1,rfl,h1,dx2⟩:=dx1.open
  cases dx2
  obtain ⟨al,ys,rfl,hal,dys⟩:=h1.open
  exact ⟨a,_,_,rfl,ha,(show (("rows":Str),("expression":Str),(2:Int))∈SH4 by decide +kernel),.inr ⟨1,al,ys,by decide +kernel,rfl,hal,by simp only [inner]; exact dys⟩,by have e0:=Aq y1; simp only [cD,cDs,inner,e0]; simp [isS]⟩
 | put y1 y2 y3 =>
  simp only [E.d] at h ⊢
  obtain ⟨a,xs,rfl,ha,dx0⟩:=h.open
  obtain ⟨x0,r0,rfl,h0,dx1⟩:=dx0.open
  obtain rfl:=h0.str_inv
  obtain ⟨x1,r1,rfl,h1,dx2⟩:=dx1.open
  obtain ⟨x2,r2,rfl,h2,dx3⟩:=dx2.open
  obtain ⟨x3,r3,rfl,h3,dx4⟩:=dx3.open
  cases dx4
  exact ⟨a,_,_,rfl,ha,(show (("put":Str),("expression":Str),(4:Int))∈SH4 by decide +kernel),.inl ⟨by decide +kernel,[1,2,3],[x1,x2,x3],by decide +kernel,by decide,rfl,fun i p h=>match i,h with | 0,h=>by cases h; exact ⟨_,rfl,rfl⟩ | 1,h=>by cases h; exact ⟨_,rfl,rfl⟩ | 2,h=>by cases h; exact ⟨_,rfl,rfl⟩ | n+3,h=>by simp at h,by simp only [inner,E.ds]; exact (.cons h1 (.cons h2 (.cons h3 .nil)))⟩,by simp [cD,cDs,isS,inner,E.ds]⟩
 | more y1 y2 =>
  simp only [E.d] at h ⊢
  obtain ⟨a,xs,rfl,ha,dx0⟩:=h.open
  obtain ⟨x0,r0,rfl,h0,dx1⟩:=dx0.open
  obtain rfl:=h0.str_inv
  obtain ⟨x1,r1,rfl,h1,dx2⟩:=dx1.open
  obtain ⟨x2,r2,rfl,h2,dx3⟩:=dx2.open
  cases dx3
  exact ⟨a,_,_,rfl,ha,(show (("more":Str),("expression":Str),(3:Int))∈SH4 by decide +kernel),.inl ⟨by decide +kernel,[1,2],[x1,x2],by decide +kernel,by decide,rfl,fun i p h=>match i,h with | 0,h=>by cases h; exact ⟨_,rfl,rfl⟩ | 1,h=>by cases h; exact ⟨_,rfl,rfl⟩ | n+2,h=>by simp at h,by simp only [inner,E.ds]; exact (.cons h1 (.cons h2 .nil))⟩,by simp [cD,cDs,isS,inner,E.ds]⟩
 | signs y1 =>
  simp only [E.d] at h ⊢
  obtain ⟨a,xs,rfl,ha,dx0⟩:=h.open
  obtain ⟨x0,r0,rfl,h0,dx1⟩:=dx0.open
  obtain rfl:=h0.str_inv
  obtain ⟨x1,r1,rfl,h1,dx2⟩:=dx1.open
  cases dx2
  exact ⟨a,_,_,rfl,ha,(show (("signs":Str),("expression":Str),(2:Int))∈SH4 by decide +kernel),.inl ⟨by decide +kernel,[1],[x1],by decide +kernel,by decide,rfl,fun i p h=>match i,h with | 0,h=>by cases h; exact ⟨_,rfl,rfl⟩ | n+1,h=>by simp at h,by simp only [inner,E.ds]; exact (.cons h1 .nil)⟩,by simp [cD,cDs,isS,inner,E.ds]⟩
section
variable {P:Program} {w:World} {K:Frag} {mg:Str→Option Value} {base:Heap} {f g:Addr} {fd gd:FuncData}
def vt:Sp:=fun vs H Q _=>∃ a z rs,vs=[.ref a]∧H a=some (.tup (.str z::rs)) ∧
 ((∃ ps L,(z,ps)∈PLC∧ps.length≤10∧L.length=ps.length∧(∀ (i:Nat) (p:Int),ps[i]?=some p→∃ y,atI (.str z::rs) p=some y∧L[i]?=some y)∧∀ r H',aO H H'→H r=none→H' r=some (.lst L)→Q (.ref r) H') ∨
  (∃ p al ys,(z,p)∈LIT∧atI (.str z::rs) p=some (.ref al)∧H al=some (.tup ys)∧∀ r H',aO H H'→H r=none→H' r=some (.lst ys)→Q (.ref r) H'))
theorem xh (TP:GP K w mg) (T:G0 mg) (F:Fun K "inner_of" "inner_of" cL f fd):aV P w K mg base CX0 1 f fd ["shaped"] vt:=by
 obtain ⟨aS,mS_,kS,hS⟩:=TP.sh
 obtain ⟨aL,mL,kL,hLs,hLn⟩:=TP.li
 refine F.ok iD (fun vs H Q EX h=>?_) (fun cdv A outer s H vs Q EX hr h=>?_)
 ·obtain ⟨a,z,rs,rfl,_⟩:=h
  rfl
 obtain ⟨a,z,rs,rfl,ha,h⟩:=h
 refine ⟨_,(@am _ _ _ _ _ (@aR _ _ 1 _ _ _ _ iD.nd rfl (Or.inl rfl) (@aA _ _ _ _ _ _ _ av (pv 0) aj (fun _ _=>rfl)) (aC rfl) (.inr rfl)) (@am _ _ _ _ _ (@aT _ _ _ _ _ _ _ _ (@aD _ _ _ _ _ _ _ _ (yF kL) (pv 1) (aX (v:=.ref aL) rfl mL rfl) rfl) (@ao _ _ _ (@ay _ _ _ _ (@fo _ _ _ _ _ _ _ _ _ hJ rfl T.list yo (@ad _ _ _ _ _ (@aA _ _ _ _ _ _ _ av (pv 0) (@aA _ _ _ _ _ _ _ (wE kL) (aX (v:=.ref aL) rfl mL rfl) (pv 1) (fun _ _=>rfl)) (fun _ _=>rfl)) ah (ac rfl)) (by decide) (by decide) (ac rfl) (ak rfl)))) aE) (@ao _ _ _ (@ay _ _ _ _ (bt (N':=fE) (ρ:=[none,some 0]) (m:=1) (bF.of (fs:=defScope cL) (N:=jY) rfl rfl (by decide +kernel)) rfl (ca (aA av (aA (wE kS) (aX (v:=.ref aS) rfl mS_ rfl) (pv 1) (fun _ _=>rfl)) aj (fun _ _=>rfl))) (fun _ _ _ _=>(aQ (i:=0) jM rfl (Or.inl rfl))) (fun _ _ _ _=>bq) (fun _ _ _ _=>(aA (dU (K:=K) rfl) (pv 1) (pv 0) (fun _ _=>rfl)))))))),?_⟩
 refine ⟨_,rfl,a,_,_,_,rfl,rfl,SqT.of ha,at0 _ _,?_⟩
 rcases h with ⟨ps,L,hm,lp,lL,hp,q⟩ | ⟨p,al,ys,hm,hp,hal,q⟩
 ·obtain ⟨aw,bw,sw,nw,g1,g2,g3⟩:=hS (z,ps) hm
  refine ⟨_,rfl,_,none,rfl,rfl,hLn (z,ps) hm,_,rfl,bv ⟨_,rfl,_,_,.ref aw,rfl,rfl,g1,rfl,aw,_,_,_,rfl,rfl,g2 _,rfl,bw,rfl,⟨_,g3 _⟩,?_⟩⟩
  refine bU (xs:=ps.map V.int) ps.length (by rw [List.length_map]) (by omega) (fun i acc H4=>H4=H∧acc=L.take i) ⟨rfl,rfl⟩ (fun i acc H4 p=>g3 _) (fun i acc H4 x hi la hx p=>?_) (fun acc H4 p la D hD=>?_)
  ·obtain ⟨rfl,rfl⟩:=p
   rw [List.getElem?_map] at hx
   obtain ⟨pp,hpp,rfl⟩:=Option.map_eq_some_iff.mp hx
   obtain ⟨y,hy1,hy2⟩:=hp i pp hpp
   exact ⟨⟨rfl,rfl⟩,bu ⟨_,rfl,_,rfl,a,_,_,_,rfl,rfl,SqT.of ha,hy1,nxT (by omega) hi la ⟨rfl,by rw [List.take_add_one,hy2]; rfl⟩⟩⟩
  ·obtain ⟨rfl,rfl⟩:=p
   rw [← lL,List.take_length]
   exact q D _ (ag hD _) hD af
 ·obtain ⟨t,ht⟩:=hLs (z,p) hm
  exact ⟨_,rfl,_,_,rfl,rfl,ht,_,rfl,bz ⟨_,rfl,_,rfl,_,_,.int p,rfl,rfl,ht,⟨_,rfl⟩,a,_,_,_,rfl,rfl,SqT.of ha,hp,al,_,rfl,.inr (SqT.of hal),fun l hl2=>q l _ (ag hl2 _) hl2 af⟩⟩
theorem wP (TP:GP K w mg) (T:G0 mg) (F:Fun K "inner_of" "inner_of" cL f fd):aV P w K mg base CX0 1 f fd ["shaped"] (lI K) :=
 (xh TP T F).imp fun vs H Q E ⟨u,e,hv,hu,_,q⟩=>by
  obtain ⟨a,z,rs,rfl,ha,_,hw,_⟩:=nz hu
  refine ⟨a,z,rs,hv,ha,?_⟩
  rcases hw with ⟨_,ps,L,h1,h2,h3,h4,h5⟩ | ⟨p,al,ys,h1,h2,h3,h4⟩
  ·exact .inl ⟨ps,L,h1,h2,h3,h4,fun r H' g hr hr'=>q r L H' g hr hr' (h5.mono (ar g))⟩
  ·exact .inr ⟨p,al,ys,h1,h2,h3,fun r H' g hr hr'=>q r ys H' g hr hr' (h4.mono (ar g))⟩
end
open PySem L2
theorem dk {l:Addr} {H H':Hp} {o:HO} (hl:H l=none) (x:Ext l (upd H l o) H'):aO H H':=fun b u e=>x b u (aU e hl) (by rw [bd (aU e hl)]; exact e)
theorem E.ds_app:∀ a b:List E,E.ds (a++b)=E.ds a++E.ds b
 | [],b=>by simp [E.ds]
 | e::r,b=>by simp only [List.cons_append,E.ds,E.ds_app r b]
theorem gT:∀ es:List E,es.length≤cDs (E.ds es)
 | []=>Nat.zero_le _
 | e::r=>by
  have h1:=gT r
  have h2:1≤cD e.d:=by cases e<;>simp [E.d,cD,isS]
  simp only [E.ds,cDs,List.length_cons]
  omega
section
variable {P:Program} {w:World} {K:Frag} {mg:Str→Option Value} {base:Heap} {f g:Addr} {fd gd:FuncData}
abbrev rV:List Str:=["thing", "waiting", "count", "one"]
theorem cz:aK rV ["thing"] (defScope fS):=⟨rfl,rfl,rfl,by decide +kernel,rfl,by decide +kernel,by decide +kernel⟩
def lK (K:Frag):Sp:=fun vs H Q _=>∃ u e b,vs=[u]∧DT K H u (E.d e)∧(cD (E.d e)≤12∧b=true∨12<cD (E.d e)∧cD (E.d e)≤100∧b=false)∧∀ H',aO H H'→Q (.bl b) H'
def Bm (K:Frag) (N:Nat) (u:V) (l:Addr) (H0:Hp) (m:Nat) (σ:St) (H':Hp):Prop :=
 ∃ c:Nat,∃ ys es m3,σ=[some u,some (.ref l),some (.int (c:Int)),m3]∧Ext l H0 H'∧H' l=some (.lst ys)∧DTs K H' ys (E.ds es)∧m=cDs (E.ds es)∧c≤12∧c+cDs (E.ds es)=N
theorem xF (T:G0 mg) (mEx:∃ t,mg "MOST_EXPRESSIONS"=some (.int 12 t)) (F:Fun K "is_small" "is_small" fS f fd) (D_is_shaped:Cal P w K mg base 1 "is_shaped" ["thing", "sort"] gu) (D_inner_of:Cal P w K mg base 1 "inner_of" ["shaped"] vt):aV P w K mg base CX0 2 f fd ["thing"] (lK K):=by
 obtain ⟨g_inner_of,gd_inner_of,G_inner_of,b_inner_of,k_inner_of,m_inner_of⟩:=D_inner_of.ex
 obtain ⟨g_is_shaped,gd_is_shaped,G_is_shaped,b_is_shaped,k_is_shaped,m_is_shaped⟩:=D_is_shaped.ex
 obtain ⟨tE,mE⟩:=mEx
 refine F.ok cz (fun vs H Q EX h=>?_) (fun cdv A outer s H vs Q EX hr h=>?_)
 ·obtain ⟨u,e,b,rfl,_⟩:=h
  rfl
 obtain ⟨u,e0,b0,rfl,hu,hb,q⟩:=h
 have hN:cD (E.d e0)≤100:=by omega
 obtain ⟨N,eN⟩:∃ N,N=cD (E.d e0):=⟨_,rfl⟩
 rw [← eN] at hb hN
 refine ⟨_,(@am _ _ _ _ _ (@aR _ _ 1 _ _ _ _ cz.nd rfl (Or.inl rfl) (@bW _ _ _ _ (@ad _ _ _ _ _ (pv 0) ah (ac rfl))) (aC rfl) (.inr rfl)) (@am _ _ _ _ _ (@aR _ _ 2 _ _ _ _ cz.nd rfl (Or.inl rfl) aj (aC rfl) (.inr rfl)) (@am _ _ _ _ _ (gq PassesOwn.never (gr (pv 1) (fun _=>rfl)) (@am _ _ _ _ _ (@aR _ _ 3 _ _ _ _ cz.nd rfl (Or.inl rfl) (md PySem.F.plainAttrs_list PySem.F.slot_list_pop PySem.F.type_list_pop mz (pv 1)) (aC rfl) (.inr rfl)) (@am _ _ _ _ _ (rK (i:=2) cz.nd rfl (Or.inl rfl) aj rP) (@am _ _ _ _ _ (@aT _ _ _ _ _ _ _ _ (PW.pt (bK (@aD _ _ _ _ _ _ _ _ qJ (pv 2) (aX (v:=.int 12) rfl mE ⟨_,rfl⟩) (aJ _)) (bP (bc (aW (@au _ _ _ _ _ _ _ _ _ _ _ _ _ _ _ _ G_is_shaped (hr.mono (by omega)) rfl m_is_shaped k_is_shaped b_is_shaped .nil aI (@ad _ _ _ _ _ (pv 3) (@ad _ _ _ _ _ aG ah (ac rfl)) (ac rfl)) (by decide) (ac rfl) (ak rfl))))))) (@ao _ _ _ (@ay _ _ _ _ bo)) aE) (@ao _ _ _ (@fj _ _ _ _ (@lr _ _ _ _ _ _ _ _ _ _ _ _ PySem.F.plainAttrs_list PySem.F.slot_list_extend PySem.F.type_list_extend fq (pv 1) (@ad _ _ _ _ _ (@au _ _ _ _ _ _ _ _ _ _ _ _ _ _ _ _ G_inner_of (hr.mono (by omega)) rfl m_inner_of k_inner_of b_inner_of .nil aI (@ad _ _ _ _ _ (pv 3) ah (ac rfl)) (by decide) (ac rfl) (ak rfl)) ah (ac rfl)) rfl (fW rfl rfl) rfl (ac rfl) (ak rfl)) (aC rfl))))))) (@ao _ _ _ (@ay _ _ _ _ bo))))),?_⟩
 refine ⟨_,rfl,(by show 1≤sizeLine; decide),fun l hl=>?_⟩
 have g0:=ag hl (.lst [u])
 have hl0:(upd H l (.lst [u])) l=some (.lst [u]):=af
 refine ⟨Bm K N u l (upd H l (.lst [u])),⟨_,0,[u],[e0],none,rfl,Ext.refl _ _,hl0,.cons (hu.mono (ar g0)) .nil,rfl,by omega,by simp [E.ds,cDs,eN]⟩,?_⟩
 rintro m σ H' ⟨c,ys,es,m3,rfl,x1,hy,dy,em,ec12,ez⟩
 refine ⟨_,rfl,_,.inl ⟨ys,SqL.of hy,rfl⟩,?_⟩
 refine az (fun cc=>?_) (fun cc=>?_)
 ·obtain ⟨zs,y,rfl⟩:∃ zs y,ys=zs++[y]:=by
   rcases List.eq_nil_or_concat ys with rfl | ⟨zs,y,e⟩
   ·exact absurd cc (by decide)
   ·exact ⟨zs,y,by rw [e,List.concat_eq_append]⟩
  obtain ⟨es1,e1,rfl⟩:∃ es1 e1,es=es1++[e1]:=by
   rcases List.eq_nil_or_concat es with rfl | ⟨es1,e1,e⟩
   ·have:=dy.len; simp [E.ds] at this
   ·exact ⟨es1,e1,by rw [e,List.concat_eq_append]⟩
  rw [E.ds_snoc] at dy em ez
  obtain ⟨q1,q2,eq,dz,d1⟩:=dy.snoc_inv
  obtain ⟨rfl,e2⟩:=List.append_inj' eq (by simp)
  obtain rfl:E.d e1=q2:=by simpa using e2
  rw [dv] at em ez
  simp only [cDs,Nat.add_zero] at em ez
  refine ⟨fun σ' H'=>∃ m',m'<m∧Bm K N u l (upd H l (.lst [u])) m' σ' H',fun _ _ z=>z,?_⟩
  refine ⟨_,rfl,.inl ⟨rfl,_,SqL.of hy⟩,l,_,y,rfl,rfl,hy,by simp,?_⟩
  rw [List.dropLast_concat]
  have kT:Tk H' (upd H' l (.lst zs)):=dC hy _
  have x2:Ext l (upd H l (.lst [u])) (upd H' l (.lst zs)):=x1.trans Ext.upd
  have hy2:(upd H' l (.lst zs)) l=some (.lst zs):=af
  have dz2:=dz.mono kT
  have d2:=d1.mono kT
  generalize hH:(upd H' l (.lst zs))=H2 at x2 hy2 dz2 d2
  obtain ⟨a,z,rs,rfl,ha,hsh,hv,hcd⟩:=nz d2
  refine ⟨_,rfl,_,_,rfl,rfl,?_⟩
  have ec:(c:Int)+1=((c+1:Nat):Int):=by omega
  generalize hc':c+1=c' at ec
  dsimp only
  rw [ec]
  refine ⟨_,rfl,_,_,rfl,rfl,_,rfl,?_⟩
  refine az (fun c=>?_) (fun c=>?_)
  ·have c9:=of_decide_eq_true c
   have eb:b0=false:=hb.elim (fun h=>absurd h.1 (by omega)) (fun h=>h.2.2)
   rw [eb] at q
   exact bz (q _ (dk hl x2))
  have c10:c'≤12:=by
   have c9:¬ ((c':Int) > 12):=fun z=>c (decide_eq_true z)
   omega
  refine ⟨_,rfl,a,z,rs, "expression",rfl,ha,hsh,(hv.imp (fun h=>h.1) fun ⟨p,al,ys,h1,h2,h3,_⟩=>⟨p,al,ys,h1,h2,h3⟩),_,rfl,bv ?_⟩
  have lz:=dz2.len
  rw [E.ds_len] at lz
  have cl:=gT es1
  have fin:∀ (r:Addr) (L:List V) (H4:Hp),aO H2 H4→DTs K H2 L (E.ds (inner e1))→zs.length+L.length≤sizeLine ∧
    ∃ m',m'<m∧Bm K N u l (upd H l (.lst [u])) m' [some u,some (.ref l),some (.int ((c':Nat):Int)),some (.ref a)] (upd H4 l (.lst (zs++L))):=by
   intro r L H4 g4 dL
   have hy4:=g4 _ _ hy2
   have kL:=(ar g4).trans (dC hy4 (.lst (zs++L)))
   have lL:=dL.len
   rw [E.ds_len] at lL
   have cl':=gT (inner e1)
   refine ⟨by rw [sizeLine_eq]; omega,cDs (E.ds es1)+cDs (E.ds (inner e1)),by omega,c',zs++L,es1++inner e1,_,rfl,(x2.trans (aO.ext g4)).trans Ext.upd,af,by rw [E.ds_app]; exact DTs.append (dz2.mono kL) (dL.mono kL),by rw [E.ds_app,dv],c10,by rw [E.ds_app,dv]; omega⟩
  refine ⟨_,rfl,.inl ⟨rfl,_,SqL.of hy2⟩,_,rfl,a,z,rs,rfl,ha,?_⟩
  rcases hv with ⟨_,ps,L,hm,lp,lL,hp,dL⟩ | ⟨p,al,ys',hm,hp,hal,dL⟩
  ·exact .inl ⟨ps,L,hm,lp,lL,hp,fun r H4 g4 hr0 hr4=>⟨l,r,_,_,rfl,rfl,g4 _ _ hy2,hr4,(fin r L H4 g4 dL).1,(fin r L H4 g4 dL).2⟩⟩
  ·exact .inr ⟨p,al,ys',hm,hp,hal,fun r H4 g4 hr0 hr4=>⟨l,r,_,_,rfl,rfl,g4 _ _ hy2,hr4,(fin r ys' H4 g4 dL).1,(fin r ys' H4 g4 dL).2⟩⟩
 ·have e0':ys=[]:=by
   rcases ys with _ | ⟨y,r⟩
   ·rfl
   ·exact absurd rfl cc
  subst e0'
  have l0:=dy.len
  rw [E.ds_len] at l0
  obtain rfl:es=[]:=List.length_eq_zero_iff.mp l0.symm
  simp only [E.ds,cDs] at ez
  have eb:b0=true:=hb.elim (fun h=>h.2) (fun h=>absurd h.1 (by omega))
  rw [eb] at q
  exact q _ (dk hl x1)
abbrev gl:List Str:=["program", "kinds", "thing"]
theorem cO:aK gl ["program", "kinds", "thing"] (defScope bN):=⟨rfl,rfl,rfl,by decide +kernel,rfl,by decide +kernel,by decide +kernel⟩
def zT (K:Frag):Sp:=fun vs H Q _=>∃ v kk u e R Vs k,vs=[v,.ref kk,u]∧cr H v R∧eg R∧H kk=some (.dK (pP Vs))∧(Vs.map (·.1)).Nodup∧DT K H u (E.d e)∧e.d.depth≤23∧Ok R Vs e k∧cD (E.d e)≤12∧∀ H',aO H H'→Q (.str k) H'
theorem As (F:Fun K "expression_kind" "expression_kind" bN f fd) (D_kind_in:Cal P w K mg base 28 "kind_in" ["program", "kinds", "e"] (ln K 23)) (D_is_small:Cal P w K mg base 2 "is_small" ["thing"] (lK K)):aV P w K mg base CX0 29 f fd ["program", "kinds", "thing"] (zT K):=by
 obtain ⟨g_is_small,gd_is_small,G_is_small,b_is_small,k_is_small,m_is_small⟩:=D_is_small.ex
 obtain ⟨g_kind_in,gd_kind_in,G_kind_in,b_kind_in,k_kind_in,m_kind_in⟩:=D_kind_in.ex
 refine F.ok cO (fun vs H Q EX h=>?_) (fun cdv A outer s H vs Q EX hr h=>?_)
 ·obtain ⟨v,kk,u,e,R,Vs,k,rfl,_⟩:=h
  rfl
 obtain ⟨v,kk,u,e,R,Vs,k,rfl,hv,hlk,hkk,hnd,hu,hdp,hok,hc,q⟩:=h
 refine ⟨_,(@ao _ _ _ (@ay _ _ _ _ (@bO _ _ _ _ _ _ _ _ (aW (@au _ _ _ _ _ _ _ _ _ _ _ _ _ _ _ _ G_is_small (hr.mono (by omega)) rfl m_is_small k_is_small b_is_small .nil aI (@ad _ _ _ _ _ (pv 2) ah (ac rfl)) (by decide) (ac rfl) (ak rfl))) (@au _ _ _ _ _ _ _ _ _ _ _ _ _ _ _ _ G_kind_in (hr.mono (by omega)) rfl m_kind_in k_kind_in b_kind_in .nil aI (@ad _ _ _ _ _ (pv 0) (@ad _ _ _ _ _ (pv 1) (@ad _ _ _ _ _ (pv 2) ah (ac rfl)) (ac rfl)) (ac rfl)) (by decide) (ac rfl) (ak rfl)) bE))),?_⟩
 refine ⟨_,rfl,u,e,true,rfl,hu,.inl ⟨hc,rfl⟩,fun H2 g2=>⟨_,rfl,bz ?_⟩⟩
 exact ⟨_,rfl,_,rfl,_,rfl,v,kk,u,e,R,Vs,k,rfl,hv.mono (ar g2),hlk,g2 _ _ hkk,hnd,hu.mono (ar g2),hdp,hok,fun H3 g3=>q _ (g2.trans g3)⟩
def Ag (K:Frag):Sp:=fun vs H Q _=>∃ v kk u e,vs=[v,kk,u]∧DT K H u (E.d e)∧12<cD (E.d e)∧cD (E.d e)≤100∧∀ H',aO H H'→Q .non H'
theorem AG (F:Fun K "expression_kind" "expression_kind" bN f fd) (D_kind_in:Cal P w K mg base 28 "kind_in" ["program", "kinds", "e"] (ln K 23)) (D_is_small:Cal P w K mg base 2 "is_small" ["thing"] (lK K)):aV P w K mg base CX0 29 f fd ["program", "kinds", "thing"] (Ag K):=by
 obtain ⟨g_is_small,gd_is_small,G_is_small,b_is_small,k_is_small,m_is_small⟩:=D_is_small.ex
 obtain ⟨g_kind_in,gd_kind_in,G_kind_in,b_kind_in,k_kind_in,m_kind_in⟩:=D_kind_in.ex
 refine F.ok cO (fun vs H Q EX h=>?_) (fun cdv A outer s H vs Q EX hr h=>?_)
 ·obtain ⟨v,kk,u,e,rfl,_⟩:=h
  rfl
 obtain ⟨v,kk,u,e,rfl,hu,hc,h1,q⟩:=h
 refine ⟨_,(@ao _ _ _ (@ay _ _ _ _ (@bO _ _ _ _ _ _ _ _ (aW (@au _ _ _ _ _ _ _ _ _ _ _ _ _ _ _ _ G_is_small (hr.mono (by omega)) rfl m_is_small k_is_small b_is_small .nil aI (@ad _ _ _ _ _ (pv 2) ah (ac rfl)) (by decide) (ac rfl) (ak rfl))) (@au _ _ _ _ _ _ _ _ _ _ _ _ _ _ _ _ G_kind_in (hr.mono (by omega)) rfl m_kind_in k_kind_in b_kind_in .nil aI (@ad _ _ _ _ _ (pv 0) (@ad _ _ _ _ _ (pv 1) (@ad _ _ _ _ _ (pv 2) ah (ac rfl)) (ac rfl)) (ac rfl)) (by decide) (ac rfl) (ak rfl)) bE))),?_⟩
 refine ⟨_,rfl,u,e,false,rfl,hu,.inr ⟨hc,h1,rfl⟩,fun H2 g2=>⟨_,rfl,bv ?_⟩⟩
 exact q _ g2
def Cl (K:Frag):Sp:=fun vs H Q E=>zT K vs H Q E∨Ag K vs H Q E
end
open PySem L2
theorem zN {K:Frag} {H:Hp} {a:Addr} {z:Str} {rs:List V} {e:E} (h:DT K H (.ref a) (E.d e)) (ha:H a=some (.tup (.str z::rs))) (hn:e.na=true):z ≠ "at"∧z ≠ "put":=by
 have key:∀ {y:Str} {ds:List PyData},E.d e=.tuple (.str y::ds)→z=y:=fun {y ds} he=>by
  rw [he] at h
  obtain ⟨b,xs,eb,hb,d0⟩:=h.open
  cases eb
  obtain ⟨x0,r0,rfl,h0,_⟩:=d0.open
  obtain rfl:=h0.str_inv
  rw [ha] at hb
  cases hb
  rfl
 cases e<;>first
  | (simp [E.na] at hn; done)
  | (have:=key (by simp only [E.d]; rfl); subst this; exact ⟨by decide +kernel,by decide +kernel⟩)
theorem rJ:∀ es:List E,E.nas es=true→∀ x∈es,x.na=true
 | [],_,x,h=>nomatch h
 | e::r,h,x,hx=>by
  simp only [E.nas,Bool.and_eq_true] at h
  rcases List.mem_cons.mp hx with rfl | hx
  ·exact h.1
  ·exact rJ r h.2 x hx
theorem yg {e:E} (h:e.na=true):∀ x∈inner e,x.na=true:=by
 cases e with
 | new r es=>simp only [E.na] at h; simp only [inner]; exact rJ es h
 | rows es=>simp only [E.na] at h; simp only [inner]; exact rJ es h
 | _=>simp_all [E.na,inner]
section
variable {P:Program} {w:World} {K:Frag} {mg:Str→Option Value} {base:Heap} {f g:Addr} {fd gd:FuncData}
abbrev qI:List Str:=["shaped", "waiting", "one"]
theorem dQ:aK qI ["shaped"] (defScope eP):=⟨rfl,rfl,rfl,by decide +kernel,rfl,by decide +kernel,by decide +kernel⟩
def Am (K:Frag):Sp:=fun vs H Q _=>∃ u e,vs=[u]∧DT K H u (E.d e)∧e.na=true∧cD (E.d e)≤12∧∀ H',aO H H'→Q (.bl false) H'
def AL (K:Frag) (u:V) (l:Addr) (H0:Hp) (m:Nat) (σ:St) (H':Hp):Prop :=
 ∃ ys es m2,σ=[some u,some (.ref l),m2]∧Ext l H0 H'∧H' l=some (.lst ys)∧DTs K H' ys (E.ds es)∧(∀ x∈es,x.na=true)∧m=cDs (E.ds es)∧cDs (E.ds es)≤12
theorem Bq (F:Fun K "may_break" "may_break" eP f fd) (D_inner_of:Cal P w K mg base 1 "inner_of" ["shaped"] vt):aV P w K mg base CX0 2 f fd ["shaped"] (Am K):=by
 obtain ⟨g_inner_of,gd_inner_of,G_inner_of,b_inner_of,k_inner_of,m_inner_of⟩:=D_inner_of.ex
 refine F.ok dQ (fun vs H Q EX h=>?_) (fun cdv A outer s H vs Q EX hr h=>?_)
 ·obtain ⟨u,e,rfl,_⟩:=h
  rfl
 obtain ⟨u,e0,rfl,hu,hna,h12,q⟩:=h
 refine ⟨_,(@am _ _ _ _ _ (@aR _ _ 1 _ _ _ _ dQ.nd rfl (Or.inl rfl) (@bW _ _ _ _ (@ad _ _ _ _ _ (pv 0) ah (ac rfl))) (aC rfl) (.inr rfl)) (@am _ _ _ _ _ (gq PassesOwn.never (gr (pv 1) (fun _=>rfl)) (@am _ _ _ _ _ (@aR _ _ 2 _ _ _ _ dQ.nd rfl (Or.inl rfl) (md PySem.F.plainAttrs_list PySem.F.slot_list_pop PySem.F.type_list_pop mz (pv 1)) (aC rfl) (.inr rfl)) (@am _ _ _ _ _ (@aT _ _ _ _ _ _ _ _ (@aD _ _ _ _ _ _ _ _ cg (@aA _ _ _ _ _ _ _ av (pv 2) aj (fun _ _=>rfl)) (@aH _ _ _ _ _ (@ad _ _ _ _ _ aG (@ad _ _ _ _ _ aG ah (ac rfl)) (ac rfl))) rfl) (@ao _ _ _ (@ay _ _ _ _ bo)) aE) (@ao _ _ _ (@fj _ _ _ _ (@lr _ _ _ _ _ _ _ _ _ _ _ _ PySem.F.plainAttrs_list PySem.F.slot_list_extend PySem.F.type_list_extend fq (pv 1) (@ad _ _ _ _ _ (@au _ _ _ _ _ _ _ _ _ _ _ _ _ _ _ _ G_inner_of (hr.mono (by omega)) rfl m_inner_of k_inner_of b_inner_of .nil aI (@ad _ _ _ _ _ (pv 2) ah (ac rfl)) (by decide) (ac rfl) (ak rfl)) ah (ac rfl)) rfl (fW rfl rfl) rfl (ac rfl) (ak rfl)) (aC rfl)))))) (@ao _ _ _ (@ay _ _ _ _ bo)))),?_⟩
 refine ⟨_,rfl,(by show 1≤sizeLine; decide),fun l hl=>?_⟩
 have g0:=ag hl (.lst [u])
 have hl0:(upd H l (.lst [u])) l=some (.lst [u]):=af
 refine ⟨AL K u l (upd H l (.lst [u])),⟨_,[u],[e0],none,rfl,Ext.refl _ _,hl0,.cons (hu.mono (ar g0)) .nil,(fun x hx=>by rw [List.mem_singleton.mp hx]; exact hna),rfl,by simp [E.ds,cDs]; exact h12⟩,?_⟩
 rintro m σ H' ⟨ys,es,m3,rfl,x1,hy,dy,sp,em,ez⟩
 refine ⟨_,rfl,_,.inl ⟨ys,SqL.of hy,rfl⟩,?_⟩
 refine az (fun cc=>?_) (fun cc=>?_)
 ·obtain ⟨zs,y,rfl⟩:∃ zs y,ys=zs++[y]:=by
   rcases List.eq_nil_or_concat ys with rfl | ⟨zs,y,e⟩
   ·exact absurd cc (by decide)
   ·exact ⟨zs,y,by rw [e,List.concat_eq_append]⟩
  obtain ⟨es1,e1,rfl⟩:∃ es1 e1,es=es1++[e1]:=by
   rcases List.eq_nil_or_concat es with rfl | ⟨es1,e1,e⟩
   ·have:=dy.len; simp [E.ds] at this
   ·exact ⟨es1,e1,by rw [e,List.concat_eq_append]⟩
  rw [E.ds_snoc] at dy em ez
  obtain ⟨q1,q2,eq,dz,d1⟩:=dy.snoc_inv
  obtain ⟨rfl,e2⟩:=List.append_inj' eq (by simp)
  obtain rfl:E.d e1=q2:=by simpa using e2
  rw [dv] at em ez
  simp only [cDs,Nat.add_zero] at em ez
  refine ⟨fun σ' H'=>∃ m',m'<m∧AL K u l (upd H l (.lst [u])) m' σ' H',fun _ _ z=>z,?_⟩
  refine ⟨_,rfl,.inl ⟨rfl,_,SqL.of hy⟩,l,_,y,rfl,rfl,hy,by simp,?_⟩
  rw [List.dropLast_concat]
  have kT:Tk H' (upd H' l (.lst zs)):=dC hy _
  have x2:Ext l (upd H l (.lst [u])) (upd H' l (.lst zs)):=x1.trans Ext.upd
  have hy2:(upd H' l (.lst zs)) l=some (.lst zs):=af
  have dz2:=dz.mono kT
  have d2:=d1.mono kT
  generalize hH:(upd H' l (.lst zs))=H2 at x2 hy2 dz2 d2
  have n1:=sp e1 (by simp)
  obtain ⟨a,z,rs,rfl,ha,hsh,hv,hcd⟩:=nz d2
  obtain ⟨z1,z2⟩:=zN d2 ha n1
  refine ⟨_,rfl,a,_,_,_,rfl,rfl,SqT.of ha,at0 _ _,(by show 2≤sizeLine; decide),fun pl hpl=>⟨pl,_,rfl,.inr (SqT.of af),rfl,rfl,_,rfl,?_⟩⟩
  have g3:=ag hpl (.tup [.str "at",.str "put"])
  refine az (fun c=>?_) (fun c=>?_)
  ·have c':((Str.ofString "at"==z)||(Str.ofString "put"==z))=true:=by simpa [inV,eqV] using c
   rcases Bool.or_eq_true_iff.mp c' with h | h
   ·exact absurd (eq_of_beq h).symm z1
   ·exact absurd (eq_of_beq h).symm z2
  have lz:=dz2.len
  rw [E.ds_len] at lz
  have cl:=gT es1
  have fin:∀ (r:Addr) (L:List V) (H4:Hp),aO (upd H2 pl (.tup [.str "at",.str "put"])) H4→DTs K H2 L (E.ds (inner e1))→zs.length+L.length≤sizeLine ∧
    ∃ m',m'<m∧AL K u l (upd H l (.lst [u])) m' [some u,some (.ref l),some (.ref a)] (upd H4 l (.lst (zs++L))):=by
   intro r L H4 g4 dL
   have g5:=g3.trans g4
   have hy4:=g5 _ _ hy2
   have kL:=(ar g5).trans (dC hy4 (.lst (zs++L)))
   have lL:=dL.len
   rw [E.ds_len] at lL
   have cl':=gT (inner e1)
   refine ⟨by rw [sizeLine_eq]; omega,cDs (E.ds es1)+cDs (E.ds (inner e1)),by omega,zs++L,es1++inner e1,_,rfl,(x2.trans (aO.ext g5)).trans Ext.upd,af,by rw [E.ds_app]; exact DTs.append (dz2.mono kL) (dL.mono kL),(fun x hx=>(List.mem_append.mp hx).elim (fun h=>sp x (List.mem_append.mpr (.inl h))) (yg n1 x)),by rw [E.ds_app,dv],by rw [E.ds_app,dv]; omega⟩
  refine ⟨_,rfl,.inl ⟨rfl,_,SqL.of (g3 _ _ hy2)⟩,_,rfl,a,z,rs,rfl,g3 _ _ ha,?_⟩
  rcases hv with ⟨_,ps,L,hm,lp,lL,hp,dL⟩ | ⟨p,al,ys',hm,hp,hal,dL⟩
  ·exact .inl ⟨ps,L,hm,lp,lL,hp,fun r H4 g4 hr0 hr4=>⟨l,r,_,_,rfl,rfl,g4 _ _ (g3 _ _ hy2),hr4,(fin r L H4 g4 dL).1,(fin r L H4 g4 dL).2⟩⟩
  ·exact .inr ⟨p,al,ys',hm,hp,g3 _ _ hal,fun r H4 g4 hr0 hr4=>⟨l,r,_,_,rfl,rfl,g4 _ _ (g3 _ _ hy2),hr4,(fin r ys' H4 g4 dL).1,(fin r ys' H4 g4 dL).2⟩⟩
 ·exact q _ (dk hl x1)
abbrev kc:List Str:=["program", "kinds", "thing"]
theorem jO:aK kc ["program", "kinds", "thing"] (defScope cY):=⟨rfl,rfl,rfl,by decide +kernel,rfl,by decide +kernel,by decide +kernel⟩
def Au (K:Frag):Sp:=fun vs H Q _=>∃ v kk u e R Vs,vs=[v,.ref kk,u]∧cr H v R∧eg R∧H kk=some (.dK (pP Vs))∧(Vs.map (·.1)).Nodup∧DT K H u (E.d e)∧e.d.depth≤23∧Ok R Vs e "num"∧cD (E.d e)≤12∧e.na=true∧∀ H',aO H H'→Q (.bl true) H'
theorem Bw (F:Fun K "is_compared" "is_compared" cY f fd) (D_expression_kind:Cal P w K mg base 29 "expression_kind" ["program", "kinds", "thing"] (zT K)) (D_may_break:Cal P w K mg base 2 "may_break" ["shaped"] (Am K)):aV P w K mg base CX0 30 f fd ["program", "kinds", "thing"] (Au K):=by
 obtain ⟨g_may_break,gd_may_break,G_may_break,b_may_break,k_may_break,m_may_break⟩:=D_may_break.ex
 obtain ⟨g_expression_kind,gd_expression_kind,G_expression_kind,b_expression_kind,k_expression_kind,m_expression_kind⟩:=D_expression_kind.ex
 refine F.ok jO (fun vs H Q EX h=>?_) (fun cdv A outer s H vs Q EX hr h=>?_)
 ·obtain ⟨v,kk,u,e,R,Vs,rfl,_⟩:=h
  rfl
 obtain ⟨v,kk,u,e,R,Vs,rfl,hv,hlk,hkk,hnd,hu,hdp,hok,hc,hna,q⟩:=h
 refine ⟨_,(@ao _ _ _ (@ay _ _ _ _ (bR (@bC _ _ _ _ _ _ _ _ bA (@au _ _ _ _ _ _ _ _ _ _ _ _ _ _ _ _ G_expression_kind (hr.mono (by omega)) rfl m_expression_kind k_expression_kind b_expression_kind .nil aI (@ad _ _ _ _ _ (pv 0) (@ad _ _ _ _ _ (pv 1) (@ad _ _ _ _ _ (pv 2) ah (ac rfl)) (ac rfl)) (ac rfl)) (by decide) (ac rfl) (ak rfl)) aG (aJ _)) (bH (ua (@au _ _ _ _ _ _ _ _ _ _ _ _ _ _ _ _ G_may_break (hr.mono (by omega)) rfl m_may_break k_may_break b_may_break .nil aI (@ad _ _ _ _ _ (pv 2) ah (ac rfl)) (by decide) (ac rfl) (ak rfl))))))),?_⟩
 refine ⟨_,rfl,_,rfl,_,rfl,v,kk,u,e,R,Vs, "num",rfl,hv,hlk,hkk,hnd,hu,hdp,hok,hc,fun H2 g2=>⟨rfl,_,rfl,?_⟩⟩
 refine az (fun c=>?_) (fun c=>absurd (by decide +kernel) c)
 refine ⟨_,rfl,u,e,rfl,hu.mono (ar g2),hna,hc,fun H3 g3=>⟨_,rfl,?_⟩⟩
 exact q _ (g2.trans g3)
end
open PySem L2
def C.inner:C→List C
 | .and_ c d=>[c,d]
 | .or_ c d=>[c,d]
 | .not_ c=>[c]
 | _=>[]
def cnC:List C→Nat
 | []=>0
 | c::r=>c.cnt+cnC r
theorem iT:∀ a b:List C,cnC (a++b)=cnC a+cnC b
 | [],b=>by simp [cnC]
 | c::r,b=>by simp only [List.cons_append,cnC,iT r b]; omega
theorem C.cnt_inner (c:C):c.cnt=1+cnC c.inner:=by cases c<;>simp [C.cnt,C.inner,cnC]<;>omega
theorem vx:∀ cs:List C,cs.length≤cnC cs
 | []=>Nat.zero_le _
 | c::r=>by
  have h1:=vx r
  have h2:=c.cnt_inner
  simp only [cnC,List.length_cons]
  omega
theorem zG {K:Frag} {H:Hp} {u:V} {c:C} (h:DT K H u (C.d c)):∃ (a:Addr) (z:Str) (rs:List V) (ps:List Int) (L:List V),u=.ref a∧H a=some (.tup (.str z::rs))∧(z,("condition":Str),((rs.length+1:Nat):Int))∈SH4∧(∀ q∈LIT,q.1≠z) ∧
  (z,ps)∈PLC∧ps.length≤10∧L.length=ps.length∧(∀ (i:Nat) (p:Int),ps[i]?=some p→∃ y,atI (.str z::rs) p=some y∧L[i]?=some y) ∧
  ((∃ x1 x2 e1 e2,L=[x1,x2]∧(z = "less"∨z = "same")∧(c=.less e1 e2∨c=.same e1 e2)∧DT K H x1 e1.d∧DT K H x2 e2.d)∨((z ≠ "less"∧z ≠ "same")∧DTs K H L (c.inner.map C.d))):=by
 cases c with
 | less y1 y2 =>
  simp only [C.d] at h ⊢
  obtain ⟨a,xs,rfl,ha,dx0⟩:=h.open
  obtain ⟨x0,r0,rfl,h0,dx1⟩:=dx0.open
  obtain rfl:=h0.str_inv
  obtain ⟨x1,r1,rfl,h1,dx2⟩:=dx1.open
  obtain ⟨x2,r2,rfl,h2,dx3⟩:=dx2.open
  cases dx3
  exact ⟨a,_,_,[1,2],[x1,x2],rfl,ha,(show (("less":Str),("condition":Str),(3:Int))∈SH4 by decide +kernel),by decide +kernel,by decide +kernel,by decide,rfl,(fun i p h=>match i,h with | 0,h=>by cases h; exact ⟨_,rfl,rfl⟩ | 1,h=>by cases h; exact ⟨_,rfl,rfl⟩ | n+2,h=>by simp at h),.inl ⟨x1,x2,y1,y2,rfl,.inl rfl,.inl rfl,h1,h2⟩⟩
 | same y1 y2 =>
  simp only [C.d] at h ⊢
  obtain ⟨a,xs,rfl,ha,dx0⟩:=h.open
  obtain ⟨x0,r0,rfl,h0,dx1⟩:=dx0.open
  obtain rfl:=h0.str_inv
  obtain ⟨x1,r1,rfl,h1,dx2⟩:=dx1.open
  obtain ⟨x2,r2,rfl,h2,dx3⟩:=dx2.open
  cases dx3
  exact ⟨a,_,_,[1,2],[x1,x2],rfl,ha,(show (("same":Str),("condition":Str),(3:Int))∈SH4 by decide +kernel),by decide +kernel,by decide +kernel,by decide,rfl,(fun i p h=>match i,h with | 0,h=>by cases h; exact ⟨_,rfl,rfl⟩ | 1,h=>by cases h; exact ⟨_,rfl,rfl⟩ | n+2,h=>by simp at h),.inl ⟨x1,x2,y1,y2,rfl,.inr rfl,.inr rfl,h1,h2⟩⟩
 | and_ y1 y2 =>
  simp only [C.d] at h ⊢
  obtain ⟨a,xs,rfl,ha,dx0⟩:=h.open
  obtain ⟨x0,r0,rfl,h0,dx1⟩:=dx0.open
  obtain rfl:=h0.str_inv
  obtain ⟨x1,r1,rfl,h1,dx2⟩:=dx1.open
  obtain ⟨x2,r2,rfl,h2,dx3⟩:=dx2.open
  cases dx3
  exact ⟨a,_,_,[1,2],[x1,x2],rfl,ha,(show (("and":Str),("condition":Str),(3:Int))∈SH4 by decide +kernel),by decide +kernel,by decide +kernel,by decide,rfl,(fun i p h=>match i,h with | 0,h=>by cases h; exact ⟨_,rfl,rfl⟩ | 1,h=>by cases h; exact ⟨_,rfl,rfl⟩ | n+2,h=>by simp at h),.inr ⟨⟨by decide +kernel,by decide +kernel⟩,(.cons h1 (.cons h2 .nil))⟩⟩
 | or_ y1 y2 =>
  simp only [C.d] at h ⊢
  obtain ⟨a,xs,rfl,ha,dx0⟩:=h.open
  obtain ⟨x0,r0,rfl,h0,dx1⟩:=dx0.open
  obtain rfl:=h0.str_inv
  obtain ⟨x1,r1,rfl,h1,dx2⟩:=dx1.open
  obtain ⟨x2,r2,rfl,h2,dx3⟩:=dx2.open
  cases dx3
  exact ⟨a,_,_,[1,2],[x1,x2],rfl,ha,(show (("or":Str),("condition":Str),(3:Int))∈SH4 by decide +kernel),by decide +kernel,by decide +kernel,by decide,rfl,(fun i p h=>match i,h with | 0,h=>by cases h; exact ⟨_,rfl,rfl⟩ | 1,h=>by cases h; exact ⟨_,rfl,rfl⟩ | n+2,h=>by simp at h),.inr ⟨⟨by decide +kernel,by decide +kernel⟩,(.cons h1 (.cons h2 .nil))⟩⟩
 | not_ y1 =>
  simp only [C.d] at h ⊢
  obtain ⟨a,xs,rfl,ha,dx0⟩:=h.open
  obtain ⟨x0,r0,rfl,h0,dx1⟩:=dx0.open
  obtain rfl:=h0.str_inv
  obtain ⟨x1,r1,rfl,h1,dx2⟩:=dx1.open
  cases dx2
  exact ⟨a,_,_,[1],[x1],rfl,ha,(show (("not":Str),("condition":Str),(2:Int))∈SH4 by decide +kernel),by decide +kernel,by decide +kernel,by decide,rfl,(fun i p h=>match i,h with | 0,h=>by cases h; exact ⟨_,rfl,rfl⟩ | n+1,h=>by simp at h),.inr ⟨⟨by decide +kernel,by decide +kernel⟩,(.cons h1 .nil)⟩⟩
theorem Br {c:C} {a b:E} (h:c=.less a b∨c=.same a b):c.cnt=1:=by rcases h with rfl | rfl<;>rfl
theorem wT {R:List Rec} {Vs:List Fld} {c:C} (h:OkC R Vs c):∀ x∈c.inner,OkC R Vs x:=by
 cases c with
 | less a b=>intro x hx; cases hx
 | same a b=>intro x hx; cases hx
 | not_ c=>intro x hx; rw [List.mem_singleton.mp hx]; exact h
 | and_ c d=>intro x hx; simp only [OkC] at h; simp only [C.inner,List.mem_cons,List.not_mem_nil,or_false] at hx; rcases hx with rfl | rfl; exact h.1; exact h.2
 | or_ c d=>intro x hx; simp only [OkC] at h; simp only [C.inner,List.mem_cons,List.not_mem_nil,or_false] at hx; rcases hx with rfl | rfl; exact h.1; exact h.2
theorem C.dep_inner {c:C} {n:Nat} (h:c.d.depth≤n):∀ x∈c.inner,x.d.depth≤n:=by
 cases c with
 | less a b=>intro x hx; cases hx
 | same a b=>intro x hx; cases hx
 | not_ c=>intro x hx; rw [List.mem_singleton.mp hx]; simp only [C.d,PyData.depth,PyData.depthAll] at h; omega
 | and_ c d=>intro x hx; simp only [C.d,PyData.depth,PyData.depthAll] at h; simp only [C.inner,List.mem_cons,List.not_mem_nil,or_false] at hx; rcases hx with rfl | rfl<;>omega
 | or_ c d=>intro x hx; simp only [C.d,PyData.depth,PyData.depthAll] at h; simp only [C.inner,List.mem_cons,List.not_mem_nil,or_false] at hx; rcases hx with rfl | rfl<;>omega
theorem C.ls {R:List Rec} {Vs:List Fld} {c:C} {a b:E} {n:Nat} (h:c=.less a b∨c=.same a b) (o:OkC R Vs c) (d:c.d.depth≤n):(Ok R Vs a "num"∧a.na=true∧Ok R Vs b "num"∧b.na=true∧cD a.d≤12∧cD b.d≤12)∧a.d.depth≤n∧b.d.depth≤n:=by
 rcases h with rfl | rfl<;>(simp only [OkC] at o; simp only [C.d,PyData.depth,PyData.depthAll] at d; exact ⟨o,by omega,by omega⟩)
section
variable {P:Program} {w:World} {K:Frag} {mg:Str→Option Value} {base:Heap} {f g:Addr} {fd gd:FuncData}
abbrev eB:List Str:=["program", "kinds", "thing", "waiting", "count", "c"]
abbrev cR:List Str:=["e", "program", "kinds"]
theorem fR:cR.Nodup:=by decide +kernel
theorem bM:aK eB ["program", "kinds", "thing"] (defScope bZ):=⟨rfl,rfl,rfl,by decide +kernel,rfl,by decide +kernel,by decide +kernel⟩
def Cz (K:Frag):Sp:=fun vs H Q _=>∃ v kk u c R Vs,vs=[v,.ref kk,u]∧cr H v R∧eg R∧H kk=some (.dK (pP Vs))∧(Vs.map (·.1)).Nodup∧DT K H u (C.d c)∧c.d.depth≤23∧OkC R Vs c∧∃ b,(c.cnt≤6∧b=true∨6<c.cnt∧c.cnt≤100∧b=false)∧∀ H',aO H H'→Q (.bl b) H'
def Db (K:Frag) (N:Nat) (R:List Rec) (Vs:List Fld) (v u:V) (kk l:Addr) (H0:Hp) (m:Nat) (σ:St) (H':Hp):Prop :=
 ∃ n:Nat,∃ ys cs m5,σ=[some v,some (.ref kk),some u,some (.ref l),some (.int (n:Int)),m5]∧Ext l H0 H'∧H' l=some (.lst ys)∧DTs K H' ys (cs.map C.d)∧(∀ x∈cs,OkC R Vs x∧x.d.depth≤23)∧m=cnC cs∧n≤6∧n+cnC cs=N
theorem CT (T:G0 mg) (mCx:∃ t,mg "MOST_CONDITIONS"=some (.int 6 t)) (F:Fun K "is_condition" "is_condition" bZ f fd) (D_is_shaped:Cal P w K mg base 1 "is_shaped" ["thing", "sort"] gu) (D_inner_of:Cal P w K mg base 1 "inner_of" ["shaped"] vt) (D_is_compared:Cal P w K mg base 30 "is_compared" ["program", "kinds", "thing"] (Au K)):aV P w K mg base CX0 31 f fd ["program", "kinds", "thing"] (Cz K):=by
 obtain ⟨g_inner_of,gd_inner_of,G_inner_of,b_inner_of,k_inner_of,m_inner_of⟩:=D_inner_of.ex
 obtain ⟨g_is_compared,gd_is_compared,G_is_compared,b_is_compared,k_is_compared,m_is_compared⟩:=D_is_compared.ex
 obtain ⟨g_is_shaped,gd_is_shaped,G_is_shaped,b_is_shaped,k_is_shaped,m_is_shaped⟩:=D_is_shaped.ex
 obtain ⟨tC,mC⟩:=mCx
 refine F.ok bM (fun vs H Q EX h=>?_) (fun cdv A outer s H vs Q EX hr h=>?_)
 ·obtain ⟨v,kk,u,c,R,Vs,rfl,_⟩:=h
  rfl
 obtain ⟨v,kk,u,c0,R,Vs,rfl,hv,hlk,hkk,hnd,hu,hdp,hok,b0,hb,q⟩:=h
 have hN:c0.cnt≤100:=by omega
 obtain ⟨N,eN⟩:∃ N,N=c0.cnt:=⟨_,rfl⟩
 rw [← eN] at hb hN
 refine ⟨_,(@am _ _ _ _ _ (@aR _ _ 3 _ _ _ _ bM.nd rfl (Or.inl rfl) (@bW _ _ _ _ (@ad _ _ _ _ _ (pv 2) ah (ac rfl))) (aC rfl) (.inr rfl)) (@am _ _ _ _ _ (@aR _ _ 4 _ _ _ _ bM.nd rfl (Or.inl rfl) aj (aC rfl) (.inr rfl)) (@am _ _ _ _ _ (gq PassesOwn.never (gr (pv 3) (fun _=>rfl)) (@am _ _ _ _ _ (@aR _ _ 5 _ _ _ _ bM.nd rfl (Or.inl rfl) (md PySem.F.plainAttrs_list PySem.F.slot_list_pop PySem.F.type_list_pop mz (pv 3)) (aC rfl) (.inr rfl)) (@am _ _ _ _ _ (rK (i:=4) bM.nd rfl (Or.inl rfl) aj rP) (@am _ _ _ _ _ (@aT _ _ _ _ _ _ _ _ (PW.pt (bK (@aD _ _ _ _ _ _ _ _ qJ (pv 4) (aX (v:=.int 6) rfl mC ⟨_,rfl⟩) (aJ _)) (bP (bc (aW (@au _ _ _ _ _ _ _ _ _ _ _ _ _ _ _ _ G_is_shaped (hr.mono (by omega)) rfl m_is_shaped k_is_shaped b_is_shaped .nil aI (@ad _ _ _ _ _ (pv 5) (@ad _ _ _ _ _ aG ah (ac rfl)) (ac rfl)) (by decide) (ac rfl) (ak rfl))))))) (@ao _ _ _ (@ay _ _ _ _ bo)) aE) (@ao _ _ _ (@aT _ _ _ _ _ _ _ _ (@aD _ _ _ _ _ _ _ _ dI (@aA _ _ _ _ _ _ _ av (pv 5) aj (fun _ _=>rfl)) (@aH _ _ _ _ _ (@ad _ _ _ _ _ aG (@ad _ _ _ _ _ aG ah (ac rfl)) (ac rfl))) rfl) (@ao _ _ _ (@fj _ _ _ _ (@lr _ _ _ _ _ _ _ _ _ _ _ _ PySem.F.plainAttrs_list PySem.F.slot_list_extend PySem.F.type_list_extend fq (pv 3) (@ad _ _ _ _ _ (@au _ _ _ _ _ _ _ _ _ _ _ _ _ _ _ _ G_inner_of (hr.mono (by omega)) rfl m_inner_of k_inner_of b_inner_of .nil aI (@ad _ _ _ _ _ (pv 5) ah (ac rfl)) (by decide) (ac rfl) (ak rfl)) ah (ac rfl)) rfl (fW rfl rfl) rfl (ac rfl) (ak rfl)) (aC rfl))) (@ao _ _ _ (@aT _ _ _ _ _ _ _ _ (bc (aW (@aF _ _ _ _ _ _ _ _ _ (cy rfl) rfl T.all iE (@ad _ _ _ _ _ (bt (N':=cR) (ρ:=[none,some 0,some 1]) (m:=1) (bF.of (fs:=defScope bZ) (N:=eB) rfl rfl (by decide +kernel)) rfl (dR (au G_inner_of (hr.mono (by omega)) rfl m_inner_of k_inner_of b_inner_of .nil aI (ad (pv 5) ah))) (fun _ _ _ _=>(aQ (i:=0) fR rfl (Or.inl rfl))) (fun _ _ _ _=>bq) (fun _ _ _ _=>(au G_is_compared (hr.mono (by omega)) rfl m_is_compared k_is_compared b_is_compared .nil aI (ad (pv 1) (ad (pv 2) (ad (pv 0) ah)))))) ah (ac rfl)) (by decide) (by decide) (ac rfl) (ak rfl)))) (@ao _ _ _ (@ay _ _ _ _ bo)) aE)))))))) (@ao _ _ _ (@ay _ _ _ _ bo))))),?_⟩
 refine ⟨_,rfl,(by show 1≤sizeLine; decide),fun l hl=>?_⟩
 have g0:=ag hl (.lst [u])
 have hl0:(upd H l (.lst [u])) l=some (.lst [u]):=af
 refine ⟨Db K N R Vs v u kk l (upd H l (.lst [u])),⟨_,0,[u],[c0],none,rfl,Ext.refl _ _,hl0,.cons (hu.mono (ar g0)) .nil,(fun x hx=>by rw [List.mem_singleton.mp hx]; exact ⟨hok,hdp⟩),rfl,by omega,by simp [cnC,eN]⟩,?_⟩
 rintro m σ H' ⟨n,ys,cs,m5,rfl,x1,hy,dy,oks,em,en6,ez⟩
 refine ⟨_,rfl,_,.inl ⟨ys,SqL.of hy,rfl⟩,?_⟩
 refine az (fun cc=>?_) (fun cc=>?_)
 ·obtain ⟨zs,y,rfl⟩:∃ zs y,ys=zs++[y]:=by
   rcases List.eq_nil_or_concat ys with rfl | ⟨zs,y,e⟩
   ·exact absurd cc (by decide)
   ·exact ⟨zs,y,by rw [e,List.concat_eq_append]⟩
  obtain ⟨cs1,c1,rfl⟩:∃ cs1 c1,cs=cs1++[c1]:=by
   rcases List.eq_nil_or_concat cs with rfl | ⟨cs1,c1,e⟩
   ·have:=dy.len; simp at this
   ·exact ⟨cs1,c1,by rw [e,List.concat_eq_append]⟩
  rw [List.map_append] at dy
  obtain ⟨q1,q2,eq,dz,d1⟩:=dy.snoc_inv
  obtain ⟨rfl,e2⟩:=List.append_inj' eq (by simp)
  obtain rfl:C.d c1=q2:=by simpa using e2
  rw [iT] at em ez
  simp only [cnC,Nat.add_zero] at em ez
  refine ⟨fun σ' H'=>∃ m',m'<m∧Db K N R Vs v u kk l (upd H l (.lst [u])) m' σ' H',fun _ _ z=>z,?_⟩
  refine ⟨_,rfl,.inl ⟨rfl,_,SqL.of hy⟩,l,_,y,rfl,rfl,hy,by simp,?_⟩
  rw [List.dropLast_concat]
  have kT:Tk H' (upd H' l (.lst zs)):=dC hy _
  have x2:Ext l (upd H l (.lst [u])) (upd H' l (.lst zs)):=x1.trans Ext.upd
  have hy2:(upd H' l (.lst zs)) l=some (.lst zs):=af
  have dz2:=dz.mono kT
  have d2:=d1.mono kT
  generalize hH:(upd H' l (.lst zs))=H2 at x2 hy2 dz2 d2
  have hcn:=c1.cnt_inner
  obtain ⟨ok1,dp1⟩:=oks c1 (by simp)
  have oks1:∀ x∈cs1,OkC R Vs x∧x.d.depth≤23:=fun x hx=>oks x (List.mem_append.mpr (.inl hx))
  obtain ⟨a,z,rs,ps,L,rfl,ha,hsh,hli,hm,lp,lL,hp,hv1⟩:=zG d2
  refine ⟨_,rfl,_,_,rfl,rfl,?_⟩
  have ec:(n:Int)+1=((n+1:Nat):Int):=by omega
  generalize hn':n+1=n' at ec
  dsimp only
  rw [ec]
  refine ⟨_,rfl,_,_,rfl,rfl,_,rfl,?_⟩
  refine az (fun c=>?_) (fun c=>?_)
  ·have c9:=of_decide_eq_true c
   have eb:b0=false:=hb.elim (fun h=>absurd h.1 (by omega)) (fun h=>h.2.2)
   rw [eb] at q
   exact bz (q _ (dk hl x2))
  have c10:n'≤6:=by
   have c9:¬ ((n':Int) > 6):=fun z=>c (decide_eq_true z)
   omega
  refine ⟨_,rfl,a,z,rs, "condition",rfl,ha,hsh,.inl hli,_,rfl,bv ?_⟩
  have lz:=dz2.len
  rw [List.length_map] at lz
  have cl:=vx cs1
  have sm:aO H H2:=dk hl x2
  refine ⟨_,rfl,a,_,_,_,rfl,rfl,SqT.of ha,at0 _ _,(by show 2≤sizeLine; decide),fun pl hpl=>⟨pl,_,rfl,.inr (SqT.of af),rfl,rfl,_,rfl,?_⟩⟩
  have g3:=ag hpl (.tup [.str "less",.str "same"])
  have einV:inV (.str z) [.str "less",.str "same"]=((Str.ofString "less"==z)||(Str.ofString "same"==z)):=by simp [inV,eqV]
  rcases hv1 with ⟨x1',x2',e1,e2,rfl,hz,hcc,dx1,dx2⟩ | ⟨⟨hz1,hz2⟩,dL⟩
  ·obtain ⟨⟨o1,o2,o3,o4,o5,o6⟩,o7,o8⟩:=C.ls hcc ok1 dp1
   refine az (fun c=>absurd c ?_) (fun c=>?_)
   ·rcases hz with rfl | rfl<;>decide +kernel
   refine ⟨_,rfl,a,z,rs,rfl,g3 _ _ ha,.inl ⟨ps,_,hm,lp,lL,hp,fun r H4 g4 hr0 hr4=>⟨r,rfl,⟨_,SqL.of hr4⟩,?_⟩⟩⟩
   have G4:=(sm.trans g3).trans g4
   refine cZ (xs:=[x1',x2']) 2 rfl (by omega) (fun i acc H5=>aO H4 H5∧acc=(List.replicate i true).map V.bl) ⟨aO.refl _,rfl⟩ (fun i acc H5 p=>SqL.of (p.1 _ _ hr4)) (fun i acc H5 x hi la hx p=>?_) (fun acc H5 p la D hD=>?_)
   ·obtain ⟨g5,rfl⟩:=p
    have ga:=(g3.trans g4).trans g5
    have gh:=G4.trans g5
    refine ⟨⟨rfl,rfl⟩,bu ?_⟩
    obtain ⟨e,ee,de,oe,ne,ce⟩:∃ e,e.d.depth≤23∧DT K H2 x e.d∧Ok R Vs e "num"∧e.na=true∧cD e.d≤12:=by
     match i,hx with
     | 0,hx=>cases hx; exact ⟨e1,o7,dx1,o1,o2,o5⟩
     | 1,hx=>cases hx; exact ⟨e2,o8,dx2,o3,o4,o6⟩
     | n+2,hx=>simp at hx
    refine ⟨_,rfl,_,rfl,_,rfl,v,kk,x,e,R,Vs,rfl,hv.mono (ar gh),hlk,gh _ _ hkk,hnd,de.mono (ar ga),ee,oe,ce,ne,fun H6 g6=>nxT (by omega) hi la ⟨g5.trans g6,?_⟩⟩
    rw [List.replicate_succ',List.map_append]
    rfl
   ·obtain ⟨g5,rfl⟩:=p
    refine ⟨D,_,rfl,SqL.of af,_,rfl,bv ?_⟩
    have gz:=((g3.trans g4).trans g5).trans (ag hD (.lst ((List.replicate 2 true).map V.bl)))
    refine ⟨cnC cs1,by omega,n',zs,cs1,_,rfl,x2.trans (aO.ext gz),gz _ _ hy2,dz2.mono (ar gz),oks1,rfl,c10,by rw [← ez,Br hcc]; omega⟩
  ·have nn:(!inV (.str z) [.str "less",.str "same"])=true:=by
    rw [einV]
    simp only [Bool.not_or,Bool.and_eq_true,Bool.not_eq_true',beq_eq_false_iff_ne]
    exact ⟨fun h=>hz1 h.symm,fun h=>hz2 h.symm⟩
   refine az (fun c=>?_) (fun c=>absurd nn c)
   refine ⟨_,rfl,.inl ⟨rfl,_,SqL.of (g3 _ _ hy2)⟩,_,rfl,a,z,rs,rfl,g3 _ _ ha,.inl ⟨ps,L,hm,lp,lL,hp,fun r H4 g4 hr0 hr4=>?_⟩⟩
   have g5:=g3.trans g4
   have hy4:=g5 _ _ hy2
   have kL:=(ar g5).trans (dC hy4 (.lst (zs++L)))
   refine ⟨l,r,_,_,rfl,rfl,hy4,hr4,by rw [sizeLine_eq]; omega,?_⟩
   refine ⟨cnC (cs1++c1.inner),by rw [iT]; omega,n',zs++L,cs1++c1.inner,_,rfl,(x2.trans (aO.ext g5)).trans Ext.upd,af,by rw [List.map_append]; exact DTs.append (dz2.mono kL) (dL.mono kL),(fun x hx=>(List.mem_append.mp hx).elim (oks1 x) fun h=>⟨wT ok1 x h,C.dep_inner dp1 x h⟩),rfl,c10,by rw [iT]; omega⟩
 ·have e0':ys=[]:=by
   rcases ys with _ | ⟨y,r⟩
   ·rfl
   ·exact absurd rfl cc
  subst e0'
  have l0:=dy.len
  rw [List.length_map] at l0
  obtain rfl:cs=[]:=List.length_eq_zero_iff.mp l0.symm
  simp only [cnC] at ez
  have eb:b0=true:=hb.elim (fun h=>h.2) (fun h=>absurd h.1 (by omega))
  rw [eb] at q
  exact q _ (dk hl x1)
end
end K6
namespace PySem
open AutoSeq1 (wpAny_loadPart')
theorem eH (l:Addr) (items:Array Value) (n:Nat) (dct:Option Addr) (sl:Array (Option Value)) :
  Meets (Builtin.«enumerate.__new__» ⟨[.type "enumerate",.ref l],[]⟩) (fun _ R s=>s.heap.get? l=some { cls:=.type "tuple",dict:=dct,data:=.seq items n,slots:=sl } ∧
   R (.ok (.ret (.ref (s.heap.push { cls:=.type "tuple_iterator",data:=.fields #[.ref l,.int 0 0] }).objs.size)))
    { s with heap:=(s.heap.push { cls:=.type "tuple_iterator",data:=.fields #[.ref l,.int 0 0] }).push { cls:=.type "enumerate",data:=.fields #[.none,.bool false,.ref s.heap.objs.size,rawInt 0,.none,.none] } }) :=
 .of_wp fun prog w A R s h=>by
  obtain ⟨hp,g,d,tk,os⟩:=s; obtain ⟨hl,h⟩:=h
  have hsub:=sub_enumerate
  have hL:Heap.IsTuple (Shared.heap ⟨hp,g,d,tk,os⟩) l items:=⟨_,hl,rfl,n,rfl⟩
  wp_walk using wpAny_loadPart' hl
  refine wpAny_stack_any fun st=>wpAny_pure ?_
  split
  ·rename_i c _ _ _ _ _
   cases (c==Value.type "enumerate")
   ·wp_walk using wpAny_loadPart' hl,wpAny_pyIter_tuple hL
    exact ⟨_,rfl,h⟩
   ·wp_walk using wpAny_loadPart' hl,wpAny_pyIter_tuple hL
    exact ⟨_,rfl,h⟩
  ·wp_walk using wpAny_loadPart' hl,wpAny_pyIter_tuple hL
   exact ⟨_,rfl,h⟩
theorem fP {prog:Program} {w:World} {A:Around} {E:Value→Shared→Prop} {s:Shared} {l:Addr} {items:Array Value} {Q:Value→Shared→Prop} (hL:s.heap.IsTuple l items)
  (h:∀ h',IsEnum h' (s.heap.objs.size+1) s.heap.objs.size 0 .none→h'.IsTupleIter s.heap.objs.size l 0→h'.objs.size=s.heap.objs.size+2 →
   (∀ b o,s.heap.get? b=some o→h'.get? b=some o)→Q (.ref (s.heap.objs.size+1)) { s with heap:=h' }) :
  wpAny (model prog w) A (call (.type "enumerate") [.ref l]) Q E s:=by
 obtain ⟨⟨c,dct,dt,sl⟩,hl,hc,n,hd⟩:=hL
 replace hc:c=.type "tuple":=hc
 replace hd:dt=.seq items n:=hd
 subst hc hd
 refine callType_new F.called_enumerate (by decide) (F.typeCall_enumerate_1 _) (F.newCall_enumerate_1 _) (fun obj=>F.args_object_init_2 obj _) F.entry_enumerate_new
  (eH l items n dct sl) ⟨hl,?_⟩
 have hz:(s.heap.push { cls:=.type "tuple_iterator",data:=.fields #[.ref l,.int 0 0] }).objs.size=s.heap.objs.size+1:=Heap.size_push ..
 show _∧_
 rw [hz]
 have he:IsEnum ((s.heap.push { cls:=.type "tuple_iterator",data:=.fields #[.ref l,.int 0 0] }).push
   { cls:=.type "enumerate",data:=.fields #[.none,.bool false,.ref s.heap.objs.size,rawInt 0,.none,.none] }) (s.heap.objs.size+1) s.heap.objs.size 0 .none:=by
  have:=Heap.get?_push_size (s.heap.push { cls:=.type "tuple_iterator",data:=.fields #[.ref l,.int 0 0] })
   (o:={ cls:=.type "enumerate",data:=.fields #[.none,.bool false,.ref s.heap.objs.size,rawInt 0,.none,.none] }) rfl
  rw [hz] at this; exact this
 refine ⟨⟨_,he,rfl⟩,h _ he ⟨_,Heap.get?_push_of_some _ (Heap.get?_push_size _ rfl),rfl,rfl⟩ (by rw [Heap.size_push,hz]) fun b o x=>Heap.get?_push_of_some _ (Heap.get?_push_of_some _ x)⟩
end PySem
namespace L2
open PySem PySem.Spec PyProof.Rows
theorem jf:bootBuiltins "enumerate"=some (.type "enumerate"):=by decide +kernel
def yq (K:Frag) (a:Addr):It :=
 ⟨fun i H=>∃ xs x,SqT K H a xs∧xs[i]?=some x,
  fun i H v H'=>∃ p x,H p=none∧v=.ref p∧H'=upd H p (.tup [.int (i:Int),x])∧∀ xs,SqT K H a xs→xs[i]?=some x,
  fun i H=>∃ xs,SqT K H a xs∧xs.length=i⟩
theorem rA {P:Program} {w:World} {K:Frag} {elts:List Expr} {x1} {pos:Pos} {e it:Addr} (hne:e≠it) (a:Addr) :
  ke P w K (.Tuple elts x1 pos) (yq K a) [e,it] e (fun i h=>(∃ old,IsEnum h e it ((i:Nat):Int) old)∧h.IsTupleIter it a i) where
 mem:=by simp
 obj:=fun i h st c hc=>by
  obtain ⟨⟨old,he⟩,o,eo,_,d⟩:=st
  simp at hc
  rcases hc with rfl | rfl
  ·exact ⟨_,he,fun v z=>by have z':Data.fields _=Data.cell v:=z; cases z'⟩
  ·exact ⟨o,eo,fun v z=>by rw [d] at z; cases z⟩
 keep:=fun i h h' st k=>by
  obtain ⟨⟨old,he⟩,hit⟩:=st
  exact ⟨⟨old,k e (by simp) _ he⟩,hit.at fun o eo=>k it (by simp) o eo⟩
 item:=by
  intro X hP hw hK hc i pins s σ H E I hf st hg
  subst hP hw hK
  obtain ⟨xs,x,hq,ex⟩:=hg
  obtain ⟨⟨old,he⟩,hit⟩:=st
  obtain ⟨its,r1,p1,_⟩:=I.tuple hq
  obtain ⟨ux,hux,rx⟩:=r1.get ex
  have fe:=hf e (by simp)
  have fi:=hf it (by simp)
  have hh:X.A.in1.handled=none:=I.ok.hd hc
  have l1:i<its.toArray.size:=by simpa using (List.getElem?_eq_some_iff.mp hux).1
  have ai:a≠it:=I.sq_ne (k:=true) hq fi
  have ae:a≠e:=I.sq_ne (k:=true) hq fe
  refine wpAny_pyNext_enum_itemD (Draws.tup hh it a ai its.toArray) he ⟨hit,p1⟩ l1 hne (by simp [hne,ae.symm]) fun gx h' tk px a1 a2 a3 a4 a5=>?_
  have egx:gx=ux:=by
   have px':its[i]?=some gx:=by simpa using px
   rw [hux] at px'
   exact (Option.some.inj px').symm
  subst egx
  refine ⟨_,rfl,wpAny_letOwnedTupleGo_enum (s:={ s with heap:=h',toks:=tk+1 }) a1 fun h2 b1 b2=>?_⟩
  have b2':Heap.SameBut e h' h2:=b2
  have lt:∀ {c:Addr} {o:Obj},s.heap.get? c=some o→c≠s.heap.objs.size:=fun e=>Nat.ne_of_lt (Heap.lt_size e)
  have fr:H s.heap.objs.size=none:=I.hok.fresh (Nat.le_refl _)
  have I1:Inv X pins σ (upd H s.heap.objs.size (.tup [.int (i:Int),x])) { s with heap:=s.heap.push { cls:=.type "tuple",data:=.seq #[.int i tk,gx] },toks:=tk+1 }:=by
   refine I.laid (t':=tk+1) (fun b u e=>Heap.get?_push_of_some _ e) (Nat.le_refl _) ⟨by simp [sizeLine],[.int i tk,gx],.cons ⟨_,rfl⟩ (.cons rx .nil),⟨_,Heap.get?_push_size _ rfl,rfl,_,rfl⟩,_,Heap.get?_push_size _ rfl,rfl⟩
  have nl:∀ c∈[e,it],c≠s.heap.objs.size:=fun c hc=>by
   simp at hc
   rcases hc with rfl | rfl
   ·exact lt he
   ·obtain ⟨o,eo,_⟩:=hit; exact lt eo
  have hf':∀ c∈[e,it],fU X pins (upd H s.heap.objs.size (.tup [.int (i:Int),x])) c:=fun c hc=>⟨by rw [bd (nl c hc)]; exact (hf c hc).1,(hf c hc).2⟩
  have I2:Inv X pins σ (upd H s.heap.objs.size (.tup [.int (i:Int),x])) { s with heap:=h2,toks:=tk+1 }:=by
   refine Inv.turnedL (s:={ s with heap:=s.heap.push { cls:=.type "tuple",data:=.seq #[.int i tk,gx] },toks:=tk+1 }) (t':=tk+1) (its:=[e,it]) I1 (fun c o hc eo=>?_) hf'
   simp at hc
   refine b2'.extBut _ _ hc.1 ?_
   rcases Heap.get?_push_cases eo with ⟨q,q'⟩ | q
   ·rw [q,q']
    exact a3
   ·exact a5 c o hc.1 hc.2 q
  refine ⟨.ref s.heap.objs.size,_,I2,rfl,⟨_,x,fr,rfl,rfl,fun zs hz'=>by rw [I.tuple_inj hz' hq]; exact ex⟩,⟨⟨_,b1⟩,a2.1.at fun o eo=>b2'.extBut _ _ (Ne.symm hne) eo⟩,fun c hc=>(hf' c hc).1⟩
 done:=by
  intro X hP hw hK hc i pins s σ H E I hf st hg
  subst hP hw hK
  obtain ⟨xs,hq,hx⟩:=hg
  obtain ⟨⟨old,he⟩,hit⟩:=st
  obtain ⟨its,r1,p1,_⟩:=I.tuple hq
  have hl:=r1.length
  have fi:=hf it (by simp)
  have hh:X.A.in1.handled=none:=I.ok.hd hc
  obtain ⟨f0,f1,f2,f3,f4,f5⟩:=id fi
  have hs:its.toArray.size=i:=by simp; omega
  exact wpAny_pyNext_enum_endD (Draws.tup hh it a (I.sq_ne (k:=true) hq fi) its.toArray) he ⟨by rw [hs]; exact hit,p1⟩ fun h' eb=>⟨rfl,I.turned (t':=s.toks) (fun b o hb e=>eb b o hb e) f0 f1 f3 f4 f5⟩
 self:=fun _ _ _ _ _ st h=>wpAny_pyIter_enum st.1.choose_spec h
section
variable {X:Cx}
def BH (K:Frag) (te:TE):TI:=fun σ H R=>te σ H fun x H1=>∃ a,x=.ref a∧(∃ xs,SqT K H1 a xs)∧R (yq K a) H1
theorem jL {elts:List Expr} {x1} {tp:Pos} {e:Expr} {te:TE} {p pos:Pos} (hg:Gl X "enumerate") (hm:X.mg "enumerate"=none) (he:PE X e te)
  (hs:starEach [e] X.env=(false,eval e X.env)::starEach [] X.env:=by exact ac rfl):PI X (.Tuple elts x1 tp) (.Call (.Name "enumerate" p) [e] [] pos) (BH X.K te):=by
 intro pins s σ H R I h
 refine wpAny_Call_Name_kw (dN I hg hm jf ?_)
 refine PyProof.Rows.callWith_type1 ?_ hs rfl
 rw [hs]
 show wpAny _ _ (spliced ((false,eval e X.env)::[])) _ _ s
 refine Calls.spliced_cons (thn (he pins s σ H _ I h) fun u s1 ⟨x,H1,I1,r1,q1⟩=>?_)
 obtain ⟨a,rfl,⟨xs,hq⟩,q⟩:=q1
 cases r1
 refine Calls.spliced_nil ?_
 obtain ⟨its,r',pl,hz⟩:=I1.tuple hq
 refine fP pl fun h' a1 a2 a3 a4=>?_
 refine wpAny_pyIter_enum (s:={ s1 with heap:=h' }) a1 ?_
 refine ⟨s1.heap.objs.size+1,[s1.heap.objs.size+1,s1.heap.objs.size],_,_,H1,rfl,I1.kept (t':=s1.toks) fun b o e=>a4 b o e,rA (show (s1.heap.objs.size+1:Nat)≠s1.heap.objs.size by omega) a,⟨⟨_,a1⟩,a2⟩,fun b hb=>?_,q⟩
 have le:s1.heap.objs.size≤b:=by
  simp only [List.mem_cons,List.not_mem_nil,or_false] at hb
  rcases hb with rfl | rfl
  ·exact Nat.le_add_right _ _
  ·exact Nat.le_refl _
 exact I1.fpOk le (I1.hok.fresh le)
end
theorem fk {K:Frag} {a:Addr} {xs:List V} {g:TG} {tb:TS} {D:kn} {σ:St} {H:Hp} (Pv:Nat→St→Hp→Prop) (h0:Pv 0 σ H) (hl:∀ i σ H,i≤xs.length→Pv i σ H→SqT K H a xs)
  (hs:∀ (i:Nat) x σ H p,xs[i]?=some x→Pv i σ H→H p=none→g (.ref p) σ (upd H p (.tup [.int (i:Int),x])) fun σ2 H2=>tb { D with nx:=Pv (i+1),ct:=Pv (i+1),bk:=D.nx } σ2 H2) (hd:∀ σ H,Pv xs.length σ H→D.nx σ H) :
  ∃ W:Nat→Nat→St→Hp→Prop,(∃ m,W 0 m σ H)∧∀ i m σ H,W i m σ H →
   ((yq K a).stop i H∧D.nx σ H)∨((yq K a).go i H∧∃ N:St→Hp→Prop,(∀ σ' H',N σ' H'→∃ m',m'<m∧W (i+1) m' σ' H')∧∀ x H',(yq K a).yld i H x H'→g x σ H' fun σ2 H2=>tb { D with nx:=N,ct:=N,bk:=D.nx } σ2 H2):=by
 refine ⟨fun i m σ H=>m=xs.length - i∧i≤xs.length∧Pv i σ H,⟨xs.length,by simp,Nat.zero_le _,h0⟩,?_⟩
 rintro i m σ H ⟨rfl,hi,p⟩
 have q:=hl i σ H hi p
 by_cases hlt:i<xs.length
 ·refine .inr ⟨⟨xs,xs[i],q,by simp [hlt]⟩,Pv (i+1),fun σ' H' p'=>⟨xs.length - (i+1),by omega,rfl,hlt,p'⟩,fun x H' y=>?_⟩
  obtain ⟨pp,xx,h1,rfl,rfl,y⟩:=y
  exact hs i xx σ H pp (y xs q) p h1
 ·have e:i=xs.length:=by omega
  subst e
  exact .inl ⟨⟨xs,q,rfl⟩,hd σ H p⟩
open PySem PySem.Spec PyProof.Rows
def Itw (K:Frag) (a:Addr) (n:Nat):It :=
 ⟨fun i H=>i<n∧∃ xs,SqT K H a xs∧xs.length=n,fun i H x H'=>H'=H∧∀ xs,SqT K H a xs→xs[n - 1 - i]?=some x,fun i _=>i=n⟩
theorem wN {P:Program} {w:World} {K:Frag} {tg:Expr} (a it:Addr) (n:Nat):ke P w K tg (Itw K a n) [it] it (fun i h=>h.IsRvt it a ((n:Int) - 1 - (i:Int))) where
 mem:=by simp
 obj:=fun i h st b hb=>by
  have e:b=it:=by simpa using hb
  subst e
  obtain ⟨o,e,c,d⟩:=st
  exact ⟨o,e,fun v z=>by rw [d] at z; cases z⟩
 keep:=fun i h h' st k=>st.at fun o e=>k it (by simp) o e
 item:=by
  intro X hP hw hK hc i pins s σ H E I hf st hg
  subst hP hw hK
  obtain ⟨hi,xs,hq,hn⟩:=hg
  obtain ⟨its,rv,p,hz⟩:=I.tuple hq
  have hszl:sizeLine=16777216:=sizeLine_eq
  have hx:xs[n - 1 - i]?=some (xs[n - 1 - i]'(by omega)):=List.getElem?_eq_getElem (by omega)
  obtain ⟨u,hu,ru⟩:=rv.get hx
  obtain ⟨f0,f1,f2,f3,f4,f5⟩:=hf it (by simp)
  have e:(n:Int) - 1 - (i:Int)=((n - 1 - i:Nat):Int):=by omega
  have st1:=st
  rw [e] at st1
  refine iP st1 p (by omega) (x:=u) (by simpa using hu) fun h' tk st' sb=>?_
  have e2:((n - 1 - i:Nat):Int) - 1=(n:Int) - 1 - ((i+1:Nat):Int):=by omega
  rw [e2] at st'
  have I1:Inv X pins σ H { s with heap:=h',toks:=tk }:=I.turned (t':=tk) (fun b o hb e=>(sb.2 b hb).trans e) f0 f1 f3 f4 f5
  obtain ⟨o,eo,c,d⟩:=id st'
  exact ⟨u,rfl,jS (s:={ s with heap:=h',toks:=tk }) eo c d (by decide) ⟨_,H,I1,ru,⟨rfl,fun ys hy=>by rw [I.tuple_inj hy hq]; exact hx⟩,st',fun b hb=>(hf b hb).1⟩⟩
 done:=by
  intro X hP hw hK hc i pins s σ H E I hf st hg
  subst hP hw hK
  obtain ⟨f0,f1,f2,f3,f4,f5⟩:=hf it (by simp)
  have hg2:i=n:=hg
  have e:(n:Int) - 1 - (i:Int)=-1:=by omega
  have st1:=st
  rw [e] at st1
  exact jK (I.ok.hd hc) st1 fun h' eb=>⟨rfl,I.turned (t':=s.toks) (fun b o hb e=>eb b o hb e) f0 f1 f3 f4 f5⟩
 self:=fun _ _ _ _ _ st h=>jq st h
section
variable {X:Cx} {tg:Expr}
def CS (K:Frag) (te:TE):TI:=fun σ H R=>te σ H fun x H1=>∃ a xs,x=.ref a∧SqT K H1 a xs∧R (Itw K a xs.length) H1
theorem vA {e:Expr} {te:TE} {p pos:Pos} (hg:Gl X "reversed") (hm:X.mg "reversed"=none) (he:PE X e te)
  (hs:starEach [e] X.env=(false,eval e X.env)::starEach [] X.env:=by exact ac rfl):PI X tg (.Call (.Name "reversed" p) [e] [] pos) (CS X.K te):=by
 intro pins s σ H R I h
 refine wpAny_Call_Name_kw (dN I hg hm fB ?_)
 refine PyProof.Rows.callWith_type1 ?_ hs rfl
 rw [hs]
 show wpAny _ _ (spliced ((false,eval e X.env)::[])) _ _ s
 refine Calls.spliced_cons (thn (he pins s σ H _ I h) fun u s1 ⟨x,H1,I1,r1,q1⟩=>?_)
 obtain ⟨a,xs,rfl,hq,q⟩:=q1
 cases r1
 refine Calls.spliced_nil ?_
 obtain ⟨its,r',pl,hz⟩:=I1.tuple hq
 have hlen:=r'.length
 have hszl:sizeLine=16777216:=sizeLine_eq
 have hz2:its.toArray.size≤sizeLine:=by simp only [List.size_toArray]; omega
 refine ft pl (by omega) ?_
 have hit:(s1.heap.push (mJ a ((its.toArray.size:Int) - 1))).IsRvt s1.heap.objs.size a ((its.toArray.size:Int) - 1):=⟨_,Heap.get?_push_size _ rfl,rfl,rfl⟩
 refine jq (s:={ s1 with heap:=s1.heap.push (mJ a ((its.toArray.size:Int) - 1)),toks:=s1.toks+1+1 }) hit ?_
 refine ⟨s1.heap.objs.size,[s1.heap.objs.size],_,_,H1,rfl,I1.kept (t':=s1.toks+1+1) fun b o e=>Heap.get?_push_of_some _ e,wN a _ xs.length,?_,fun b hb=>?_,q⟩
 ·have z:(xs.length:Int) - 1 - ((0:Nat):Int)=(its.toArray.size:Int) - 1:=by simp only [List.size_toArray]; omega
  show Heap.IsRvt _ _ _ ((xs.length:Int) - 1 - ((0:Nat):Int))
  rw [z]
  exact hit
 ·have e:b=s1.heap.objs.size:=by simpa using hb
  subst e
  exact I1.fpOk (Nat.le_refl _) (I1.hok.fresh (Nat.le_refl _))
end
section
variable {m:Nat} {g:TG} {tt:TT} {te:TE} {σ':St} {Z:List V→Hp→Prop} {H1:Hp} {K:Frag}
theorem kM {a:Addr} {xs:List V} (n:Nat) (hz:n=xs.length) (hn:n≤1000) (Pv:Nat→List V→Hp→Prop) (h0:Pv 0 [] H1) (hq:∀ i acc H,Pv i acc H→SqT K H a xs)
  (hs:∀ i acc H x,i<n→acc.length≤i→xs.reverse[i]?=some x→Pv i acc H→g x σ' H fun σ2 H2=>(σ2.drop m=σ'.drop m∧σ2.length=σ'.length)∧tt σ2 H2 fun b H3=>if b=true then te σ2 H3 fun v H4=>NxT n Pv i acc v H4 else NxF n Pv i acc H3)
  (hd:∀ acc H,Pv n acc H→acc.length≤n→Z acc H):eW (Itw K a xs.length) m g tt te σ' Z H1 :=
 iX n hn Pv h0 (fun i acc H hi la p=>⟨⟨by omega,xs,hq i acc H p,rfl⟩,fun x H' y=>by
  obtain ⟨e,y⟩:=y
  subst e
  exact hs i acc _ x hi la (by rw [List.getElem?_reverse (by omega)]; exact y xs (hq i acc _ p)) p⟩) fun acc H p la=>⟨hz,hd acc H p la⟩
end
end L2
namespace K6
open PySem L2
def S.bods:S→List (List S)
 | .if_ _ a b=>[a,b]
 | .while_ _ a=>[a]
 | _=>[]
def xM (b:List S):PyData:=.tuple (S.ds b)
theorem DTs.rev {K:Frag} {H:Hp} {xs:List V} {ds:List PyData} (h:DTs K H xs ds):DTs K H xs.reverse ds.reverse:=by
 induction xs generalizing ds with
 | nil=>cases h; exact .nil
 | cons x r ih =>
  cases h with
  | cons h1 h2=>rw [List.reverse_cons,List.reverse_cons]; exact DTs.snoc h1 (ih h2)
theorem jR {t:Addr} {H H1:Hp} {o:HO} (h:H t=none) (g:aO H H1):aO H (upd H1 t o):=fun b u q=>by rw [bd (aU q h)]; exact g b u q
theorem zt {K:Frag} {H:Hp} {u:V} {s:S} (h:DT K H u (S.d s)):∃ a z rs,u=.ref a∧H a=some (.tup (.str z::rs)) ∧
  ((∃ c' b1 b2 A B,z = "if"∧rs=[c',b1,b2]∧s.bods=[A,B]∧DT K H b1 (xM A)∧DT K H b2 (xM B))∨(∃ c' b1 A,z = "while"∧rs=[c',b1]∧s.bods=[A]∧DT K H b1 (xM A))∨(z ≠ "if"∧z ≠ "while"∧s.bods=[])):=by
 cases s with
 | if_ c A B =>
  simp only [S.d] at h
  obtain ⟨a,xs,rfl,ha,d0⟩:=h.open
  obtain ⟨x0,r0,rfl,h0,d1⟩:=d0.open
  obtain rfl:=h0.str_inv
  obtain ⟨x1,r1,rfl,h1,d2⟩:=d1.open
  obtain ⟨x2,r2,rfl,h2,d3⟩:=d2.open
  obtain ⟨x3,r3,rfl,h3,d4⟩:=d3.open
  cases d4
  exact ⟨a,_,_,rfl,ha,.inl ⟨x1,x2,x3,A,B,rfl,rfl,rfl,h2,h3⟩⟩
 | while_ c A =>
  simp only [S.d] at h
  obtain ⟨a,xs,rfl,ha,d0⟩:=h.open
  obtain ⟨x0,r0,rfl,h0,d1⟩:=d0.open
  obtain rfl:=h0.str_inv
  obtain ⟨x1,r1,rfl,h1,d2⟩:=d1.open
  obtain ⟨x2,r2,rfl,h2,d3⟩:=d2.open
  cases d3
  exact ⟨a,_,_,rfl,ha,.inr (.inl ⟨x1,x2,A,rfl,rfl,rfl,h2⟩)⟩
 | let_ x e =>
  simp only [S.d] at h
  obtain ⟨a,xs,rfl,ha,d0⟩:=h.open
  obtain ⟨x0,r0,rfl,h0,d1⟩:=d0.open
  obtain rfl:=h0.str_inv
  exact ⟨a,_,_,rfl,ha,.inr (.inr ⟨by decide +kernel,by decide +kernel,rfl⟩)⟩
 | say y c =>
  simp only [S.d] at h
  obtain ⟨a,xs,rfl,ha,d0⟩:=h.open
  obtain ⟨x0,r0,rfl,h0,d1⟩:=d0.open
  obtain rfl:=h0.str_inv
  exact ⟨a,_,_,rfl,ha,.inr (.inr ⟨by decide +kernel,by decide +kernel,rfl⟩)⟩
 | call x y es =>
  simp only [S.d] at h
  obtain ⟨a,xs,rfl,ha,d0⟩:=h.open
  obtain ⟨x0,r0,rfl,h0,d1⟩:=d0.open
  obtain rfl:=h0.str_inv
  exact ⟨a,_,_,rfl,ha,.inr (.inr ⟨by decide +kernel,by decide +kernel,rfl⟩)⟩
 | give e =>
  simp only [S.d] at h
  obtain ⟨a,xs,rfl,ha,d0⟩:=h.open
  obtain ⟨x0,r0,rfl,h0,d1⟩:=d0.open
  obtain rfl:=h0.str_inv
  exact ⟨a,_,_,rfl,ha,.inr (.inr ⟨by decide +kernel,by decide +kernel,rfl⟩)⟩
theorem xo {R:List Rec} (g:vE R) {k:Str} (h:k∈KS R):PyData.strOk k=true:=by
 rcases List.mem_append.mp h with h | h
 ·exact Ap _ h
 ·obtain ⟨r,hr,rfl⟩:=List.mem_map.mp h
  obtain ⟨i,hi⟩:=List.mem_iff_getElem?.mp hr
  exact vW _ (g i r hi).1
theorem E.dep_ds:∀ {es:List E} {e:E},e∈es→e.d.depth≤PyData.depthAll (E.ds es)
 | a::r,e,h=>by
  simp only [E.ds,PyData.depthAll]
  rcases List.mem_cons.mp h with rfl | h
  ·omega
  ·have:=E.dep_ds h; omega
section
variable {P:Program} {w:World} {K:Frag} {mg:Str→Option Value} {base:Heap} {f g:Addr} {fd gd:FuncData}
abbrev pK:List Str:=["statement"]
theorem nG:aK pK ["statement"] (defScope eY):=⟨rfl,rfl,rfl,by decide +kernel,rfl,by decide +kernel,by decide +kernel⟩
def tj (K:Frag):Sp:=fun vs H Q _=>∃ u s,vs=[u]∧DT K H u (S.d s)∧∀ r ys H',aO H H'→H r=none→H' r=some (.lst ys)→DTs K H' ys (s.bods.map xM)→Q (.ref r) H'
theorem zq (F:Fun K "bodies_of" "bodies_of" eY f fd):aV P w K mg base CX0 1 f fd ["statement"] (tj K):=by
 refine F.ok nG (fun vs H Q EX h=>?_) (fun cdv A outer s H vs Q EX hr h=>?_)
 ·obtain ⟨u,s,rfl,_⟩:=h
  rfl
 obtain ⟨u,s,rfl,hu,q⟩:=h
 obtain ⟨a,z,rs,rfl,ha,hv⟩:=zt hu
 refine ⟨_,(@am _ _ _ _ _ (@aT _ _ _ _ _ _ _ _ (@aD _ _ _ _ _ _ _ _ bA (@aA _ _ _ _ _ _ _ av (pv 0) aj (fun _ _=>rfl)) aG (aJ _)) (@ao _ _ _ (@ay _ _ _ _ (@bW _ _ _ _ (@ad _ _ _ _ _ (@aA _ _ _ _ _ _ _ av (pv 0) aj (fun _ _=>rfl)) (@ad _ _ _ _ _ (@aA _ _ _ _ _ _ _ av (pv 0) aj (fun _ _=>rfl)) ah (ac rfl)) (ac rfl))))) aE) (@am _ _ _ _ _ (@aT _ _ _ _ _ _ _ _ (@aD _ _ _ _ _ _ _ _ bA (@aA _ _ _ _ _ _ _ av (pv 0) aj (fun _ _=>rfl)) aG (aJ _)) (@ao _ _ _ (@ay _ _ _ _ (@bW _ _ _ _ (@ad _ _ _ _ _ (@aA _ _ _ _ _ _ _ av (pv 0) aj (fun _ _=>rfl)) ah (ac rfl))))) aE) (@ao _ _ _ (@ay _ _ _ _ (@bW _ _ _ _ ah))))),?_⟩
 refine ⟨_,rfl,a,_,_,_,rfl,rfl,SqT.of ha,at0 _ _,rfl,_,rfl,?_⟩
 rcases hv with ⟨c',b1,b2,A,B,rfl,rfl,hb,d1,d2⟩ | ⟨c',b1,A,rfl,rfl,hb,d1⟩ | ⟨z1,z2,hb⟩
 ·refine az (fun c=>?_) (fun c=>absurd (by decide +kernel) c)
  refine ⟨_,rfl,a,_,_,_,rfl,rfl,SqT.of ha,rfl,_,rfl,a,_,_,_,rfl,rfl,SqT.of ha,rfl,(by show 2≤sizeLine; decide),fun l hl=>?_⟩
  exact q l _ _ (ag hl _) hl af (by rw [hb]; exact .cons (d1.mono (fQ hl _)) (.cons (d2.mono (fQ hl _)) .nil))
 ·refine az (fun c=>absurd c (by decide +kernel)) (fun c=>?_)
  refine ⟨_,rfl,a,_,_,_,rfl,rfl,SqT.of ha,rfl,rfl,_,rfl,?_⟩
  refine az (fun c=>?_) (fun c=>absurd (by decide +kernel) c)
  refine ⟨_,rfl,a,_,_,_,rfl,rfl,SqT.of ha,rfl,(by show 1≤sizeLine; decide),fun l hl=>?_⟩
  exact q l _ _ (ag hl _) hl af (by rw [hb]; exact .cons (d1.mono (fQ hl _)) .nil)
 ·refine az (fun c=>absurd (V.str.inj (of_decide_eq_true c)) z1) (fun c=>?_)
  refine ⟨_,rfl,a,_,_,_,rfl,rfl,SqT.of ha,at0 _ _,rfl,_,rfl,?_⟩
  refine az (fun c=>absurd (V.str.inj (of_decide_eq_true c)) z2) (fun c=>?_)
  refine ⟨(by show 0≤sizeLine; decide),fun l hl=>?_⟩
  exact q l _ _ (ag hl _) hl af (by rw [hb]; exact .nil)
abbrev ij:List Str:=["program", "kinds", "statement", "function", "told"]
abbrev gM:List Str:=["param"]
theorem kj:gM.Nodup:=by decide +kernel
abbrev fZ:List Str:=["e", "program", "kinds"]
theorem jZ:fZ.Nodup:=by decide +kernel
theorem fV:aK ij ["program", "kinds", "statement"] (defScope dj):=⟨rfl,rfl,rfl,by decide +kernel,rfl,by decide +kernel,by decide +kernel⟩
def xS (K:Frag):Sp:=fun vs H Q _=>∃ v kk u R FS Vs x fn es F,vs=[v,.ref kk,u]∧ku K H v R FS∧(FS.map (·.1.1)).Nodup∧eg R∧H kk=some (.dK (pP Vs))∧(Vs.map (·.1)).Nodup∧DT K H u (S.d (.call x fn es))∧(S.d (.call x fn es)).depth≤23 ∧
 F∈FS∧F.1.1=fn∧(x,F.1.2.2.2)∈Vs∧F.1.2.1.length≤10∧(∀ p∈F.1.2.1,PyData.strOk p.2=true)∧OkL R Vs es (F.1.2.1.map (·.2))∧(∀ e∈es,cD e.d≤12)∧∀ H',aO H H'→Q (.bl true) H'
theorem zD (F:Fun K "is_call" "is_call" dj f fd) (D_function_of:Cal P w K mg base 1 "function_of" ["program", "f"] (jJ K)) (D_named_kind:Cal P w K mg base 1 "named_kind" ["kinds", "thing"] iQ) (D_expression_kind:Cal P w K mg base 29 "expression_kind" ["program", "kinds", "thing"] (zT K)):aV P w K mg base CX0 30 f fd ["program", "kinds", "statement"] (xS K):=by
 obtain ⟨g_expression_kind,gd_expression_kind,G_expression_kind,b_expression_kind,k_expression_kind,m_expression_kind⟩:=D_expression_kind.ex
 obtain ⟨g_named_kind,gd_named_kind,G_named_kind,b_named_kind,k_named_kind,m_named_kind⟩:=D_named_kind.ex
 obtain ⟨g_function_of,gd_function_of,G_function_of,b_function_of,k_function_of,m_function_of⟩:=D_function_of.ex
 refine F.ok fV (fun vs H Q EX h=>?_) (fun cdv A outer s H vs Q EX hr h=>?_)
 ·obtain ⟨v,kk,u,R,FS,Vs,x,fn,es,F,rfl,_⟩:=h
  rfl
 obtain ⟨v,kk,u,R,FS,Vs,x,fn,es,FF,rfl,hv,hfn,hlk,hkk,hnd,hu,hdp,hF,hz,hx,hl10,hso,hok,hc,q⟩:=h
 simp only [S.d] at hu
 obtain ⟨a,xs,rfl,ha,d0⟩:=hu.open
 obtain ⟨x0,r0,rfl,h0,d1⟩:=d0.open
 obtain rfl:=h0.str_inv
 obtain ⟨x1,r1,rfl,h1,d2⟩:=d1.open
 obtain rfl:=h1.str_inv
 obtain ⟨x2,r2,rfl,h2,d3⟩:=d2.open
 obtain rfl:=h2.str_inv
 obtain ⟨x3,r3,rfl,h3,d4⟩:=d3.open
 cases d4
 obtain ⟨al,ys,rfl,hal,dys⟩:=h3.open
 have ly:=dys.len
 rw [E.ds_len] at ly
 have lk:=hok.len
 rw [List.length_map] at lk
 have hde:∀ e∈es,e.d.depth≤23:=fun e he=>by
  have:=E.dep_ds he
  simp only [S.d,PyData.depth,PyData.depthAll] at hdp
  omega
 refine ⟨_,(@am _ _ _ _ _ (@aR _ _ 3 _ _ _ _ fV.nd rfl (Or.inl rfl) (@au _ _ _ _ _ _ _ _ _ _ _ _ _ _ _ _ G_function_of (hr.mono (by omega)) rfl m_function_of k_function_of b_function_of .nil aI (@ad _ _ _ _ _ (pv 0) (@ad _ _ _ _ _ (@aA _ _ _ _ _ _ _ av (pv 2) aj (fun _ _=>rfl)) ah (ac rfl)) (ac rfl)) (by decide) (ac rfl) (ak rfl)) (aC rfl) (.inr rfl)) (@am _ _ _ _ _ (@aT _ _ _ _ _ _ _ _ (PW.pt (bK (@aD _ _ _ _ _ _ _ _ oo (pv 3) bE (aJ _)) (bP (@aD _ _ _ _ _ _ _ _ lj (@au _ _ _ _ _ _ _ _ _ _ _ _ _ _ _ _ G_named_kind (hr.mono (by omega)) rfl m_named_kind k_named_kind b_named_kind .nil aI (@ad _ _ _ _ _ (pv 1) (@ad _ _ _ _ _ (@aA _ _ _ _ _ _ _ av (pv 2) aj (fun _ _=>rfl)) ah (ac rfl)) (ac rfl)) (by decide) (ac rfl) (ak rfl)) (@aA _ _ _ _ _ _ _ av (pv 3) aj (fun _ _=>rfl)) (aJ _))))) (@ao _ _ _ (@ay _ _ _ _ bo)) aE) (@am _ _ _ _ _ (ni (i:=4) (N':=fZ) (ρ:=[none,some 0,some 1]) (m:=1) (bF.of (fs:=defScope dj) (N:=ij) rfl rfl (by decide +kernel)) fV.nd rfl (Or.inl rfl) rfl (ca (aA av (pv 2) aj (fun _ _=>rfl))) (fun _ _ _ _=>(aQ (i:=0) jZ rfl (Or.inl rfl))) (fun _ _ _ _=>bq) (fun _ _ _ _=>(au G_expression_kind (hr.mono (by omega)) rfl m_expression_kind k_expression_kind b_expression_kind .nil aI (ad (pv 1) (ad (pv 2) (ad (pv 0) ah)))))) (@ao _ _ _ (@ay _ _ _ _ (@bC _ _ _ _ _ _ _ _ (uB hr.units) (pv 4) (bt (N':=gM) (ρ:=[none]) (m:=1) (bF.of (fs:=defScope dj) (N:=ij) rfl rfl (by decide +kernel)) rfl (ca (aA av (pv 3) aj (fun _ _=>rfl))) (fun _ _ _ _=>(aQ (i:=0) kj rfl (Or.inl rfl))) (fun _ _ _ _=>bq) (fun _ _ _ _=>(aA (dU (K:=K) rfl) (pv 0) aj (fun _ _=>rfl)))) (aJ _))))))),?_⟩
 refine ⟨_,rfl,_,rfl,a,_,_,_,rfl,rfl,SqT.of ha,rfl,v,fn,R,FS,FF,rfl,hv,hfn,hF,hz,fun fu hfu=>?_⟩
 obtain ⟨fa,p,p',bb,xs',rfl,hfa,⟨pa,px,rfl,hpa,ppx⟩,_⟩:=hfu
 refine ⟨_,rfl,rfl,_,rfl,bv ?_⟩
 refine ⟨_,rfl,_,rfl,a,_,_,_,rfl,rfl,SqT.of ha,rfl,kk,x,FF.1.2.2.2,Vs,rfl,hkk,hnd,hx,_,rfl,fa,_,_,_,rfl,rfl,SqT.of hfa,rfl,rfl,_,rfl,?_⟩
 refine az (fun c=>absurd c (by simp)) (fun c=>?_)
 refine ⟨_,rfl,a,_,_,_,rfl,rfl,SqT.of ha,rfl,al,rfl,⟨ys,SqT.of hal⟩,bU (xs:=ys) ys.length rfl (by omega) (fun i acc H'=>aO H H'∧acc=((FF.1.2.1.map (·.2)).take i).map V.str) ⟨aO.refl _,rfl⟩ (fun i acc H' p=>SqT.of (p.1 _ _ hal)) (fun i acc H' x hi la hx p=>?_) (fun acc H' p la D hD=>?_)⟩
 ·obtain ⟨g1,rfl⟩:=p
  obtain ⟨e,he,de⟩:=sO dys hx
  obtain ⟨k,hk,oe⟩:=hok.at he
  have hm:=List.mem_of_getElem? he
  refine ⟨⟨rfl,rfl⟩,bu ⟨_,rfl,_,rfl,_,rfl,v,kk,x,e,R,Vs,k,rfl,hv.prog.mono (ar g1),hlk,g1 _ _ hkk,hnd,de.mono (ar g1),hde e hm,oe,hc e hm,fun H2 g2=>nxT (by omega) hi la ⟨g1.trans g2,?_⟩⟩⟩
  rw [List.take_add_one,hk,List.map_append]
  rfl
 obtain ⟨g1,rfl⟩:=p
 have lp:=Paired.length ppx
 rw [ly,lk,← List.length_map (f:=fun p:Fld=>p.2),List.take_length]
 have gD:=ag hD (.lst ((FF.1.2.1.map (·.2)).map V.str))
 have G2:=g1.trans gD
 dsimp only [fM]
 refine ⟨_,rfl,_,rfl,fa,_,_,_,rfl,rfl,SqT.of (G2 _ _ hfa),rfl,pa,rfl,⟨px,SqT.of (G2 _ _ hpa)⟩,bU (xs:=px) px.length rfl (by omega) (fun i acc H3=>H3=_∧acc=((FF.1.2.1.map (·.2)).take i).map V.str) ⟨rfl,rfl⟩ (fun i acc H3 p=>by rw [p.1]; exact SqT.of (G2 _ _ hpa)) (fun i acc H3 x hi la hx p=>?_) (fun acc H3 p la D2 hD2=>?_)⟩
 ·obtain ⟨rfl,rfl⟩:=p
  obtain ⟨fl,hfl,hfa2⟩:=bI ppx i x hx
  obtain ⟨c,rfl,hc⟩:=hfa2.mono (ar G2)
  refine ⟨⟨rfl,rfl⟩,bu ⟨_,rfl,c,_,_,_,rfl,rfl,SqT.of hc,rfl,nxT (by omega) hi la ⟨rfl,?_⟩⟩⟩
  rw [List.take_add_one,List.getElem?_map,hfl,List.map_append]
  rfl
 obtain ⟨rfl,rfl⟩:=p
 rw [lp,← List.length_map (f:=fun p:Fld=>p.2),List.take_length]
 have gE:=ag hD2 (.lst ((FF.1.2.1.map (·.2)).map V.str))
 have so:∀ z∈FF.1.2.1.map (·.2),PyData.strOk z=true:=fun z hz=>by
  obtain ⟨p,hp2,rfl⟩:=List.mem_map.mp hz
  exact hso p hp2
 refine ⟨.list ((FF.1.2.1.map (·.2)).map PyData.str),.list ((FF.1.2.1.map (·.2)).map PyData.str),.lst (SqL.of (gE _ _ af)) (ba _),.lst (SqL.of af) (ba _),(iZ so).1,(iZ so).1,?_⟩
 show Q (.bl (PyData.eqv _ _)) _
 rw [(qA so).1]
 exact q _ (G2.trans gE)
end
end K6
namespace L2
open PySem
theorem aV.or {P:Program} {w:World} {K:Frag} {mg:Str→Option Value} {base:Heap} {CX:CXT} {k:Nat} {f:Addr} {fd:FuncData} {ps:List Str} {sp sp':Sp} (F:aV P w K mg base CX k f fd ps sp) (G:aV P w K mg base CX k f fd ps sp'):aV P w K mg base CX k f fd ps (fun vs H Q E=>sp vs H Q E∨sp' vs H Q E) :=
 ⟨fun vs H Q E q=>q.elim (F.len vs H Q E) (G.len vs H Q E),fun A outer s H args us vs Q E hr he hb hv hs=>hs.elim (F.run A outer s H args us vs Q E hr he hb hv) (G.run A outer s H args us vs Q E hr he hb hv)⟩
theorem aV.sub {P:Program} {w:World} {K:Frag} {mg:Str→Option Value} {base:Heap} {CX:CXT} {k:Nat} {f:Addr} {fd:FuncData} {ps:List Str} {sp sp':Sp} (F:aV P w K mg base CX k f fd ps sp) (h:∀ vs H Q E,sp' vs H Q E→sp vs H Q E):aV P w K mg base CX k f fd ps sp' :=
 ⟨fun vs H Q E q=>F.len vs H Q E (h _ _ _ _ q),fun A outer s H args us vs Q E hr he hb hv hs=>F.run A outer s H args us vs Q E hr he hb hv (h _ _ _ _ hs)⟩
end L2
namespace K6
open PySem L2
section
variable {P:Program} {w:World} {K:Frag} {mg:Str→Option Value} {base:Heap} {f g:Addr} {fd gd:FuncData}
def Ae:Sp:=fun vs H Q _=>∃ a lo hi xs,vs=[.ref a,.int lo,.int hi]∧H a=some (.tup xs)∧(xs.length:Int)<lo∧Q (.bl false) H
def qm:Sp:=fun vs H Q E=>zQ vs H Q E∨Ae vs H Q E
theorem BA (T:G0 mg) (F:Fun K "is_tuple_of" "is_tuple_of" bT f fd):aV P w K mg base CX0 1 f fd ["thing", "least", "most"] Ae:=by
 refine F.ok eI (fun vs H Q EX h=>?_) (fun cdv A outer s H vs Q EX hr h=>?_)
 ·obtain ⟨a,lo,hi,xs,rfl,_⟩:=h
  rfl
 obtain ⟨a,lo,hi,xs,rfl,ha,h1,q⟩:=h
 refine ⟨_,(@ao _ _ _ (@ay _ _ _ _ (bR (@aF _ _ _ _ _ _ _ _ _ bf rfl T.isi bS (@ad _ _ _ _ _ (pv 0) (@ad _ _ _ _ _ (bp (v:=.ty "tuple") rfl T.tuple bY rfl) ah (ac rfl)) (ac rfl)) (by decide) (by decide) (ac rfl) (ak rfl)) (bH (gH cQ cQ (pv 1) (@aF _ _ _ _ _ _ _ _ _ bi rfl T.len cJ (@ad _ _ _ _ _ (pv 0) ah (ac rfl)) (by decide) (by decide) (ac rfl) (ak rfl)) (pv 2)))))),?_⟩
 refine ⟨_,rfl,_,_,_,true,rfl,.tup ha,rfl,_,rfl,bz ?_⟩
 refine ⟨_,rfl,_,rfl,a,xs,rfl,.inr (SqT.of ha),_,_,rfl,rfl,_,rfl,?_⟩
 refine az (fun c=>absurd (of_decide_eq_true c) (by omega)) (fun c=>?_)
 exact q
theorem Bh (T:G0 mg) (F:Fun K "is_tuple_of" "is_tuple_of" bT f fd):aV P w K mg base CX0 1 f fd ["thing", "least", "most"] qm:=aV.or (Av T F) (BA T F)
def vU:Sp:=fun vs H Q _=>∃ a xs,vs=[.ref a]∧H a=some (.tup xs)∧Q (.bl false) H
def oj:Sp:=fun vs H Q E=>jI vs H Q E∨vU vs H Q E
theorem yy (T:G0 mg) (TN:GN K mg) (F:Fun K "is_name" "is_name" cu f fd):aV P w K mg base CX0 1 f fd ["thing"] vU:=by
 refine F.ok jT (fun vs H Q EX h=>?_) (fun cdv A outer s H vs Q EX hr h=>?_)
 ·obtain ⟨a,xs,rfl,_⟩:=h
  rfl
 obtain ⟨a,xs,rfl,ha,q⟩:=h
 obtain ⟨aN,mN,sN⟩:=TN.nn
 obtain ⟨tL,mL⟩:=TN.lt
 refine ⟨_,(@am _ _ _ _ _ (@aT _ _ _ _ _ _ _ _ (PW.pt (bK (bc (aW (@aF _ _ _ _ _ _ _ _ _ bf rfl T.isi bS (@ad _ _ _ _ _ (pv 0) (@ad _ _ _ _ _ (bp (v:=.ty "str") rfl T.str ir rfl) ah (ac rfl)) (ac rfl)) (by decide) (by decide) (ac rfl) (ak rfl)))) (bP (bc (pJ cQ cQ aj (@aF _ _ _ _ _ _ _ _ _ du rfl T.len cJ (@ad _ _ _ _ _ (pv 0) ah (ac rfl)) (by decide) (by decide) (ac rfl) (ak rfl)) aj))))) (@ao _ _ _ (@ay _ _ _ _ bo)) aE) (@ao _ _ _ (@ay _ _ _ _ (bR (@bC _ _ _ _ _ _ _ _ dI (pv 0) (aX (v:=.ref aN) rfl mN rfl) rfl) (bH (@aF _ _ _ _ _ _ _ _ _ (cy rfl) rfl T.all iE (@ad _ _ _ _ _ (bt (N':=dF) (ρ:=[none]) (m:=1) (bF.of (fs:=defScope cu) (N:=ie) rfl rfl (by decide +kernel)) rfl (mU (pv 0)) (fun _ _ _ _=>(aQ (i:=0) fN rfl (Or.inl rfl))) (fun _ _ _ _=>bq) (fun _ _ _ _=>(bC lc (pv 0) (aX (v:=.str LET) rfl mL ⟨tL,rfl⟩) rfl))) ah (ac rfl)) (by decide) (by decide) (ac rfl) (ak rfl))))))),?_⟩
 refine ⟨_,rfl,_,_,_,false,rfl,.tup ha,rfl,_,rfl,bz ?_⟩
 exact q
theorem yn (T:G0 mg) (TN:GN K mg) (F:Fun K "is_name" "is_name" cu f fd):aV P w K mg base CX0 1 f fd ["thing"] oj:=aV.or (vj T TN F) (yy T TN F)
def lq:Sp:=fun vs H Q _=>∃ a b rs ys so,vs=[.ref a,so]∧H a=some (.tup (.ref b::rs))∧H b=some (.tup ys)∧Q (.bl false) H
def kZ:Sp:=fun vs H Q E=>gu vs H Q E∨lq vs H Q E
theorem uh (T:G0 mg) (TS:GS K w mg) (F:Fun K "is_shaped" "is_shaped" cA f fd):aV P w K mg base CX0 1 f fd ["thing", "sort"] lq:=by
 obtain ⟨aS,mS_,kS,hS⟩:=TS.sh
 obtain ⟨aL,mL,kL,hLs,hLn⟩:=TS.li
 refine F.ok cG (fun vs H Q EX h=>?_) (fun cdv A outer s H vs Q EX hr h=>?_)
 ·obtain ⟨a,b,rs,ys,so,rfl,_⟩:=h
  rfl
 obtain ⟨a,b,rs,ys,so,rfl,ha,hb,q⟩:=h
 refine ⟨_,(@am _ _ _ _ _ (@aT _ _ _ _ _ _ _ _ (PW.pt (bK (bc (aW (@aF _ _ _ _ _ _ _ _ _ bf rfl T.isi bS (@ad _ _ _ _ _ (pv 0) (@ad _ _ _ _ _ (bp (v:=.ty "tuple") rfl T.tuple bY rfl) ah (ac rfl)) (ac rfl)) (by decide) (by decide) (ac rfl) (ak rfl)))) (bK (@aD _ _ _ _ _ _ _ _ bA (@aF _ _ _ _ _ _ _ _ _ bi rfl T.len cJ (@ad _ _ _ _ _ (pv 0) ah (ac rfl)) (by decide) (by decide) (ac rfl) (ak rfl)) aj (aJ _)) (bP (bc (aW (@aF _ _ _ _ _ _ _ _ _ bf rfl T.isi bS (@ad _ _ _ _ _ (@aA _ _ _ _ _ _ _ av (pv 0) aj (fun _ _=>rfl)) (@ad _ _ _ _ _ (bp (v:=.ty "str") rfl T.str ir rfl) ah (ac rfl)) (ac rfl)) (by decide) (by decide) (ac rfl) (ak rfl)))))))) (@ao _ _ _ (@ay _ _ _ _ bo)) aE) (@am _ _ _ _ _ (@aR _ _ 2 _ _ _ _ cG.nd rfl (Or.inl rfl) (vS kS (aX (v:=.ref aS) rfl mS_ rfl) (@aA _ _ _ _ _ _ _ av (pv 0) aj (fun _ _=>rfl)) ⟨rfl,rfl,rfl,rfl⟩) (aC rfl) (.inr rfl)) (@am _ _ _ _ _ (@aT _ _ _ _ _ _ _ _ (PW.pt (bK (@aD _ _ _ _ _ _ _ _ oo (pv 2) bE (aJ _)) (bK (@aD _ _ _ _ _ _ _ _ lj (@aA _ _ _ _ _ _ _ av (pv 2) aj (fun _ _=>rfl)) (pv 1) (aJ _)) (bP (@aD _ _ _ _ _ _ _ _ lj (@aA _ _ _ _ _ _ _ av (pv 2) aj (fun _ _=>rfl)) (@aF _ _ _ _ _ _ _ _ _ bi rfl T.len cJ (@ad _ _ _ _ _ (pv 0) ah (ac rfl)) (by decide) (by decide) (ac rfl) (ak rfl)) (aJ _)))))) (@ao _ _ _ (@ay _ _ _ _ bo)) aE) (@ao _ _ _ (@ay _ _ _ _ (yj (@bC _ _ _ _ _ _ _ _ (kW kL) (@aA _ _ _ _ _ _ _ av (pv 0) aj (fun _ _=>rfl)) (aX (v:=.ref aL) rfl mL rfl) rfl) (bH (@aF _ _ _ _ _ _ _ _ _ bf rfl T.isi bS (@ad _ _ _ _ _ (@aA _ _ _ _ _ _ _ av (pv 0) (@aA _ _ _ _ _ _ _ (wE kL) (aX (v:=.ref aL) rfl mL rfl) (@aA _ _ _ _ _ _ _ av (pv 0) aj (fun _ _=>rfl)) (fun _ _=>rfl)) (fun _ _=>rfl)) (@ad _ _ _ _ _ (bp (v:=.ty "tuple") rfl T.tuple bY rfl) ah (ac rfl)) (ac rfl)) (by decide) (by decide) (ac rfl) (ak rfl))))))))),?_⟩
 refine ⟨_,rfl,_,_,_,true,rfl,.tup ha,rfl,_,rfl,bv ?_⟩
 refine ⟨_,rfl,a,_,rfl,.inr (SqT.of ha),rfl,_,rfl,?_⟩
 refine az (fun c=>absurd (V.int.inj (of_decide_eq_true c)) (by rw [List.length_cons]; omega)) (fun c=>?_)
 refine ⟨_,rfl,a,_,_,_,rfl,rfl,SqT.of ha,at0 _ _,_,_,_,false,rfl,.tup hb,rfl,_,rfl,bz ?_⟩
 exact q
theorem rG (T:G0 mg) (TS:GS K w mg) (F:Fun K "is_shaped" "is_shaped" cA f fd):aV P w K mg base CX0 1 f fd ["thing", "sort"] kZ:=aV.or (kN T TS F) (uh T TS F)
end
end K6
namespace L2
open PySem
theorem wg {X:Cx} {K:Frag} (h:X.K=K):ef X (.builtin "isinstance") (Bp K):=h ▸ bf
end L2
namespace K6
open PySem L2
section
variable {P:Program} {w:World} {K:Frag} {mg:Str→Option Value} {base:Heap} {f g:Addr} {fd gd:FuncData}
theorem qE {bs:List (List S)} {H3:Hp} {r:Addr} {ys:List V} {Z:List V→Hp→Prop} (db:DTs K H3 ys (bs.map xM)) (hb:bs.length≤2) (hr3:H3 r=some (.lst ys)) (q:Z ((List.replicate ys.length true).map V.bl) H3) :
  eW (Itl K r) 1 (fM 0) lE (tCB (Bp K) (gJ (qj 0) (gJ (tC (.ty "tuple")) uv))) [none] Z H3:=by
 have ly:=db.len
 rw [List.length_map] at ly
 refine cZ (xs:=ys) ys.length rfl (by omega) (fun i acc H4=>H4=H3∧acc=(List.replicate i true).map V.bl) ⟨rfl,rfl⟩ (fun i acc H4 p=>by rw [p.1]; exact SqL.of hr3) (fun i acc H4 x hi la hx p=>?_) (fun acc H4 p la=>?_)
 ·obtain ⟨rfl,rfl⟩:=p
  obtain ⟨d,hd,dx⟩:=db.get i x hx
  rw [List.getElem?_map] at hd
  obtain ⟨B,hB,rfl⟩:=Option.map_eq_some_iff.mp hd
  obtain ⟨p,xp,rfl,hp,dp⟩:=DT.open dx
  refine ⟨⟨rfl,rfl⟩,bu ⟨_,rfl,_,_,_,true,rfl,.tup hp,rfl,nxT (by omega) hi la ⟨rfl,?_⟩⟩⟩
  rw [List.replicate_succ',List.map_append]
  rfl
 ·obtain ⟨rfl,rfl⟩:=p
  exact q
abbrev lh:List Str:=["program", "function", "thing", "kinds", "word", "kind"]
abbrev gS:List Str:=["body"]
theorem kr:gS.Nodup:=by decide +kernel
theorem dW:aK lh ["program", "function", "thing"] (defScope fm):=⟨rfl,rfl,rfl,by decide +kernel,rfl,by decide +kernel,by decide +kernel⟩
def S.top:S→S
 | .if_ c _ _=>.if_ c [] []
 | .while_ c _=>.while_ c []
 | s=>s
inductive fL (R:List Rec) (HS:List uL) (Vs:List Fld) (gv:Str):PyData→Bool→Prop
 | ok (s:S):s.top.d.depth≤23→OkS R HS Vs gv s→fL R HS Vs gv s.d true
 | void (x r:List PyData):fL R HS Vs gv (.tuple (.tuple x::r)) false
 | let_ (x k:Str) (e:E):(x,k)∈Vs→12<cD e.d→cD e.d≤100→fL R HS Vs gv (S.d (.let_ x e)) false
 | say (y:Str) (c:C):y∈kf→OkC R Vs c→c.d.depth≤23→6<c.cnt→c.cnt≤100→fL R HS Vs gv (S.d (.say y c)) false
def yZ (K:Frag):Sp:=fun vs H Q _=>∃ v fu u R FS F x b,vs=[v,fu,u]∧ku K H v R FS∧(FS.map (·.1.1)).Nodup∧eg R∧dZ K H fu F∧((F.1.2.1++F.1.2.2.1).map (·.1)).Nodup∧(F.1.2.1++F.1.2.2.1).length≤5 ∧
 (∀ F'∈FS,F'.1.2.1.length≤10∧∀ p∈F'.1.2.1,PyData.strOk p.2=true)∧DT K H u x∧fL R (FS.map (·.1)) (F.1.2.1++F.1.2.2.1) F.1.2.2.2 x b∧∀ H',aO H H'→Q (.bl b) H'
theorem zr (T:G0 mg) (F:Fun K "is_line" "is_line" fm f fd) (D_is_shaped:Cal P w K mg base 1 "is_shaped" ["thing", "sort"] kZ) (D_variable_kinds:Cal P w K mg base 1 "variable_kinds" ["function"] (xu K)) (D_named_kind:Cal P w K mg base 1 "named_kind" ["kinds", "thing"] iQ)
  (D_expression_kind:Cal P w K mg base 29 "expression_kind" ["program", "kinds", "thing"] (Cl K)) (D_is_call:Cal P w K mg base 30 "is_call" ["program", "kinds", "statement"] (xS K)) (D_is_name:Cal P w K mg base 1 "is_name" ["thing"] jI) (D_is_condition:Cal P w K mg base 31 "is_condition" ["program", "kinds", "thing"] (Cz K))
  (D_bodies_of:Cal P w K mg base 1 "bodies_of" ["statement"] (tj K)):aV P w K mg base CX0 32 f fd ["program", "function", "thing"] (yZ K):=by
 obtain ⟨g_bodies_of,gd_bodies_of,G_bodies_of,b_bodies_of,k_bodies_of,m_bodies_of⟩:=D_bodies_of.ex
 obtain ⟨g_is_condition,gd_is_condition,G_is_condition,b_is_condition,k_is_condition,m_is_condition⟩:=D_is_condition.ex
 obtain ⟨g_is_name,gd_is_name,G_is_name,b_is_name,k_is_name,m_is_name⟩:=D_is_name.ex
 obtain ⟨g_is_call,gd_is_call,G_is_call,b_is_call,k_is_call,m_is_call⟩:=D_is_call.ex
 obtain ⟨g_expression_kind,gd_expression_kind,G_expression_kind,b_expression_kind,k_expression_kind,m_expression_kind⟩:=D_expression_kind.ex
 obtain ⟨g_named_kind,gd_named_kind,G_named_kind,b_named_kind,k_named_kind,m_named_kind⟩:=D_named_kind.ex
 obtain ⟨g_variable_kinds,gd_variable_kinds,G_variable_kinds,b_variable_kinds,k_variable_kinds,m_variable_kinds⟩:=D_variable_kinds.ex
 obtain ⟨g_is_shaped,gd_is_shaped,G_is_shaped,b_is_shaped,k_is_shaped,m_is_shaped⟩:=D_is_shaped.ex
 refine F.ok dW (fun vs H Q EX h=>?_) (fun cdv A outer s H vs Q EX hr h=>?_)
 ·obtain ⟨v,fu,u,R,FS,F,x,b,rfl,_⟩:=h
  rfl
 obtain ⟨v,fu,u,R,FS,F,x,b,rfl,hp,hfn,hlk,hfu,hvn,h5,hps,hu,hj,q⟩:=h
 refine ⟨_,(@am _ _ _ _ _ (@aT _ _ _ _ _ _ _ _ (bc (aW (@au _ _ _ _ _ _ _ _ _ _ _ _ _ _ _ _ G_is_shaped (hr.mono (by omega)) rfl m_is_shaped k_is_shaped b_is_shaped .nil aI (@ad _ _ _ _ _ (pv 2) (@ad _ _ _ _ _ aG ah (ac rfl)) (ac rfl)) (by decide) (ac rfl) (ak rfl)))) (@ao _ _ _ (@ay _ _ _ _ bo)) aE) (@am _ _ _ _ _ (@aR _ _ 3 _ _ _ _ dW.nd rfl (Or.inl rfl) (@au _ _ _ _ _ _ _ _ _ _ _ _ _ _ _ _ G_variable_kinds (hr.mono (by omega)) rfl m_variable_kinds k_variable_kinds b_variable_kinds .nil aI (@ad _ _ _ _ _ (pv 1) ah (ac rfl)) (by decide) (ac rfl) (ak rfl)) (aC rfl) (.inr rfl)) (@am _ _ _ _ _ (@aR _ _ 4 _ _ _ _ dW.nd rfl (Or.inl rfl) (@aA _ _ _ _ _ _ _ av (pv 2) aj (fun _ _=>rfl)) (aC rfl) (.inr rfl)) (@am _ _ _ _ _ (@aT _ _ _ _ _ _ _ _ (@aD _ _ _ _ _ _ _ _ bA (pv 4) aG (aJ _)) (@am _ _ _ _ _ (@aR _ _ 5 _ _ _ _ dW.nd rfl (Or.inl rfl) (@au _ _ _ _ _ _ _ _ _ _ _ _ _ _ _ _ G_named_kind (hr.mono (by omega)) rfl m_named_kind k_named_kind b_named_kind .nil aI (@ad _ _ _ _ _ (pv 3) (@ad _ _ _ _ _ (@aA _ _ _ _ _ _ _ av (pv 2) aj (fun _ _=>rfl)) ah (ac rfl)) (ac rfl)) (by decide) (ac rfl) (ak rfl)) (aC rfl) (.inr rfl)) (@ao _ _ _ (@ay _ _ _ _ (bR (@bC _ _ _ _ _ _ _ _ vN (pv 5) bE (aJ _)) (bH (@bC _ _ _ _ _ _ _ _ bA (@au _ _ _ _ _ _ _ _ _ _ _ _ _ _ _ _ G_expression_kind (hr.mono (by omega)) rfl m_expression_kind k_expression_kind b_expression_kind .nil aI (@ad _ _ _ _ _ (pv 0) (@ad _ _ _ _ _ (pv 3) (@ad _ _ _ _ _ (@aA _ _ _ _ _ _ _ av (pv 2) aj (fun _ _=>rfl)) ah (ac rfl)) (ac rfl)) (ac rfl)) (by decide) (ac rfl) (ak rfl)) (pv 5) (aJ _))))))) aE) (@am _ _ _ _ _ (@aT _ _ _ _ _ _ _ _ (@aD _ _ _ _ _ _ _ _ bA (pv 4) aG (aJ _)) (@ao _ _ _ (@ay _ _ _ _ (@bC _ _ _ _ _ _ _ _ bA (@au _ _ _ _ _ _ _ _ _ _ _ _ _ _ _ _ G_expression_kind (hr.mono (by omega)) rfl m_expression_kind k_expression_kind b_expression_kind .nil aI (@ad _ _ _ _ _ (pv 0) (@ad _ _ _ _ _ (pv 3) (@ad _ _ _ _ _ (@aA _ _ _ _ _ _ _ av (pv 2) aj (fun _ _=>rfl)) ah (ac rfl)) (ac rfl)) (ac rfl)) (by decide) (ac rfl) (ak rfl)) (@aA _ _ _ _ _ _ _ av (pv 1) aj (fun _ _=>rfl)) (aJ _)))) aE) (@am _ _ _ _ _ (@aT _ _ _ _ _ _ _ _ (@aD _ _ _ _ _ _ _ _ bA (pv 4) aG (aJ _)) (@ao _ _ _ (@ay _ _ _ _ (@au _ _ _ _ _ _ _ _ _ _ _ _ _ _ _ _ G_is_call (hr.mono (by omega)) rfl m_is_call k_is_call b_is_call .nil aI (@ad _ _ _ _ _ (pv 0) (@ad _ _ _ _ _ (pv 3) (@ad _ _ _ _ _ (pv 2) ah (ac rfl)) (ac rfl)) (ac rfl)) (by decide) (ac rfl) (ak rfl)))) aE) (@am _ _ _ _ _ (@aT _ _ _ _ _ _ _ _ (@aD _ _ _ _ _ _ _ _ bA (pv 4) aG (aJ _)) (@ao _ _ _ (@ay _ _ _ _ (bR (@au _ _ _ _ _ _ _ _ _ _ _ _ _ _ _ _ G_is_name (hr.mono (by omega)) rfl m_is_name k_is_name b_is_name .nil aI (@ad _ _ _ _ _ (@aA _ _ _ _ _ _ _ av (pv 2) aj (fun _ _=>rfl)) ah (ac rfl)) (by decide) (ac rfl) (ak rfl)) (bH (@au _ _ _ _ _ _ _ _ _ _ _ _ _ _ _ _ G_is_condition (hr.mono (by omega)) rfl m_is_condition k_is_condition b_is_condition .nil aI (@ad _ _ _ _ _ (pv 0) (@ad _ _ _ _ _ (pv 3) (@ad _ _ _ _ _ (@aA _ _ _ _ _ _ _ av (pv 2) aj (fun _ _=>rfl)) ah (ac rfl)) (ac rfl)) (ac rfl)) (by decide) (ac rfl) (ak rfl)))))) aE) (@ao _ _ _ (@ay _ _ _ _ (bR (@au _ _ _ _ _ _ _ _ _ _ _ _ _ _ _ _ G_is_condition (hr.mono (by omega)) rfl m_is_condition k_is_condition b_is_condition .nil aI (@ad _ _ _ _ _ (pv 0) (@ad _ _ _ _ _ (pv 3) (@ad _ _ _ _ _ (@aA _ _ _ _ _ _ _ av (pv 2) aj (fun _ _=>rfl)) ah (ac rfl)) (ac rfl)) (ac rfl)) (by decide) (ac rfl) (ak rfl)) (bH (@aF _ _ _ _ _ _ _ _ _ (cy rfl) rfl T.all iE (@ad _ _ _ _ _ (bt (N':=gS) (ρ:=[none]) (m:=1) (bF.of (fs:=defScope fm) (N:=lh) rfl rfl (by decide +kernel)) rfl (dR (au G_bodies_of (hr.mono (by omega)) rfl m_bodies_of k_bodies_of b_bodies_of .nil aI (ad (pv 2) ah))) (fun _ _ _ _=>(aQ (i:=0) kr rfl (Or.inl rfl))) (fun _ _ _ _=>bq) (fun _ _ _ _=>(aF (wg (K:=K) rfl) rfl T.isi bS (ad (pv 0) (ad (bp (v:=.ty "tuple") rfl T.tuple bY rfl) ah))))) ah (ac rfl)) (by decide) (by decide) (ac rfl) (ak rfl))))))))))))),?_⟩
 cases hj with
 | ok s hdp hok =>
  cases s with
  | let_ x e =>
   simp only [OkS] at hok
   obtain ⟨k,hx,oe,ce⟩:=hok
   simp only [S.d] at hu; simp only [S.top,S.d] at hdp
   obtain ⟨a,xs,rfl,ha,dx0⟩:=hu.open
   obtain ⟨x0,r0,rfl,h0,dx1⟩:=dx0.open
   obtain rfl:=h0.str_inv
   obtain ⟨x1,r1,rfl,h1,dx2⟩:=dx1.open
   obtain rfl:=h1.str_inv
   obtain ⟨x2,r2,rfl,h2,dx3⟩:=dx2.open
   cases dx3
   refine ⟨_,rfl,.inl ⟨a,_,_, "statement",rfl,ha,(show (("let":Str),("statement":Str),(3:Int))∈SH4 by decide +kernel),.inl (by decide +kernel),_,rfl,bv ?_⟩⟩
   refine ⟨_,rfl,fu,F,rfl,hfu,hvn,h5,fun kk H1 g1 hk=>?_⟩
   have ha1:=g1 _ _ ha
   have hp1:=hp.mono (ar g1)
   refine ⟨_,rfl,a,_,_,_,rfl,rfl,SqT.of ha1,rfl,?_⟩
   refine ⟨_,rfl,rfl,_,rfl,?_⟩
   refine az (fun c9=>?_) (fun c9=>absurd (by decide +kernel) c9)
   refine ⟨_,rfl,_,rfl,a,_,_,_,rfl,rfl,SqT.of ha1,rfl,kk,x,k,_,rfl,hk,hvn,hx,?_⟩
   refine ⟨_,rfl,rfl,_,rfl,?_⟩
   refine az (fun c9=>?_) (fun c9=>absurd (by simp) c9)
   refine ⟨_,rfl,_,rfl,_,rfl,a,_,_,_,rfl,rfl,SqT.of ha1,rfl,.inl ⟨v,kk,x2,e,R,_,k,rfl,hp1.prog,hlk,hk,hvn,h2.mono (ar g1),by simp only [PyData.depth,PyData.depthAll] at hdp; omega,oe,ce,fun H2 g2=>⟨_,rfl,rfl,?_⟩⟩⟩
   show Q (.bl (decide (V.str k=V.str k))) H2
   rw [decide_eq_true (rfl:V.str k=V.str k)]
   exact q _ (g1.trans g2)
  | give e =>
   simp only [OkS] at hok
   obtain ⟨oe,ce⟩:=hok
   simp only [S.d] at hu; simp only [S.top,S.d] at hdp
   obtain ⟨a,xs,rfl,ha,dx0⟩:=hu.open
   obtain ⟨x0,r0,rfl,h0,dx1⟩:=dx0.open
   obtain rfl:=h0.str_inv
   obtain ⟨x1,r1,rfl,h1,dx2⟩:=dx1.open
   cases dx2
   refine ⟨_,rfl,.inl ⟨a,_,_, "statement",rfl,ha,(show (("give":Str),("statement":Str),(2:Int))∈SH4 by decide +kernel),.inl (by decide +kernel),_,rfl,bv ?_⟩⟩
   refine ⟨_,rfl,fu,F,rfl,hfu,hvn,h5,fun kk H1 g1 hk=>?_⟩
   have ha1:=g1 _ _ ha
   have hp1:=hp.mono (ar g1)
   refine ⟨_,rfl,a,_,_,_,rfl,rfl,SqT.of ha1,rfl,?_⟩
   refine ⟨_,rfl,rfl,_,rfl,?_⟩
   refine az (fun c9=>absurd c9 (by decide +kernel)) (fun c9=>?_)
   refine ⟨_,rfl,rfl,_,rfl,?_⟩
   refine az (fun c9=>?_) (fun c9=>absurd (by decide +kernel) c9)
   refine ⟨_,rfl,_,rfl,_,rfl,a,_,_,_,rfl,rfl,SqT.of ha1,rfl,.inl ⟨v,kk,x1,e,R,_,_,rfl,hp1.prog,hlk,hk,hvn,h1.mono (ar g1),by simp only [PyData.depth,PyData.depthAll] at hdp; omega,oe,ce,fun H2 g2=>?_⟩⟩
   obtain ⟨fa,p1,p2,bb,xb,rfl,hfa,_⟩:=hfu
   refine ⟨_,rfl,fa,_,_,_,rfl,rfl,SqT.of (g2 _ _ (g1 _ _ hfa)),rfl,rfl,?_⟩
   show Q (.bl (decide (V.str F.1.2.2.2=V.str F.1.2.2.2))) H2
   rw [decide_eq_true (rfl:V.str F.1.2.2.2=V.str F.1.2.2.2)]
   exact q _ (g1.trans g2)
  | call x fn es =>
   simp only [OkS] at hok
   obtain ⟨h,hh,hz,hx,ol,cl⟩:=hok
   obtain ⟨F',hF',rfl⟩:=List.mem_map.mp hh
   have hu0:=hu
   have hdp0:=hdp
   simp only [S.d] at hu; simp only [S.top,S.d] at hdp
   obtain ⟨a,xs,rfl,ha,dx0⟩:=hu.open
   obtain ⟨x0,r0,rfl,h0,dx1⟩:=dx0.open
   obtain rfl:=h0.str_inv
   obtain ⟨x1,r1,rfl,h1,dx2⟩:=dx1.open
   obtain rfl:=h1.str_inv
   obtain ⟨x2,r2,rfl,h2,dx3⟩:=dx2.open
   obtain rfl:=h2.str_inv
   obtain ⟨x3,r3,rfl,h3,dx4⟩:=dx3.open
   obtain ⟨al,ys,rfl,hal,dys⟩:=h3.open
   cases dx4
   refine ⟨_,rfl,.inl ⟨a,_,_, "statement",rfl,ha,(show (("call":Str),("statement":Str),(4:Int))∈SH4 by decide +kernel),.inr ⟨3,al,ys,by decide +kernel,rfl,hal⟩,_,rfl,bv ?_⟩⟩
   refine ⟨_,rfl,fu,F,rfl,hfu,hvn,h5,fun kk H1 g1 hk=>?_⟩
   have ha1:=g1 _ _ ha
   have hp1:=hp.mono (ar g1)
   refine ⟨_,rfl,a,_,_,_,rfl,rfl,SqT.of ha1,rfl,?_⟩
   refine ⟨_,rfl,rfl,_,rfl,?_⟩
   refine az (fun c9=>absurd c9 (by decide +kernel)) (fun c9=>?_)
   refine ⟨_,rfl,rfl,_,rfl,?_⟩
   refine az (fun c9=>absurd c9 (by decide +kernel)) (fun c9=>?_)
   refine ⟨_,rfl,rfl,_,rfl,?_⟩
   refine az (fun c9=>?_) (fun c9=>absurd (by decide +kernel) c9)
   exact ⟨_,rfl,_,rfl,_,rfl,v,kk,.ref a,R,FS,_,x,fn,es,F',rfl,hp1,hfn,hlk,hk,hvn,hu0.mono (ar g1),hdp0,hF',hz,hx,(hps F' hF').1,(hps F' hF').2,ol,cl,fun H2 g2=>q _ (g1.trans g2)⟩
  | say y c =>
   simp only [OkS] at hok
   obtain ⟨hy,oc,cc⟩:=hok
   simp only [S.d] at hu; simp only [S.top,S.d] at hdp
   obtain ⟨a,xs,rfl,ha,dx0⟩:=hu.open
   obtain ⟨x0,r0,rfl,h0,dx1⟩:=dx0.open
   obtain rfl:=h0.str_inv
   obtain ⟨x1,r1,rfl,h1,dx2⟩:=dx1.open
   obtain rfl:=h1.str_inv
   obtain ⟨x2,r2,rfl,h2,dx3⟩:=dx2.open
   cases dx3
   refine ⟨_,rfl,.inl ⟨a,_,_, "statement",rfl,ha,(show (("say":Str),("statement":Str),(3:Int))∈SH4 by decide +kernel),.inl (by decide +kernel),_,rfl,bv ?_⟩⟩
   refine ⟨_,rfl,fu,F,rfl,hfu,hvn,h5,fun kk H1 g1 hk=>?_⟩
   have ha1:=g1 _ _ ha
   have hp1:=hp.mono (ar g1)
   refine ⟨_,rfl,a,_,_,_,rfl,rfl,SqT.of ha1,rfl,?_⟩
   refine ⟨_,rfl,rfl,_,rfl,?_⟩
   refine az (fun c9=>absurd c9 (by decide +kernel)) (fun c9=>?_)
   refine ⟨_,rfl,rfl,_,rfl,?_⟩
   refine az (fun c9=>absurd c9 (by decide +kernel)) (fun c9=>?_)
   refine ⟨_,rfl,rfl,_,rfl,?_⟩
   refine az (fun c9=>absurd c9 (by decide +kernel)) (fun c9=>?_)
   refine ⟨_,rfl,rfl,_,rfl,?_⟩
   refine az (fun c9=>?_) (fun c9=>absurd (by decide +kernel) c9)
   refine ⟨_,rfl,a,_,_,_,rfl,rfl,SqT.of ha1,rfl,y,rfl,hy,fun H2 g2=>⟨_,rfl,bz ?_⟩⟩
   have G2:=g1.trans g2
   exact ⟨_,rfl,_,rfl,_,rfl,a,_,_,_,rfl,rfl,SqT.of (g2 _ _ ha1),rfl,v,kk,x2,c,R,_,rfl,hp1.prog.mono (ar g2),hlk,g2 _ _ hk,hvn,h2.mono (ar G2),by simp only [PyData.depth,PyData.depthAll] at hdp; omega,oc,true,.inl ⟨cc,rfl⟩,fun H3 g3=>q _ (G2.trans g3)⟩
  | if_ c A B =>
   simp only [OkS] at hok
   obtain ⟨⟨oc,cc⟩,_⟩:=hok
   have hu0:=hu
   simp only [S.d] at hu; simp only [S.top,S.d] at hdp
   obtain ⟨a,xs,rfl,ha,dx0⟩:=hu.open
   obtain ⟨x0,r0,rfl,h0,dx1⟩:=dx0.open
   obtain rfl:=h0.str_inv
   obtain ⟨x1,r1,rfl,h1,dx2⟩:=dx1.open
   obtain ⟨x2,r2,rfl,h2,dx3⟩:=dx2.open
   obtain ⟨x3,r3,rfl,h3,dx4⟩:=dx3.open
   cases dx4
   refine ⟨_,rfl,.inl ⟨a,_,_, "statement",rfl,ha,(show (("if":Str),("statement":Str),(4:Int))∈SH4 by decide +kernel),.inl (by decide +kernel),_,rfl,bv ?_⟩⟩
   refine ⟨_,rfl,fu,F,rfl,hfu,hvn,h5,fun kk H1 g1 hk=>?_⟩
   have ha1:=g1 _ _ ha
   have hp1:=hp.mono (ar g1)
   refine ⟨_,rfl,a,_,_,_,rfl,rfl,SqT.of ha1,rfl,?_⟩
   refine ⟨_,rfl,rfl,_,rfl,?_⟩
   refine az (fun c9=>absurd c9 (by decide +kernel)) (fun c9=>?_)
   refine ⟨_,rfl,rfl,_,rfl,?_⟩
   refine az (fun c9=>absurd c9 (by decide +kernel)) (fun c9=>?_)
   refine ⟨_,rfl,rfl,_,rfl,?_⟩
   refine az (fun c9=>absurd c9 (by decide +kernel)) (fun c9=>?_)
   refine ⟨_,rfl,rfl,_,rfl,?_⟩
   refine az (fun c9=>absurd c9 (by decide +kernel)) (fun c9=>?_)
   refine ⟨_,rfl,_,rfl,_,rfl,a,_,_,_,rfl,rfl,SqT.of ha1,rfl,v,kk,x1,c,R,_,rfl,hp1.prog,hlk,hk,hvn,h1.mono (ar g1),by simp only [PyData.depth,PyData.depthAll] at hdp; omega,oc,true,.inl ⟨cc,rfl⟩,fun H2 g2=>⟨_,rfl,bz ?_⟩⟩
   have G2:=g1.trans g2
   refine ⟨_,rfl,.ref a,.if_ c A B,rfl,hu0.mono (ar G2),fun r ys H3 g3 hr0 hr3 db=>⟨r,rfl,⟨_,SqL.of hr3⟩,qE db (by simp [S.bods]) hr3 fun D hD=>⟨D,_,rfl,SqL.of af,?_⟩⟩⟩
   have e:((List.replicate ys.length true)).all id=true:=by simp
   rw [e]
   exact q _ ((G2.trans g3).trans (ag hD _))
  | while_ c A =>
   simp only [OkS] at hok
   obtain ⟨⟨oc,cc⟩,_⟩:=hok
   have hu0:=hu
   simp only [S.d] at hu; simp only [S.top,S.d] at hdp
   obtain ⟨a,xs,rfl,ha,dx0⟩:=hu.open
   obtain ⟨x0,r0,rfl,h0,dx1⟩:=dx0.open
   obtain rfl:=h0.str_inv
   obtain ⟨x1,r1,rfl,h1,dx2⟩:=dx1.open
   obtain ⟨x2,r2,rfl,h2,dx3⟩:=dx2.open
   cases dx3
   refine ⟨_,rfl,.inl ⟨a,_,_, "statement",rfl,ha,(show (("while":Str),("statement":Str),(3:Int))∈SH4 by decide +kernel),.inl (by decide +kernel),_,rfl,bv ?_⟩⟩
   refine ⟨_,rfl,fu,F,rfl,hfu,hvn,h5,fun kk H1 g1 hk=>?_⟩
   have ha1:=g1 _ _ ha
   have hp1:=hp.mono (ar g1)
   refine ⟨_,rfl,a,_,_,_,rfl,rfl,SqT.of ha1,rfl,?_⟩
   refine ⟨_,rfl,rfl,_,rfl,?_⟩
   refine az (fun c9=>absurd c9 (by decide +kernel)) (fun c9=>?_)
   refine ⟨_,rfl,rfl,_,rfl,?_⟩
   refine az (fun c9=>absurd c9 (by decide +kernel)) (fun c9=>?_)
   refine ⟨_,rfl,rfl,_,rfl,?_⟩
   refine az (fun c9=>absurd c9 (by decide +kernel)) (fun c9=>?_)
   refine ⟨_,rfl,rfl,_,rfl,?_⟩
   refine az (fun c9=>absurd c9 (by decide +kernel)) (fun c9=>?_)
   refine ⟨_,rfl,_,rfl,_,rfl,a,_,_,_,rfl,rfl,SqT.of ha1,rfl,v,kk,x1,c,R,_,rfl,hp1.prog,hlk,hk,hvn,h1.mono (ar g1),by simp only [PyData.depth,PyData.depthAll] at hdp; omega,oc,true,.inl ⟨cc,rfl⟩,fun H2 g2=>⟨_,rfl,bz ?_⟩⟩
   have G2:=g1.trans g2
   refine ⟨_,rfl,.ref a,.while_ c A,rfl,hu0.mono (ar G2),fun r ys H3 g3 hr0 hr3 db=>⟨r,rfl,⟨_,SqL.of hr3⟩,qE db (by simp [S.bods]) hr3 fun D hD=>⟨D,_,rfl,SqL.of af,?_⟩⟩⟩
   have e:((List.replicate ys.length true)).all id=true:=by simp
   rw [e]
   exact q _ ((G2.trans g3).trans (ag hD _))
 | void x r =>
  obtain ⟨a,xs,rfl,ha,dx0⟩:=hu.open
  obtain ⟨x0,r0,rfl,h0,dx1⟩:=dx0.open
  obtain ⟨b,ys,rfl,hb,_⟩:=h0.open
  refine ⟨_,rfl,.inr ⟨a,b,_,ys,_,rfl,ha,hb,_,rfl,bz ?_⟩⟩
  exact q _ (aO.refl _)
 | let_ x k e hx c12 c100 =>
  simp only [S.d] at hu
  obtain ⟨a,xs,rfl,ha,dx0⟩:=hu.open
  obtain ⟨x0,r0,rfl,h0,dx1⟩:=dx0.open
  obtain rfl:=h0.str_inv
  obtain ⟨x1,r1,rfl,h1,dx2⟩:=dx1.open
  obtain rfl:=h1.str_inv
  obtain ⟨x2,r2,rfl,h2,dx3⟩:=dx2.open
  cases dx3
  refine ⟨_,rfl,.inl ⟨a,_,_, "statement",rfl,ha,(show (("let":Str),("statement":Str),(3:Int))∈SH4 by decide +kernel),.inl (by decide +kernel),_,rfl,bv ?_⟩⟩
  refine ⟨_,rfl,fu,F,rfl,hfu,hvn,h5,fun kk H1 g1 hk=>?_⟩
  have ha1:=g1 _ _ ha
  have hp1:=hp.mono (ar g1)
  refine ⟨_,rfl,a,_,_,_,rfl,rfl,SqT.of ha1,rfl,?_⟩
  refine ⟨_,rfl,rfl,_,rfl,?_⟩
  refine az (fun c9=>?_) (fun c9=>absurd (by decide +kernel) c9)
  refine ⟨_,rfl,_,rfl,a,_,_,_,rfl,rfl,SqT.of ha1,rfl,kk,x,k,_,rfl,hk,hvn,hx,?_⟩
  refine ⟨_,rfl,rfl,_,rfl,?_⟩
  refine az (fun c9=>?_) (fun c9=>absurd (by simp) c9)
  refine ⟨_,rfl,_,rfl,_,rfl,a,_,_,_,rfl,rfl,SqT.of ha1,rfl,.inr ⟨v,.ref kk,x2,e,rfl,h2.mono (ar g1),c12,c100,fun H2 g2=>⟨_,rfl,rfl,?_⟩⟩⟩
  show Q (.bl (decide (V.non=V.str k))) H2
  rw [decide_eq_false (fun z=>nomatch z:¬ V.non=V.str k)]
  exact q _ (g1.trans g2)
 | say y c hy oc hdp c6 c100 =>
  simp only [S.d] at hu
  obtain ⟨a,xs,rfl,ha,dx0⟩:=hu.open
  obtain ⟨x0,r0,rfl,h0,dx1⟩:=dx0.open
  obtain rfl:=h0.str_inv
  obtain ⟨x1,r1,rfl,h1,dx2⟩:=dx1.open
  obtain rfl:=h1.str_inv
  obtain ⟨x2,r2,rfl,h2,dx3⟩:=dx2.open
  cases dx3
  refine ⟨_,rfl,.inl ⟨a,_,_, "statement",rfl,ha,(show (("say":Str),("statement":Str),(3:Int))∈SH4 by decide +kernel),.inl (by decide +kernel),_,rfl,bv ?_⟩⟩
  refine ⟨_,rfl,fu,F,rfl,hfu,hvn,h5,fun kk H1 g1 hk=>?_⟩
  have ha1:=g1 _ _ ha
  have hp1:=hp.mono (ar g1)
  refine ⟨_,rfl,a,_,_,_,rfl,rfl,SqT.of ha1,rfl,?_⟩
  refine ⟨_,rfl,rfl,_,rfl,?_⟩
  refine az (fun c9=>absurd c9 (by decide +kernel)) (fun c9=>?_)
  refine ⟨_,rfl,rfl,_,rfl,?_⟩
  refine az (fun c9=>absurd c9 (by decide +kernel)) (fun c9=>?_)
  refine ⟨_,rfl,rfl,_,rfl,?_⟩
  refine az (fun c9=>absurd c9 (by decide +kernel)) (fun c9=>?_)
  refine ⟨_,rfl,rfl,_,rfl,?_⟩
  refine az (fun c9=>?_) (fun c9=>absurd (by decide +kernel) c9)
  refine ⟨_,rfl,a,_,_,_,rfl,rfl,SqT.of ha1,rfl,y,rfl,hy,fun H2 g2=>⟨_,rfl,bz ?_⟩⟩
  have G2:=g1.trans g2
  exact ⟨_,rfl,_,rfl,_,rfl,a,_,_,_,rfl,rfl,SqT.of (g2 _ _ ha1),rfl,v,kk,x2,c,R,_,rfl,hp1.prog.mono (ar g2),hlk,g2 _ _ hk,hvn,h2.mono (ar G2),hdp,oc,false,.inr ⟨c6,c100,rfl⟩,fun H3 g3=>q _ (G2.trans g3)⟩
end
open PySem L2
abbrev kA:=PyData×Nat
def et (K:Frag) (H:Hp) (v:V) (t:kA):Prop:=∃ a x,v=.ref a∧H a=some (.tup [x,.int (t.2:Int)])∧DT K H x t.1
theorem et.mono {K:Frag} {H H':Hp} (k:Tk H H') {v:V} {t:kA} (h:et K H v t):et K H' v t:=let ⟨a,x,e,h1,h2⟩:=h; ⟨a,x,e,k _ _ h1,h2.mono k⟩
def tks (B:List S) (d:Nat):List kA:=B.reverse.map fun s=>(s.d,d)
def tkb (l:List (List S)) (d:Nat):List kA:=(l.map fun B=>tks B d).flatten
def dw (s:S) (d:Nat):List kA:=tkb s.bods.reverse (d+1)
theorem vZ (a b:List (List S)) (d:Nat):tkb (a++b) d=tkb a d++tkb b d:=by unfold tkb; rw [List.map_append,List.flatten_append]
theorem zy (B:List S) (d:Nat):tkb [B] d=tks B d:=by simp [tkb]
theorem vn (B:List S) (d:Nat):(tks B d).length=B.length:=by simp [tks]
theorem yi (l:List (List S)) (i d:Nat):(tkb (l.take i) d).length≤(tkb l d).length:=by
 conv=>rhs; rw [← List.take_append_drop i l,vZ]
 rw [List.length_append]; omega
inductive FW (J:PyData→Bool→Prop):Nat→List kA→Nat→Option Nat→Prop
 | nil {k:Nat}:FW J 0 [] k none
 | stop {L ts:List kA} {t:kA} {k:Nat}:L=ts++[t]→k<30→(5<t.2∨t.2≤5∧J t.1 false)→FW J 0 L k (some k)
 | go {L ts:List kA} {s:S} {d k n:Nat} {r:Option Nat}:L=ts++[(s.d,d)]→k<30→d≤5→J s.d true→(ts++dw s d).length≤100→FW J n (ts++dw s d) (k+1) r→FW J (n+1) L k r
def fwV:Option Nat→V
 | none=>.non
 | some k=>.int (k:Int)
theorem Paired.snoc_inv {α β:Type} {F:α→β→Prop}:∀ {l:List α} {x:α} {m:List β},Paired F (l++[x]) m→∃ m' b,m=m'++[b]∧Paired F l m'∧F x b
 | [],x,_,.cons h .nil=>⟨[],_,rfl,.nil,h⟩
 | y::l,x,_,.cons h r=>by
  obtain ⟨m',b,rfl,p,q⟩:=Paired.snoc_inv r
  exact ⟨_::m',b,rfl,.cons h p,q⟩
theorem S.ds_rev_at {K:Frag} {H:Hp} {xs:List V} {B:List S} {i:Nat} {x:V} (h:DTs K H xs (S.ds B)) (hx:xs.reverse[i]?=some x):∃ s,B.reverse[i]?=some s∧DT K H x s.d:=by
 obtain ⟨d,hd,dx⟩:=(h.rev).get i x hx
 have e:S.ds B=B.map S.d:=by
  clear h hx hd dx
  induction B with
  | nil=>rfl
  | cons a r ih=>simp only [S.ds,List.map_cons,ih]
 rw [e,← List.map_reverse,List.getElem?_map] at hd
 obtain ⟨s,hs,rfl⟩:=Option.map_eq_some_iff.mp hd
 exact ⟨s,hs,dx⟩
def ld (K:Frag) (H:Hp) (v:V) (ds:List PyData):Prop:=∃ fa a1 a2 a3 a4 bb xs,v=.ref fa∧H fa=some (.tup [a1,a2,a3,a4,.ref bb])∧H bb=some (.tup xs)∧DTs K H xs ds
theorem ld.mono {K:Frag} {H H':Hp} (t:Tk H H') {v:V} {ds:List PyData} (h:ld K H v ds):ld K H' v ds:=let ⟨fa,a1,a2,a3,a4,bb,xs,e,h1,h2,h3⟩:=h; ⟨fa,a1,a2,a3,a4,bb,xs,e,t _ _ h1,t _ _ h2,h3.mono t⟩
section
variable {P:Program} {w:World} {K:Frag} {mg:Str→Option Value} {base:Heap} {f g:Addr} {fd gd:FuncData}
abbrev bV:List Str:=["program", "function", "waiting", "k", "task", "deep", "body"]
abbrev cb:List Str:=["thing", "deep"]
theorem dD:cb.Nodup:=by decide +kernel
abbrev cf:List Str:=["thing"]
theorem dP:cf.Nodup:=by decide +kernel
theorem bg:aK bV ["program", "function"] (defScope bB):=⟨rfl,rfl,rfl,by decide +kernel,rfl,by decide +kernel,by decide +kernel⟩
def CB (K:Frag):Sp:=fun vs H Q _=>∃ v fu R FS F ds m r,vs=[v,fu]∧ku K H v R FS∧(FS.map (·.1.1)).Nodup∧eg R∧dZ K H fu F∧((F.1.2.1++F.1.2.2.1).map (·.1)).Nodup∧(F.1.2.1++F.1.2.2.1).length≤5 ∧
 (∀ F'∈FS,F'.1.2.1.length≤10∧∀ p∈F'.1.2.1,PyData.strOk p.2=true)∧ld K H fu ds∧ds.length≤100∧FW (fL R (FS.map (·.1)) (F.1.2.1++F.1.2.2.1) F.1.2.2.2) m (ds.reverse.map fun x=>(x,1)) 0 r∧∀ H',aO H H'→Q (fwV r) H'
def CO (K:Frag) (H:Hp) (v fu:V) (J:PyData→Bool→Prop) (r:Option Nat) (m:Nat) (σ:St) (H':Hp):Prop :=
 ∃ n:Nat,∃ wl ys ts m4 m5 m6,σ=[some v,some fu,some (.ref wl),some (.int (n:Int)),m4,m5,m6]∧aO H H'∧H wl=none∧H' wl=some (.lst ys)∧Paired (et K H') ys ts∧FW J m ts n r
theorem CC (T:G0 mg) (TR:mg "reversed"=none) (mLx:∃ t,mg "MOST_LINES"=some (.int 30 t)) (mDx:∃ t,mg "MOST_DEEP"=some (.int 5 t)) (F:Fun K "first_wrong_line" "first_wrong_line" bB f fd) (D_is_line:Cal P w K mg base 32 "is_line" ["program", "function", "thing"] (yZ K))
  (D_bodies_of:Cal P w K mg base 1 "bodies_of" ["statement"] (tj K)):aV P w K mg base CX0 33 f fd ["program", "function"] (CB K):=by
 obtain ⟨g_bodies_of,gd_bodies_of,G_bodies_of,b_bodies_of,k_bodies_of,m_bodies_of⟩:=D_bodies_of.ex
 obtain ⟨g_is_line,gd_is_line,G_is_line,b_is_line,k_is_line,m_is_line⟩:=D_is_line.ex
 obtain ⟨tL,mL⟩:=mLx
 obtain ⟨tD,mD⟩:=mDx
 refine F.ok bg (fun vs H Q EX h=>?_) (fun cdv A outer s H vs Q EX hr h=>?_)
 ·obtain ⟨v,fu,R,FS,F,ds,m,r,rfl,_⟩:=h
  rfl
 obtain ⟨v,fu,R,FS,F,ds,m0,r0,rfl,hp,hfn,hlk,hfu,hvn,h5,hps,⟨fa,a1,a2,a3,a4,bb,xs,rfl,hfa,hbb,dxs⟩,hd100,hfw,q⟩:=h
 have lx:=dxs.len
 obtain ⟨J,eJ⟩:∃ J,J=fL R (FS.map (·.1)) (F.1.2.1++F.1.2.2.1) F.1.2.2.2:=⟨_,rfl⟩
 rw [← eJ] at hfw
 refine ⟨_,(@am _ _ _ _ _ (ni (i:=2) (N':=cf) (ρ:=[none]) (m:=1) (bF.of (fs:=defScope bB) (N:=bV) rfl rfl (by decide +kernel)) bg.nd rfl (Or.inl rfl) rfl (vA rfl TR (aA av (pv 1) aj (fun _ _=>rfl))) (fun _ _ _ _=>(aQ (i:=0) dP rfl (Or.inl rfl))) (fun _ _ _ _=>bq) (fun _ _ _ _=>(aH (ad (pv 0) (ad aj ah))))) (@am _ _ _ _ _ (@aR _ _ 3 _ _ _ _ bg.nd rfl (Or.inl rfl) aj (aC rfl) (.inr rfl)) (@am _ _ _ _ _ (gq PassesOwn.never (gr (pv 2) (fun _=>rfl)) (@am _ _ _ _ _ (@aR _ _ 4 _ _ _ _ bg.nd rfl (Or.inl rfl) (md PySem.F.plainAttrs_list PySem.F.slot_list_pop PySem.F.type_list_pop mz (pv 2)) (aC rfl) (.inr rfl)) (@am _ _ _ _ _ (@aR _ _ 5 _ _ _ _ bg.nd rfl (Or.inr rfl) (@aA _ _ _ _ _ _ _ av (pv 4) aj (fun _ _=>rfl)) (aC rfl) (.inl rfl)) (@am _ _ _ _ _ (@aT _ _ _ _ _ _ _ _ (PW.pt (bK (@aD _ _ _ _ _ _ _ _ bA (pv 3) (aX (v:=.int 30) rfl mL ⟨_,rfl⟩) (aJ _)) (bK (@aD _ _ _ _ _ _ _ _ qJ (pv 5) (aX (v:=.int 5) rfl mD ⟨_,rfl⟩) (aJ _)) (bP (bc (aW (@au _ _ _ _ _ _ _ _ _ _ _ _ _ _ _ _ G_is_line (hr.mono (by omega)) rfl m_is_line k_is_line b_is_line .nil aI (@ad _ _ _ _ _ (pv 0) (@ad _ _ _ _ _ (pv 1) (@ad _ _ _ _ _ (@aA _ _ _ _ _ _ _ av (pv 4) aj (fun _ _=>rfl)) ah (ac rfl)) (ac rfl)) (ac rfl)) (by decide) (ac rfl) (ak rfl)))))))) (@ao _ _ _ (@ay _ _ _ _ (pv 3))) aE) (@am _ _ _ _ _ (@cB _ _ _ _ _ _ _ _ PassesOwn.never rfl (AS rfl TR (@au _ _ _ _ _ _ _ _ _ _ _ _ _ _ _ _ G_bodies_of (hr.mono (by omega)) rfl m_bodies_of k_bodies_of b_bodies_of .nil aI (@ad _ _ _ _ _ (@aA _ _ _ _ _ _ _ av (pv 4) aj (fun _ _=>rfl)) ah (ac rfl)) (by decide) (ac rfl) (ak rfl))) (aQ (i:=6) bg.nd rfl (Or.inl rfl)) (@ao _ _ _ (@fj _ _ _ _ (@lr _ _ _ _ _ _ _ _ _ _ _ _ PySem.F.plainAttrs_list PySem.F.slot_list_extend PySem.F.type_list_extend fq (pv 2) (@ad _ _ _ _ _ (bt (N':=cb) (ρ:=[none,some 5]) (m:=1) (bF.of (fs:=defScope bB) (N:=bV) rfl rfl (by decide +kernel)) rfl (vA rfl TR (pv 6)) (fun _ _ _ _=>(aQ (i:=0) dD rfl (Or.inl rfl))) (fun _ _ _ _=>bq) (fun _ _ _ _=>(aH (ad (pv 0) (ad (bJ ip (pv 1) aj) ah))))) ah (ac rfl)) rfl (fW rfl rfl) rfl (ac rfl) (ak rfl)) (aC rfl))) (fun _=>rfl)) (@ao _ _ _ (rK (i:=3) bg.nd rfl (Or.inl rfl) aj rP))))))) (@ao _ _ _ (@ay _ _ _ _ bE))))),?_⟩
 refine ⟨_,rfl,fa,_,_,_,rfl,rfl,SqT.of hfa,rfl,bb,xs,rfl,SqT.of hbb,kM (xs:=xs) xs.length rfl (by omega) (fun i acc H'=>aO H H'∧Paired (et K H') acc ((ds.reverse.take i).map fun s=>(s,1))) ⟨aO.refl _,.nil⟩ (fun i acc H' p=>SqT.of (p.1 _ _ hbb)) (fun i acc H' x hi la hx p=>?_) (fun acc H' p la D hD=>?_)⟩
 ·obtain ⟨g1,pa⟩:=p
  obtain ⟨s1,hs1,ds1⟩:=(dxs.rev).get i x hx
  refine ⟨⟨rfl,rfl⟩,bu ⟨_,rfl,(by show 2≤sizeLine; decide),fun p hp=>nxT (by omega) hi la ⟨g1.trans (ag hp _),?_⟩⟩⟩
  rw [List.take_add_one,hs1,List.map_append]
  exact Paired.snoc (Paired.mapP pa fun _ _ z=>z.mono (fQ hp _)) ⟨p,x,rfl,af,ds1.mono (ar (g1.trans (ag hp _)))⟩
 obtain ⟨g1,pa⟩:=p
 rw [lx,← List.length_reverse (as:=ds),List.take_length] at pa
 have hDH:H D=none:=g1.free hD
 dsimp only [fM]
 refine ⟨CO K H v (.ref fa) J r0,⟨_,0,D,acc,_,none,none,none,rfl,g1.trans (ag hD _),hDH,af,Paired.mapP pa fun _ _ z=>z.mono (fQ hD _),hfw⟩,?_⟩
 rintro m σ H' ⟨n,wl,ys,ts,m4,m5,m6,rfl,G1,hwl,hy,py,fw⟩
 refine ⟨_,rfl,_,.inl ⟨ys,SqL.of hy,rfl⟩,?_⟩
 refine az (fun cc=>?_) (fun cc=>?_)
 ·obtain ⟨zs,y,rfl⟩:∃ zs y,ys=zs++[y]:=by
   rcases List.eq_nil_or_concat ys with rfl | ⟨zs,y,e⟩
   ·exact absurd cc (by decide)
   ·exact ⟨zs,y,by rw [e,List.concat_eq_append]⟩
  obtain ⟨tz,⟨x1,d1⟩,rfl,pz,ta,x,rfl,hta,dx⟩:=Paired.snoc_inv py
  refine ⟨fun σ' H'=>∃ m',m'<m∧CO K H v (.ref fa) J r0 m' σ' H',fun _ _ z=>z,?_⟩
  refine ⟨_,rfl,.inl ⟨rfl,_,SqL.of hy⟩,wl,_,.ref ta,rfl,rfl,hy,by simp,?_⟩
  rw [List.dropLast_concat]
  have kT:Tk H' (upd H' wl (.lst zs)):=dC hy _
  have G2:aO H (upd H' wl (.lst zs)):=jR hwl G1
  have hy2:(upd H' wl (.lst zs)) wl=some (.lst zs):=af
  have pz2:=Paired.mapP pz fun _ _ z=>et.mono kT z
  have hta2:=kT _ _ hta
  have dx2:=dx.mono kT
  generalize hH:(upd H' wl (.lst zs))=H2 at G2 hy2 pz2 hta2 dx2
  refine ⟨_,rfl,ta,_,_,_,rfl,rfl,SqT.of hta2,rfl,?_⟩
  have n30:n<30:=by
   generalize eL:tz++[(x1,d1)]=L at fw
   cases fw with
   | nil=>simp at eL
   | stop e h _=>exact h
   | go e h _ _ _ _=>exact h
  refine ⟨_,rfl,rfl,_,rfl,?_⟩
  refine az (fun c=>absurd (V.int.inj (of_decide_eq_true c)) (by omega)) (fun c=>?_)
  refine ⟨_,rfl,_,_,rfl,rfl,_,rfl,?_⟩
  generalize eL:tz++[(x1,d1)]=L at fw
  cases fw with
  | nil=>simp at eL
  | @stop _ ts0 t _ e h30 hw =>
   obtain ⟨rfl,e2⟩:=List.append_inj' (eL.trans e) rfl
   cases e2
   refine az (fun c=>?_) (fun c=>?_)
   ·exact bz ⟨_,rfl,q _ G2⟩
   have c':¬ ((d1:Int) > 5):=fun z=>c (decide_eq_true z)
   rcases hw with h | ⟨_,hj⟩
   ·exact absurd h (by show ¬ 5<d1; omega)
   refine ⟨_,rfl,_,rfl,_,rfl,ta,_,_,_,rfl,rfl,SqT.of hta2,rfl,v,.ref fa,x,R,FS,F,x1,false,rfl,hp.mono (ar G2),hfn,hlk,hfu.mono (ar G2),hvn,h5,hps,dx2,eJ ▸ hj,fun H3 g3=>⟨_,rfl,bz ?_⟩⟩
   exact ⟨_,rfl,q _ (G2.trans g3)⟩
  | @go _ ts0 s1 d _ n1 _ e h30 hd5 hj l100 fw1 =>
   obtain ⟨rfl,e2⟩:=List.append_inj' (eL.trans e) rfl
   cases e2
   refine az (fun c=>absurd (of_decide_eq_true c) (by omega)) (fun c=>?_)
   refine ⟨_,rfl,_,rfl,_,rfl,ta,_,_,_,rfl,rfl,SqT.of hta2,rfl,v,.ref fa,x,R,FS,F,s1.d,true,rfl,hp.mono (ar G2),hfn,hlk,hfu.mono (ar G2),hvn,h5,hps,dx2,eJ ▸ hj,fun H3 g3=>⟨_,rfl,bv ?_⟩⟩
   have G3:=G2.trans g3
   refine ⟨_,rfl,ta,_,_,_,rfl,rfl,SqT.of (g3 _ _ hta2),rfl,x,s1,rfl,dx2.mono (ar g3),fun r bs H4 g4 hr0 hr4 db=>?_⟩
   have hwl3:=g3 _ _ hy2
   have hrw:r≠wl:=fun z=>by rw [z,hwl3] at hr0; cases hr0
   have lb:bs.length=s1.bods.length:=by rw [db.len,List.length_map]
   have lz:=Paired.length pz2
   unfold dw at l100 fw1
   rw [List.length_append] at l100
   refine ⟨r,bs,rfl,SqL.of hr4,zR (xs:=bs) (fun i σ H5=>∃ m6' vs5,σ=[some v,some (.ref fa),some (.ref wl),some (.int (n:Int)),some (.ref ta),some (.int (d1:Int)),m6']∧aO H H5∧Tk H4 H5∧H5 r=some (.lst bs)∧H5 wl=some (.lst vs5)∧Paired (et K H5) vs5 (tz++tkb (s1.bods.reverse.take i) (d1+1)))
    ⟨m6,zs,rfl,G3.trans g4,fun _ _ z=>z,hr4,g4 _ _ hwl3,by rw [List.take_zero]; simpa [tkb] using Paired.mapP pz2 fun _ _ z=>z.mono (ar (g3.trans g4))⟩ (fun i σ H5 _ p=>?_) (fun i x' σ H5 hx p=>?_) (fun σ H5 p=>?_)⟩
   ·obtain ⟨_,_,rfl,_,_,h,_⟩:=p
    exact SqL.of h
   ·obtain ⟨m6',vs5,rfl,G5,k5,hr5,hw5,pv5⟩:=p
    obtain ⟨dd,hdd,dxx⟩:=((db.mono k5).rev).get i x' hx
    rw [← List.map_reverse,List.getElem?_map] at hdd
    obtain ⟨B,hB,rfl⟩:=Option.map_eq_some_iff.mp hdd
    obtain ⟨pp,xp,rfl,hpp,dpp⟩:=DT.open dxx
    have lxp:=dpp.len
    rw [S.ds_len] at lxp
    have ett:tkb (s1.bods.reverse.take (i+1)) (d1+1)=tkb (s1.bods.reverse.take i) (d1+1)++tks B (d1+1):=by
     rw [List.take_add_one,hB,vZ]
     exact congrArg _ (zy B _)
    have ctk:=yi s1.bods.reverse (i+1) (d1+1)
    rw [ett,List.length_append,vn] at ctk
    have lv5:=Paired.length pv5
    rw [List.length_append] at lv5
    refine ⟨_,rfl,.inl ⟨rfl,_,SqL.of hw5⟩,_,rfl,pp,xp,rfl,SqT.of hpp,kM (xs:=xp) xp.length rfl (by omega) (fun j acc H6=>aO H5 H6∧Paired (et K H6) acc ((B.reverse.take j).map fun s=>(s.d,d1+1))) ⟨aO.refl _,.nil⟩ (fun j acc H6 p=>SqT.of (p.1 _ _ hpp)) (fun j acc H6 y hj la hy' p=>?_) (fun acc H6 p la D2 hD2=>?_)⟩
    ·obtain ⟨g6,pa6⟩:=p
     obtain ⟨s2,hs2,ds2⟩:=S.ds_rev_at dpp hy'
     have ed:(d1:Int)+1=((d1+1:Nat):Int):=by omega
     refine ⟨⟨rfl,rfl⟩,bu ⟨_,rfl,_,rfl,_,_,rfl,rfl,(by show 2≤sizeLine; decide),fun p hp=>nxT (by omega) hj la ⟨g6.trans (ag hp _),?_⟩⟩⟩
     rw [List.take_add_one,hs2,List.map_append]
     exact Paired.snoc (Paired.mapP pa6 fun _ _ z=>z.mono (fQ hp _)) ⟨p,y,rfl,af.trans (by show some (HO.tup [y,V.int ((d1:Int)+1)])=_; rw [ed]),ds2.mono (ar (g6.trans (ag hp _)))⟩
    obtain ⟨g6,pa6⟩:=p
    rw [lxp,← List.length_reverse (as:=B),List.take_length] at pa6
    have la6:=Paired.length pa6
    rw [List.length_map,List.length_reverse] at la6
    have g7:=g6.trans (ag hD2 (.lst acc))
    have hw7:=g7 _ _ hw5
    refine ⟨wl,D2,_,_,rfl,rfl,hw7,af,by rw [sizeLine_eq]; omega,?_⟩
    have kL:=dC hw7 (.lst (vs5++acc))
    have k7:=(ar g7).trans kL
    refine ⟨_,vs5++acc,rfl,jR hwl (G5.trans g7),k5.trans k7,by rw [bd hrw]; exact g7 _ _ hr5,af,?_⟩
    rw [ett,← List.append_assoc]
    exact Paired.app' (Paired.mapP pv5 fun _ _ z=>z.mono k7) (Paired.mapP pa6 fun _ _ z=>z.mono ((fQ hD2 _).trans kL))
   ·obtain ⟨m6',vs5,rfl,G5,k5,hr5,hw5,pv5⟩:=p
    rw [lb,← List.length_reverse (as:=s1.bods),List.take_length] at pv5
    have en:(n:Int)+1=((n+1:Nat):Int):=by omega
    refine ⟨_,rfl,_,_,rfl,rfl,?_⟩
    dsimp only
    rw [en]
    exact ⟨n1,Nat.lt_succ_self _,n+1,wl,vs5,_,_,_,_,rfl,G5,hwl,hw5,pv5,fw1⟩
 ·have e0':ys=[]:=by
   rcases ys with _ | ⟨y,r⟩
   ·rfl
   ·exact absurd rfl cc
  subst e0'
  cases py
  generalize eL:([]:List kA)=L at fw
  cases fw with
  | nil=>exact q _ G1
  | stop e _ _=>subst eL; simp at e
  | go e _ _ _ _ _=>subst eL; simp at e
end
end K6
namespace L2
open PySem
theorem iS {K:Frag} {H:Hp} {a:Addr} {xs:List V} {k:Nat} {Q:VK} (ha:H a=some (.tup xs)) (q:∀ p H',aO H H'→H' p=some (.tup (xs.take k))→Q (.ref p) H') :
  BK K (.ref a) none (some (k:Int)) H Q∨AK K (.ref a) none (some (k:Int)) H Q:=by
 by_cases h:xs.length≤k
 ·refine .inr ⟨a,xs,rfl,SqT.of ha,⟨HT.sIx_none _ _,by rw [HT.sIx_nat]; omega⟩,q a H (aO.refl _) ?_⟩
  rw [ha,List.take_of_length_le h]
 ·refine .inl ⟨a,xs,rfl,SqT.of ha,fun z=>?_,fun p hp=>q p _ (fun c o e=>by rw [bd (aU e hp)]; exact e) ?_⟩
  ·have:=z.2
   rw [HT.sIx_nat] at this
   omega
  ·rw [DD _ _ (by omega)]
   exact af
end L2
namespace K6
open PySem L2
section
variable {P:Program} {w:World} {K:Frag} {mg:Str→Option Value} {base:Heap} {f g:Addr} {fd gd:FuncData}
abbrev qi:List Str:=["ahead", "thing"]
theorem oF:aK qi ["ahead", "thing"] (defScope eA):=⟨rfl,rfl,rfl,by decide +kernel,rfl,by decide +kernel,by decide +kernel⟩
abbrev kE:List Str:=["thing", "place", "record"]
theorem cM:aK kE ["thing"] (defScope cW):=⟨rfl,rfl,rfl,by decide +kernel,rfl,by decide +kernel,by decide +kernel⟩
end
end K6
namespace L2
open PySem
end L2
namespace K6
open PySem L2
section
variable {P:Program} {w:World} {K:Frag} {mg:Str→Option Value} {base:Heap} {f g:Addr} {fd gd:FuncData}
abbrev eT:List Str:=["records", "ahead", "thing", "names"]
abbrev eV:List Str:=["pair"]
theorem iF:eV.Nodup:=by decide +kernel
abbrev eM:List Str:=["function"]
theorem iI:eM.Nodup:=by decide +kernel
theorem dE:aK eT ["records", "ahead", "thing"] (defScope bX):=⟨rfl,rfl,rfl,by decide +kernel,rfl,by decide +kernel,by decide +kernel⟩
structure HP (R:List Rec) (h:uL):Prop where
 nm:h.1∈kf
 p2:h.2.1.length≤2
 l5:(h.2.1++h.2.2.1).length≤5
 nd:((h.2.1++h.2.2.1).map (·.1)).Nodup
 vs:∀ p∈h.2.1++h.2.2.1,p.1∈kf∧p.2∈KS R
 gv:h.2.2.2∈KS R
def CK (K:Frag):Sp:=fun vs H Q _=>∃ ra rx R aa ax F1 u F,vs=[.ref ra,.ref aa,u]∧H ra=some (.tup rx)∧Paired (fA H) rx R∧R.length≤10∧H aa=some (.tup ax)∧Paired (dZ K H) ax F1∧F1.length≤10∧dZ K H u F∧F.1.1∉F1.map (·.1.1)∧HP R F.1∧∀ H',aO H H'→Q (.bl true) H'
theorem Cf (T:G0 mg) (TS:mg "set"=none) (mPx:∃ t,mg "MOST_PARAMS"=some (.int 4 t)) (mLx:∃ t,mg "MOST_LOCALS"=some (.int 6 t)) (F:Fun K "is_headed" "is_headed" bX f fd) (D_is_tuple_of:Cal P w K mg base 1 "is_tuple_of" ["thing", "least", "most"] zQ) (D_is_name:Cal P w K mg base 1 "is_name" ["thing"] jI)
  (D_is_kind:Cal P w K mg base 1 "is_kind" ["records", "thing"] jo) (D_are_named:Cal P w K mg base 2 "are_named" ["records", "thing", "least", "most"] Ah):aV P w K mg base CX0 3 f fd ["records", "ahead", "thing"] (CK K):=by
 obtain ⟨g_are_named,gd_are_named,G_are_named,b_are_named,k_are_named,m_are_named⟩:=D_are_named.ex
 obtain ⟨g_is_kind,gd_is_kind,G_is_kind,b_is_kind,k_is_kind,m_is_kind⟩:=D_is_kind.ex
 obtain ⟨g_is_name,gd_is_name,G_is_name,b_is_name,k_is_name,m_is_name⟩:=D_is_name.ex
 obtain ⟨g_is_tuple_of,gd_is_tuple_of,G_is_tuple_of,b_is_tuple_of,k_is_tuple_of,m_is_tuple_of⟩:=D_is_tuple_of.ex
 obtain ⟨tP,mPm⟩:=mPx
 obtain ⟨tL,mLo⟩:=mLx
 refine F.ok dE (fun vs H Q EX h=>?_) (fun cdv A outer s H vs Q EX hr h=>?_)
 ·obtain ⟨ra,rx,R,aa,ax,F1,u,F,rfl,_⟩:=h
  rfl
 obtain ⟨ra,rx,R,aa,ax,F1,u,FF,rfl,hra,pR,lR,haa,pA,lA,⟨fa,p,p',bb,xs,rfl,hfa,⟨pa,px,rfl,hpa,ppx⟩,⟨qa,qx,rfl,hqa,pqx⟩,hbb⟩,hni,hp,q⟩:=h
 have lax:=Paired.length pA
 have lpx:=Paired.length ppx
 have lqx:=Paired.length pqx
 have l5:=hp.l5
 rw [List.length_append] at l5
 have nd:=hp.nd
 rw [List.map_append,List.nodup_append] at nd
 refine ⟨_,(@am _ _ _ _ _ (@aT _ _ _ _ _ _ _ _ (PW.pt (bK (bc (aW (@au _ _ _ _ _ _ _ _ _ _ _ _ _ _ _ _ G_is_tuple_of (hr.mono (by omega)) rfl m_is_tuple_of k_is_tuple_of b_is_tuple_of .nil aI (@ad _ _ _ _ _ (pv 2) (@ad _ _ _ _ _ aj (@ad _ _ _ _ _ aj ah (ac rfl)) (ac rfl)) (ac rfl)) (by decide) (ac rfl) (ak rfl)))) (bK (bc (aW (@au _ _ _ _ _ _ _ _ _ _ _ _ _ _ _ _ G_is_name (hr.mono (by omega)) rfl m_is_name k_is_name b_is_name .nil aI (@ad _ _ _ _ _ (@aA _ _ _ _ _ _ _ av (pv 2) aj (fun _ _=>rfl)) ah (ac rfl)) (by decide) (ac rfl) (ak rfl)))) (bP (bc (aW (@aF _ _ _ _ _ _ _ _ _ bf rfl T.isi bS (@ad _ _ _ _ _ (@aA _ _ _ _ _ _ _ av (pv 2) aj (fun _ _=>rfl)) (@ad _ _ _ _ _ (bp (v:=.ty "tuple") rfl T.tuple bY rfl) ah (ac rfl)) (ac rfl)) (by decide) (by decide) (ac rfl) (ak rfl)))))))) (@ao _ _ _ (@ay _ _ _ _ bo)) aE) (@am _ _ _ _ _ (@aT _ _ _ _ _ _ _ _ (PW.pt (bK (@aD _ _ _ _ _ _ _ _ cg (@aA _ _ _ _ _ _ _ av (pv 2) aj (fun _ _=>rfl)) (bt (N':=eM) (ρ:=[none]) (m:=1) (bF.of (fs:=defScope bX) (N:=eT) rfl rfl (by decide +kernel)) rfl (ca (pv 1)) (fun _ _ _ _=>(aQ (i:=0) iI rfl (Or.inl rfl))) (fun _ _ _ _=>bq) (fun _ _ _ _=>(aA (dU (K:=K) rfl) (pv 0) aj (fun _ _=>rfl)))) rfl) (bP (bc (aW (@au _ _ _ _ _ _ _ _ _ _ _ _ _ _ _ _ G_is_kind (hr.mono (by omega)) rfl m_is_kind k_is_kind b_is_kind .nil aI (@ad _ _ _ _ _ (pv 0) (@ad _ _ _ _ _ (@aA _ _ _ _ _ _ _ av (pv 2) aj (fun _ _=>rfl)) ah (ac rfl)) (ac rfl)) (by decide) (ac rfl) (ak rfl))))))) (@ao _ _ _ (@ay _ _ _ _ bo)) aE) (@am _ _ _ _ _ (@aT _ _ _ _ _ _ _ _ (PW.pt (bK (bc (aW (@au _ _ _ _ _ _ _ _ _ _ _ _ _ _ _ _ G_are_named (hr.mono (by omega)) rfl m_are_named k_are_named b_are_named .nil aI (@ad _ _ _ _ _ (pv 0) (@ad _ _ _ _ _ (@aA _ _ _ _ _ _ _ av (pv 2) aj (fun _ _=>rfl)) (@ad _ _ _ _ _ aj (@ad _ _ _ _ _ (aX (v:=.int 4) rfl mPm ⟨_,rfl⟩) ah (ac rfl)) (ac rfl)) (ac rfl)) (ac rfl)) (by decide) (ac rfl) (ak rfl)))) (bP (bc (aW (@au _ _ _ _ _ _ _ _ _ _ _ _ _ _ _ _ G_are_named (hr.mono (by omega)) rfl m_are_named k_are_named b_are_named .nil aI (@ad _ _ _ _ _ (pv 0) (@ad _ _ _ _ _ (@aA _ _ _ _ _ _ _ av (pv 2) aj (fun _ _=>rfl)) (@ad _ _ _ _ _ aj (@ad _ _ _ _ _ (aX (v:=.int 6) rfl mLo ⟨_,rfl⟩) ah (ac rfl)) (ac rfl)) (ac rfl)) (ac rfl)) (by decide) (ac rfl) (ak rfl))))))) (@ao _ _ _ (@ay _ _ _ _ bo)) aE) (@am _ _ _ _ _ (ni (i:=3) (N':=eV) (ρ:=[none]) (m:=1) (bF.of (fs:=defScope bX) (N:=eT) rfl rfl (by decide +kernel)) dE.nd rfl (Or.inl rfl) rfl (ca (bJ (iY.or gf) (aA av (pv 2) aj (fun _ _=>rfl)) (aA av (pv 2) aj (fun _ _=>rfl)))) (fun _ _ _ _=>(aQ (i:=0) iF rfl (Or.inl rfl))) (fun _ _ _ _=>bq) (fun _ _ _ _=>(aA (dU (K:=K) rfl) (pv 0) aj (fun _ _=>rfl)))) (@ao _ _ _ (@ay _ _ _ _ (@bC _ _ _ _ _ _ _ _ bA (kF rfl rfl T.len rfl TS (pv 3)) (@aF _ _ _ _ _ _ _ _ _ bi rfl T.len cJ (@ad _ _ _ _ _ (pv 3) ah (ac rfl)) (by decide) (by decide) (ac rfl) (ak rfl)) (aJ _)))))))),?_⟩
 refine ⟨_,rfl,fa,5,5,_,rfl,hfa,by simp,by simp,_,rfl,bv ?_⟩
 refine ⟨_,rfl,fa,_,_,_,rfl,rfl,SqT.of hfa,rfl,FF.1.1,rfl,hp.nm,fun H2 g2=>⟨_,rfl,bv ?_⟩⟩
 refine ⟨_,rfl,fa,_,_,_,rfl,rfl,SqT.of (g2 _ _ hfa),rfl,_,_,_,true,rfl,.tup (g2 _ _ hbb),rfl,_,rfl,bv ?_⟩
 have haa2:=g2 _ _ haa
 refine ⟨_,rfl,fa,_,_,_,rfl,rfl,SqT.of (g2 _ _ hfa),rfl,_,rfl,aa,rfl,⟨ax,SqT.of haa2⟩,bU (xs:=ax) ax.length rfl (by omega) (fun i acc H'=>H'=H2∧acc=((F1.take i).map (·.1.1)).map V.str) ⟨rfl,rfl⟩ (fun i acc H' p=>by rw [p.1]; exact SqT.of haa2) (fun i acc H' x hi la hx p=>?_) (fun acc H' p la D hD=>?_)⟩
 ·obtain ⟨rfl,rfl⟩:=p
  obtain ⟨r1,hr1,hra1⟩:=bI pA i x hx
  obtain ⟨c,_,_,_,_,rfl,hc,_⟩:=hra1.mono (ar g2)
  refine ⟨⟨rfl,rfl⟩,bu ⟨_,rfl,c,_,_,_,rfl,rfl,SqT.of hc,rfl,nxT (by omega) hi la ⟨rfl,?_⟩⟩⟩
  rw [List.take_add_one,hr1,List.map_append,List.map_append]
  rfl
 obtain ⟨rfl,rfl⟩:=p
 rw [lax,List.take_length]
 refine ⟨D,_,rfl,.inl (SqL.of af),rfl,gw _,_,rfl,?_⟩
 refine az (fun c=>?_) (fun c=>?_)
 ·exact absurd (show inV (.str FF.1.1) ((F1.map (·.1.1)).map V.str)=true from c) (by rw [oy]; simp only [decide_eq_true_eq]; exact hni)
 have G3:=g2.trans (ag hD (.lst ((F1.map (·.1.1)).map V.str)))
 have rec_:∀ {Hx:Hp},aO H Hx→Paired (fA Hx) rx R:=fun gx=>Paired.mapP pR fun _ _ z=>fA.mono (ar gx) z
 refine ⟨_,rfl,_,rfl,fa,_,_,_,rfl,rfl,SqT.of (G3 _ _ hfa),rfl,ra,rx,R,FF.1.2.2.2,rfl,G3 _ _ hra,rec_ G3,lR,hp.gv,fun H4 g4=>⟨_,rfl,bv ?_⟩⟩
 have G4:=G3.trans g4
 refine ⟨_,rfl,_,rfl,fa,_,_,_,rfl,rfl,SqT.of (G4 _ _ hfa),rfl,ra,rx,R,pa,px,FF.1.2.1,0,4,rfl,G4 _ _ hra,rec_ G4,lR,G4 _ _ hpa,Paired.mapP ppx fun _ _ z=>eR.mono (ar G4) z,by omega,by have:=hp.p2; omega,by omega,fun p hp'=>hp.vs p (List.mem_append_left _ hp'),nd.1,fun H5 g5=>⟨_,rfl,bv ?_⟩⟩
 have G5:=G4.trans g5
 refine ⟨_,rfl,_,rfl,fa,_,_,_,rfl,rfl,SqT.of (G5 _ _ hfa),rfl,ra,rx,R,qa,qx,FF.1.2.2.1,0,6,rfl,G5 _ _ hra,rec_ G5,lR,G5 _ _ hqa,Paired.mapP pqx fun _ _ z=>eR.mono (ar G5) z,by omega,by omega,by omega,fun p hp'=>hp.vs p (List.mem_append_right _ hp'),nd.2.1,fun H6 g6=>⟨_,rfl,bv ?_⟩⟩
 have G6:=G5.trans g6
 refine ⟨_,rfl,fa,_,_,_,rfl,rfl,SqT.of (G6 _ _ hfa),rfl,_,rfl,fa,_,_,_,rfl,rfl,SqT.of (G6 _ _ hfa),rfl,?_⟩
 refine oG (G6 _ _ hpa) (G6 _ _ hqa) (by omega) fun pc H7 g7 hpc=>?_
 have G7:=G6.trans g7
 have pv7:=Paired.app' (Paired.mapP ppx fun _ _ z=>eR.mono (ar G7) z) (Paired.mapP pqx fun _ _ z=>eR.mono (ar G7) z)
 have lv:=Paired.length pv7
 rw [List.length_append,List.length_append] at lv
 refine ⟨pc,rfl,⟨_,SqT.of hpc⟩,bU (xs:=px++qx) (px++qx).length rfl (by rw [List.length_append]; omega) (fun i acc H'=>H'=H7∧acc=(((FF.1.2.1++FF.1.2.2.1).take i).map (·.1)).map V.str) ⟨rfl,rfl⟩ (fun i acc H' p=>by rw [p.1]; exact SqT.of hpc) (fun i acc H' x hi la hx p=>?_) (fun acc H' p la D2 hD2=>?_)⟩
 ·obtain ⟨rfl,rfl⟩:=p
  obtain ⟨fl,hfl,c,rfl,hc⟩:=bI pv7 i x hx
  refine ⟨⟨rfl,rfl⟩,bu ⟨_,rfl,c,_,_,_,rfl,rfl,SqT.of hc,rfl,nxT (by rw [List.length_append]; omega) hi la ⟨rfl,?_⟩⟩⟩
  rw [List.take_add_one,hfl,List.map_append,List.map_append]
  rfl
 obtain ⟨rfl,rfl⟩:=p
 rw [List.length_append,lv,← List.length_append,List.take_length]
 dsimp only [fM]
 refine ⟨_,rfl,D2,_,rfl,SqL.of af,hp.nd,by rw [List.length_map,List.length_append]; omega,_,rfl,D2,_,rfl,.inl (SqL.of af),rfl,?_⟩
 have e:decide (V.int ((((FF.1.2.1++FF.1.2.2.1).map (·.1)).length:Nat):Int)=V.int (((((FF.1.2.1++FF.1.2.2.1).map (·.1)).map V.str).length:Nat):Int))=true:=decide_eq_true (by rw [List.length_map (as:=(FF.1.2.1++FF.1.2.2.1).map (·.1))])
 show Q (.bl (decide _)) _
 rw [e]
 exact q _ (G7.trans (ag hD2 _))
abbrev iL:List Str:=["thing", "number", "function", "k"]
theorem bx:aK iL ["thing"] (defScope cC):=⟨rfl,rfl,rfl,by decide +kernel,rfl,by decide +kernel,by decide +kernel⟩
def Ao:Sp:=fun vs H Q _=>∃ x c ys,vs=[x,.ref c]∧H c=some (.tup ys)∧ys.length<2∧Q (.bl false) H
theorem BZ (F:Fun K "is_record" "is_record" eA f fd) (D_is_tuple_of:Cal P w K mg base 1 "is_tuple_of" ["thing", "least", "most"] qm) (D_is_name:Cal P w K mg base 1 "is_name" ["thing"] oj):aV P w K mg base CX0 2 f fd ["ahead", "thing"] Ao:=by
 obtain ⟨g_is_tuple_of,gd_is_tuple_of,G_is_tuple_of,b_is_tuple_of,k_is_tuple_of,m_is_tuple_of⟩:=D_is_tuple_of.ex
 obtain ⟨g_is_name,gd_is_name,G_is_name,b_is_name,k_is_name,m_is_name⟩:=D_is_name.ex
 refine F.ok oF (fun vs H Q EX h=>?_) (fun cdv A outer s H vs Q EX hr h=>?_)
 ·obtain ⟨x,c,ys,rfl,_⟩:=h
  rfl
 obtain ⟨x,c,ys,rfl,hc,hl,q⟩:=h
 refine ⟨_,(@am _ _ _ _ _ (@aT _ _ _ _ _ _ _ _ (PW.pt (bK (bc (aW (@au _ _ _ _ _ _ _ _ _ _ _ _ _ _ _ _ G_is_tuple_of (hr.mono (by omega)) rfl m_is_tuple_of k_is_tuple_of b_is_tuple_of .nil aI (@ad _ _ _ _ _ (pv 1) (@ad _ _ _ _ _ aj (@ad _ _ _ _ _ aj ah (ac rfl)) (ac rfl)) (ac rfl)) (by decide) (ac rfl) (ak rfl)))) (bP (bc (aW (@au _ _ _ _ _ _ _ _ _ _ _ _ _ _ _ _ G_is_name (hr.mono (by omega)) rfl m_is_name k_is_name b_is_name .nil aI (@ad _ _ _ _ _ (@aA _ _ _ _ _ _ _ av (pv 1) aj (fun _ _=>rfl)) ah (ac rfl)) (by decide) (ac rfl) (ak rfl))))))) (@ao _ _ _ (@ay _ _ _ _ bo)) aE) hZ),?_⟩
 refine ⟨_,rfl,.inr ⟨c,2,2,ys,rfl,hc,by omega,_,rfl,bz ?_⟩⟩
 exact q
def AD:Sp:=fun vs H Q _=>∃ ra rx b,vs=[.ref ra]∧H ra=some (.tup rx)∧(rx=[]∧b=true∨(∃ c ys,rx=[.ref c]∧H c=some (.tup ys)∧ys.length<2)∧b=false)∧∀ H',aO H H'→Q (.bl b) H'
theorem Bu (TE:mg "enumerate"=none) (mRx:∃ t,mg "MOST_RECORDS"=some (.int 4 t)) (F:Fun K "are_records" "are_records" cW f fd) (D_is_tuple_of:Cal P w K mg base 1 "is_tuple_of" ["thing", "least", "most"] qm) (D_is_record:Cal P w K mg base 2 "is_record" ["ahead", "thing"] Ao):aV P w K mg base CX0 3 f fd ["thing"] AD:=by
 obtain ⟨g_is_record,gd_is_record,G_is_record,b_is_record,k_is_record,m_is_record⟩:=D_is_record.ex
 obtain ⟨g_is_tuple_of,gd_is_tuple_of,G_is_tuple_of,b_is_tuple_of,k_is_tuple_of,m_is_tuple_of⟩:=D_is_tuple_of.ex
 obtain ⟨tR,mR⟩:=mRx
 refine F.ok cM (fun vs H Q EX h=>?_) (fun cdv A outer s H vs Q EX hr h=>?_)
 ·obtain ⟨ra,rx,b,rfl,_⟩:=h
  rfl
 obtain ⟨ra,rx,b,rfl,hra,hb,q⟩:=h
 have l1:rx.length≤1:=by rcases hb with ⟨rfl,_⟩ | ⟨⟨c,ys,rfl,_⟩,_⟩<;>simp
 refine ⟨_,(@am _ _ _ _ _ (@aT _ _ _ _ _ _ _ _ (bc (aW (@au _ _ _ _ _ _ _ _ _ _ _ _ _ _ _ _ G_is_tuple_of (hr.mono (by omega)) rfl m_is_tuple_of k_is_tuple_of b_is_tuple_of .nil aI (@ad _ _ _ _ _ (pv 0) (@ad _ _ _ _ _ aj (@ad _ _ _ _ _ (aX (v:=.int 4) rfl mR ⟨_,rfl⟩) ah (ac rfl)) (ac rfl)) (ac rfl)) (by decide) (ac rfl) (ak rfl)))) (@ao _ _ _ (@ay _ _ _ _ bo)) aE) (@am _ _ _ _ _ (@cB _ _ _ _ _ _ _ _ PassesOwn.never rfl (jL rfl TE (pv 0)) (qZ rfl (dg (aQ (i:=1) cM.nd rfl (Or.inl rfl)) (dg (aQ (i:=2) cM.nd rfl (Or.inl rfl)) lJ))) (@ao _ _ _ (@aT _ _ _ _ _ _ _ _ (bc (aW (@au _ _ _ _ _ _ _ _ _ _ _ _ _ _ _ _ G_is_record (hr.mono (by omega)) rfl m_is_record k_is_record b_is_record .nil aI (@ad _ _ _ _ _ (@eO _ _ _ _ _ _ _ _ _ _ (nR.or iR) (pv 0) gy (gR (pv 1))) (@ad _ _ _ _ _ (pv 2) ah (ac rfl)) (ac rfl)) (by decide) (ac rfl) (ak rfl)))) (@ao _ _ _ (@ay _ _ _ _ bo)) aE)) (fun _=>rfl)) (@ao _ _ _ (@ay _ _ _ _ bo)))),?_⟩
 refine ⟨_,rfl,.inl ⟨ra,0,4,rx,rfl,hra,by omega,by omega,_,rfl,bv ?_⟩⟩
 refine ⟨_,rfl,ra,rfl,⟨rx,SqT.of hra⟩,fk (xs:=rx) (fun i σ H'=>∃ m1 m2,σ=[some (.ref ra),m1,m2]∧aO H H'∧i=0) ⟨none,none,rfl,aO.refl _,rfl⟩ (fun i σ H' _ p=>?_) (fun i x σ H' p hx hh hp=>?_) (fun σ H' p=>?_)⟩
 ·obtain ⟨_,_,rfl,g,_⟩:=p
  exact SqT.of (g _ _ hra)
 ·obtain ⟨m1,m2,rfl,g,rfl⟩:=hh
  have s1:=ag hp (.tup [.int ((0:Nat):Int),x])
  have g1:=g.trans s1
  rcases hb with ⟨rfl,_⟩ | ⟨⟨c,ys,rfl,hc,hl⟩,rfl⟩
  ·simp at hx
  cases hx
  refine ⟨p,_,rfl,SqT.of af,rfl,_,_,rfl,_,_,rfl,rfl,?_⟩
  refine ⟨_,rfl,_,rfl,_,rfl,?_⟩
  refine iS (g1 _ _ hra) fun pc H2 g2 hpc=>?_
  have G2:=g1.trans g2
  exact ⟨_,rfl,.ref pc,c,ys,rfl,G2 _ _ hc,hl,_,rfl,bz (q _ G2)⟩
 ·obtain ⟨_,_,rfl,g,e0⟩:=p
  rcases hb with ⟨rfl,rfl⟩ | ⟨⟨c,ys,rfl,_⟩,_⟩
  ·exact q _ g
  ·cases e0
def HdF (H:Hp) (v:V):Prop:=∃ fa ys,v=.ref fa∧H fa=some (.tup ys)∧(ys.length<5∨ys.length=5∧∃ na rs nx,ys=.ref na::rs∧H na=some (.tup nx))
theorem HdF.mono {H H':Hp} (t:Tk H H') {v:V} (h:HdF H v):HdF H' v:=by
 obtain ⟨fa,ys,e,h1,h2⟩:=h
 refine ⟨fa,ys,e,t _ _ h1,h2.imp id ?_⟩
 rintro ⟨l,na,rs,nx,e2,h3⟩
 exact ⟨l,na,rs,nx,e2,t _ _ h3⟩
def zZ:Sp:=fun vs H Q _=>∃ x y u,vs=[x,y,u]∧HdF H u∧Q (.bl false) H
def Cu (K:Frag):Sp:=fun vs H Q E=>CK K vs H Q E∨zZ vs H Q E
theorem BP (T:G0 mg) (F:Fun K "is_headed" "is_headed" bX f fd) (D_is_tuple_of:Cal P w K mg base 1 "is_tuple_of" ["thing", "least", "most"] qm) (D_is_name:Cal P w K mg base 1 "is_name" ["thing"] oj):aV P w K mg base CX0 3 f fd ["records", "ahead", "thing"] zZ:=by
 obtain ⟨g_is_tuple_of,gd_is_tuple_of,G_is_tuple_of,b_is_tuple_of,k_is_tuple_of,m_is_tuple_of⟩:=D_is_tuple_of.ex
 obtain ⟨g_is_name,gd_is_name,G_is_name,b_is_name,k_is_name,m_is_name⟩:=D_is_name.ex
 refine F.ok dE (fun vs H Q EX h=>?_) (fun cdv A outer s H vs Q EX hr h=>?_)
 ·obtain ⟨x,y,u,rfl,_⟩:=h
  rfl
 obtain ⟨x,y,u,rfl,⟨fa,ys,rfl,hfa,hh⟩,q⟩:=h
 refine ⟨_,(@am _ _ _ _ _ (@aT _ _ _ _ _ _ _ _ (PW.pt (bK (bc (aW (@au _ _ _ _ _ _ _ _ _ _ _ _ _ _ _ _ G_is_tuple_of (hr.mono (by omega)) rfl m_is_tuple_of k_is_tuple_of b_is_tuple_of .nil aI (@ad _ _ _ _ _ (pv 2) (@ad _ _ _ _ _ aj (@ad _ _ _ _ _ aj ah (ac rfl)) (ac rfl)) (ac rfl)) (by decide) (ac rfl) (ak rfl)))) (bK (bc (aW (@au _ _ _ _ _ _ _ _ _ _ _ _ _ _ _ _ G_is_name (hr.mono (by omega)) rfl m_is_name k_is_name b_is_name .nil aI (@ad _ _ _ _ _ (@aA _ _ _ _ _ _ _ av (pv 2) aj (fun _ _=>rfl)) ah (ac rfl)) (by decide) (ac rfl) (ak rfl)))) (bP (bc (aW (@aF _ _ _ _ _ _ _ _ _ bf rfl T.isi bS (@ad _ _ _ _ _ (@aA _ _ _ _ _ _ _ av (pv 2) aj (fun _ _=>rfl)) (@ad _ _ _ _ _ (bp (v:=.ty "tuple") rfl T.tuple bY rfl) ah (ac rfl)) (ac rfl)) (by decide) (by decide) (ac rfl) (ak rfl)))))))) (@ao _ _ _ (@ay _ _ _ _ bo)) aE) hZ),?_⟩
 rcases hh with hh | ⟨hl,na,rs,nx,rfl,hna⟩
 ·refine ⟨_,rfl,.inr ⟨fa,5,5,ys,rfl,hfa,by omega,_,rfl,bz ?_⟩⟩
  exact bz q
 ·refine ⟨_,rfl,.inl ⟨fa,5,5,_,rfl,hfa,by omega,by omega,_,rfl,bv ?_⟩⟩
  refine ⟨_,rfl,fa,_,_,_,rfl,rfl,SqT.of hfa,at0 _ _,.inr ⟨na,nx,rfl,hna,_,rfl,bz ?_⟩⟩
  exact bz q
end
end K6
namespace PySem
section
variable {prog:Program} {w:World} {A:Around} {E:Value→Shared→Prop} {h:Heap} {g:Array GenState} {d:Drawn} {t:Nat} {os:OsState}
variable {nm q:Str} {C N:Addr} {bs bm bmB:List Value} {hdct:Bool} {sn:List Str} {sub:List Value} {ab:Bool} {col:Option Bool} {dd:Option Addr} {k0 k1 k2 k3 k5:Option Value} {B newId initId:String}
theorem iG (F:ExcBaseFacts B newId initId bmB) (T:OwnTail h bmB bm) {mN:Str→Option Value} {rest:List Value} {fI:Addr} {oI:Obj} {Q:Fin→Shared→Prop}
  (hC:h.get? C=some (excClassObj nm q C N bs bm hdct sn sub ab col dd k0 k1 k2 k3 k5 newId)) (hn:h.Ns N mN) (hi:mN "__init__"=some (.ref fI))
  (hfI:h.get? fI=some oI) (hfc:oI.cls=.type "function")
  (hq:wpAny (model prog w) A (call (.ref fI) (.ref (h.objs.size+1)::rest)) (fun r s'=>r=.none∧Q (.done (.ret (.ref (h.objs.size+1)))) s') E ⟨((h.push { cls:=.type "tuple",data:=.seq rest.toArray }).push { cls:=.ref C,data:=.fields #[.ref h.objs.size,.none,.none,.none,.bool false,.none] }),g,d,t,os⟩) (hrest:rest.length≤sizeLine:=by size_fits) :
  wpAny (model prog w) A (Builtin.«type.__call__» ⟨.ref C::rest,[]⟩) Q E ⟨h,g,d,t,os⟩:=by
 repeat (first | with_reducible refine wpAny_loadPart_at hC ?_ | with_reducible refine wpAny_madeBy_exc hC ?_ | wp_step)
 refine codeAny_call_builtin_code (Code.quiet_builtin _ F.quiet) (wpAny_check_new_subT F T hC ?_)
 refine codeAny_exc_new_subT F T hC ?_ hrest
 show wpAny _ _ _ _ _ _
 have hC₁:=Heap.get?_push_of_some { cls:=.ref C,data:=.fields #[.ref h.objs.size,.none,.none,.none,.bool false,.none] }
  (Heap.get?_push_of_some { cls:=.type "tuple",data:=.seq rest.toArray } hC)
 have hfI₁:=Heap.get?_push_of_some { cls:=.ref C,data:=.fields #[.ref h.objs.size,.none,.none,.none,.bool false,.none] }
  (Heap.get?_push_of_some { cls:=.type "tuple",data:=.seq rest.toArray } hfI)
 have hn₁:((h.push { cls:=.type "tuple",data:=.seq rest.toArray }).push { cls:=.ref C,data:=.fields #[.ref h.objs.size,.none,.none,.none,.bool false,.none] }).Ns N mN :=
  let ⟨o,es,ep,e,r⟩:=hn; ⟨o,es,ep,Heap.get?_push_of_some _ (Heap.get?_push_of_some _ e),r⟩
 have hget:((h.push { cls:=.type "tuple",data:=.seq rest.toArray }).push
   { cls:=.ref C,data:=.fields #[.ref h.objs.size,.none,.none,.none,.bool false,.none] }).get? (h.objs.size+1)=some
   { cls:=.ref C,data:=.fields #[.ref h.objs.size,.none,.none,.none,.bool false,.none] }:=by heap_get
 have hcC:(Value.ref C::bm).contains (.ref C)=true:=by simp
 have T₁:=T.keeps (h':=(h.push { cls:=.type "tuple",data:=.seq rest.toArray }).push { cls:=.ref C,data:=.fields #[.ref h.objs.size,.none,.none,.none,.bool false,.none] })
  fun b o e=>Heap.get?_push_of_some _ (Heap.get?_push_of_some _ e)
 unfold isInstance
 repeat (first | with_reducible refine wpAny_loadPart_at hget ?_ | (with_reducible refine wpAny_isSubtype_exc hC₁ ?_; rw [hcC]) | wp_step)
 show wpAny _ _ (typeLookup (.ref C) _) _ _ _
 refine wpAny_typeLookup_tail hC₁ hn₁ T₁ F.mroIs F.init.lookup ?_
 rw [hi]
 refine wpAny_holding (wpAny_bind ?_)
 unfold bindSpecial
 refine wpAny_bind (wpAny_typeOf (T := "function") ⟨_,hfI₁,hfc⟩ ?_)
 rw [if_pos (by decide)]
 refine wpAny_pure (wpAny_bind (wpAny_mono hq (fun r s' hr=>?_) fun _ _ x=>x))
 obtain ⟨rfl,hQ⟩:=hr
 wp_walk
 exact hQ
theorem rE (F:ExcBaseFacts B newId initId bmB) (T:OwnTail h bmB bm) {mN:Str→Option Value} {rest:List Value} {fI:Addr} {oI:Obj} {Q:Value→Shared→Prop}
  (hC:h.get? C=some (excClassObj nm q C N bs bm hdct sn sub ab col dd k0 k1 k2 k3 k5 newId)) (hn:h.Ns N mN) (hi:mN "__init__"=some (.ref fI))
  (hfI:h.get? fI=some oI) (hfc:oI.cls=.type "function")
  (hq:wpAny (model prog w) (A.under (.builtin "type.__call__" ⟨.ref C::rest,[]⟩)) (call (.ref fI) (.ref (h.objs.size+1)::rest)) (fun r s'=>r=.none∧Q (.ref (h.objs.size+1)) s') E ⟨((h.push { cls:=.type "tuple",data:=.seq rest.toArray }).push { cls:=.ref C,data:=.fields #[.ref h.objs.size,.none,.none,.none,.bool false,.none] }),g,d,t,os⟩) (hrest:rest.length≤sizeLine:=by size_fits) :
  wpAny (model prog w) A (call (.ref C) rest) Q E ⟨h,g,d,t,os⟩:=by
 have f1:=tc_lookup
 have f2:=tc_bind (.ref C)
 have hT:(⟨h,g,d,t,os⟩:Shared).TypeIs (.ref C) "type":=⟨_,hC,rfl⟩
 refine wpAny_call (codeAny_of_tree ?_)
 show wpAny _ _ (callAny (.ref C) _) _ _ _
 repeat (any_goals (first | assumption | with_reducible refine wpAny_loadPart_at hC ?_ | wp_step))
 refine ⟨rfl,?_⟩
 refine codeAny_call_builtin_at (Code.quiet_builtin _ (by decide +kernel)) entry_typeCall (wpAny_check_type_call_sub hC (iG (hrest:=hrest) F T hC hn hi hfI hfc ?_))
 exact hq
end
open Builtin Builtin.ObjectAttr
inductive OT (h:Heap) (bmB:List Value) (nl:List Str):List Value→Prop
 | base:OT h bmB nl bmB
 | own {A:Addr} {c0:Value} {dd:Option Addr} {cd:ClassData} {sl:Array (Option Value)} {mA:Str→Option Value} {tl:List Value} :
   h.get? A=some { cls:=c0,dict:=dd,data:=.cls cd,slots:=sl }→h.Ns cd.ns mA→(∀ n∈nl,mA n=none)→OT h bmB nl tl→OT h bmB nl (.ref A::tl)
theorem OT.tail {h:Heap} {bmB tl:List Value} {nl:List Str} (T:OT h bmB nl tl) (hi:("__init__":Str)∈nl):OwnTail h bmB tl:=by
 induction T with
 | base=>exact .base
 | own hA hN hq _ ih=>exact .own hA hN (hq _ hi) ih
theorem OT.refuse {h:Heap} {bmB tl:List Value} {nl:List Str} {self:Value} {what:Str} (T:OT h bmB nl tl) (hp:refuseLoop self what bmB=pure ()):refuseLoop self what tl=pure ():=by
 induction T with
 | base=>exact hp
 | own _ _ _ _ ih=>rw [refuseLoop_ref]; exact ih
section
variable {M:Model} {A:Around} {E:Value→Shared→Prop} {h:Heap} {g:Array GenState} {d:Drawn} {t:Nat} {os:OsState}
theorem yG {bmB tl:List Value} {nl:List Str} {n:Str} {y:Option Value} {Q:Option Value→Shared→Prop} (hn:n∈nl) (T:OT h bmB nl tl) (hrest:lookupAlong bmB n=pure y) (hq:Q y ⟨h,g,d,t,os⟩) :
  wpAny M A (lookupAlong tl n) Q E ⟨h,g,d,t,os⟩:=by
 induction T with
 | base=>rw [hrest]; exact wpAny_pure hq
 | own hA hN hni _ ih =>
  rw [lookupAlong_cons]
  refine wpAny_bind (wpAny_classOwn_cls hA hN ?_)
  rw [hni n hn]
  exact ih
variable {nm q:Str} {C N x:Addr} {bs bm bmB:List Value} {hdct:Bool} {sn:List Str} {sub:List Value} {ab:Bool} {col:Option Bool} {dd:Option Addr} {k0 k1 k2 k3 k5:Option Value} {B newId initId sa owner:String} {nl:List Str} {mN mA:Str→Option Value} {name:Str} {v:Value}
theorem gN {n:Str} {y:Option Value} {Q:Option Value→Shared→Prop} (hn:n∈nl)
  (hC:h.get? C=some (excClassObj nm q C N bs bm hdct sn sub ab col dd k0 k1 k2 k3 k5 newId)) (hN:h.Ns N mN) (hmN:mN n=none) (T:OT h bmB nl bm) (hbm:mroOf (.type B)=pure bmB)
  (hB:typeLookup (.type B) n=pure y) (hq:Q y ⟨h,g,d,t,os⟩):wpAny M A (typeLookup (.ref C) n) Q E ⟨h,g,d,t,os⟩:=by
 have hrest:lookupAlong bmB n=pure y:=by rw [typeLookup_eq,hbm] at hB; exact hB
 rw [typeLookup_eq]
 refine wpAny_bind (wpAny_mroOf_exc hC ?_)
 rw [lookupAlong_cons]
 refine wpAny_bind (wpAny_classOwn_exc hC hN ?_)
 rw [hmN]
 exact yG hn T hrest hq
theorem wF {o:Obj} {nameV:Value} {Q:Unit→Shared→Prop} (SF:StoreFacts B bmB sa owner) (T:OwnTail h bmB bm)
  (hC:h.get? C=some (excClassObj nm q C N bs bm true sn sub ab col dd k0 k1 k2 k3 k5 newId)) (hx:h.get? x=some o) (hc:o.cls=.ref C) (hq:Q () ⟨h,g,d,t,os⟩) :
  wpAny M A (checkBuiltinCall sa ⟨[.ref x,nameV,v],[]⟩) Q E ⟨h,g,d,t,os⟩:=by
 have hcB:(Value.ref C::bm).contains (.type owner)=true:=by rw [List.contains_cons,T.hasType SF.hasOwner,Bool.or_true]
 have ha:=SF.args (.ref x) nameV v
 simp only [checkBuiltinCall,SF.kind,SF.split]
 refine wpAny_bind ?_
 ·unfold isInstance
  repeat (first | (with_reducible refine wpAny_loadPart_at hx ?_; rw [hc]) | (with_reducible refine wpAny_isSubtype_exc hC ?_; rw [hcB]) | wp_step)
  cases hsig:Manifest.signature? sa with
  | none=>exact wpAny_pure hq
  | some sig =>
   simp only [argsOk,hsig] at ha
   have h2:Bind.checkArgs sa sig ⟨[.ref x,nameV,v],[]⟩=pure ():=ha
   show wpAny M A (Bind.checkArgs sa sig ⟨[.ref x,nameV,v],[]⟩) Q E _
   rw [h2]; exact wpAny_pure hq
end
section
variable {prog:Program} {w:World} {A:Around} {E:Value→Shared→Prop} {h:Heap} {g:Array GenState} {d:Drawn} {t:Nat} {os:OsState}
variable {nm q:Str} {C N x:Addr} {bs bm bmB:List Value} {hdct:Bool} {sn:List Str} {sub:List Value} {ab:Bool} {col:Option Bool} {dd:Option Addr} {k0 k1 k2 k3 k5:Option Value} {B newId initId sa owner:String} {nl:List Str} {mN mA:Str→Option Value} {name:Str} {v:Value}
theorem ma {tk:Tok} {Q:Fin→Shared→Prop} {ns:List Str} (SF:StoreFacts B bmB sa owner) (T:OT h bmB nl bm) (hnm:name∈nl)
  (hC:h.get? C=some (excClassObj nm q C N bs bm true sn sub ab col dd k0 k1 k2 k3 k5 newId)) (hn:h.Ns N mN) (hna:mN name=none)
  (hB:typeLookup (.type B) name=pure none) (hxC:x≠C) (I:h.Inst x C mA)
  (hq:∀ h' tk',h'.Inst x C (fun y=>if y=name then some v else mA y) →
   (∀ b o,b≠x→(∀ o₀ dx,h.get? x=some o₀→o₀.dict=some dx→b≠dx)→h.get? b=some o→h'.get? b=some o) →
   (∀ o₀,h.get? x=some o₀→∃ o₁,h'.get? x=some o₁∧o₁.cls=o₀.cls∧o₁.data=o₀.data∧o₁.slots=o₀.slots∧(∀ dx,o₀.dict=some dx→o₁.dict=some dx)∧(o₀.dict=none→o₁.dict=some h.objs.size))→Q (.done (.ret .none)) ⟨h',g,d,tk',os⟩) (hw:Within mA ns:=by within_ways) (hsz:ns.length≤sizeLine:=by size_fits) :
  wpAny (model prog w) A (Builtin.«object.__setattr__» ⟨[.ref x,.str name tk,v],[]⟩) Q E ⟨h,g,d,t,os⟩:=by
 obtain ⟨o,hx,hc,hnc,hd⟩:=I
 have hpass:=T.refuse (SF.passes (.ref x))
 unfold Builtin.«object.__setattr__»
 repeat (first | rw [refuse_eq] | (rw [refuseLoop_ref,hpass]) | (with_reducible refine wpAny_loadPart_at hx ?_; rw [hc]) | with_reducible refine wpAny_mroOf_exc hC ?_ | (with_reducible refine gN hnm hC hn hna T SF.mro hB ?_) | wp_step)
 rcases hd with ⟨hdn,hmA⟩ | ⟨dx,hdx,hne,hns⟩
 ·
  rw [hdn,if_neg (by simp [typeHasDict])]
  split
  ·rename_i hcd
   cases hcd
  split
  ·rename_i c hcd
   exact absurd hcd (hnc c)
  ·have hx₁:(h.push { cls:=.type "dict",data:=.dict #[] }).get? x=some o:=Heap.get?_push_of_some _ hx
   have hxs:x≠h.objs.size:=Nat.ne_of_lt (Heap.lt_size hx)
   refine wpAny_bind (wpAny_alloc' ?_)
   refine wpAny_bind (wpAny_update' hx₁ ?_)
   refine wpAny_pure ?_
   have hgd:((h.push { cls:=.type "dict",data:=.dict #[] }).update x fun o=>{ cls:=o.cls,dict:=some h.objs.size,data:=o.data,slots:=o.slots }).get? h.objs.size
    =some { cls:=.type "dict",data:=.dict #[] } :=
    (Heap.get?_update_ne _ _ _ _ hxs.symm).trans (Heap.get?_push_at rfl rfl)
   have hnd:((h.push { cls:=.type "dict",data:=.dict #[] }).update x fun o=>{ cls:=o.cls,dict:=some h.objs.size,data:=o.data,slots:=o.slots }).Ns h.objs.size (fun _=>none) :=
    ⟨_,#[],_,hgd,rfl,fun e he=>absurd he (by simp),fun _=>rfl⟩
   show wpAny _ _ (storeInDict h.objs.size (.str name tk) name v) _ _ _
   unfold storeInDict newKeyGuard
   refine wpAny_bind (wpAny_pure (wpAny_bind (wpAny_nsSet1 (Heap.Ns1.of_empty hnd) fun h' hn' hs=>?_)))
   obtain ⟨oD,esD,epD,hoD,hdD,hcD⟩:=hn'.count (Within.cons name v Within.nil)
   refine wpAny_bind (wpAny_lookBehind hoD (by rw [hdD]; exact pastItsLine_dict (Nat.le_trans hcD (by rw [List.length_cons,List.length_nil,sizeLine_eq]; omega))) ?_)
   wp_walk
   have hx':h'.get? x=some { cls:=o.cls,dict:=some h.objs.size,data:=o.data,slots:=o.slots }:=?_
   refine hq h' _ ⟨{ cls:=o.cls,dict:=some h.objs.size,data:=o.data,slots:=o.slots },hx',hc,hnc,.inr ⟨h.objs.size,rfl,hxs.symm,?_⟩⟩ (fun b ob hbx _ hb=>?_)
    (fun o₀ h₀=>by obtain rfl:o=o₀:=Option.some.inj (hx.symm.trans h₀); exact ⟨_,hx',rfl,rfl,rfl,fun dx e=>(by rw [hdn] at e; cases e),fun _=>rfl⟩)
   ·obtain ⟨o',es,ep,e1,e2,e3,eu,e4⟩:=hn'
    exact ⟨o',es,ep,e1,e2,e3,eu,fun y=>by rw [e4 y]; by_cases hy:y=name<;>simp [hy,hmA]⟩
   ·exact (hs.2 b (Nat.ne_of_lt (Heap.lt_size hb))).trans ((Heap.get?_update_ne _ _ _ _ hbx).trans (Heap.get?_push_of_some _ hb))
   ·refine (hs.2 x hxs).trans (Heap.get?_update_self _ hx₁ ?_)
    have hfr:=(Heap.get?_some_iff.mp hx).2
    obtain ⟨oc,od,odt,osl⟩:=o
    cases odt<;>first | rfl | exact hfr
 ·
  rw [hdx]
  refine wpAny_pure ?_
  show wpAny _ _ (storeInDict dx (.str name tk) name v) _ _ _
  unfold storeInDict newKeyGuard
  refine wpAny_bind (wpAny_pure (wpAny_bind (wpAny_nsSet1 hns fun h' hn' hs=>?_)))
  obtain ⟨oD,esD,epD,hoD,hdD,hcD⟩:=hn'.count (Within.cons name v hw)
  refine wpAny_bind (wpAny_lookBehind hoD (by rw [hdD]; exact pastItsLine_dict (Nat.le_trans hcD (by rw [List.length_cons]; omega))) ?_)
  wp_walk
  refine hq h' _ ⟨o,(hs.2 x hne.symm).trans hx,hc,hnc,.inr ⟨dx,hdx,hne,hn'⟩⟩ (fun b ob _ hbd hb=>?_)
   (fun o₀ h₀=>⟨o₀,(hs.2 x hne.symm).trans h₀,rfl,rfl,rfl,(fun _ e=>e),fun z=>by obtain rfl:o=o₀:=Option.some.inj (hx.symm.trans h₀); rw [hdx] at z; cases z⟩)
  exact (hs.2 b (hbd o dx hx hdx)).trans hb
theorem iw {Q:Unit→Shared→Prop} {ns:List Str} (SF:StoreFacts B bmB sa owner) (T:OT h bmB nl bm) (hnm:name∈nl) (hns:("__setattr__":Str)∈nl) (hni:("__init__":Str)∈nl)
  (hC:h.get? C=some (excClassObj nm q C N bs bm true sn sub ab col dd k0 k1 k2 k3 k5 newId)) (hn:h.Ns N mN) (hsa:mN "__setattr__"=none) (hna:mN name=none)
  (hB:typeLookup (.type B) name=pure none) (hxC:x≠C) (I:h.Inst x C mA)
  (hq:∀ h' tk',h'.Inst x C (fun y=>if y=name then some v else mA y) →
   (∀ b o,b≠x→(∀ o₀ dx,h.get? x=some o₀→o₀.dict=some dx→b≠dx)→h.get? b=some o→h'.get? b=some o) →
   (∀ o₀,h.get? x=some o₀→∃ o₁,h'.get? x=some o₁∧o₁.cls=o₀.cls∧o₁.data=o₀.data∧o₁.slots=o₀.slots∧(∀ dx,o₀.dict=some dx→o₁.dict=some dx)∧(o₀.dict=none→o₁.dict=some h.objs.size))→Q () ⟨h',g,d,tk',os⟩) (hw:Within mA ns:=by within_ways) (hsz:ns.length≤sizeLine:=by size_fits) :
  wpAny (model prog w) A (setAttr (.ref x) name v) Q E ⟨h,g,d,t,os⟩:=by
 obtain ⟨o,hx,hc,_⟩:=id I
 have f3:=SF.slot.bind (.ref x)
 unfold setAttr callSpecial? specialOf
 repeat (any_goals (first | assumption | (with_reducible refine wpAny_loadPart_at hx ?_; rw [hc]) | (with_reducible refine gN hns hC hn hsa T SF.mro SF.slot.lookup ?_) | wp_step))
 refine codeAny_call_builtin SF.slot.plain SF.entry (wF SF (T.tail hni) hC hx hc (ma SF T hnm hC hn hna hB hxC I (fun h' tk' I' hk hsame=>?_) hw hsz))
 repeat (any_goals (first | assumption | wp_step))
 exact hq h' tk' I' hk hsame
end
open Builtin Builtin.ObjectAttr
section
variable {prog:Program} {w:World} {A:Around} {E:Value→Shared→Prop} {h:Heap} {g:Array GenState} {d:Drawn} {t:Nat} {os:OsState}
variable {nm q:Str} {C N x:Addr} {bs bm bmB:List Value} {hdct:Bool} {sn:List Str} {sub:List Value} {ab:Bool} {col:Option Bool} {dd:Option Addr} {k0 k1 k2 k3 k5:Option Value} {B newId initId sa owner:String} {nl:List Str} {mN mA:Str→Option Value} {name:Str} {v:Value} {o:Obj}
theorem wc {M:Model} {nameV:Value} {Q:Unit→Shared→Prop} (FB:ExcAttrBase B bmB) (hC:h.get? C=some (excClassObj nm q C N bs bm hdct sn sub ab col dd k0 k1 k2 k3 k5 newId)) (T:OwnTail h bmB bm)
  (hx:h.get? x=some o) (hc:o.cls=.ref C) (hq:Q () ⟨h,g,d,t,os⟩):wpAny M A (checkBuiltinCall "BaseException.__getattribute__" ⟨[.ref x,nameV],[]⟩) Q E ⟨h,g,d,t,os⟩:=by
 have hk:builtinKind "BaseException.__getattribute__"=some .slot:=by decide +kernel
 have hsplit:splitId "BaseException.__getattribute__"=some ("BaseException", "__getattribute__"):=by decide +kernel
 have hcB:(Value.ref C::bm).contains (.type "BaseException")=true:=by rw [List.contains_cons,T.hasType FB.hasBase]; rfl
 have ha:=F.args_bexc_ga (.ref x) nameV
 simp only [checkBuiltinCall,hk,hsplit]
 refine wpAny_bind ?_
 ·unfold isInstance
  repeat (first | (with_reducible refine wpAny_loadPart_at hx ?_; rw [hc]) | (with_reducible refine wpAny_isSubtype_exc hC ?_; rw [hcB]) | wp_step)
  exact hq
theorem oV {tk:Tok} {Q:Fin→Shared→Prop} (FB:ExcAttrBase B bmB) (T:OT h bmB nl bm) (hnm:name∈nl)
  (hC:h.get? C=some (excClassObj nm q C N bs bm true sn sub ab col dd k0 k1 k2 k3 k5 newId)) (hn:h.Ns N mN) (hna:mN name=none)
  (hB:typeLookup (.type B) name=pure none) (I:h.Inst x C mA) (hv:mA name=some v) (hq:Q (.done (.ret v)) ⟨h,g,d,t,os⟩) :
  wpAny (model prog w) A (Builtin.«object.__getattribute__» ⟨[.ref x,.str name tk],[]⟩) Q E ⟨h,g,d,t,os⟩:=by
 obtain ⟨o,hx,hc,hnc,hd⟩:=I
 rcases hd with ⟨_,hmA⟩ | ⟨dx,hdx,hne,hns⟩
 ·rw [hmA name] at hv; cases hv
 repeat (any_goals (first | assumption | (with_reducible refine wpAny_loadPart_at hx ?_; rw [hc]) | (with_reducible refine gN hnm hC hn hna T FB.mro hB ?_) | wp_step))
 split
 ·rename_i c hcd
  exact absurd hcd (hnc c)
 unfold instanceDict
 repeat (first | (with_reducible refine wpAny_loadPart_at hx ?_; rw [hc]) | with_reducible refine wpAny_loadPart_at hC ?_ | wp_step)
 rw [hdx]
 repeat (first | (with_reducible refine wpAny_nsGet hns.ns ?_; rw [hv]) | wp_step)
 exact hq
theorem rm {expr:Bool} {Q:Value→Shared→Prop} (FB:ExcAttrBase B bmB) (T:OT h bmB nl bm) (hnm:name∈nl) (hi:("__init__":Str)∈nl) (hg1:("__getattribute__":Str)∈nl) (hg2:("__getattr__":Str)∈nl)
  (hC:h.get? C=some (excClassObj nm q C N bs bm true sn sub ab col dd k0 k1 k2 k3 k5 newId)) (hn:h.Ns N mN) (hna:mN name=none) (hm1:mN "__getattribute__"=none) (hm2:mN "__getattr__"=none)
  (hB:typeLookup (.type B) name=pure none) (I:h.Inst x C mA) (hv:mA name=some v) (hh:handedOut v=pure v) (hq:Q v ⟨h,g,d,t+1,os⟩) :
  wpAny (model prog w) A (getAttr (.ref x) name expr) Q E ⟨h,g,d,t,os⟩:=by
 obtain ⟨o,hx,hc,_⟩:=id I
 have f3:=FB.ga.bind (.ref x)
 have hx0:(expr&&onTheHeap (Value.builtin "BaseException.__getattribute__"))=false:=by cases expr<;>rfl
 have hx2:(Value.builtin "BaseException.__getattribute__"==Value.builtin "object.__getattribute__")=false:=by decide +kernel
 have hx1:(onTheHeap (Value.ref C)&&Value.builtin "BaseException.__getattribute__"==Value.builtin "object.__getattribute__")=false:=by rw [hx2]; rfl
 unfold getAttr
 repeat (any_goals (first | assumption | (with_reducible refine wpAny_loadPart_at hx ?_; rw [hc]) | with_reducible refine gN hg1 hC hn hm1 T FB.mro FB.ga.lookup ?_ | with_reducible refine gN hg2 hC hn hm2 T FB.mro FB.noGetattr ?_ | wp_step))
 refine codeAny_call_builtin FB.ga.plain F.entry_bexc_ga (wc FB hC (T.tail hi) hx hc (oV FB T hnm hC hn hna hB I hv ?_))
 repeat (any_goals (first | assumption | wp_step))
theorem uz (F:ExcBaseFacts B newId initId bmB) (T:OwnTail h bmB bm) {rest:List Value} {dx:Option Addr} {sl:Array (Option Value)} {vs:Array Value} {t0:Addr} {Q:Value→Shared→Prop}
  (hC:h.get? C=some (excClassObj nm q C N bs bm hdct sn sub ab col dd k0 k1 k2 k3 k5 newId)) (he:h.get? x=some { cls:=.ref C,dict:=dx,data:=.fields vs,slots:=sl }) (h0:vs[0]?=some (.ref t0)) (hrest:rest.length≤sizeLine)
  (hq:Q .none ⟨(h.push { cls:=.type "tuple",data:=.seq rest.toArray }).update x (Obj.mapFields (·.setIfInBounds 0 (.ref h.objs.size))),g,d,t,os⟩) :
  wpAny (model prog w) A (call (.builtin initId) (.ref x::rest)) Q E ⟨h,g,d,t,os⟩:=by
 have T':=T
 refine wpAny_call (codeAny_call_builtin F.init.plain F.initEntry (wpAny_check_init_subT F T hC he rfl ?_))
 have he₁:=Heap.get?_push_of_some { cls:=.type "tuple",data:=.seq rest.toArray } he
 wp_walk
 rw [h0]
 refine wpAny_pure (wpAny_bind (wpAny_setField he₁ rfl (Array.getElem?_eq_some_iff.mp h0).1 ?_))
 wp_walk
 exact hq
end
end PySem
namespace L2
open PySem PySem.W PySem.Spec PyProof.Rows Builtin
abbrev VE:List Value:=[.type "ValueError",.type "Exception",.type "BaseException",.type "object"]
abbrev XN (n1 n2:Str):List Str:=["__setattr__", "__getattribute__", "__getattr__",n1,n2]
def xL (K:Frag) (N:Addr) (m:Str→Option Value):Prop:=∃ o es ep,K.lookup N=some o∧o.data=.dict es ep∧∀ h:Heap,h.get? N=some o→h.Ns N m
def jd (base n1 n2:Str) (p:Nat→Pos):List Stmt :=
 [.Expr (.Call (.Attribute (.Name base (p 0)) "__init__" (p 1)) [.Name "self" (p 2),.Name n1 (p 3),.Name n2 (p 4)] [] (p 5)) (p 6),
  .Assign [.Attribute (.Name "self" (p 7)) n1 (p 8)] (.Name n1 (p 9)) (p 10),
  .Assign [.Attribute (.Name "self" (p 11)) n2 (p 12)] (.Name n2 (p 13)) (p 14)]
structure km (K:Frag) (mg:Str→Option Value) (C CF fI:Addr) (fd:FuncData) (cn qual base n1 n2:Str) (st:Stmt):Prop where
 cls:∃ nm q N bs sn sub ab col dd k0 k1 k2 k3 k5 mN,K.lookup C=some (excClassObj nm q C N bs (.ref CF::VE) true sn sub ab col dd k0 k1 k2 k3 k5 "ValueError.__new__")∧xL K N mN∧mN "__init__"=some (.ref fI)∧∀ n∈XN n1 n2,mN n=none
 up:∃ c0 dd cd sl mA,K.lookup CF=some { cls:=c0,dict:=dd,data:=.cls cd,slots:=sl }∧xL K cd.ns mA∧∀ n∈("__init__":Str)::XN n1 n2,mA n=none
 special:specialIn K (.ref CF) "__getattribute__"=some (some (.builtin "type.__getattribute__"))
 reads:readsIn K CF (.type "type")=true
 find:findCls K (.ref CF) (.type "type") "__init__"=some (.val (.builtin "ValueError.__init__"))
 gC:mg cn=some (.ref C)
 gB:mg base=some (.ref CF)
 fn:Fun K "__init__" qual st fI fd
 fc:∀ oc od dt osl,K.lookup fI=some ⟨oc,od,dt,osl⟩→oc=.type "function"
 body:∃ p,defBody st=jd base n1 n2 p∧∀ env:Env,eval (.Call (.Attribute (.Name base (p 0)) "__init__" (p 1)) [.Name "self" (p 2),.Name n1 (p 3),.Name n2 (p 4)] [] (p 5)) env=(do
   let ov ← eval (.Name base (p 0)) env
   standAt (p 1).atName
   let (f,first) ← holding [ov] (getMethod ov "__init__" (do return (← importBound (.Name base (p 0)) env).getD true))
   callWith (p 5) f first (backTo (p 5) (starEach [.Name "self" (p 2),.Name n1 (p 3),.Name n2 (p 4)] env)) (backToKw (p 5) (keywordEach [] env)))
 sc:aK ["self",n1,n2] ["self",n1,n2] (defScope st)
 l0:(defScope st).names.lookup ("self":Str)=some .local
 l1:(defScope st).names.lookup n1=some .local
 l2:(defScope st).names.lookup n2=some .local
 lB:(defScope st).names.lookup base=some .globalImplicit
 d1:(n1==("__debug__":Str))=false
 d2:(n2==("__debug__":Str))=false
 dB:(base==("__debug__":Str))=false
 b1:typeLookup (.type "ValueError") n1=pure none
 b2:typeLookup (.type "ValueError") n2=pure none
 ne:n1≠n2
 bind:∀ (s:Shared) (us:List Value),us.length=3→BindsTo s fd ⟨us,[]⟩ ((["self",n1,n2]:List Str).zip us)
theorem xL.ns {K:Frag} {N:Addr} {m:Str→Option Value} (x:xL K N m) {h:Heap} (k:K.In h):h.Ns N m:=let ⟨o,es,ep,e,_,f⟩:=x; f h (k _ _ e)
section
variable {P:Program} {w:World} {A:Around} {E:Value→Shared→Prop} {K:Frag} {mg:Str→Option Value} {C CF fI e:Addr} {fd:FuncData} {cn qual base n1 n2:Str} {st:Stmt} {s:Shared} {u1 u2:Value} {t0:Addr}
theorem km.ot (X:km K mg C CF fI fd cn qual base n1 n2 st) {h:Heap} (k:K.In h):OT h VE (("__init__":Str)::XN n1 n2) (.ref CF::VE):=by
 obtain ⟨c0,dd,cd,sl,mA,e1,e2,e3⟩:=X.up
 exact .own (k _ _ e1) (e2.ns k) e3 .base
def zV (n1 n2:Str) (u1 u2:Value):Str→Option Value:=fun y=>if y=n2 then some u2 else if y=n1 then some u1 else none
theorem xC (X:km K mg C CF fI fd cn qual base n1 n2 st) (kin:K.In s.heap) (hg:s.heap.Ns mainGlobals mg) (lim:s.heap.NoLimit) (hroom:A.depth<recursionLimit) (heK:K.lookup e=none)
  (he:s.heap.get? e=some { cls:=.ref C,data:=.fields #[.ref t0,.none,.none,.none,.bool false,.none] }) {Q:Value→Shared→Prop}
  (hQ:∀ (h':Heap) (tk:Nat) (dx t':Addr),(∀ b o,b≠e→s.heap.get? b=some o→h'.get? b=some o)→s.heap.objs.size≤dx →
   h'.get? e=some { cls:=.ref C,dict:=some dx,data:=.fields #[.ref t',.none,.none,.none,.bool false,.none] }→h'.Ns1 dx (zV n1 n2 u1 u2)→Q .none { s with heap:=h',toks:=tk }) :
  wpAny (model P w) A (call (.ref fI) [.ref e,u1,u2]) Q E s:=by
 obtain ⟨oc,od,kV,doc,pm,an,cdv,ct,osl,rfl,lk,hcd⟩:=X.fn.ex
 have hkind:(((["self",n1,n2]:List Str).zip [.ref e,u1,u2]).all fun y=>(defScope st).names.lookup y.1==some .local||(defScope st).names.lookup y.1==some .cell)=true:=by
  simp [X.l0,X.l1,X.l2]
 refine wpAny_call (Att.call_fn kin lim lk hcd hroom (X.bind s [.ref e,u1,u2] rfl) hkind (fun s₁ x=>?_) X.sc.co X.sc.gen X.sc.kind)
 obtain ⟨hp,gg,dr,tk0,os⟩:=s
 obtain ⟨h1,tk1,rfl,hk1⟩:=x.done
 have ns1:=x.toInCall.ns
 dsimp only at kin hg lim he ns1 hk1 hQ ⊢
 obtain ⟨p,hb,hev⟩:=X.body
 rw [hb]
 unfold jd
 have k1:∀ b o,hp.get? b=some o→h1.get? b=some o:=hk1
 have neL:hp.objs.size≠e:=Nat.ne_of_gt (Heap.lt_size he)
 generalize hm:bindL (envOfC qual (defScope st) hp.objs.size fI cdv).kindOf ((["self",n1,n2]:List Str).zip [.ref e,u1,u2]) (fun _=>none)=m at ns1
 have hm0:m ("self":Str)=some (.ref e):=by rw [← hm]; exact da (i:=0) X.sc.nd rfl rfl X.l0
 have hm1:m n1=some u1:=by rw [← hm]; exact da (i:=1) X.sc.nd rfl rfl X.l1
 have hm2:m n2=some u2:=by rw [← hm]; exact da (i:=2) X.sc.nd rfl rfl X.l2
 obtain ⟨nm,q,N,bs,sn,sub,ab,col,dd,k0,kk1,kk2,kk3,k5,mN,lC,nN,i0,iN⟩:=X.cls
 have neC:e≠C:=fun z=>by
  rw [z,kin _ _ lC] at he
  cases he
 have st1:∀ (x1 x2 x3:Str) (p1 p2 p3 pos:Pos) (env:Env),backTo pos (starEach [.Name x1 p1,.Name x2 p2,.Name x3 p3] env)=[(false,eval (.Name x1 p1) env),(false,eval (.Name x2 p2) env),(false,eval (.Name x3 p3) env)]:=fun x1 x2 x3 p1 p2 p3 pos env=>by
  rw [ac rfl,ac rfl,ac rfl]
  rfl
 refine wpAny_execs_cons (wpAny_Expr_any (methodCall_KW (Calls.Name_function_global X.sc.kind X.lB (Calls.loadGlobal_global (hg.keeps k1) X.gB ?_) X.dB) (hev _)) (by simp [interactive,show (envOfC qual (defScope st) hp.objs.size fI cdv).scope.kind=.function from X.sc.kind]) (aC rfl))
 refine method_cls (s:=⟨h1,gg,dr,tk1,os⟩) (kin.keeps k1) X.special (cls_value (kin.keeps k1) X.reads X.find rfl ?_)
 refine PyProof.Rows.callWith_builtin1 ?_ (ac rfl) (ak rfl)
 rw [st1]
 refine Calls.spliced_cons (wpAny_Name (wpAny_loadName_local X.sc.kind X.l0 ns1 hm0 ?_))
 refine Calls.spliced_cons (wpAny_Name (wpAny_loadName_local X.sc.kind X.l1 ns1 hm1 ?_) X.d1)
 refine Calls.spliced_cons (wpAny_Name (wpAny_loadName_local X.sc.kind X.l2 ns1 hm2 ?_) X.d2)
 refine Calls.spliced_nil ?_
 have T1:=X.ot (kin.keeps k1)
 have hC1:=k1 _ _ (kin _ _ lC)
 refine uz (t0:=t0) F.excBase_ValueError (T1.tail (.head _)) hC1 (k1 _ _ he) rfl (by show 2≤sizeLine; decide) ?_
 have h1e:=k1 _ _ he
 have lt1:e<h1.objs.size:=Heap.lt_size h1e
 generalize eh2:(h1.push { cls:=.type "tuple",data:=.seq ([u1,u2]:List Value).toArray }).update e (Obj.mapFields (·.setIfInBounds 0 (.ref h1.objs.size)))=h2
 have h2e:h2.get? e=some { cls:=.ref C,data:=.fields #[.ref h1.objs.size,.none,.none,.none,.bool false,.none] }:=by
  rw [← eh2,Heap.get?_update_self _ (Heap.get?_push_of_some _ h1e) rfl]
  rfl
 have k2:∀ b o,b≠e→h1.get? b=some o→h2.get? b=some o:=fun b o ne q=>by
  rw [← eh2,Heap.get?_update_ne _ _ _ _ ne]
  exact Heap.get?_push_of_some _ q
 have sz2:h1.objs.size<h2.objs.size:=by rw [← eh2]; simp [Heap.size_push]
 have nsk:∀ {ha hb:Heap} {m':Str→Option Value} {L:Addr},(∀ b o,b≠e→ha.get? b=some o→hb.get? b=some o)→L≠e→ha.Ns L m'→hb.Ns L m':=fun k ne ⟨o,es,ep,q,r⟩=>⟨o,es,ep,k _ _ ne q,r⟩
 have kx:∀ {hb:Heap},(∀ b o,b≠e→h1.get? b=some o→hb.get? b=some o)→K.In hb:=fun k b o q=>k b o (fun z=>by rw [z,heK] at q; cases q) (k1 _ _ (kin b o q))
 have x1:n1∈("__init__":Str)::XN n1 n2:=by simp [XN]
 have x2:n2∈("__init__":Str)::XN n1 n2:=by simp [XN]
 have xs:("__setattr__":Str)∈("__init__":Str)::XN n1 n2:=by simp [XN]
 have xi:("__init__":Str)∈("__init__":Str)::XN n1 n2:=by simp
 have i1:mN n1=none:=iN _ (by simp [XN])
 have i2:mN n2=none:=iN _ (by simp [XN])
 have is:mN "__setattr__"=none:=iN _ (by simp [XN])
 have ns2:=nsk k2 neL ns1
 refine wpAny_execs_cons (plainObj_wpAny_Assign_Attribute (wpAny_Name (wpAny_loadName_local X.sc.kind X.l1 ns2 hm1 (wpAny_Name (wpAny_loadName_local X.sc.kind X.l0 ns2 hm0 ?_))) X.d1) (aC rfl))
 refine iw (mA:=fun _=>none) F.store_ValueError (X.ot (kx k2)) x1 xs xi (kx k2 _ _ lC) (nN.ns (kx k2)) is i1 X.b1 neC ⟨_,h2e,rfl,(fun c z=>by cases z),.inl ⟨rfl,fun _=>rfl⟩⟩ (fun h3 tk3 I3 kp3 hs3=>?_) Within.nil (Nat.zero_le _)
 obtain ⟨o3,h3e,c3,d3,s3,_,dd3⟩:=hs3 _ h2e
 have dd3:=dd3 rfl
 have k3:∀ b o,b≠e→h1.get? b=some o→h3.get? b=some o:=fun b o ne q=>kp3 b o ne (fun o₀ dx z1 z2=>by rw [h2e] at z1; cases z1; cases z2) (k2 b o ne q)
 have ns3:=nsk k3 neL ns1
 refine wpAny_execs_cons (plainObj_wpAny_Assign_Attribute (wpAny_Name (wpAny_loadName_local X.sc.kind X.l2 ns3 hm2 (wpAny_Name (wpAny_loadName_local X.sc.kind X.l0 ns3 hm0 ?_))) X.d2) (aC rfl))
 refine iw F.store_ValueError (X.ot (kx k3)) x2 xs xi (kx k3 _ _ lC) (nN.ns (kx k3)) is i2 X.b2 neC I3 (fun h4 tk4 I4 kp4 hs4=>?_) (Within.cons n1 u1 Within.nil) (by show 1≤sizeLine; decide)
 obtain ⟨o4,h4e,c4,d4,s4,dd4,_⟩:=hs4 _ h3e
 have dd4:=dd4 _ dd3
 have k4:∀ b o,b≠e→h1.get? b=some o→h4.get? b=some o:=fun b o ne q=>kp4 b o ne (fun o₀ dx z1 z2=>by
  rw [h3e] at z1; cases z1
  rw [dd3] at z2; cases z2
  exact Nat.ne_of_lt (Nat.lt_trans (Heap.lt_size q) sz2)) (k3 b o ne q)
 refine wpAny_execs_nil (hQ h4 tk4 h2.objs.size h1.objs.size (fun b o ne q=>k4 b o ne (k1 b o q)) ?_ ?_ ?_)
 ·obtain ⟨oL,_,_,qL,_⟩:=ns1
  exact Nat.le_of_lt (Nat.lt_trans (Heap.lt_size qL) sz2)
 ·rw [h4e]
  obtain ⟨oc4,od4,oda4,osl4⟩:=o4
  dsimp only at c4 d4 s4 dd4
  rw [c4,c3,d4,d3,s4,s3,dd4]
 ·obtain ⟨o,oe,_,_,z⟩:=I4
  rw [h4e] at oe
  cases oe
  rcases z with ⟨z,_⟩ | ⟨dx,z,_,n⟩
  ·rw [dd4] at z; cases z
  ·rw [dd4] at z; cases z
   exact n
theorem yK (X:km K mg C CF fI fd cn qual base n1 n2 st) (kin:K.In s.heap) (hg:s.heap.Ns mainGlobals mg) (lim:s.heap.NoLimit) (hroom:A.depth+1<recursionLimit) {Q:Value→Shared→Prop}
  (hQ:∀ (h':Heap) (tk:Nat) (e dx t':Addr),(∀ b o,s.heap.get? b=some o→h'.get? b=some o)→s.heap.objs.size≤e→s.heap.objs.size≤dx→dx≠e →
   h'.get? e=some { cls:=.ref C,dict:=some dx,data:=.fields #[.ref t',.none,.none,.none,.bool false,.none] }→h'.Ns1 dx (zV n1 n2 u1 u2)→Q (.ref e) { s with heap:=h',toks:=tk }) :
  wpAny (model P w) A (call (.ref C) [u1,u2]) Q E s:=by
 obtain ⟨hp,gg,dr,tk0,os⟩:=s
 obtain ⟨nm,q,N,bs,sn,sub,ab,col,dd,k0,kk1,kk2,kk3,k5,mN,lC,nN,i0,iN⟩:=X.cls
 obtain ⟨oc,od,kV,doc,pm,an,cdv,ct,osl,efd,lk,hcd⟩:=X.fn.ex
 have hfc:oc=.type "function":=X.fc _ _ _ _ lk
 dsimp only at kin hg lim hQ
 have kp:∀ b o,hp.get? b=some o→((hp.push { cls:=.type "tuple",data:=.seq ([u1,u2]:List Value).toArray }).push { cls:=.ref C,data:=.fields #[.ref hp.objs.size,.none,.none,.none,.bool false,.none] }).get? b=some o :=
  fun b o z=>Heap.get?_push_of_some _ (Heap.get?_push_of_some _ z)
 refine rE F.excBase_ValueError ((X.ot kin).tail (.head _)) (kin _ _ lC) (nN.ns kin) i0 (kin _ _ lk) hfc ?_ (by show 2≤sizeLine; decide)
 refine xC (t0:=hp.objs.size) X (kin.keeps kp) (hg.keeps kp) (lim.keeps kp) (by rw [tK]; exact hroom) ?_ (Heap.get?_push_at (by simp [Heap.size_push]) rfl) fun h' tk dx t' kk hdx he hd=>?_
 ·cases z:K.lookup (hp.objs.size+1) with
  | none=>rfl
  | some o=>exact absurd (Heap.lt_size (kin _ _ z)) (Nat.not_lt.mpr (Nat.le_succ _))
 ·dsimp only at kk hdx
  simp only [Heap.size_push] at hdx
  exact ⟨rfl,hQ h' tk _ dx t' (fun b o z=>kk b o (Nat.ne_of_lt (Nat.lt_succ_of_lt (Heap.lt_size z))) (kp b o z)) (Nat.le_succ _) (by show hp.objs.size≤dx; omega) (Nat.ne_of_gt hdx) he hd⟩
end
end L2
namespace PySem
section
variable {M:Model} {A:Around} {E:Value→Shared→Prop} {s:Shared}
structure Ar (fr:List Addr) (e T:Addr) (fl:Value) (oe:Obj) (h h':Heap):Prop where
 keep:∀ b o,b∉fr→b≠e→b≠T→h.get? b=some o→h'.get? b=some o
 slot:∀ b o,b∈fr→b≠e→b≠T→h.get? b=some o→∃ sl,h'.get? b=some { o with slots:=sl }
 exc:∃ oe' vs,h'.get? e=some oe'∧oe'.cls=oe.cls∧oe'.dict=oe.dict∧oe'.data=.fields vs∧vs[1]?=some (.ref T)
 tb:∃ oT ts,h'.get? T=some oT∧oT.data=.fields ts∧ts[3]?=some fl
 ne:T≠e
theorem xZ {base:Heap} {env:Env} {outer:List Env} {L e:Addr} {oe:Obj} {vs:Array Value} {Q:Unit→Shared→Prop}
  (hfr:A.frames=some (env::outer)) (hl:s.heap.FunFrames base (env::outer)) (hf:env.frame=some L)
  (he:s.heap.get? e=some oe) (hd:oe.data=.fields vs) (h1:vs[1]?=some .none)
  (h:∀ h' T,s.heap.objs.size≤T→Ar ((env::outer).filterMap (·.frame)) e T (rawInt L) oe s.heap h'→Q () { s with heap:=h' }):wpAny M A (noteFrame (.ref e) env) Q E s:=by
 have hsz:1<vs.size:=(Array.getElem?_eq_some_iff.mp h1).1
 have hene:e∉(env::outer).filterMap (·.frame):=fun hm=>by
  obtain ⟨_,o,ho,hnf⟩:=hl.mem hm
  rw [he] at ho; injection ho with ho; subst ho; exact hnf vs hd
 unfold noteFrame
 simp only [hf]
 refine wpAny_bind (wpAny_field he hd h1 ?_)
 rw [if_neg (by decide)]
 refine wpAny_bind (wpAny_frameOf_fun hfr hl hf fun h₁ hs₁=>?_)
 refine wpAny_bind (wpAny_entryPlaceOf fun pl hpl=>?_)
 unfold EntryCells.newEntry newFields
 refine wpAny_bind (wpAny_newObj_type ?_ (hpl.sizeOk5 _ _ _ _ _))
 have he₁:h₁.get? e=some oe:=(hs₁.2.1 e hene).trans he
 have he₂:=Heap.get?_push_of_some (h:=h₁) { cls:=.type "traceback",dict:=none,data:=.fields ([Value.none,.ref L,.none,rawInt L,.none]++(if pl.isEmpty then List.replicate 6 Value.none else pl)).toArray } he₁
 refine wpAny_setField he₂ hd hsz (h _ h₁.objs.size ?_ ?_)
 ·exact Nat.le_of_eq hs₁.1.symm
 have hTe:h₁.objs.size≠e:=Nat.ne_of_gt (Heap.lt_size he₁)
 have hd₃:=Obj.data_mapFields hd (·.setIfInBounds 1 (Value.ref h₁.objs.size))
 have keep:∀ b o,b≠e→h₁.get? b=some o →
   ((h₁.push { cls:=.type "traceback",dict:=none,data:=.fields ([Value.none,.ref L,.none,rawInt L,.none]++(if pl.isEmpty then List.replicate 6 Value.none else pl)).toArray }).update e (Obj.mapFields (·.setIfInBounds 1 (Value.ref h₁.objs.size)))).get? b=some o :=
  fun b o hbe hb=>by
   rw [Heap.get?_update_other _ _ (Ne.symm hbe)]
   exact Heap.get?_push_of_some _ hb
 refine ⟨fun b o nf ne _ q=>keep b o ne ((hs₁.2.1 b nf).trans q),fun b o _ ne _ q=>?_,?_,?_,hTe⟩
 ·obtain ⟨sl,z⟩:=hs₁.2.2 _ _ q
  exact ⟨sl,keep b _ ne z⟩
 ·refine ⟨_,_,Heap.get?_update_self _ he₂ (Obj.isFreed_of_fields hd₃),Obj.cls_mapFields _ _,?_,hd₃,by simp [hsz]⟩
  obtain ⟨oc,od,odt,osl⟩:=oe
  cases odt<;>rfl
 ·refine ⟨_,_,(Heap.get?_update_other _ _ (Ne.symm hTe)).trans (Heap.get?_push_size h₁ rfl),rfl,?_⟩
  first | (simp; done) | (rcases hpl with rfl | ⟨_,_,_,_,_,_,_,rfl⟩<;>simp)
theorem ur {env:Env} {L e T:Addr} {oe oT:Obj} {vs ts:Array Value} {Q:Unit→Shared→Prop} (hf:env.frame=some L) (he:s.heap.get? e=some oe) (hd:oe.data=.fields vs) (h1:vs[1]?=some (.ref T)) (hT:s.heap.get? T=some oT) (hdT:oT.data=.fields ts) (h3:ts[3]?=some (rawInt L)) (h:Q () s) :
  wpAny M A (noteFrame (.ref e) env) Q E s:=by
 unfold noteFrame
 simp only [hf]
 refine wpAny_bind (wpAny_field he hd h1 ?_)
 rw [if_pos (show (Value.ref T != Value.none)=true from by simp)]
 refine wpAny_bind (wpAny_field hT hdT h3 ?_)
 rw [if_pos (show (rawInt L==rawInt L)=true from by simp)]
 exact wpAny_pure h
theorem wK {base:Heap} {env:Env} {outer:List Env} {L e T0:Addr} {oe oT:Obj} {vs ts:Array Value} {Q:Unit→Shared→Prop}
  (hfr:A.frames=some (env::outer)) (hl:s.heap.FunFrames base (env::outer)) (hf:env.frame=some L)
  (he:s.heap.get? e=some oe) (hd:oe.data=.fields vs) (h1:vs[1]?=some (.ref T0)) (hT:s.heap.get? T0=some oT) (hdT:oT.data=.fields ts) (h3:ts[3]?=some .none) (ne:T0≠e)
  (h:∀ h' T,s.heap.objs.size≤T→Ar ((env::outer).filterMap (·.frame)) e T (rawInt L) oe (s.heap.update T0 (Obj.mapFields (·.setIfInBounds 3 .none))) h'→Q () { s with heap:=h' }):wpAny M A (noteFrame (.ref e) env) Q E s:=by
 have hsz:1<vs.size:=(Array.getElem?_eq_some_iff.mp h1).1
 unfold noteFrame
 simp only [hf]
 refine wpAny_bind (wpAny_field he hd h1 ?_)
 rw [if_pos (show (Value.ref T0 != Value.none)=true from by simp)]
 refine wpAny_bind (wpAny_field hT hdT h3 ?_)
 rw [if_neg (show ¬ ((Value.none==rawInt L)=true) from by simp [rawInt])]
 refine wpAny_bind (wpAny_setField hT hdT (Array.getElem?_eq_some_iff.mp h3).1 ?_)
 have other:∀ b,b≠T0→(s.heap.update T0 (Obj.mapFields (·.setIfInBounds 3 Value.none))).get? b=s.heap.get? b:=fun b hb=>Heap.get?_update_other _ _ (Ne.symm hb)
 have noRecord:∀ b o,s.heap.get? b=some o→(∀ vs,o.data≠.fields vs)→b≠T0:=fun b o hb hnf q=>by
  rw [q,hT] at hb; injection hb with hb; subst hb; exact hnf ts hdT
 have hl':(s.heap.update T0 (Obj.mapFields (·.setIfInBounds 3 Value.none))).FunFrames base (env::outer):=hl.of_keeps fun b o hb hnf=>⟨o,(other b (noRecord b o hb hnf)).trans hb,rfl⟩
 have he':=(other e (Ne.symm ne)).trans he
 have hsize:(s.heap.update T0 (Obj.mapFields (·.setIfInBounds 3 Value.none))).objs.size=s.heap.objs.size:=Heap.size_after_update ..
 generalize s.heap.update T0 (Obj.mapFields (·.setIfInBounds 3 Value.none))=hh at hl' he' hsize h
 have hene:e∉(env::outer).filterMap (·.frame):=fun hm=>by
  obtain ⟨_,o,ho,hnf⟩:=hl'.mem hm
  rw [he'] at ho; injection ho with ho; subst ho; exact hnf vs hd
 refine wpAny_bind (wpAny_frameOf_fun (s:={ s with heap:=hh }) hfr hl' hf fun h₁ hs₁=>?_)
 refine wpAny_bind (wpAny_entryPlaceOf fun pl hpl=>?_)
 unfold EntryCells.newEntry newFields
 refine wpAny_bind (wpAny_newObj_type ?_ (hpl.sizeOk5 _ _ _ _ _))
 have he₁:h₁.get? e=some oe:=(hs₁.2.1 e hene).trans he'
 have he₂:=Heap.get?_push_of_some (h:=h₁) { cls:=.type "traceback",dict:=none,data:=.fields ([Value.ref T0,.ref L,.none,rawInt L,.none]++(if pl.isEmpty then List.replicate 6 Value.none else pl)).toArray } he₁
 refine wpAny_setField he₂ hd hsz (h _ h₁.objs.size ?_ ?_)
 ·exact Nat.le_of_eq ((hs₁.1.trans hsize).symm)
 have hTe:h₁.objs.size≠e:=Nat.ne_of_gt (Heap.lt_size he₁)
 have hd₃:=Obj.data_mapFields hd (·.setIfInBounds 1 (Value.ref h₁.objs.size))
 have keep:∀ b o,b≠e→h₁.get? b=some o →
   ((h₁.push { cls:=.type "traceback",dict:=none,data:=.fields ([Value.ref T0,.ref L,.none,rawInt L,.none]++(if pl.isEmpty then List.replicate 6 Value.none else pl)).toArray }).update e (Obj.mapFields (·.setIfInBounds 1 (Value.ref h₁.objs.size)))).get? b=some o :=
  fun b o hbe hb=>by
   rw [Heap.get?_update_other _ _ (Ne.symm hbe)]
   exact Heap.get?_push_of_some _ hb
 refine ⟨fun b o nf ne _ q=>keep b o ne ((hs₁.2.1 b nf).trans q),fun b o _ ne _ q=>?_,?_,?_,hTe⟩
 ·obtain ⟨sl,z⟩:=hs₁.2.2 _ _ q
  exact ⟨sl,keep b _ ne z⟩
 ·refine ⟨_,_,Heap.get?_update_self _ he₂ (Obj.isFreed_of_fields hd₃),Obj.cls_mapFields _ _,?_,hd₃,by simp [hsz]⟩
  obtain ⟨oc,od,odt,osl⟩:=oe
  cases odt<;>rfl
 ·refine ⟨_,_,(Heap.get?_update_other _ _ (Ne.symm hTe)).trans (Heap.get?_push_size h₁ rfl),rfl,?_⟩
  first | (simp; done) | (rcases hpl with rfl | ⟨_,_,_,_,_,_,_,rfl⟩<;>simp)
theorem sX {e T:Addr} {fl:Option Addr} {oe oT:Obj} {vs ts:Array Value} {Q:Unit→Shared→Prop} (he:s.heap.get? e=some oe) (hd:oe.data=.fields vs) (h1:vs[1]?=some (.ref T)) (hT:s.heap.get? T=some oT) (hdT:oT.data=.fields ts) (h3:3<ts.size) (ne:T≠e)
  (h:∀ h',(∀ b,b≠T→h'.get? b=s.heap.get? b)→(∃ oT' ts',h'.get? T=some oT'∧oT'.data=.fields ts'∧ts'[3]?=some (fl.elim Value.none fun f=>rawInt f))→Q () { s with heap:=h' }) :
  wpAny M A (setFlight (.ref e) fl) Q E s:=by
 unfold setFlight
 refine wpAny_bind (wpAny_field he hd h1 ?_)
 rw [if_pos (show (Value.ref T != Value.none)=true from by simp)]
 refine wpAny_setField hT hdT h3 (h _ (fun b nb=>Heap.get?_update_other _ _ (Ne.symm nb)) ⟨_,_,Heap.get?_update_self _ hT (Obj.isFreed_of_fields (Obj.data_mapFields hdT _)),Obj.data_mapFields hdT _,by simp [h3]⟩)
end
end PySem
namespace L2
open PySem PySem.W PySem.Spec PyProof.Rows
structure iA (fr:List Addr) (e T:Addr) (h h':Heap):Prop where
 keep:∀ b o,b∉fr→b≠e→b≠T→h.get? b=some o→h'.get? b=some o
 slot:∀ b o,b∈fr→b≠e→b≠T→h.get? b=some o→∃ sl,h'.get? b=some { o with slots:=sl }
 e:∀ o,h.get? e=some o→∃ o',h'.get? e=some o'
 T:∀ o,h.get? T=some o→∃ o',h'.get? T=some o'
section
variable {P:Program} {w:World} {fs ex fr:List Addr} {H0 H:Hp} {h0 h h' base:Heap} {e T:Addr}
theorem iA.un (x:iA fr e T h h') (u:Un fs ex H0 H h0 h) (he:h0.get? e=none) (hT:h0.get? T=none) (hf:∀ b∈fr,b∈fs∨h0.get? b=none):Un fs ex H0 H h0 h' where
 keep:=fun b o q n nf nx=>x.keep b o (fun z=>(hf b z).elim nf fun z2=>by rw [q] at z2; cases z2) (fun z=>by rw [z,he] at q; cases q) (fun z=>by rw [z,hT] at q; cases q) (u.keep b o q n nf nx)
 slot:=fun b o q n nf nx=>by
  obtain ⟨sl,z⟩:=u.slot b o q n nf nx
  by_cases hb:b∈fr
  ·obtain ⟨sl',z'⟩:=x.slot b _ hb (fun z=>by rw [z,he] at q; cases q) (fun z=>by rw [z,hT] at q; cases q) z
   exact ⟨sl',z'⟩
  ·exact ⟨sl,x.keep b _ hb (fun z=>by rw [z,he] at q; cases q) (fun z=>by rw [z,hT] at q; cases q) z⟩
 free:=u.free
 there:=fun b o q nx=>by
  obtain ⟨o',z⟩:=u.there b o q nx
  have n1:b≠e:=fun z=>by rw [z,he] at q; cases q
  have n2:b≠T:=fun z=>by rw [z,hT] at q; cases q
  by_cases hb:b∈fr
  ·obtain ⟨sl',z'⟩:=x.slot b _ hb n1 n2 z
   exact ⟨_,z'⟩
  ·exact ⟨_,x.keep b _ hb n1 n2 z⟩
 tups:=u.tups
 frzs:=u.frzs
 tbls:=u.tbls
theorem iA.hok (x:iA fr e T h h') (ok:HOk P w H h) (he:H e=none) (hT:H T=none) (hf:∀ b∈fr,H b=none):HOk P w H h':=fun a o z =>
 (ok a o z).stay (fun b u hb q=>by
  have hb':∃ v,H b=some v:=hb.elim (fun z2=>⟨o,by rw [z2]; exact z⟩) fun z2=>⟨_,z2⟩
  obtain ⟨v,hv⟩:=hb'
  exact x.keep b u (fun z=>by rw [hf b z] at hv; cases hv) (fun z=>by rw [z,he] at hv; cases hv) (fun z=>by rw [z,hT] at hv; cases hv) q) (fun _ q=>q) fun _ _ q=>q
theorem iA.frames (x:iA fr e T h h') {l:List Env} (hl:h.FunFrames base l) (he:∀ o,h.get? e=some o→∃ vs,o.data=.fields vs) (hT:∀ o,h.get? T=some o→∃ vs,o.data=.fields vs):h'.FunFrames base l :=
 hl.of_keeps fun b o q nf=>by
  have n1:b≠e:=fun z=>by obtain ⟨vs,d⟩:=he o (by rw [← z]; exact q); exact nf vs d
  have n2:b≠T:=fun z=>by obtain ⟨vs,d⟩:=hT o (by rw [← z]; exact q); exact nf vs d
  by_cases hb:b∈fr
  ·obtain ⟨sl,z⟩:=x.slot b o hb n1 n2 q
   exact ⟨_,z,rfl⟩
  ·exact ⟨o,x.keep b o hb n1 n2 q,rfl⟩
end
structure Exc (h0 h:Heap) (H:Hp) (C ea dx:Addr) (st:Option Value):Prop where
 obj:∃ oe vs,h.get? ea=some oe∧oe.cls=.ref C∧oe.dict=some dx∧oe.data=.fields vs ∧
  (match st with
   | none=>vs[1]?=some .none
   | some fl=>∃ T oT ts,vs[1]?=some (.ref T)∧T≠ea∧h.get? T=some oT∧oT.data=.fields ts∧ts[3]?=some fl∧h0.objs.size≤T∧H T=none)
 new:h0.objs.size≤ea
 free:H ea=none
structure XWx (X:Cx) (C:Addr) (E:XK) (L ea dx:Addr) (H':Hp) (st:Option Value) (s':Shared):Prop where
 ok:X.Ok
 nx:X.ex=[]
 sz:X.s₀.heap.objs.size≤s'.heap.objs.size
 os:s'.os=X.s₀.os
 bare:AllBare s'.gens
 un:Un X.fs X.ex X.H₀ H' X.s₀.heap s'.heap
 hok:HOk X.prog X.w H' s'.heap
 fun_:s'.heap.FunFrames X.base X.stack
 free:∀ b∈frs X.stack,H' b=none
 ex:Exc X.s₀.heap s'.heap H' C ea dx st
 st:st=none∨st=some (rawInt L)
 e:E (.ref C) (some dx) H'
def XW (X:Cx) (C:Addr) (E:XK) (v:Value) (s':Shared):Prop:=∃ L ea dx H' st,v=.ref ea∧X.env.frame=some L∧XWx X C E L ea dx H' st s'
theorem Cx.Ok.stackL {X:Cx} (ok:X.Ok) (own:X.stack=X.env::X.outer) {L:Addr} (hL:X.env.frame=some L) (hl:X.env.frame=some X.env.locals):∀ b∈frs X.stack,b∈X.fs∨X.s₀.heap.get? b=none:=fun b hb=>by
 rw [own] at hb
 unfold frs at hb
 rw [List.filterMap_cons,hl] at hb
 rcases List.mem_cons.mp hb with z | z
 ·refine .inr ?_
  cases q:X.s₀.heap.get? b with
  | none=>rfl
  | some o=>exact absurd (Heap.lt_size q) (Nat.not_lt.mpr (by rw [z]; exact ok.above))
 ·exact .inl z
theorem XWx.note {X:Cx} {C:Addr} {E:XK} {L ea dx:Addr} {H':Hp} {st:Option Value} {s':Shared} {M:Model} {E':Value→Shared→Prop} {Q:Unit→Shared→Prop} (x:XWx X C E L ea dx H' st s') (own:X.stack=X.env::X.outer) (hl:X.env.frame=some X.env.locals) (hL:X.env.frame=some L)
  (hQ:∀ s'',XWx X C E L ea dx H' (some (rawInt L)) s''→Q () s''):wpAny M X.A (noteFrame (.ref ea) X.env) Q E' s':=by
 obtain ⟨ok,nx,sz,os,bare,un,hok,fn,free,exc,hst,he⟩:=x
 obtain ⟨⟨oe,vs,g1,g2,g3,g4,g5⟩,new,fr⟩:=exc
 rcases hst with rfl | rfl
 ·refine xZ (base:=X.base) (outer:=X.outer) (by rw [← own]; exact ok.frames) (by rw [← own]; exact fn) hL g1 g4 g5 fun h' T nT n=>hQ _ ?_
  have nT':s'.heap.get? T=none:=Heap.get?_none_of_le nT
  have hT0:X.s₀.heap.objs.size≤T:=Nat.le_trans sz nT
  have hTH:H' T=none:=hok.fresh nT
  obtain ⟨oe',vs',e1,e2,e3,e4,e5⟩:=n.exc
  obtain ⟨oT,ts,f1,f2,f3⟩:=n.tb
  have step:iA (frs X.stack) ea T s'.heap h':=⟨by rw [own]; exact n.keep,by rw [own]; exact n.slot,fun _ _=>⟨_,e1⟩,fun _ _=>⟨_,f1⟩⟩
  exact ⟨ok,nx,Nat.le_of_lt (Nat.lt_of_le_of_lt hT0 (Heap.lt_size f1)),os,bare,step.un un (Heap.get?_none_of_le new) (Heap.get?_none_of_le hT0) (ok.stackL own hL hl),step.hok hok fr hTH free,step.frames fn (fun o z=>⟨vs,by rw [g1] at z; cases z; exact g4⟩) (fun o z=>by rw [nT'] at z; cases z),free,
   ⟨⟨oe',vs',e1,e2.trans g2,e3.trans g3,e4,T,oT,ts,e5,n.ne,f1,f2,f3,hT0,hTH⟩,new,fr⟩,.inr rfl,he⟩
 ·obtain ⟨T,oT,ts,t1,t2,t3,t4,t5,t6,t7⟩:=g5
  exact ur hL g1 g4 t1 t3 t4 t5 (hQ _ ⟨ok,nx,sz,os,bare,un,hok,fn,free,⟨⟨oe,vs,g1,g2,g3,g4,T,oT,ts,t1,t2,t3,t4,t5,t6,t7⟩,new,fr⟩,.inr rfl,he⟩)
theorem Exc.flight {h0:Heap} {H:Hp} {C ea dx:Addr} {fl:Value} {s:Shared} {g:Option Addr} {M:Model} {A:Around} {E:Value→Shared→Prop} {Q:Unit→Shared→Prop} (x:Exc h0 s.heap H C ea dx (some fl))
  (hQ:∀ h' T,iA [] ea T s.heap h'→h0.objs.size≤T→H T=none→(∀ o,s.heap.get? T=some o→∃ vs,o.data=.fields vs)→Exc h0 h' H C ea dx (some (g.elim Value.none fun f=>rawInt f))→Q () { s with heap:=h' }):wpAny M A (setFlight (.ref ea) g) Q E s:=by
 obtain ⟨⟨oe,vs,g1,g2,g3,g4,T,oT,ts,t1,t2,t3,t4,t5,t6,t7⟩,new,fr⟩:=x
 refine sX g1 g4 t1 t3 t4 (Array.getElem?_eq_some_iff.mp t5).1 t2 fun h' k ⟨oT',ts',a1,a2,a3⟩=>hQ h' T ⟨fun b o _ _ nT q=>(k b nT).trans q,fun b o hb=>(by cases hb),fun o q=>⟨o,(k ea (Ne.symm t2)).trans q⟩,fun _ _=>⟨_,a1⟩⟩ t6 t7 (fun o q=>⟨ts,by rw [t3] at q; cases q; exact t4⟩) ?_
 exact ⟨⟨oe,vs,(k ea (Ne.symm t2)).trans g1,g2,g3,g4,T,oT',ts',t1,t2,a1,a2,a3,t6,t7⟩,new,fr⟩
theorem XWx.fly {X:Cx} {C:Addr} {E:XK} {L ea dx:Addr} {H':Hp} {s':Shared} {g:Option Addr} {M:Model} {E':Value→Shared→Prop} {Q:Unit→Shared→Prop} (x:XWx X C E L ea dx H' (some (rawInt L)) s')
  (hQ:∀ s'',X.s₀.heap.objs.size≤s''.heap.objs.size→s''.os=X.s₀.os→AllBare s''.gens→Un X.fs X.ex X.H₀ H' X.s₀.heap s''.heap→HOk X.prog X.w H' s''.heap→s''.heap.FunFrames X.base X.stack→Exc X.s₀.heap s''.heap H' C ea dx (some (g.elim Value.none fun f=>rawInt f))→Q () s'') :
  wpAny M X.A (setFlight (.ref ea) g) Q E' s':=by
 refine x.ex.flight fun h' T st hT0 hTH hfT ex=>hQ _ (by obtain ⟨oe,vs,_,_,_,_,T',oT',_,_,_,z,_,_,z2,_⟩:=ex.obj; exact Nat.le_of_lt (Nat.lt_of_le_of_lt z2 (Heap.lt_size z))) x.os x.bare (st.un x.un (Heap.get?_none_of_le x.ex.new) (Heap.get?_none_of_le hT0) (fun b z=>by cases z)) (st.hok x.hok x.ex.free hTH (fun b z=>by cases z)) (st.frames x.fun_ (fun o z=>?_) hfT) ex
 obtain ⟨oe,vs,g1,g2,g3,g4,_⟩:=x.ex.obj
 exact ⟨vs,by rw [g1] at z; cases z; exact g4⟩
theorem XW.passes {X:Cx} {C:Addr} {E:XK} {M:Model} (own:X.stack=X.env::X.outer) (hl:X.env.frame=some X.env.locals):PassesOwn M X.A X.env (XW X C E):=by
 rintro e s' ⟨L,ea,dx,H',st,rfl,hL,x⟩
 refine x.note own hl hL fun s'' y=>?_
 obtain ⟨oe,vs,g1,g2,g3,g4,T,oT,ts,t1,_⟩:=y.ex.obj
 unfold cameBackBy
 refine wpAny_bind (wpAny_field g1 g4 t1 ?_)
 rw [if_neg (by simp)]
 show wpAny _ _ (setFlight _ _) _ _ _
 refine y.fly fun s3 a0 a1 a2 a3 a4 a5 a6=>⟨L,ea,dx,H',_,rfl,hL,y.ok,y.nx,a0,a1,a2,a3,a4,a5,y.free,a6,.inr ?_,y.e⟩
 rw [hL]
 rfl
def CXE (P:Program) (w:World) (base:Heap) (C:Addr):CXT:=fun outer H s E e s'=>∃ ea dx H',e=.ref ea∧s'.os=s.os∧AllBare s'.gens∧Un (frs outer) [] H H' s.heap s'.heap∧HOk P w H' s'.heap∧s'.heap.FunFrames base outer ∧
 Exc s.heap s'.heap H' C ea dx (some .none)∧E (.ref C) (some dx) H'
theorem XW.leaves {P:Program} {w:World} {K:Frag} {mg:Str→Option Value} {base:Heap} {N:List Str} {qual:Str} {scope:Scope} {f:Addr} {cd:Value} {A:Around} {outer:List Env} {s:Shared} {H:Hp} {E:XK} {C:Addr} {e:Value} {s':Shared}
  (h:XW (kg (CXE P w base C) P w K mg base N qual scope f cd A outer s H E) C E e s'):(kg (CXE P w base C) P w K mg base N qual scope f cd A outer s H E).xe e s':=by
 obtain ⟨L,ea,dx,H',st,rfl,hL,x⟩:=h
 show wpAny _ _ (leaving _ _) _ _ s'
 unfold leaving
 refine wpAny_bind (x.note rfl rfl hL fun s'' y=>?_)
 refine y.fly fun s3 a0 a1 a2 a3 a4 a5 a6=>⟨ea,dx,H',rfl,a1,a2,a3,a4,?_,a6,y.e⟩
 exact a5.2.2
theorem PSs.unwish {X:Cx} {W:Value→Shared→Prop} {st:List Stmt} {t:TS} (h:PSs (X.wish W) st t) (hW:∀ e s,W e s→X.xe e s):PSs X st t:=fun pins s σ H D I hw =>
 wpAny_mono (h pins s σ H D (I.wish _) hw) (fun _ _ q=>q.unwish) hW
section
variable {P:Program} {w:World} {K:Frag} {mg:Str→Option Value} {base:Heap}
theorem Fun.okX {x qual:Str} {st:Stmt} {f C:Addr} {fd:FuncData} {N ps:List Str} {k:Nat} {sp:Sp} (F:Fun K x qual st f fd) (S:aK N ps (defScope st)) (len:∀ vs H Q E,sp vs H Q E→vs.length=ps.length)
  (hbody:∀ (cdv:Value) (A:Around) (outer:List Env) (s:Shared) (H:Hp) (vs:List V) (Q:VK) (E:XK),cT k (A.deeper (envOfC qual (defScope st) s.heap.objs.size f cdv))→sp vs H Q E →
   ∃ t,PSs ((kg (CXE P w base C) P w K mg base N qual (defScope st) f cdv A outer s H E).wish (XW (kg (CXE P w base C) P w K mg base N qual (defScope st) f cdv A outer s H E) C E)) (defBody st) t∧t { nx:=fun _ H'=>Q .non H',rt:=Q } (gY N vs) H):aV P w K mg base (CXE P w base C) (k+1) f fd ps sp:=by
 obtain ⟨oc,od,kV,doc,pm,an,cdv,ct,osl,rfl,lk,hcd⟩:=F.ex
 refine Az lk hcd S len fun A outer s H vs Q E hr hsp=>?_
 obtain ⟨t,h,q⟩:=hbody cdv A outer s H vs Q E hr hsp
 exact ⟨t,h.unwish fun e s' z=>XW.leaves z,q⟩
end
end L2
namespace PySem
section
variable {M:Model} {A:Around} {E:Value→Shared→Prop} {env:Env}
variable {nm q:Str} {C N:Addr} {bs bm:List Value} {hdct:Bool} {sn:List Str} {sub:List Value} {ab:Bool} {col:Option Bool} {dd:Option Addr} {k0 k1 k2 k3 k5:Option Value} {newId:String}
theorem wf {s:Shared} {x:Sem Value} {Q:Flow→Shared→Prop} (hbase:bm.contains (.type "BaseException")=true) (hh:A.handled=none)
  (h:wpAny M A x (fun v s₁=>∃ e t dx,v=.ref e∧s₁.heap.get? C=some (excClassObj nm q C N bs bm hdct sn sub ab col dd k0 k1 k2 k3 k5 newId) ∧
   s₁.heap.get? e=some { cls:=.ref C,dict:=some dx,data:=.fields #[.ref t,.none,.none,.none,.bool false,.none] }∧E (.ref e) s₁) E s) :
  wpAny M A (raiseStmt env (some x) none) Q E s:=by
 have hcB:(Value.ref C::bm).contains (.type "BaseException")=true:=by rw [List.contains_cons,hbase,Bool.or_true]
 unfold raiseStmt
 refine wpAny_bind (wpAny_mono h (fun v s₁ h₁=>?_) fun _ _ x=>x)
 obtain ⟨e,t,dx,rfl,hC,he,hE⟩:=h₁
 obtain ⟨hp,g,d,tk,os⟩:=s₁
 repeat (first | with_reducible refine wpAny_loadPart_at he ?_ | with_reducible refine wpAny_loadPart_at hC ?_ | (with_reducible refine wpAny_isSubtype_exc hC ?_; rw [hcB]) | wp_step)
 exact wpAny_raiseNew_none hh hE
end
end PySem
namespace L2
open PySem PySem.W PySem.Spec PyProof.Rows
def AM (C:Addr) (n1 n2:Str) (E:XK) (ta:TA):TS:=fun _ σ H=>ta σ H fun vs H1=>∃ a b,vs=[a,b]∧∀ dx,H1 dx=none→E (.ref C) (some dx) (upd H1 dx (.xd [(n1,a),(n2,b)]))
theorem yw {n1 n2:Str} {a b:V} {u1 u2:Value} (ne:n1≠n2) (r1:bh a u1) (r2:bh b u2) (f:Str):jP (([(n1,a),(n2,b)]:List (Str×V)).lookup f) (zV n1 n2 u1 u2 f):=by
 unfold zV
 by_cases h1:f=n1
 ·subst h1
  rw [if_neg ne,if_pos rfl]
  simpa [List.lookup,jP] using r1
 ·by_cases h2:f=n2
  ·subst h2
   rw [if_pos rfl]
   have:(f==n1)=false:=by simpa using h1
   simpa [List.lookup,this,jP] using r2
  ·rw [if_neg h2,if_neg h1]
   have e1:(f==n1)=false:=by simpa using h1
   have e2:(f==n2)=false:=by simpa using h2
   simp [List.lookup,e1,e2,jP]
theorem ja {Y:Cx} {C CF fI:Addr} {fd:FuncData} {cn qual base n1 n2:Str} {st:Stmt} {E:XK} {e:Expr} {es:List Expr} {ta:TA} {np cpos pos:Pos} (XC:km Y.K Y.mg C CF fI fd cn qual base n1 n2 st)
  (own:Y.stack=Y.env::Y.outer) (hl:Y.env.frame=some Y.env.locals) (nx:Y.ex=[]) (hc:Y.calm=true) (hr:cT 1 Y.A) (hg:Gl Y cn) (hd:(cn==("__debug__":Str))=false) (ha:PA (Y.wish (XW Y C E)) (e::es) ta)
  (he:starEach (e::es) Y.env=(false,eval e Y.env)::starEach es Y.env) (hpl:(backTo cpos (starEach es Y.env)).any (·.1)=false) :
  PS (Y.wish (XW Y C E)) (.Raise (some (.Call (.Name cn np) (e::es) [] cpos)) none pos) (AM C n1 n2 E ta):=by
 intro pins s σ H D I h
 obtain ⟨nm,q,N,bs,sn,sub,ab,col,dd,k0,kk1,kk2,kk3,k5,mN,lC,nN,i0,iN⟩:=XC.cls
 have hplain:(backTo cpos (starEach (e::es) Y.env)).any (·.1)=false:=by
  rw [he]
  show (false||(backTo cpos (starEach es Y.env)).any (·.1))=false
  rw [hpl]; rfl
 rw [arm_exec_Raise]
 simp only [evalOpt,Option.map]
 refine wpAny_bind (wpAny_standAt (wf (C:=C) (nm:=nm) (q:=q) (N:=N) (bs:=bs) (bm:=.ref CF::VE) (hdct:=true) (sn:=sn) (sub:=sub) (ab:=ab) (col:=col) (dd:=dd) (k0:=k0) (k1:=kk1) (k2:=kk2) (k3:=kk3) (k5:=k5) (newId := "ValueError.__new__") (by rw [List.contains_cons,show VE.contains (.type "BaseException")=true from by decide,Bool.or_true]) (I.ok.hd hc)
  (wpAny_bind (wpAny_mono (wpAny_Call_ofName (iV I.unwish hg XC.gC ?_ hd)) (fun v s3 h3=>wpAny_bind (wpAny_standAt (wpAny_pure h3))) fun _ _ x=>x))))
 unfold callWith
 refine wpAny_bind (wpAny_holding ?_)
 have hb:backTo cpos (starEach (e::es) Y.env)=(false,eval e Y.env)::backTo cpos (starEach es Y.env):=by rw [he]; rfl
 have ha':wpAny (model Y.prog Y.w) Y.A (spliced (backTo cpos (starEach (e::es) Y.env))) (AP (Y.wish (XW Y C E)) pins σ (fun vs H1=>∃ a b,vs=[a,b]∧∀ dx,H1 dx=none→E (.ref C) (some dx) (upd H1 dx (.xd [(n1,a),(n2,b)])))) (XW Y C E) s:=ha cpos pins s σ H _ I h
 rw [hb] at ha' ⊢
 refine wpAny_mono (PySem.Calls.evalArgs_plain (Q:=fun a s2=>a.kw=[]∧AP (Y.wish (XW Y C E)) pins σ (fun vs H1=>∃ a b,vs=[a,b]∧∀ dx,H1 dx=none→E (.ref C) (some dx) (upd H1 dx (.xd [(n1,a),(n2,b)]))) a.pos s2) (wpAny_mono ha' (fun us s2 z=>⟨rfl,z⟩) fun _ _ x=>x)) (fun a s2 z=>?_) fun _ _ x=>x
 obtain ⟨apos,akw⟩:=a
 obtain ⟨hkw,vs,H1,I1,rv,va,vb,rfl,hE⟩:=z
 obtain rfl:akw=[]:=hkw
 dsimp only at rv
 obtain ⟨u1,u2,rfl,r1,r2⟩:∃ u1 u2,apos=[u1,u2]∧bh va u1∧bh vb u2:=by
  cases rv with
  | cons r1 t =>
   cases t with
   | cons r2 t2 =>
    cases t2
    exact ⟨_,_,rfl,r1,r2⟩
 refine wpAny_bind (wpAny_standAt ?_)
 rw [← hb]
 simp only [hplain]
 have kin:=I1.kIn
 obtain ⟨hp,gg,dr,tk0,os⟩:=s2
 refine wpAny_bind (wpAny_keeperOf_exc (kin _ _ lC) ?_)
 refine wpAny_bind ?_
 refine yK (s:=⟨hp,gg,dr,tk0,os⟩) (u1:=u1) (u2:=u2) XC kin (I1.mod.glob.keeps I1.bk) I1.nolimit (by have:=hr.dp; omega) fun h' tk ea dx t' k he hdx ne hobj hns=>?_
 refine wpAny_bind (wpAny_holding (wpAny_point (wpAny_pure ⟨ea,t',dx,rfl,k _ _ (kin _ _ lC),hobj,?_⟩)))
 have I2:Inv (Y.wish (XW Y C E)) pins σ (upd H1 dx (.xd [(n1,va),(n2,vb)])) { (⟨hp,gg,dr,tk0,os⟩:Shared) with heap:=h',toks:=tk }:=I1.laid (t':=tk) k hdx ⟨_,hns,yw XC.ne r1 r2⟩
 have e1:H1 ea=none:=I1.hok.fresh he
 refine ⟨Y.env.locals,ea,dx,_,none,rfl,hl,I2.ok.unwish,nx,I2.sz,I2.os,I2.bare,I2.base,I2.hok,I2.stack,I2.stkFree,⟨⟨_,_,hobj,rfl,rfl,rfl,rfl⟩,Nat.le_trans I1.sz he,?_⟩,.inl rfl,hE dx (I1.hok.fresh hdx)⟩
 rw [bd (Ne.symm ne)]; exact e1
section
variable {X:Cx} {pins:List (Addr×Obj)} {σ:St} {H:Hp} {s:Shared}
theorem zO {M:Model} {A:Around} {E:Value→Shared→Prop} {i:Nat} {x:Str} {pos:Pos} {Q:Unit→Shared→Prop} (I:Inv X pins σ H s) (hN:X.N.Nodup) (hi:X.N[i]?=some x) (hk:X.env.scope.names.lookup x=some .local)
  (h:∀ s',Inv X pins (σ.set i none) H s'→Q () s'):wpAny M A (do bindName X.env x .none; unbindBehindTheSuite X.env x pos) Q E s:=by
 obtain ⟨m,hn,hl⟩:=id I.loc
 have hcls:(X.env.scope.kind==.class||(X.env.scope.kind==.module&&X.env.locals != X.env.globals))=false:=by rw [I.ok.kind]; rfl
 have hiσ:i<σ.length:=by rw [I.len]; exact (List.getElem?_eq_some_iff.mp hi).1
 have cne:=I.cne
 refine wpAny_nameGoes_keeps hk hn hcls (fun h' v hn' hs=>?_)
 obtain ⟨oL,_,_,hoL,_⟩:=id hn
 refine h _ (Inv.tok (s:={ s with heap:=h' }) ⟨I.ok,I.os,I.bare,⟨fun b o e n hb hx=>?_,fun b o e n hb hx=>?_,I.base.free,fun b o e hx=>?_,I.base.tups,I.base.frzs,I.base.tbls⟩,⟨_,hn',fun j y v' e1 e2 e3=>?_⟩,fun y c e=>?_,I.free,I.freeC,fun p hp=>?_,fun b ob e=>?_,by simpa using I.len⟩ _)
 ·exact (hs.2 b (Nat.ne_of_lt (Nat.lt_of_lt_of_le (Heap.lt_size e) I.ok.above))).trans (I.base.keep b o e n hb hx)
 ·obtain ⟨sl,e1⟩:=I.base.slot b o e n hb hx
  exact ⟨sl,(hs.2 b (Nat.ne_of_lt (Nat.lt_of_lt_of_le (Heap.lt_size e) I.ok.above))).trans e1⟩
 ·obtain ⟨o',e1⟩:=I.base.there b o e hx
  exact ⟨o',(hs.2 b (Nat.ne_of_lt (Nat.lt_of_lt_of_le (Heap.lt_size e) I.ok.above))).trans e1⟩
 ·by_cases hj:j=i
  ·subst hj
   rw [List.getElem?_set_self hiσ] at e2
   cases e2
  ·rw [List.getElem?_set_ne (Ne.symm hj)] at e2
   obtain ⟨u',r',q⟩:=hl j y v' e1 e2 e3
   refine ⟨u',r',?_⟩
   rcases q with ⟨k,e⟩ | ⟨k,c,e,z⟩
   ·refine .inl ⟨k,?_⟩
    have:y≠x:=fun e=>hj (jn hN e1 (e ▸ hi))
    simp [this,e]
   ·exact .inr ⟨k,c,e,z.sameBut hs (cne y c e)⟩
 ·obtain ⟨w',z⟩:=I.cell y c e
  exact ⟨w',z.sameBut hs (cne y c e)⟩
 ·obtain ⟨e,n,ne,nf,d⟩:=I.pin p hp
  exact ⟨(hs.2 p.1 ne).trans e,n,ne,nf,d⟩
 ·refine (I.hok b ob e).stay (fun c w' hc q=>(hs.2 c ?_).trans q) (fun _ q=>q) fun _ _ q=>q
  rintro rfl
  rcases hc with rfl | hc
  ·rw [I.free] at e; cases e
  ·rw [I.free] at hc; cases hc
theorem Inv.fly {σ0:St} {H0:Hp} {s0 s':Shared} {ch:List Addr} (I0:Inv X pins σ0 H0 s0) (I:Inv X pins σ H s) (ho:s'.os=s.os) (u:Un (frs X.stack) ch H H s.heap s'.heap) (hok:HOk X.prog X.w H s'.heap) (hg:AllBare s'.gens) (hch:∀ b∈ch,s0.heap.objs.size≤b):Inv X pins σ H s' :=
 I.call' ho u hok hg fun b hb=>by
  have z:=hch b hb
  refine ⟨.inr (Nat.le_trans I0.sz z),Nat.ne_of_gt (Nat.lt_of_lt_of_le I0.lt z),fun x c e=>?_,fun p hp=>?_⟩
  ·obtain ⟨v,o,q,_⟩:=I0.cell x c e
   exact Nat.ne_of_lt (Nat.lt_of_lt_of_le (Heap.lt_size q) z)
  ·exact Nat.ne_of_lt (Nat.lt_of_lt_of_le (Heap.lt_size (I0.pin p hp).1) z)
theorem Ak {fr ch:List Addr} {H:Hp} {h h':Heap} (k:∀ b o,b∉fr→b∉ch→h.get? b=some o→h'.get? b=some o) (sl:∀ b o,b∈fr→b∉ch→h.get? b=some o→∃ sl,h'.get? b=some { o with slots:=sl }):Un fr ch H H h h' :=
 ⟨fun b o q _ nf nx=>k b o nf nx q,fun b o q _ hf nx=>sl b o hf nx q,fun _ _ _ n _=>n,fun b o q nx=>by
  by_cases hb:b∈fr
  ·obtain ⟨s,z⟩:=sl b o hb nx q
   exact ⟨_,z⟩
  ·exact ⟨o,k b o hb nx q⟩,fun _ _ q=>q,fun _ _ _ q=>q,fun _ ps q=>⟨#[],by rw [q]; simp⟩⟩
theorem xW {P:Program} {w:World} {fr ch:List Addr} {H:Hp} {h h':Heap} (ok:HOk P w H h) (k:∀ b o,b∉fr→b∉ch→h.get? b=some o→h'.get? b=some o) (hf:∀ b∈fr,H b=none) (hc:∀ b∈ch,H b=none):HOk P w H h':=fun a o z =>
 (ok a o z).stay (fun b u hb q=>by
  have hb':∃ v,H b=some v:=hb.elim (fun z2=>⟨o,by rw [z2]; exact z⟩) fun z2=>⟨_,z2⟩
  obtain ⟨v,hv⟩:=hb'
  exact k b u (fun z=>by rw [hf b z] at hv; cases hv) (fun z=>by rw [hc b z] at hv; cases hv) q) (fun _ q=>q) fun _ _ q=>q
theorem wy {M:Model} {A:Around} {E:Value→Shared→Prop} {Q:Unit→Shared→Prop} {σ0:St} {H0:Hp} {s0:Shared} {C ea dx L:Addr} (I0:Inv X pins σ0 H0 s0) (I:Inv X pins σ H s) (ex:Exc s0.heap s.heap H C ea dx (some .none)) (sz:s0.heap.objs.size≤s.heap.objs.size) (own:X.stack=X.env::X.outer) (hA:A.frames=some X.stack) (hL:X.env.frame=some L)
  (hQ:∀ s',Inv X pins σ H s'→Exc s0.heap s'.heap H C ea dx (some (rawInt L))→Q () s'):wpAny M A (noteFrame (.ref ea) X.env) Q E s:=by
 obtain ⟨⟨oe,vs,g1,g2,g3,g4,T0,oT,ts,t1,t2,t3,t4,t5,t6,t7⟩,new,fr⟩:=ex
 refine wK (base:=X.base) (outer:=X.outer) (by rw [← own]; exact hA) (by rw [← own]; exact I.stack) hL g1 g4 t1 t3 t4 t5 t2 fun h' T nT n=>?_
 obtain ⟨oe',vs',e1,e2,e3,e4,e5⟩:=n.exc
 obtain ⟨oT',ts',f1,f2,f3⟩:=n.tb
 have hTH:H T=none:=I.hok.fresh nT
 have up:∀ b o,b≠T0→s.heap.get? b=some o→(s.heap.update T0 (Obj.mapFields (·.setIfInBounds 3 .none))).get? b=some o:=fun b o ne q=>(Heap.get?_update_other _ _ (Ne.symm ne)).trans q
 have keep:∀ b o,b∉frs X.stack→b∉[ea,T0,T]→s.heap.get? b=some o→h'.get? b=some o:=fun b o nf nc q=>by
  simp only [List.mem_cons,List.not_mem_nil,or_false,not_or] at nc
  exact n.keep b o (by rw [own] at nf; exact nf) nc.1 nc.2.2 (up b o nc.2.1 q)
 have slot:∀ b o,b∈frs X.stack→b∉[ea,T0,T]→s.heap.get? b=some o→∃ sl,h'.get? b=some { o with slots:=sl }:=fun b o nf nc q=>by
  simp only [List.mem_cons,List.not_mem_nil,or_false,not_or] at nc
  exact n.slot b o (by rw [own] at nf; exact nf) nc.1 nc.2.2 (up b o nc.2.1 q)
 have hcH:∀ b∈[ea,T0,T],H b=none:=fun b hb=>by
  simp only [List.mem_cons,List.not_mem_nil,or_false] at hb
  rcases hb with rfl | rfl | rfl
  ·exact fr
  ·exact t7
  ·exact hTH
 have hc0:∀ b∈[ea,T0,T],s0.heap.objs.size≤b:=fun b hb=>by
  simp only [List.mem_cons,List.not_mem_nil,or_false] at hb
  rcases hb with rfl | rfl | rfl
  ·exact new
  ·exact t6
  ·exact Nat.le_trans sz nT
 refine hQ _ (I0.fly I rfl (Ak keep slot) (xW I.hok keep I.stkFree hcH) I.bare hc0) ⟨⟨oe',vs',e1,e2.trans g2,e3.trans g3,e4,T,oT',ts',e5,n.ne,f1,f2,f3,Nat.le_trans sz nT,hTH⟩,new,fr⟩
theorem kU {M:Model} {A:Around} {E:Value→Shared→Prop} {Q:Unit→Shared→Prop} {σ0:St} {H0:Hp} {s0:Shared} {C ea dx:Addr} {fl:Value} (I0:Inv X pins σ0 H0 s0) (I:Inv X pins σ H s) (ex:Exc s0.heap s.heap H C ea dx (some fl))
  (hQ:∀ s',Inv X pins σ H s'→Exc s0.heap s'.heap H C ea dx (some .none)→Q () s'):wpAny M A (setFlight (.ref ea) none) Q E s:=by
 refine ex.flight (g:=none) fun h' T st hT0 hTH hfT ex'=>hQ _ (I0.fly (ch:=[ea,T]) I rfl (Ak (fun b o nf nc q=>?_) (fun b o hf nc q=>?_)) (xW (fr:=frs X.stack) (ch:=[ea,T]) I.hok (fun b o nf nc q=>?_) I.stkFree fun b hb=>?_) I.bare fun b hb=>?_) ex'
 ·simp only [List.mem_cons,List.not_mem_nil,or_false,not_or] at nc
  exact st.keep b o (by simp) nc.1 nc.2 q
 ·simp only [List.mem_cons,List.not_mem_nil,or_false,not_or] at nc
  exact ⟨_,st.keep b o (by simp) nc.1 nc.2 q⟩
 ·simp only [List.mem_cons,List.not_mem_nil,or_false,not_or] at nc
  exact st.keep b o (by simp) nc.1 nc.2 q
 ·simp only [List.mem_cons,List.not_mem_nil,or_false] at hb
  rcases hb with rfl | rfl
  ·exact ex.free
  ·exact hTH
 ·simp only [List.mem_cons,List.not_mem_nil,or_false] at hb
  rcases hb with rfl | rfl
  ·exact ex.new
  ·exact hT0
theorem vw {M:Model} {A:Around} {E:Value→Shared→Prop} {i:Nat} {x:Str} {v:V} {pos:Pos} {Q:Value→Shared→Prop} (I:Inv X pins σ H s) (hi:X.N[i]?=some x) (hv:σ[i]?=some (some v)) (hk:X.env.scope.names.lookup x=some .local) (hd:(x==("__debug__":Str))=false)
  (h:∀ u,bh v u→Q u s):wpAny M A (eval (.Name x pos) X.env) Q E s:=by
 obtain ⟨m,hn,hl⟩:=I.loc
 obtain ⟨u,r,l⟩:=hl i x v hi hv (.inl hk)
 rcases l with ⟨_,hm⟩ | ⟨hk2,c,hc,hcell⟩
 ·exact wpAny_Name (wpAny_loadName_local I.ok.kind hk hn hm (h u r)) hd
 ·have:X.env.kindOf x=some .local:=hk
  rcases hk2 with z | z<;>rw [this] at z<;>cases z
theorem Exc.same {h0 h h':Heap} {H H':Hp} {C ea dx:Addr} {fl:Option Value} (x:Exc h0 h H C ea dx fl) (k:∀ b o,h0.objs.size≤b→h.get? b=some o→h'.get? b=some o) (hH:∀ b,H b=none→(∃ o,h.get? b=some o)→H' b=none):Exc h0 h' H' C ea dx fl:=by
 obtain ⟨⟨oe,vs,a,b,c,d,m⟩,n,f⟩:=x
 refine ⟨⟨oe,vs,k _ _ n a,b,c,d,?_⟩,n,hH _ f ⟨_,a⟩⟩
 cases fl with
 | none=>exact m
 | some fl=>obtain ⟨T,oT,ts,t1,t2,t3,t4,t5,t6,t7⟩:=m; exact ⟨T,oT,ts,t1,t2,k _ _ t6 t3,t4,t5,t6,hH _ t7 ⟨_,t3⟩⟩
theorem oZ {A:Around} {E:Value→Shared→Prop} {C CF fI ea dx:Addr} {fd:FuncData} {cn qual base n1 n2 f:Str} {st:Stmt} {h0:Heap} {fl:Option Value} {fs:List (Str×V)} {i:Int} {Q:Value→Shared→Prop} {expr:Bool} (XC:km X.K X.mg C CF fI fd cn qual base n1 n2 st)
  (I:Inv X pins σ H s) (ex:Exc h0 s.heap H C ea dx fl) (hx:H dx=some (.xd fs)) (hf:fs.lookup f=some (.int i)) (hfn:f=n1∨f=n2) (hQ:∀ t,Q (.int i t) { s with toks:=s.toks+1 }):wpAny (model X.prog X.w) A (getAttr (.ref ea) f expr) Q E s:=by
 obtain ⟨oe,vs,g1,g2,g3,g4,_⟩:=ex.obj
 obtain ⟨mA,ns,rel⟩:=(show bL X.prog X.w H s.heap dx (.xd fs) from I.hok dx _ hx)
 have ne:dx≠ea:=fun z=>by rw [z,ex.free] at hx; cases hx
 have r:=rel f
 rw [hf] at r
 obtain ⟨t,hm⟩:∃ t,mA f=some (.int i t):=by
  cases q:mA f with
  | none=>rw [q] at r; exact r.elim
  | some u=>rw [q] at r; obtain ⟨t,rfl⟩:=(show ∃ t,u=Value.int i t from r); exact ⟨t,rfl⟩
 obtain ⟨nm,q,N,bs,sn,sub,ab,col,dd,k0,kk1,kk2,kk3,k5,mN,lC,nN,i0,iN⟩:=XC.cls
 have kin:=I.kIn
 obtain ⟨hp,gg,dr,tk0,os⟩:=s
 have fin:f∈("__init__":Str)::XN n1 n2:=by rcases hfn with rfl | rfl<;>simp [XN]
 have fin2:f∈XN n1 n2:=by rcases hfn with rfl | rfl<;>simp [XN]
 have hB:typeLookup (.type "ValueError") f=pure none:=by rcases hfn with rfl | rfl; exact XC.b1; exact XC.b2
 exact rm F.attrBase_ValueError (XC.ot kin) fin (by simp) (by simp [XN]) (by simp [XN]) (kin _ _ lC) (nN.ns kin) (iN _ fin2) (iN _ (by simp [XN])) (iN _ (by simp [XN])) hB
  ⟨oe,g1,g2,(fun c z=>by rw [g4] at z; cases z),.inr ⟨dx,g3,ne,ns⟩⟩ hm rfl (hQ t)
end
def xH (i j:Nat) (C:Addr) (n1 n2:Str) (sp:Sp) (ta:TA):TS:=fun D σ H=>ta σ H fun vs H1=>sp vs H1 (fun v H2=>D.nx (σ.set i (some v)) H2)
 (fun c dxo H2=>∃ dx a b,c=.ref C∧dxo=some dx∧H2 dx=some (.xd [(n1,.int a),(n2,.int b)])∧∀ t,H2 t=none→D.nx ((σ.set i (some (.ref t))).set j none) (upd H2 t (.tup [.int a,.int b])))
section
variable {X:Cx} {C CF fI f:Addr} {fd0 fd:FuncData} {cn qual base n1 n2:Str} {st:Stmt} {k:Nat} {ps:List Str} {sp:Sp} {i j:Nat} {x n g:Str} {e:Expr} {es:List Expr} {ta:TA} {xp gp cp ap np yp q1 q2 q3 q4 q5 q6 hpos pos:Pos} {tk}
theorem uH (XC:km X.K X.mg C CF fI fd0 cn qual base n1 n2 st) (own:X.stack=X.env::X.outer) (hl:X.env.frame=some X.env.locals)
  (hN:X.N.Nodup) (hi:X.N[i]?=some x) (hx:X.env.scope.names.lookup x=some .local) (hj:X.N[j]?=some n) (hn:X.env.scope.names.lookup n=some .local) (hij:i≠j) (hdn:(n==("__debug__":Str))=false)
  (F:aV X.prog X.w X.K X.mg X.base (CXE X.prog X.w X.base C) k f fd ps sp) (hr:cT k X.A) (hg:Gl X g) (hm:X.mg g=some (.ref f)) (hk:keepIn X.K (.ref f)=true) (hb:fF X.K fd ps []) (hdg:(g==("__debug__":Str))=false)
  (hgc:Gl X cn) (hdc:(cn==("__debug__":Str))=false) (ha:∀ W,PA (X.wish W) (e::es) ta)
  (he:starEach (e::es) X.env=(false,eval e X.env)::starEach es X.env) (hpl:(backTo cp (starEach es X.env)).any (·.1)=false)
  (hs1:swapsWith (.Call (.Name g gp) (e::es) [] cp) (some (.Name x xp)) ap.line X.env=pure false) (hs2:swapsWith (.Tuple [.Attribute (.Name n q1) n1 q2,.Attribute (.Name n q3) n2 q4] tk q5) (some (.Name x yp)) q6.line X.env=pure false) :
  PS X (.Try [.Assign [.Name x xp] (.Call (.Name g gp) (e::es) [] cp) ap] [.ExceptHandler (some (.Name cn np)) (some n) [.Assign [.Name x yp] (.Tuple [.Attribute (.Name n q1) n1 q2,.Attribute (.Name n q3) n2 q4] tk q5) q6] hpos] [] [] pos) (xH i j C n1 n2 sp ta):=by
 intro pins s σ H D I h
 rw [arm_exec_Try]
 refine wpAny_bind (wpAny_standAt (wpAny_tryStmt_except ?_))
 obtain ⟨W,hW⟩:∃ W:Value→Shared→Prop,W=(fun e s₁=>wpAny (model X.prog X.w) X.A (noteFrame e X.env) (fun _ s₂=>wpAny (model X.prog X.w) X.A (setFlight e none) (fun _ s₃=>wpAny (model X.prog X.w) X.A (handleBy e X.env [.ExceptHandler (some (.Name cn np)) (some n) [.Assign [.Name x yp] (.Tuple [.Attribute (.Name n q1) n1 q2,.Attribute (.Name n q3) n2 q4] tk q5) q6] hpos]) (SP X pins D) X.xe s₃) X.xe s₂) X.xe s₁):=⟨_,rfl⟩
 rw [← hW]
 refine wpAny_execs_cons (wpAny_Assign_Name (wpAny_Call_Name_kw (iV I hg hm ?_ hdg)) hs1)
 refine PySem.W.callWith_K (h₀:=X.base) I.ok.mod.kin hk (thn (ha W cp pins s σ H _ (I.wish W) h) fun us s1 ⟨vs,H1,I1,r,q⟩=>⟨I1.kIn,?_⟩) he hpl
 have I1:=I1.unwish
 have hl1:us.length=ps.length:=by rw [← r.length]; exact F.len _ _ _ _ q
 refine wpAny_call (codeAny_mono (F.run X.A X.stack s1 H1 ⟨us,[]⟩ us vs _ _ hr I1.env0 (by have:=hb s1 us I1.kIn (by simpa using hl1); simpa using this) r q) fun rr s' hq=>?_)
 cases rr with
 | ok fl =>
  cases fl with
  | ret u =>
   obtain ⟨v,H2,I2,r2,q2⟩:=I1.after hq
   exact dh I2 hN hi (.inl hx) r2 (fun s2 I3=>wpAny_execs_nil (wpAny_execs_nil ⟨_,H2,I3,q2⟩)) (.inr hx)
  | next=>exact False.elim hq
  | brk=>exact False.elim hq
  | cont=>exact False.elim hq
 | error ev =>
  obtain ⟨ea,dx0,H2,rfl,os1,bare1,un1,hok1,fn1,ex1,dx,a,b,_,edx,hdx,qq⟩:=hq
  cases edx
  have I2:Inv X pins σ H2 s':=I1.call' os1 un1 hok1 bare1 (fun b z=>by cases z)
  obtain ⟨oe,vv,g1,_⟩:=ex1.obj
  have sz:s1.heap.objs.size≤s'.heap.objs.size:=Nat.le_of_lt (Nat.lt_of_le_of_lt ex1.new (Heap.lt_size g1))
  show W (.ref ea) s'
  rw [hW]
  refine wy (L:=X.env.locals) I1 I2 ex1 sz own I.ok.frames hl fun s2 I3 ex3=>?_
  refine kU I1 I3 ex3 fun s3 I4 ex4=>?_
  refine wpAny_handleBy_cons (codeAny_handlers_test (Calls.Name_function_global I.ok.kind hgc (Calls.loadGlobal_global (by rw [I4.ok.glob]; exact I4.mod.glob.keeps I4.bk) XC.gC ?_) hdc)) (by intro z; cases z)
  obtain ⟨nm,q,N,bs,sn,sub,ab,col,dd,k0,kk1,kk2,kk3,k5,mN,lC,nN,i0,iN⟩:=XC.cls
  obtain ⟨oe4,vv4,g4,gc4,_⟩:=ex4.obj
  have kin4:=I4.kIn
  obtain ⟨hp,gg,dr,tk0,os⟩:=s3
  refine wpAny_excMatches_sub_self (kin4 _ _ lC) g4 gc4 (by rw [List.contains_cons,show VE.contains (.type "BaseException")=true from by decide,Bool.or_true]) ?_
  show codeAny _ _ _ _ _
  refine codeAny_handlers_suite_as (kU I1 I4 ex4 fun s4 I5 ex5=>?_)
  refine ll (v:=.ref ea) I5 hN hj (.inl hn) rfl (fun s5 I6 hsb=>?_) (.inr hn)
  have ex6:Exc s1.heap s5.heap H2 C ea dx0 (some .none):=ex5.same (fun b o hb q=>by
   obtain ⟨a',hs,ha'⟩:=hsb
   refine (hs.2 b ?_).trans q
   rintro rfl
   rcases ha' with z | z
   ·exact absurd I1.lt (Nat.not_lt.mpr (by rw [← z]; exact hb))
   ·obtain ⟨_,o',q',_⟩:=I1.cell _ _ z
    exact absurd (Heap.lt_size q') (Nat.not_lt.mpr hb)) (fun b z _=>z)
  have hjl:j<σ.length:=by rw [I.len]; exact (List.getElem?_eq_some_iff.mp hj).1
  have hσ:(σ.set j (some (V.ref ea)))[j]?=some (some (V.ref ea)):=List.getElem?_set_self hjl
  refine wpAny_execs_cons (wpAny_Assign_Name (wpAny_Tuple_spliced ?_) hs2)
  have hst:backTo q5 (starEach [.Attribute (.Name n q1) n1 q2,.Attribute (.Name n q3) n2 q4] X.env)=[(false,eval (.Attribute (.Name n q1) n1 q2) X.env),(false,eval (.Attribute (.Name n q3) n2 q4) X.env)]:=by
   rw [ac rfl,ac rfl]; rfl
  rw [hst]
  have l1:([(n1,V.int a),(n2,V.int b)]:List (Str×V)).lookup n1=some (.int a):=by simp [List.lookup]
  have l2:([(n1,V.int a),(n2,V.int b)]:List (Str×V)).lookup n2=some (.int b):=by
   have:(n2==n1)=false:=by simpa using Ne.symm XC.ne
   simp [List.lookup,this]
  refine Calls.spliced_cons (vp rfl (vw I6 hj hσ hn hdn fun u ru=>?_))
  obtain rfl:u=Value.ref ea:=ru
  refine oZ XC I6 ex6 hdx l1 (.inl rfl) fun t1=>?_
  refine Calls.spliced_cons (vp rfl (vw (I6.tok _) hj hσ hn hdn fun u ru=>?_))
  obtain rfl:u=Value.ref ea:=ru
  refine oZ XC (I6.tok _) ex6 hdx l2 (.inr rfl) fun t2=>?_
  refine Calls.spliced_nil ⟨by show 2≤sizeLine; decide,?_⟩
  have I7:=(I6.tok (s5.toks+1)).tok (s5.toks+1+1)
  have hf:H2 s5.heap.objs.size=none:=I7.hok.fresh (Nat.le_refl _)
  have I8:=I7.laid (t':=s5.toks+1+1) (h':=s5.heap.push { cls:=.type "tuple",data:=.seq ([Value.int a t1,Value.int b t2]:List Value).toArray }) (o:=.tup [.int a,.int b]) (fun b u e=>Heap.get?_push_of_some _ e) (Nat.le_refl _)
   ⟨by show 2≤sizeLine; decide,[Value.int a t1,Value.int b t2],.cons ⟨t1,rfl⟩ (.cons ⟨t2,rfl⟩ .nil),⟨_,Heap.get?_push_size _ rfl,rfl,_,rfl⟩,_,Heap.get?_push_size _ rfl,rfl⟩
  refine dh (v:=.ref s5.heap.objs.size) I8 hN hi (.inl hx) rfl (fun s6 I9=>wpAny_execs_nil ?_) (.inr hx)
  refine zO I9 hN hj hn fun s7 Ia=>⟨_,_,Ia,?_⟩
  have es:((σ.set j (some (V.ref ea))).set i (some (V.ref s5.heap.objs.size))).set j none=(σ.set i (some (V.ref s5.heap.objs.size))).set j none:=by
   rw [List.set_comm _ _ (Ne.symm hij),List.set_set]
  rw [es]
  exact qq _ hf
end
end L2
namespace K6
open PySem L2
def Er (C:Addr) (H:Hp) (E:XK) (i j:Int):Prop:=∀ H1 dx,aO H H1→H1 dx=none→E (.ref C) (some dx) (upd H1 dx (.xd [("function",.int i),("line",.int j)]))
def BY (K:Frag) (C:Addr):Sp:=fun vs H Q E=>∃ a,vs=[.ref a]∧((∃ ys,H a=some (.tup ys)∧ys.length<2∧Er C H E (-1) (-1))∨(∃ ra z c ys,H a=some (.tup [.ref ra,z])∧H ra=some (.tup [.ref c])∧H c=some (.tup ys)∧ys.length<2∧Er C H E (-1) (-1)) ∨
 (∃ ra z x,H a=some (.tup [.ref ra,.ref z])∧H ra=some (.tup [])∧H z=some (.tup [x])∧(HdF H x∧Er C H E 0 (-1) ∨
  ∃ F ds m r,dZ K H x F∧HP [] F.1∧ld K H x ds∧ds.length≤100∧FW (fL [] [F.1] (F.1.2.1++F.1.2.2.1) F.1.2.2.2) m (ds.reverse.map fun x=>(x,1)) 0 r∧(r=none→∀ H',aO H H'→Q (.bl true) H')∧∀ k,r=some k→Er C H E 0 (k:Int))))
theorem zW:vE []:=fun i r h=>by simp at h
section
variable {P:Program} {w:World} {K:Frag} {mg:Str→Option Value} {base:Heap} {f g:Addr} {fd gd:FuncData}
theorem CY {C CF fI:Addr} {fdI:FuncData} {qual bn:Str} {st:Stmt} (XC:km K mg C CF fI fdI "NoProgram" qual bn "function" "line" st) (TE:mg "enumerate"=none) (mFx:∃ t,mg "MOST_FUNCTIONS"=some (.int 6 t)) (F:Fun K "right_program" "right_program" cC f fd) (D_is_tuple_of:Cal P w K mg base 1 "is_tuple_of" ["thing", "least", "most"] qm)
  (D_are_records:Cal P w K mg base 3 "are_records" ["thing"] AD) (D_is_headed:Cal P w K mg base 3 "is_headed" ["records", "ahead", "thing"] (Cu K)) (D_first_wrong_line:Cal P w K mg base 33 "first_wrong_line" ["program", "function"] (CB K)):aV P w K mg base (CXE P w base C) 35 f fd ["thing"] (BY K C):=by
 obtain ⟨g_first_wrong_line,gd_first_wrong_line,G_first_wrong_line,b_first_wrong_line,k_first_wrong_line,m_first_wrong_line⟩:=D_first_wrong_line.ex
 obtain ⟨g_is_headed,gd_is_headed,G_is_headed,b_is_headed,k_is_headed,m_is_headed⟩:=D_is_headed.ex
 obtain ⟨g_is_tuple_of,gd_is_tuple_of,G_is_tuple_of,b_is_tuple_of,k_is_tuple_of,m_is_tuple_of⟩:=D_is_tuple_of.ex
 obtain ⟨g_are_records,gd_are_records,G_are_records,b_are_records,k_are_records,m_are_records⟩:=D_are_records.ex
 obtain ⟨tF,mFu⟩:=mFx
 refine F.okX bx (fun vs H Q EX h=>?_) (fun cdv A outer s H vs Q EX hr h=>?_)
 ·obtain ⟨a,rfl,_⟩:=h
  rfl
 obtain ⟨a,rfl,h⟩:=h
 refine ⟨_,(@am _ _ _ _ _ (@aT _ _ _ _ _ _ _ _ (PW.pt (bK (bc (aW (@au _ _ _ _ _ _ _ _ _ _ _ _ _ _ _ _ G_is_tuple_of (hr.mono (by omega)) rfl m_is_tuple_of k_is_tuple_of b_is_tuple_of .nil aI (@ad _ _ _ _ _ (pv 0) (@ad _ _ _ _ _ aj (@ad _ _ _ _ _ aj ah (ac rfl)) (ac rfl)) (ac rfl)) (by decide) (ac rfl) (ak rfl)))) (bK (bc (aW (@au _ _ _ _ _ _ _ _ _ _ _ _ _ _ _ _ G_are_records (hr.mono (by omega)) rfl m_are_records k_are_records b_are_records .nil aI (@ad _ _ _ _ _ (@aA _ _ _ _ _ _ _ av (pv 0) aj (fun _ _=>rfl)) ah (ac rfl)) (by decide) (ac rfl) (ak rfl)))) (bP (bc (aW (@au _ _ _ _ _ _ _ _ _ _ _ _ _ _ _ _ G_is_tuple_of (hr.mono (by omega)) rfl m_is_tuple_of k_is_tuple_of b_is_tuple_of .nil aI (@ad _ _ _ _ _ (@aA _ _ _ _ _ _ _ av (pv 0) aj (fun _ _=>rfl)) (@ad _ _ _ _ _ aj (@ad _ _ _ _ _ (aX (v:=.int 6) rfl mFu ⟨_,rfl⟩) ah (ac rfl)) (ac rfl)) (ac rfl)) (by decide) (ac rfl) (ak rfl)))))))) (@ao _ _ _ (ja XC rfl rfl rfl rfl (hr.mono (by omega)) rfl rfl (@ad _ _ _ _ _ (fJ cS aj) (@ad _ _ _ _ _ (fJ cS aj) ah (ac rfl)) (ac rfl)) (ac rfl) (ak rfl))) aE) (@am _ _ _ _ _ (@cB _ _ _ _ _ _ _ _ (XW.passes rfl rfl) rfl (jL rfl TE (@aA _ _ _ _ _ _ _ av (pv 0) aj (fun _ _=>rfl))) (qZ rfl (dg (aQ (i:=1) bx.nd rfl (Or.inl rfl)) (dg (aQ (i:=2) bx.nd rfl (Or.inl rfl)) lJ))) (@ao _ _ _ (@aT _ _ _ _ _ _ _ _ (bc (aW (@au _ _ _ _ _ _ _ _ _ _ _ _ _ _ _ _ G_is_headed (hr.mono (by omega)) rfl m_is_headed k_is_headed b_is_headed .nil aI (@ad _ _ _ _ _ (@aA _ _ _ _ _ _ _ av (pv 0) aj (fun _ _=>rfl)) (@ad _ _ _ _ _ (@eO _ _ _ _ _ _ _ _ _ _ (nR.or iR) (@aA _ _ _ _ _ _ _ av (pv 0) aj (fun _ _=>rfl)) gy (gR (pv 1))) (@ad _ _ _ _ _ (pv 2) ah (ac rfl)) (ac rfl)) (ac rfl)) (by decide) (ac rfl) (ak rfl)))) (@ao _ _ _ (ja XC rfl rfl rfl rfl (hr.mono (by omega)) rfl rfl (@ad _ _ _ _ _ (pv 1) (@ad _ _ _ _ _ (fJ cS aj) ah (ac rfl)) (ac rfl)) (ac rfl) (ak rfl))) aE)) (fun _=>rfl)) (@am _ _ _ _ _ (@cB _ _ _ _ _ _ _ _ (XW.passes rfl rfl) rfl (jL rfl TE (@aA _ _ _ _ _ _ _ av (pv 0) aj (fun _ _=>rfl))) (qZ rfl (dg (aQ (i:=1) bx.nd rfl (Or.inl rfl)) (dg (aQ (i:=2) bx.nd rfl (Or.inl rfl)) lJ))) (@am _ _ _ _ _ (@aR _ _ 3 _ _ _ _ bx.nd rfl (Or.inl rfl) (@au _ _ _ _ _ _ _ _ _ _ _ _ _ _ _ _ G_first_wrong_line (hr.mono (by omega)) rfl m_first_wrong_line k_first_wrong_line b_first_wrong_line .nil aI (@ad _ _ _ _ _ (pv 0) (@ad _ _ _ _ _ (pv 2) ah (ac rfl)) (ac rfl)) (by decide) (ac rfl) (ak rfl)) (aC rfl) (.inr rfl)) (@ao _ _ _ (@aT _ _ _ _ _ _ _ _ (@aD _ _ _ _ _ _ _ _ vN (pv 3) bE (aJ _)) (@ao _ _ _ (ja XC rfl rfl rfl rfl (hr.mono (by omega)) rfl rfl (@ad _ _ _ _ _ (pv 1) (@ad _ _ _ _ _ (pv 3) ah (ac rfl)) (ac rfl)) (ac rfl) (ak rfl))) aE))) (fun _=>rfl)) (@ao _ _ _ (@ay _ _ _ _ bo))))),?_⟩
 rcases h with ⟨ys,ha,hl,er⟩ | ⟨ra,z,c,ys,ha,hra,hc,hl,er⟩ | ⟨ra,z,x,ha,hra,hz,h⟩
 ·refine ⟨_,rfl,.inr ⟨a,2,2,ys,rfl,ha,by omega,_,rfl,bz ?_⟩⟩
  exact bz ⟨_,rfl,_,rfl,_,_,rfl,fun dx hd=>er _ dx (aO.refl _) hd⟩
 ·refine ⟨_,rfl,.inl ⟨a,2,2,_,rfl,ha,by simp,by simp,_,rfl,bv ?_⟩⟩
  refine ⟨_,rfl,a,_,_,_,rfl,rfl,SqT.of ha,rfl,ra,_,false,rfl,hra,.inr ⟨⟨c,ys,rfl,hc,hl⟩,rfl⟩,fun H2 g2=>⟨_,rfl,bz ?_⟩⟩
  exact bz ⟨_,rfl,_,rfl,_,_,rfl,fun dx hd=>er _ dx g2 hd⟩
 refine ⟨_,rfl,.inl ⟨a,2,2,_,rfl,ha,by simp,by simp,_,rfl,bv ?_⟩⟩
 refine ⟨_,rfl,a,_,_,_,rfl,rfl,SqT.of ha,rfl,ra,_,true,rfl,hra,.inl ⟨rfl,rfl⟩,fun H2 g2=>⟨_,rfl,bv ?_⟩⟩
 refine ⟨_,rfl,a,_,_,_,rfl,rfl,SqT.of (g2 _ _ ha),rfl,.inl ⟨z,1,6,_,rfl,g2 _ _ hz,by simp,by simp,_,rfl,bv ?_⟩⟩
 rcases h with ⟨hf,er⟩ | ⟨FF,ds,m,r,hfun,hp,hbod,hd100,hfw,qn,qe⟩
 ·refine ⟨_,rfl,a,_,_,_,rfl,rfl,SqT.of (g2 _ _ ha),rfl,z,rfl,⟨_,SqT.of (g2 _ _ hz)⟩,fk (xs:=[x]) (fun i σ H'=>∃ m1 m2,σ=[some (.ref a),m1,m2,none]∧aO H H'∧i=0) ⟨none,none,rfl,g2,rfl⟩ (fun i σ H' _ p=>?_) (fun i x' σ H' p hx hh hp=>?_) (fun σ H' p=>?_)⟩
  ·obtain ⟨_,_,rfl,g,_⟩:=p
   exact SqT.of (g _ _ hz)
  ·obtain ⟨m1,m2,rfl,g,rfl⟩:=hh
   cases hx
   have g1:=g.trans (ag hp (.tup [.int ((0:Nat):Int),x]))
   refine ⟨p,_,rfl,SqT.of af,rfl,_,_,rfl,_,_,rfl,rfl,?_⟩
   refine ⟨_,rfl,a,_,_,_,rfl,rfl,SqT.of (g1 _ _ ha),rfl,_,rfl,a,_,_,_,rfl,rfl,SqT.of (g1 _ _ ha),rfl,_,rfl,_,rfl,?_⟩
   refine iS (g1 _ _ hz) fun pc H2 g2 hpc=>?_
   have G2:=g1.trans g2
   refine ⟨_,rfl,.inr ⟨_,_,_,rfl,hf.mono (ar G2),_,rfl,bz ?_⟩⟩
   exact ⟨_,rfl,_,rfl,_,_,rfl,fun dx hd=>er _ dx G2 hd⟩
  ·obtain ⟨_,_,rfl,g,e0⟩:=p
   cases e0
 have hpg:∀ {Hx:Hp},aO H Hx→ku K Hx (.ref a) [] [FF]:=fun gx=>⟨a,.ref ra,z,[x],rfl,gx _ _ ha,⟨ra,[],rfl,gx _ _ hra,.nil⟩,gx _ _ hz,.cons (hfun.mono (ar gx)) .nil⟩
 refine ⟨_,rfl,a,_,_,_,rfl,rfl,SqT.of (g2 _ _ ha),rfl,z,rfl,⟨_,SqT.of (g2 _ _ hz)⟩,fk (xs:=[x]) (fun i σ H'=>∃ m1 m2,σ=[some (.ref a),m1,m2,none]∧aO H H') ⟨none,none,rfl,g2⟩ (fun i σ H' _ p=>?_) (fun i x' σ H' p hx hh hp'=>?_) (fun σ H' p=>?_)⟩
 ·obtain ⟨_,_,rfl,g⟩:=p
  exact SqT.of (g _ _ hz)
 ·obtain ⟨m1,m2,rfl,g⟩:=hh
  have hi:=(List.getElem?_eq_some_iff.mp hx).1
  obtain rfl:i=0:=by simp at hi; exact hi
  cases hx
  have g1:=g.trans (ag hp' (.tup [.int ((0:Nat):Int),x]))
  refine ⟨p,_,rfl,SqT.of af,rfl,_,_,rfl,_,_,rfl,rfl,?_⟩
  refine ⟨_,rfl,a,_,_,_,rfl,rfl,SqT.of (g1 _ _ ha),rfl,_,rfl,a,_,_,_,rfl,rfl,SqT.of (g1 _ _ ha),rfl,_,rfl,_,rfl,?_⟩
  refine iS (g1 _ _ hz) fun pc H2 g2 hpc=>?_
  have G2:=g1.trans g2
  exact ⟨_,rfl,.inl ⟨ra,[],[],pc,[],[],x,FF,rfl,G2 _ _ hra,.nil,by simp,hpc,.nil,by simp,hfun.mono (ar G2),by simp,hp,fun H3 g3=>⟨_,rfl,bv ⟨_,_,rfl,G2.trans g3⟩⟩⟩⟩
 ·obtain ⟨m1,m2,rfl,g⟩:=p
  refine ⟨_,rfl,a,_,_,_,rfl,rfl,SqT.of (g _ _ ha),rfl,z,rfl,⟨_,SqT.of (g _ _ hz)⟩,fk (xs:=[x]) (fun i σ H'=>∃ m1 m2 m3,σ=[some (.ref a),m1,m2,m3]∧aO H H'∧(0<i→r=none)) ⟨m1,m2,none,rfl,g,fun z=>absurd z (by omega)⟩ (fun i σ H' _ p=>?_) (fun i x' σ H' p hx hh hp'=>?_) (fun σ H' p=>?_)⟩
  ·obtain ⟨_,_,_,rfl,g,_⟩:=p
   exact SqT.of (g _ _ hz)
  ·obtain ⟨m1,m2,m3,rfl,g,_⟩:=hh
   have hi:=(List.getElem?_eq_some_iff.mp hx).1
   obtain rfl:i=0:=by simp at hi; exact hi
   cases hx
   have g1:=g.trans (ag hp' (.tup [.int ((0:Nat):Int),x]))
   refine ⟨p,_,rfl,SqT.of af,rfl,_,_,rfl,_,_,rfl,rfl,?_⟩
   refine ⟨_,rfl,_,rfl,.ref a,x,[],[FF],FF,ds,m,r,rfl,hpg g1,by simp,zW.looks,hfun.mono (ar g1),hp.nd,hp.l5,fun F' hF'=>?_,hbod.mono (ar g1),hd100,hfw,fun H3 g3=>?_⟩
   ·rw [List.mem_singleton.mp hF']
    exact ⟨by have:=hp.p2; omega,fun p hp''=>xo zW (hp.vs p (List.mem_append_left _ hp'')).2⟩
   ·have G3:=g1.trans g3
    cases r with
    | none =>
     refine ⟨_,rfl,rfl,_,rfl,bv ?_⟩
     exact ⟨_,_,_,rfl,G3,fun _=>rfl⟩
    | some k =>
     refine ⟨_,rfl,rfl,_,rfl,bz ?_⟩
     exact ⟨_,rfl,_,rfl,_,_,rfl,fun dx hd=>qe k rfl _ dx G3 hd⟩
  ·obtain ⟨_,_,_,rfl,g,e0⟩:=p
   exact qn (e0 (by simp)) _ g
end
open PySem L2
def VD:Nat→PyData
 | 0=>.tuple []
 | n+1=>.tuple [VD n]
def en:Nat→E
 | 0=>.num 1
 | k+1=>if k % 2=0 then .add (en k) (.num (k:Int)) else .add (.num (k:Int)) (en k)
def cn:Nat→C
 | 0=>.less (.num 1) (.num 1)
 | k+1=>.not_ (cn k)
def cw:C:=.less (.num 0) (.num 1)
def wn:Nat→List S
 | 0=>[]
 | k+1=>[.while_ cw (wn k)]
theorem vG:∀ k,cD (en k).d=1+2*k
 | 0=>rfl
 | k+1=>by
  have ih:=vG k
  rw [en]
  split<;>simp only [E.d,cD,cDs,isS,ih]<;>simp [cD,cDs,isS]<;>omega
theorem yl:∀ k,(en k).d.depth≤k+3
 | 0=>by decide
 | k+1=>by
  have ih:=yl k
  rw [en]
  split<;>simp only [E.d,PyData.depth,PyData.depthAll]<;>omega
theorem Ab {R:List Rec} {V:List Fld}:∀ k,k≤100→Ok R V (en k) "num"
 | 0,_=>by simp only [en,Ok]; exact ⟨(by first | rfl | trivial),by decide,by decide⟩
 | k+1,h=>by
  have ih:=Ab (R:=R) (V:=V) k (by omega)
  rw [en]
  split<;>simp only [Ok]
  ·exact ⟨(by first | rfl | trivial),ih,(by first | rfl | trivial),by omega,by omega⟩
  ·exact ⟨(by first | rfl | trivial),⟨(by first | rfl | trivial),by omega,by omega⟩,ih⟩
theorem nL:∀ k,(cn k).cnt=k+1
 | 0=>rfl
 | k+1=>by rw [cn,C.cnt,nL k]; omega
theorem tQ:∀ k,(cn k).d.depth≤k+5
 | 0=>by decide
 | k+1=>by
  have ih:=tQ k
  simp only [cn,C.d,PyData.depth,PyData.depthAll]
  omega
theorem yX {R:List Rec} {V:List Fld}:∀ k,OkC R V (cn k)
 | 0=>by simp only [cn,OkC,Ok]; exact ⟨⟨(by first | rfl | trivial),by decide,by decide⟩,(by first | rfl | trivial),⟨(by first | rfl | trivial),by decide,by decide⟩,(by first | rfl | trivial),by decide,by decide⟩
 | k+1=>by simp only [cn,OkC]; exact yX k
theorem Ad {R:List Rec} {V:List Fld}:OkC R V cw∧cw.cnt≤6:=by
 refine ⟨?_,by decide⟩
 simp only [cw,OkC,Ok]
 exact ⟨⟨(by first | rfl | trivial),by decide,by decide⟩,(by first | rfl | trivial),⟨(by first | rfl | trivial),by decide,by decide⟩,(by first | rfl | trivial),by decide,by decide⟩
theorem AC {R:List Rec} {HS:List uL} {V:List Fld} {gv:Str}:∀ k,tm R HS V gv (wn k)
 | 0=>by simp only [wn,tm]
 | k+1=>by simp only [wn,tm,OkS]; exact ⟨⟨Ad,AC k⟩,trivial⟩
abbrev H9:uL:=("main",[("n", "num")],[], "num")
abbrev J9:PyData→Bool→Prop:=fL [] [H9] (H9.2.1++H9.2.2.1) H9.2.2.2
def fK (i:Int):S:=.give (.num i)
theorem Be {i:Int} (h:-1000000≤i∧i≤1000000):J9 (fK i).d true:=.ok (fK i) (by simp only [fK,S.top,S.d,E.d,PyData.depth,PyData.depthAll]; omega) (by simp only [fK,OkS,Ok]; exact ⟨⟨(by first | rfl | trivial),h⟩,by simp [E.d,cD,cDs,isS]⟩)
theorem Dx (k:Nat):J9 (S.while_ cw (wn k)).d true:=.ok (.while_ cw (wn k)) (show (S.while_ cw []).d.depth≤23 by decide) (by simp only [OkS]; exact ⟨Ad,AC k⟩)
theorem Cw {k:Nat} (h:k≤5):J9 (S.let_ "n" (en k)).d true:=.ok (.let_ "n" (en k)) (by have:=yl k; simp only [S.top,S.d,PyData.depth,PyData.depthAll]; omega) (by simp only [OkS]; exact ⟨"num",by decide +kernel,Ab k (by omega),by rw [vG]; omega⟩)
theorem AW {k:Nat} (h:6≤k) (h2:k≤40):J9 (S.let_ "n" (en k)).d false:=.let_ "n" "num" (en k) (by decide +kernel) (by rw [vG]; omega) (by rw [vG]; omega)
theorem Ca {k:Nat} (h:k≤5):J9 (S.say "good" (cn k)).d true:=.ok (.say "good" (cn k)) (by have:=tQ k; simp only [S.top,S.d,PyData.depth,PyData.depthAll]; omega) (by simp only [OkS]; exact ⟨by decide +kernel,yX k,by rw [nL]; omega⟩)
theorem AH {k:Nat} (h:6≤k) (h2:k≤18):J9 (S.say "good" (cn k)).d false:=.say "good" (cn k) (by decide +kernel) (yX k) (by have:=tQ k; omega) (by rw [nL]; omega) (by rw [nL]; omega)
theorem xU {k:Nat} (h:2≤k):J9 (VD k) false:=by
 obtain ⟨n,rfl⟩:∃ n,k=n+2:=⟨k - 2,by omega⟩
 exact .void _ _
theorem Bv {x:PyData} {m:Nat} {r:Option Nat} (h:FW J9 m [(x,1)] 1 r):FW J9 (m+1) [(x,1),((fK 0).d,1)] 0 r:=.go (ts:=[(x,1)]) (s:=fK 0) (d:=1) rfl (by omega) (by omega) (Be (by omega)) (by simp [dw,tkb,fK,S.bods]) (by simpa [dw,tkb,fK,S.bods] using h)
theorem gQ {x:PyData} {k:Nat} (h:J9 x false) (hk:k<30):FW J9 0 [(x,1)] k (some k):=.stop (ts:=[]) (t:=(x,1)) rfl hk (.inr ⟨by show 1≤5; omega,h⟩)
theorem pV {s:S} (h:J9 s.d true) (hb:s.bods=[]):FW J9 1 [(s.d,1)] 1 none:=.go (ts:=[]) (s:=s) (d:=1) rfl (by omega) (by omega) h (by simp [dw,tkb,hb]) (by simp [dw,tkb,hb]; exact .nil)
theorem fz {k d m:Nat} {r:Option Nat} (hd:d≤5) (h:FW J9 m (tks (wn k) (d+1)) (d+1) r):FW J9 (m+1) [((S.while_ cw (wn k)).d,d)] d r:=by
 have e:dw (S.while_ cw (wn k)) d=tks (wn k) (d+1):=by simp [dw,tkb,S.bods]
 refine .go (ts:=[]) (s:=.while_ cw (wn k)) (d:=d) rfl (by omega) hd (Dx k) ?_ (by rw [List.nil_append,e]; exact h)
 rw [List.nil_append,e,vn]
 cases k<;>simp [wn]
theorem AO (j:Nat):FW J9 5 [((S.while_ cw (wn (j+5))).d,1)] 1 (some 6) :=
 fz (by omega) (fz (k:=j+4) (by omega) (fz (k:=j+3) (by omega) (fz (k:=j+2) (by omega) (fz (k:=j+1) (by omega) (.stop (ts:=[]) (t:=((S.while_ cw (wn j)).d,6)) rfl (by omega) (.inl (by show 5<6; omega)))))))
theorem zK:FW J9 5 [((S.while_ cw (wn 4)).d,1)] 1 none:=fz (by omega) (fz (k:=3) (by omega) (fz (k:=2) (by omega) (fz (k:=1) (by omega) (fz (k:=0) (by omega) .nil))))
inductive R9 (K:Frag) (H:Hp) (a:Addr):Option (Int×Int)→Prop
 | whole {ys:List V}:H a=some (.tup ys)→ys.length<2→R9 K H a (some (-1,-1))
 | recs {ra c:Addr} {z:V} {ys:List V}:H a=some (.tup [.ref ra,z])→H ra=some (.tup [.ref c])→H c=some (.tup ys)→ys.length<2→R9 K H a (some (-1,-1))
 | head {ra z:Addr} {x:V}:H a=some (.tup [.ref ra,.ref z])→H ra=some (.tup [])→H z=some (.tup [x])→HdF H x→R9 K H a (some (0,-1))
 | body {ra z:Addr} {x:V} {F:ql} {ds:List PyData} {m:Nat} {r:Option Nat}:H a=some (.tup [.ref ra,.ref z])→H ra=some (.tup [])→H z=some (.tup [x])→dZ K H x F→HP [] F.1→ld K H x ds→ds.length≤100 →
   FW (fL [] [F.1] (F.1.2.1++F.1.2.2.1) F.1.2.2.2) m (ds.reverse.map fun x=>(x,1)) 0 r→R9 K H a (r.map fun k=>(0,(k:Int)))
theorem R9.sp {K:Frag} {H:Hp} {a C:Addr} {ans:Option (Int×Int)} {Q:VK} {E:XK} (h:R9 K H a ans) (q:ans=none→∀ H',aO H H'→Q (.bl true) H') (e:∀ i j,ans=some (i,j)→Er C H E i j):BY K C [.ref a] H Q E:=by
 refine ⟨a,rfl,?_⟩
 cases h with
 | whole h1 h2=>exact .inl ⟨_,h1,h2,e _ _ rfl⟩
 | recs h1 h2 h3 h4=>exact .inr (.inl ⟨_,_,_,_,h1,h2,h3,h4,e _ _ rfl⟩)
 | head h1 h2 h3 h4=>exact .inr (.inr ⟨_,_,_,h1,h2,h3,.inl ⟨h4,e _ _ rfl⟩⟩)
 | body h1 h2 h3 h4 h5 h6 h7 h8=>exact .inr (.inr ⟨_,_,_,h1,h2,h3,.inr ⟨_,_,_,_,h4,h5,h6,h7,h8,fun z=>q (by rw [z]; rfl),fun k z=>e _ _ (by rw [z]; rfl)⟩⟩)
def dm (H:Hp) (v:V) (ans:Option (Int×Int)):Prop:=(ans=none∧v=.bl true)∨∃ t p,ans=some p∧v=.ref t∧H t=some (.tup [.int p.1,.int p.2])
theorem dm.mono {H H':Hp} (t:Tk H H') {v:V} {ans:Option (Int×Int)} (h:dm H v ans):dm H' v ans:=h.imp id fun ⟨a,p,e1,e2,e3⟩=>⟨a,p,e1,e2,t _ _ e3⟩
def Cr:Option (Int×Int)→PyData
 | none=>.bool true
 | some p=>.tuple [.int p.1,.int p.2]
theorem dm.rd {K:Frag} {H:Hp} {v:V} {ans:Option (Int×Int)} (h:dm H v ans):RdD K H v (Cr ans):=by
 rcases h with ⟨rfl,rfl⟩ | ⟨t,p,rfl,rfl,h⟩
 ·exact .bl true
 ·exact .tup (SqT.of h) (.cons (.int _) (.cons (.int _) .nil))
structure CalX (P:Program) (w:World) (K:Frag) (mg:Str→Option Value) (base:Heap) (C:Addr) (k:Nat) (x:Str) (ps:List Str) (sp:Sp):Prop where
 ex:∃ g gd,aV P w K mg base (CXE P w base C) k g gd ps sp∧fF K gd ps []∧keepIn K (.ref g)=true∧mg x=some (.ref g)
section
variable {P:Program} {w:World} {K:Frag} {mg:Str→Option Value} {base:Heap} {f g:Addr} {fd gd:FuncData}
abbrev wX:List Str:=["_law_thing", "_law_told_here", "_law_e"]
theorem io:aK wX ["_law_thing"] (defScope jG):=⟨rfl,rfl,rfl,by decide +kernel,rfl,by decide +kernel,by decide +kernel⟩
def me (K:Frag):Sp:=fun vs H Q _=>∃ a ans,vs=[.ref a]∧R9 K H a ans∧∀ v H',aO H H'→dm H' v ans→Q v H'
theorem zu {C CF fI:Addr} {fdI:FuncData} {qual bn:Str} {st:Stmt} (XC:km K mg C CF fI fdI "NoProgram" qual bn "function" "line" st) (F:Fun K "_law_told" "_law_told" jG f fd) (D_right_program:CalX P w K mg base C 35 "right_program" ["thing"] (BY K C)):aV P w K mg base CX0 36 f fd ["_law_thing"] (me K):=by
 obtain ⟨g_rp,gd_rp,G_rp,b_rp,k_rp,m_rp⟩:=D_right_program.ex
 refine F.ok io (fun vs H Q EX h=>?_) (fun cdv A outer s H vs Q EX hr h=>?_)
 ·obtain ⟨a,ans,rfl,_⟩:=h
  rfl
 obtain ⟨a,ans,rfl,hR,q⟩:=h
 refine ⟨_,(@am _ _ _ _ _ (@aR _ _ 1 _ _ _ _ io.nd rfl (Or.inl rfl) bE (aC rfl) (.inr rfl)) (@am _ _ _ _ _ (uH (i:=1) (j:=2) XC rfl rfl io.nd rfl rfl rfl rfl (by decide) rfl G_rp (hr.mono (by omega)) rfl m_rp k_rp b_rp rfl rfl rfl (fun W=>@ad _ _ _ _ _ (pv 0) ah (ac rfl)) (ac rfl) (ak rfl) (aC rfl) (aC rfl)) (@ao _ _ _ (@ay _ _ _ _ (pv 1))))),?_⟩
 refine ⟨_,rfl,?_⟩
 dsimp only [uv]
 refine hR.sp (fun e H' g=>?_) (fun i j e=>?_)
 ·exact ⟨_,rfl,q _ _ g (.inl ⟨e,rfl⟩)⟩
 ·intro H1 dx g1 hdx
  refine ⟨dx,i,j,rfl,rfl,af,fun t ht=>⟨_,rfl,q _ _ ((g1.trans (ag hdx _)).trans (ag ht _)) (.inr ⟨t,(i,j),e,rfl,af⟩)⟩⟩
end
open PySem L2
theorem sz (n:Nat) (h:n≤10):n≤sizeLine:=by rw [sizeLine_eq]; omega
structure PgL (H:Hp) (a:Addr) (x:V) (ra z fa pn pq lo bb gv gn:Addr):Prop where
 a:H a=some (.tup [.ref ra,.ref z])
 ra:H ra=some (.tup [])
 z:H z=some (.tup [.ref fa])
 fa:H fa=some (.tup [.str "main",.ref pn,.ref lo,.str "num",.ref bb])
 pn:H pn=some (.tup [.ref pq])
 pq:H pq=some (.tup [.str "n",.str "num"])
 lo:H lo=some (.tup [])
 bb:H bb=some (.tup [.ref gv,x])
 gv:H gv=some (.tup [.str "give",.ref gn])
 gn:H gn=some (.tup [.str "num",.int 0])
def Pg9 (H:Hp) (a:Addr) (x:V):Prop:=∃ ra z fa pn pq lo bb gv gn,PgL H a x ra z fa pn pq lo bb gv gn
theorem PgL.mono {H H':Hp} {a:Addr} {x:V} {ra z fa pn pq lo bb gv gn:Addr} (t:Tk H H') (h:PgL H a x ra z fa pn pq lo bb gv gn):PgL H' a x ra z fa pn pq lo bb gv gn:=⟨t _ _ h.a,t _ _ h.ra,t _ _ h.z,t _ _ h.fa,t _ _ h.pn,t _ _ h.pq,t _ _ h.lo,t _ _ h.bb,t _ _ h.gv,t _ _ h.gn⟩
theorem hp9:HP [] H9:=⟨by decide +kernel,by decide,by decide,by decide +kernel,by decide +kernel,by decide +kernel⟩
theorem PgL.r9 {K:Frag} {H:Hp} {a:Addr} {x:V} {ra z fa pn pq lo bb gv gn:Addr} {d:PyData} {m:Nat} {r:Option Nat} (h:PgL H a x ra z fa pn pq lo bb gv gn) (dx:DT K H x d) (fw:FW J9 m [(d,1)] 1 r):R9 K H a (r.map fun k=>(0,(k:Int))) :=
 .body (F:=(H9,[])) (ds:=[(fK 0).d,d]) h.a h.ra h.z ⟨fa,.ref pn,.ref lo,bb,_,rfl,h.fa,⟨pn,_,rfl,h.pn,.cons ⟨pq,rfl,h.pq⟩ .nil⟩,⟨lo,_,rfl,h.lo,.nil⟩,h.bb⟩ hp9
  ⟨fa,_,_,_,_,bb,_,rfl,h.fa,h.bb,.cons (by simp only [fK,S.d,E.d]; exact .tup (.inl h.gv) (.cons (.str _) (.cons (.tup (.inl h.gn) (.cons (.str _) (.cons (.int _) .nil))) .nil))) (.cons dx .nil)⟩ (by simp) (Bv fw)
theorem DN {i:Nat} (c:decide (V.int ((i:Int) % 2)=V.int 0)=true):en (i+1)=.add (en i) (.num (i:Int)):=by
 have:=V.int.inj (of_decide_eq_true c)
 rw [en,if_pos (by omega)]
theorem Dm {i:Nat} (c:¬ decide (V.int ((i:Int) % 2)=V.int 0)=true):en (i+1)=.add (.num (i:Int)) (en i):=by
 have:¬ ((i:Int) % 2=0):=fun z=>c (decide_eq_true (by rw [z]))
 rw [en,if_neg (by omega)]
section
variable {P:Program} {w:World} {K:Frag} {mg:Str→Option Value} {base:Heap} {f g:Addr} {fd gd:FuncData}
abbrev pN:List Str:=["_law_line"]
theorem nv:aK pN ["_law_line"] (defScope eZ):=⟨rfl,rfl,rfl,by decide +kernel,rfl,by decide +kernel,by decide +kernel⟩
def xm:Sp:=fun vs H Q _=>∃ x,vs=[x]∧∀ a H',aO H H'→Pg9 H' a x→Q (.ref a) H'
theorem Bd (F:Fun K "_law_program" "_law_program" eZ f fd):aV P w K mg base CX0 1 f fd ["_law_line"] xm:=by
 refine F.ok nv (fun vs H Q EX h=>?_) (fun cdv A outer s H vs Q EX hr h=>?_)
 ·obtain ⟨x,rfl,_⟩:=h
  rfl
 obtain ⟨x,rfl,q⟩:=h
 refine ⟨_,(@ao _ _ _ (@ay _ _ _ _ (@aH _ _ _ _ _ (@ad _ _ _ _ _ (@aH _ _ _ _ _ ah) (@ad _ _ _ _ _ (@aH _ _ _ _ _ (@ad _ _ _ _ _ (@aH _ _ _ _ _ (@ad _ _ _ _ _ aG (@ad _ _ _ _ _ (@aH _ _ _ _ _ (@ad _ _ _ _ _ (@aH _ _ _ _ _ (@ad _ _ _ _ _ aG (@ad _ _ _ _ _ aG ah (ac rfl)) (ac rfl))) ah (ac rfl))) (@ad _ _ _ _ _ (@aH _ _ _ _ _ ah) (@ad _ _ _ _ _ aG (@ad _ _ _ _ _ (@aH _ _ _ _ _ (@ad _ _ _ _ _ (@aH _ _ _ _ _ (@ad _ _ _ _ _ aG (@ad _ _ _ _ _ (@aH _ _ _ _ _ (@ad _ _ _ _ _ aG (@ad _ _ _ _ _ aj ah (ac rfl)) (ac rfl))) ah (ac rfl)) (ac rfl))) (@ad _ _ _ _ _ (pv 0) ah (ac rfl)) (ac rfl))) ah (ac rfl)) (ac rfl)) (ac rfl)) (ac rfl)) (ac rfl))) ah (ac rfl))) ah (ac rfl)) (ac rfl))))),?_⟩
 refine ⟨(sz 0 (by decide)),fun p1 h1=>⟨(sz 2 (by decide)),fun p2 h2=>⟨(sz 1 (by decide)),fun p3 h3=>⟨(sz 0 (by decide)),fun p4 h4=>⟨(sz 2 (by decide)),fun p5 h5=>⟨(sz 2 (by decide)),fun p6 h6=>⟨_,rfl,(sz 2 (by decide)),fun p7 h7=>⟨(sz 5 (by decide)),fun p8 h8=>⟨(sz 1 (by decide)),fun p9 h9=>⟨(sz 2 (by decide)),fun p10 h10=>?_⟩⟩⟩⟩⟩⟩⟩⟩⟩⟩
 have s1:=ag h1 (.tup [])
 have s2:=ag h2 (.tup [.str "n",.str "num"])
 have s3:=ag h3 (.tup [.ref p2])
 have s4:=ag h4 (.tup [])
 have s5:=ag h5 (.tup [.str "num",.int 0])
 have s6:=ag h6 (.tup [.str "give",.ref p5])
 have s7:=ag h7 (.tup [.ref p6,x])
 have s8:=ag h8 (.tup [.str "main",.ref p3,.ref p4,.str "num",.ref p7])
 have s9:=ag h9 (.tup [.ref p8])
 have s10:=ag h10 (.tup [.ref p1,.ref p9])
 have t9:=s10
 have t8:=s9.trans t9
 have t7:=s8.trans t8
 have t6:=s7.trans t7
 have t5:=s6.trans t6
 have t4:=s5.trans t5
 have t3:=s4.trans t4
 have t2:=s3.trans t3
 have t1:=s2.trans t2
 exact q _ _ (s1.trans t1) ⟨p1,p9,p8,p3,p2,p4,p7,p6,p5,af,t1 _ _ af,t9 _ _ af,t8 _ _ af,t3 _ _ af,t2 _ _ af,t4 _ _ af,t7 _ _ af,t6 _ _ af,t5 _ _ af⟩
abbrev wS:List Str:=["_law_many", "_law_e", "_law_c", "_law_body", "_law_k"]
theorem bQ:aK wS ["_law_many"] (defScope ii):=⟨rfl,rfl,rfl,by decide +kernel,rfl,by decide +kernel,by decide +kernel⟩
def CN (K:Frag):Sp:=fun vs H Q _=>∃ n:Nat,vs=[.int ((n+1:Nat):Int)]∧n≤40∧∀ r x1 x2 x3 H',aO H H'→H r=none→H' r=some (.lst [x1,x2,x3])→DT K H' x1 (S.let_ "n" (en (n+1))).d→DT K H' x2 (S.say "good" (cn (n+1))).d→DT K H' x3 (S.while_ cw (wn n)).d→Q (.ref r) H'
theorem Ck (T:G0 mg) (F:Fun K "_law_lines" "_law_lines" ii f fd):aV P w K mg base CX0 1 f fd ["_law_many"] (CN K):=by
 refine F.ok bQ (fun vs H Q EX h=>?_) (fun cdv A outer s H vs Q EX hr h=>?_)
 ·obtain ⟨n,rfl,_⟩:=h
  rfl
 obtain ⟨n,rfl,hn,q⟩:=h
 refine ⟨_,(@am _ _ _ _ _ (@aR _ _ 1 _ _ _ _ bQ.nd rfl (Or.inl rfl) (@aH _ _ _ _ _ (@ad _ _ _ _ _ aG (@ad _ _ _ _ _ aj ah (ac rfl)) (ac rfl))) (aC rfl) (.inr rfl)) (@am _ _ _ _ _ (@aR _ _ 2 _ _ _ _ bQ.nd rfl (Or.inl rfl) (@aH _ _ _ _ _ (@ad _ _ _ _ _ aG (@ad _ _ _ _ _ (pv 1) (@ad _ _ _ _ _ (pv 1) ah (ac rfl)) (ac rfl)) (ac rfl))) (aC rfl) (.inr rfl)) (@am _ _ _ _ _ (@aR _ _ 3 _ _ _ _ bQ.nd rfl (Or.inl rfl) (@aH _ _ _ _ _ ah) (aC rfl) (.inr rfl)) (@am _ _ _ _ _ (@cB _ _ _ _ _ _ _ _ PassesOwn.never rfl (ik rfl T.range (@ad _ _ _ _ _ (pv 0) ah (ac rfl))) (aQ (i:=4) bQ.nd rfl (Or.inl rfl)) (@am _ _ _ _ _ (@aR _ _ 1 _ _ _ _ bQ.nd rfl (Or.inl rfl) (@bO _ _ _ _ _ _ _ _ (@aD _ _ _ _ _ _ _ _ bA (@bJ _ _ _ _ _ _ _ _ eC (pv 4) aj) aj (aJ _)) (@aH _ _ _ _ _ (@ad _ _ _ _ _ aG (@ad _ _ _ _ _ (pv 1) (@ad _ _ _ _ _ (@aH _ _ _ _ _ (@ad _ _ _ _ _ aG (@ad _ _ _ _ _ (pv 4) ah (ac rfl)) (ac rfl))) ah (ac rfl)) (ac rfl)) (ac rfl))) (@aH _ _ _ _ _ (@ad _ _ _ _ _ aG (@ad _ _ _ _ _ (@aH _ _ _ _ _ (@ad _ _ _ _ _ aG (@ad _ _ _ _ _ (pv 4) ah (ac rfl)) (ac rfl))) (@ad _ _ _ _ _ (pv 1) ah (ac rfl)) (ac rfl)) (ac rfl)))) (aC rfl) (.inr rfl)) (@am _ _ _ _ _ (@aR _ _ 2 _ _ _ _ bQ.nd rfl (Or.inl rfl) (@aH _ _ _ _ _ (@ad _ _ _ _ _ aG (@ad _ _ _ _ _ (pv 2) ah (ac rfl)) (ac rfl))) (aC rfl) (.inr rfl)) (@ao _ _ _ (@aR _ _ 3 _ _ _ _ bQ.nd rfl (Or.inl rfl) (@aH _ _ _ _ _ (@ad _ _ _ _ _ (@aH _ _ _ _ _ (@ad _ _ _ _ _ aG (@ad _ _ _ _ _ (@aH _ _ _ _ _ (@ad _ _ _ _ _ aG (@ad _ _ _ _ _ (@aH _ _ _ _ _ (@ad _ _ _ _ _ aG (@ad _ _ _ _ _ aj ah (ac rfl)) (ac rfl))) (@ad _ _ _ _ _ (@aH _ _ _ _ _ (@ad _ _ _ _ _ aG (@ad _ _ _ _ _ aj ah (ac rfl)) (ac rfl))) ah (ac rfl)) (ac rfl)) (ac rfl))) (@ad _ _ _ _ _ (pv 3) ah (ac rfl)) (ac rfl)) (ac rfl))) ah (ac rfl))) (aC rfl) (.inr rfl))))) (fun _=>rfl)) (@ao _ _ _ (@ay _ _ _ _ (@bW _ _ _ _ (@ad _ _ _ _ _ (@aH _ _ _ _ _ (@ad _ _ _ _ _ aG (@ad _ _ _ _ _ aG (@ad _ _ _ _ _ (pv 1) ah (ac rfl)) (ac rfl)) (ac rfl))) (@ad _ _ _ _ _ (@aH _ _ _ _ _ (@ad _ _ _ _ _ aG (@ad _ _ _ _ _ aG (@ad _ _ _ _ _ (pv 2) ah (ac rfl)) (ac rfl)) (ac rfl))) (@ad _ _ _ _ _ (@aA _ _ _ _ _ _ _ av (pv 3) aj (fun _ _=>rfl)) ah (ac rfl)) (ac rfl)) (ac rfl))))))))),?_⟩
 refine ⟨(sz 2 (by decide)),fun p1 h1=>⟨_,rfl,_,rfl,(sz 3 (by decide)),fun p2 h2=>⟨(sz 0 (by decide)),fun p3 h3=>?_⟩⟩⟩
 have s1:=ag h1 (.tup [.str "num",.int 1])
 have s2:=ag h2 (.tup [.str "less",.ref p1,.ref p1])
 have s3:=ag h3 (.tup [])
 have d1:DT K (upd H p1 (.tup [.str "num",.int 1])) (.ref p1) (en 0).d:=by simp only [en,E.d]; exact .tup (.inl af) (.cons (.str _) (.cons (.int _) .nil))
 have d2:DT K (upd (upd H p1 (.tup [.str "num",.int 1])) p2 (.tup [.str "less",.ref p1,.ref p1])) (.ref p2) (cn 0).d:=by simp only [cn,C.d]; exact .tup (.inl af) (.cons (.str _) (.cons (d1.mono (ar s2)) (.cons (d1.mono (ar s2)) .nil)))
 refine ⟨_,rfl,_,rfl,by omega,by omega,hX (lo:=0) (n:=((n+1:Nat):Int).toNat) (fun i σ H'=>∃ m4 x1 x2 x3 ys,σ=[some (.int ((n+1:Nat):Int)),some x1,some x2,some (.ref x3),m4]∧aO H H'∧DT K H' x1 (en i).d∧DT K H' x2 (cn i).d∧H' x3=some (.tup ys)∧DTs K H' ys (S.ds (wn i)))
  ⟨none,.ref p1,.ref p2,p3,[],rfl,(s1.trans s2).trans s3,d1.mono (ar (s2.trans s3)),d2.mono (ar s3),af,.nil⟩ (fun i σ H' hi p=>?_) (fun σ H' p=>?_)⟩
 ·obtain ⟨m4,x1,x2,x3,ys,rfl,g,e1,e2,hx3,e3⟩:=p
  rw [Int.zero_add]
  refine ⟨_,rfl,_,_,rfl,rfl,(by show (0:Int)<2; decide),rfl,_,rfl,?_⟩
  refine az (fun c=>⟨_,rfl,_,rfl,(sz 2 (by decide)),fun q1 k1=>⟨(sz 3 (by decide)),fun q2 k2=>?_⟩⟩) (fun c=>⟨_,rfl,(sz 2 (by decide)),fun q1 k1=>⟨_,rfl,(sz 3 (by decide)),fun q2 k2=>?_⟩⟩)
  all_goals
   have u1:=ag k1 (.tup [.str "num",.int (i:Int)])
   have u2:=ag k2 (.tup [.str "add",x1,.ref q1])
   have u2':=ag k2 (.tup [.str "add",.ref q1,x1])
   have dn:DT K (upd H' q1 (.tup [.str "num",.int (i:Int)])) (.ref q1) (E.num (i:Int)).d:=by simp only [E.d]; exact .tup (.inl af) (.cons (.str _) (.cons (.int _) .nil))
   refine ⟨_,rfl,(sz 2 (by decide)),fun q3 k3=>⟨(sz 2 (by decide)),fun q4 k4=>⟨(sz 2 (by decide)),fun q5 k5=>⟨(sz 3 (by decide)),fun q6 k6=>⟨_,rfl,(sz 3 (by decide)),fun q7 k7=>⟨(sz 1 (by decide)),fun q8 k8=>?_⟩⟩⟩⟩⟩⟩
   have v3:=ag k3 (.tup [.str "not",x2])
   have v4:=ag k4 (.tup [.str "num",.int 0])
   have v5:=ag k5 (.tup [.str "num",.int 1])
   have v6:=ag k6 (.tup [.str "less",.ref q4,.ref q5])
   have v7:=ag k7 (.tup [.str "while",.ref q6,.ref x3])
   have v8:=ag k8 (.tup [.ref q7])
   first
    | (have de:DT K (upd (upd H' q1 (.tup [.str "num",.int (i:Int)])) q2 (.tup [.str "add",x1,.ref q1])) (.ref q2) (en (i+1)).d:=by { rw [DN c]; simp only [E.d]; exact .tup (.inl af) (.cons (.str _) (.cons (e1.mono (ar (u1.trans u2))) (.cons (by simpa only [E.d] using dn.mono (ar u2)) .nil))) }
       have w2:=u1.trans u2; have w3:=w2.trans v3; have w6:=((w3.trans v4).trans v5).trans v6; have w7:=w6.trans v7
       have w8:=w7.trans v8
       refine ⟨_,.ref q2,.ref q3,q8,_,rfl,g.trans w8,de.mono (ar ((((v3.trans v4).trans v5).trans (v6.trans v7)).trans v8)),?_,af,?_⟩
       ·simp only [cn,C.d]
        exact .tup (.inl ((((v4.trans v5).trans (v6.trans v7)).trans v8) _ _ af)) (.cons (.str _) (.cons (e2.mono (ar w8)) .nil))
       ·simp only [wn,S.ds,S.d,cw,C.d,E.d]
        exact .cons (.tup (.inl (v8 _ _ af)) (.cons (.str _) (.cons (.tup (.inl ((v7.trans v8) _ _ af)) (.cons (.str _) (.cons (.tup (.inl (((v5.trans v6).trans (v7.trans v8)) _ _ af)) (.cons (.str _) (.cons (.int _) .nil))) (.cons (.tup (.inl ((v6.trans (v7.trans v8)) _ _ af)) (.cons (.str _) (.cons (.int _) .nil))) .nil)))) (.cons (.tup (.inl (w8 _ _ hx3)) (e3.mono (ar w8))) .nil)))) .nil)
    | (have de:DT K (upd (upd H' q1 (.tup [.str "num",.int (i:Int)])) q2 (.tup [.str "add",.ref q1,x1])) (.ref q2) (en (i+1)).d:=by { rw [Dm c]; simp only [E.d]; exact .tup (.inl af) (.cons (.str _) (.cons (by simpa only [E.d] using dn.mono (ar u2')) (.cons (e1.mono (ar (u1.trans u2'))) .nil))) }
       have w2:=u1.trans u2'; have w3:=w2.trans v3; have w6:=((w3.trans v4).trans v5).trans v6; have w7:=w6.trans v7
       have w8:=w7.trans v8
       refine ⟨_,.ref q2,.ref q3,q8,_,rfl,g.trans w8,de.mono (ar ((((v3.trans v4).trans v5).trans (v6.trans v7)).trans v8)),?_,af,?_⟩
       ·simp only [cn,C.d]
        exact .tup (.inl ((((v4.trans v5).trans (v6.trans v7)).trans v8) _ _ af)) (.cons (.str _) (.cons (e2.mono (ar w8)) .nil))
       ·simp only [wn,S.ds,S.d,cw,C.d,E.d]
        exact .cons (.tup (.inl (v8 _ _ af)) (.cons (.str _) (.cons (.tup (.inl ((v7.trans v8) _ _ af)) (.cons (.str _) (.cons (.tup (.inl (((v5.trans v6).trans (v7.trans v8)) _ _ af)) (.cons (.str _) (.cons (.int _) .nil))) (.cons (.tup (.inl ((v6.trans (v7.trans v8)) _ _ af)) (.cons (.str _) (.cons (.int _) .nil))) .nil)))) (.cons (.tup (.inl (w8 _ _ hx3)) (e3.mono (ar w8))) .nil)))) .nil)
 ·obtain ⟨m4,x1,x2,x3,ys,rfl,g,e1,e2,hx3,e3⟩:=p
  have en':((n+1:Nat):Int).toNat=n+1:=by omega
  rw [en'] at e1 e2 e3
  simp only [wn,S.ds] at e3
  obtain ⟨y,r,rfl,dy,dr⟩:=e3.open
  cases dr
  refine ⟨_,rfl,(sz 3 (by decide)),fun q1 k1=>⟨_,rfl,(sz 3 (by decide)),fun q2 k2=>⟨_,rfl,x3,[y],_,_,rfl,rfl,SqT.of ?_,rfl,(sz 3 (by decide)),fun q3 k3=>?_⟩⟩⟩
  ·exact (ag k2 _) _ _ ((ag k1 _) _ _ hx3)
  have u1:=ag k1 (.tup [.str "let",.str "n",x1])
  have u2:=ag k2 (.tup [.str "say",.str "good",x2])
  have u3:=ag k3 (.lst [.ref q1,.ref q2,y])
  have w3:=(u1.trans u2).trans u3
  refine q _ _ _ _ _ (g.trans w3) ((g.trans (u1.trans u2)).free k3) af ?_ ?_ (dy.mono (ar w3))
  ·simp only [S.d]
   exact .tup (.inl ((u2.trans u3) _ _ af)) (.cons (.str _) (.cons (.str _) (.cons (e1.mono (ar w3)) .nil)))
  ·simp only [S.d]
   exact .tup (.inl (u3 _ _ af)) (.cons (.str _) (.cons (.str _) (.cons (e2.mono (ar w3)) .nil)))
def fY:Sp:=fun vs H Q _=>∃ a xs,vs=[.ref a]∧H a=some (.tup xs)∧Q (.bl false) H
theorem wA (T:G0 mg) (F:Fun K "is_whole" "is_whole" dM f fd):aV P w K mg base CX0 1 f fd ["thing"] fY:=by
 refine F.ok ix (fun vs H Q EX h=>?_) (fun cdv A outer s H vs Q EX hr h=>?_)
 ·obtain ⟨a,xs,rfl,_⟩:=h
  rfl
 obtain ⟨a,xs,rfl,ha,q⟩:=h
 refine ⟨_,(@ao _ _ _ (@ay _ _ _ _ (bR (@aF _ _ _ _ _ _ _ _ _ bf rfl T.isi bS (@ad _ _ _ _ _ (pv 0) (@ad _ _ _ _ _ (bp (v:=.ty "int") rfl T.int Al rfl) ah (ac rfl)) (ac rfl)) (by decide) (by decide) (ac rfl) (ak rfl)) (bH (ua (@aF _ _ _ _ _ _ _ _ _ bf rfl T.isi bS (@ad _ _ _ _ _ (pv 0) (@ad _ _ _ _ _ (bp (v:=.ty "bool") rfl T.bool xn rfl) ah (ac rfl)) (ac rfl)) (by decide) (by decide) (ac rfl) (ak rfl))))))),?_⟩
 refine ⟨_,rfl,_,_,_,false,rfl,.tup ha,rfl,_,rfl,bv ?_⟩
 exact q
theorem yc (T:G0 mg) (F:Fun K "is_text" "is_text" cI f fd) (D_is_sign_number:Cal P w K mg base 1 "is_sign_number" ["number"] uo):aV P w K mg base CX0 2 f fd ["thing"] fY:=by
 obtain ⟨g_is_sign_number,gd_is_sign_number,G_is_sign_number,b_is_sign_number,k_is_sign_number,m_is_sign_number⟩:=D_is_sign_number.ex
 refine F.ok jA (fun vs H Q EX h=>?_) (fun cdv A outer s H vs Q EX hr h=>?_)
 ·obtain ⟨a,xs,rfl,_⟩:=h
  rfl
 obtain ⟨a,xs,rfl,ha,q⟩:=h
 refine ⟨_,(@ao _ _ _ (@ay _ _ _ _ (bR (@aF _ _ _ _ _ _ _ _ _ bf rfl T.isi bS (@ad _ _ _ _ _ (pv 0) (@ad _ _ _ _ _ (bp (v:=.ty "str") rfl T.str ir rfl) ah (ac rfl)) (ac rfl)) (by decide) (by decide) (ac rfl) (ak rfl)) (bH (@aF _ _ _ _ _ _ _ _ _ (cy rfl) rfl T.all iE (@ad _ _ _ _ _ (bt (N':=dA) (ρ:=[none]) (m:=1) (bF.of (fs:=defScope cI) (N:=ic) rfl rfl (by decide +kernel)) rfl (mU (pv 0)) (fun _ _ _ _=>(aQ (i:=0) fG rfl (Or.inl rfl))) (fun _ _ _ _=>bq) (fun _ _ _ _=>(au G_is_sign_number (hr.mono (by omega)) rfl m_is_sign_number k_is_sign_number b_is_sign_number .nil aI (ad (aF qD rfl T.ord zY (ad (pv 0) ah)) ah)))) ah (ac rfl)) (by decide) (by decide) (ac rfl) (ak rfl)))))),?_⟩
 refine ⟨_,rfl,_,_,_,false,rfl,.tup ha,rfl,_,rfl,bv ?_⟩
 exact q
abbrev jz:List Str:=["program", "kind", "thing"]
abbrev fD:List Str:=["number"]
theorem js:fD.Nodup:=by decide +kernel
theorem pX:aK jz ["program", "kind", "thing"] (defScope dX):=⟨rfl,rfl,rfl,by decide +kernel,rfl,by decide +kernel,by decide +kernel⟩
def BE:Sp:=fun vs H Q _=>∃ v k a b ys,vs=[v,.str k,.ref a]∧k∈PL∧H a=some (.tup [.ref b])∧H b=some (.tup ys)∧∀ H',aO H H'→Q (.bl false) H'
theorem Dc (T:G0 mg) (F:Fun K "is_value" "is_value" dX f fd) (D_is_whole:Cal P w K mg base 1 "is_whole" ["thing"] fY) (D_is_text:Cal P w K mg base 2 "is_text" ["thing"] fY):aV P w K mg base CX0 3 f fd ["program", "kind", "thing"] BE:=by
 obtain ⟨g_is_whole,gd_is_whole,G_is_whole,b_is_whole,k_is_whole,m_is_whole⟩:=D_is_whole.ex
 obtain ⟨g_is_text,gd_is_text,G_is_text,b_is_text,k_is_text,m_is_text⟩:=D_is_text.ex
 refine F.ok pX (fun vs H Q EX h=>?_) (fun cdv A outer s H vs Q EX hr h=>?_)
 ·obtain ⟨v,k,a,b,ys,rfl,_⟩:=h
  rfl
 obtain ⟨v,k,a,b,ys,rfl,hk,ha,hb,q⟩:=h
 have hk':k = "num"∨k = "text"∨k = "row":=by simpa [PL] using hk
 refine ⟨_,(@am _ _ _ _ _ (@aT _ _ _ _ _ _ _ _ (@aD _ _ _ _ _ _ _ _ bA (pv 1) aG (aJ _)) (@ao _ _ _ (@ay _ _ _ _ (@au _ _ _ _ _ _ _ _ _ _ _ _ _ _ _ _ G_is_whole (hr.mono (by omega)) rfl m_is_whole k_is_whole b_is_whole .nil aI (@ad _ _ _ _ _ (pv 2) ah (ac rfl)) (by decide) (ac rfl) (ak rfl)))) aE) (@am _ _ _ _ _ (@aT _ _ _ _ _ _ _ _ (@aD _ _ _ _ _ _ _ _ bA (pv 1) aG (aJ _)) (@ao _ _ _ (@ay _ _ _ _ (@au _ _ _ _ _ _ _ _ _ _ _ _ _ _ _ _ G_is_text (hr.mono (by omega)) rfl m_is_text k_is_text b_is_text .nil aI (@ad _ _ _ _ _ (pv 2) ah (ac rfl)) (by decide) (ac rfl) (ak rfl)))) aE) (@am _ _ _ _ _ (@aT _ _ _ _ _ _ _ _ (@aD _ _ _ _ _ _ _ _ bA (pv 1) aG (aJ _)) (@ao _ _ _ (@ay _ _ _ _ (bR (@aF _ _ _ _ _ _ _ _ _ bf rfl T.isi bS (@ad _ _ _ _ _ (pv 2) (@ad _ _ _ _ _ (bp (v:=.ty "tuple") rfl T.tuple bY rfl) ah (ac rfl)) (ac rfl)) (by decide) (by decide) (ac rfl) (ak rfl)) (bH (@aF _ _ _ _ _ _ _ _ _ (cy rfl) rfl T.all iE (@ad _ _ _ _ _ (bt (N':=fD) (ρ:=[none]) (m:=1) (bF.of (fs:=defScope dX) (N:=jz) rfl rfl (by decide +kernel)) rfl (ca (pv 2)) (fun _ _ _ _=>(aQ (i:=0) js rfl (Or.inl rfl))) (fun _ _ _ _=>bq) (fun _ _ _ _=>(au G_is_whole (hr.mono (by omega)) rfl m_is_whole k_is_whole b_is_whole .nil aI (ad (pv 0) ah)))) ah (ac rfl)) (by decide) (by decide) (ac rfl) (ak rfl)))))) aE) hZ))),?_⟩
 rcases hk' with rfl | rfl | rfl
 ·refine ⟨_,rfl,rfl,_,rfl,?_⟩
  refine az (fun c=>?_) (fun c=>absurd (by decide +kernel) c)
  exact ⟨_,rfl,a,_,rfl,ha,q _ (aO.refl _)⟩
 ·refine ⟨_,rfl,rfl,_,rfl,?_⟩
  refine az (fun c=>absurd c (by decide +kernel)) (fun c=>?_)
  refine ⟨_,rfl,rfl,_,rfl,?_⟩
  refine az (fun c=>?_) (fun c=>absurd (by decide +kernel) c)
  exact ⟨_,rfl,a,_,rfl,ha,q _ (aO.refl _)⟩
 ·refine ⟨_,rfl,rfl,_,rfl,?_⟩
  refine az (fun c=>absurd c (by decide +kernel)) (fun c=>?_)
  refine ⟨_,rfl,rfl,_,rfl,?_⟩
  refine az (fun c=>absurd c (by decide +kernel)) (fun c=>?_)
  refine ⟨_,rfl,rfl,_,rfl,?_⟩
  refine az (fun c=>?_) (fun c=>absurd (by decide +kernel) c)
  refine ⟨_,rfl,_,_,_,true,rfl,.tup ha,rfl,_,rfl,bz ?_⟩
  refine ⟨_,rfl,a,rfl,⟨_,SqT.of ha⟩,bU (xs:=[.ref b]) 1 rfl (by omega) (fun i acc H'=>H'=H∧acc=(List.replicate i false).map V.bl) ⟨rfl,rfl⟩ (fun i acc H' p=>by rw [p.1]; exact SqT.of ha) (fun i acc H' x hi la hx p=>?_) (fun acc H' p la D hD=>?_)⟩
  ·obtain ⟨rfl,rfl⟩:=p
   have hi':=(List.getElem?_eq_some_iff.mp hx).1
   obtain rfl:i=0:=by simp at hi'; exact hi'
   cases hx
   exact ⟨⟨rfl,rfl⟩,bu ⟨_,rfl,b,_,rfl,hb,nxT (by omega) hi la ⟨rfl,rfl⟩⟩⟩
  ·obtain ⟨rfl,rfl⟩:=p
   refine ⟨D,_,rfl,SqL.of af,?_⟩
   exact q _ (ag hD _)
end
open PySem L2
theorem R9.mono {K:Frag} {H H':Hp} (t:Tk H H') {a:Addr} {ans:Option (Int×Int)} (h:R9 K H a ans):R9 K H' a ans:=by
 cases h with
 | whole h1 h2=>exact .whole (t _ _ h1) h2
 | recs h1 h2 h3 h4=>exact .recs (t _ _ h1) (t _ _ h2) (t _ _ h3) h4
 | head h1 h2 h3 h4=>exact .head (t _ _ h1) (t _ _ h2) (t _ _ h3) (h4.mono t)
 | body h1 h2 h3 h4 h5 h6 h7 h8=>exact .body (t _ _ h1) (t _ _ h2) (t _ _ h3) (h4.mono t) h5 (h6.mono t) h7 h8
theorem oE {K:Frag} {H:Hp} {vs:List V} {as:List (Option (Int×Int))} (h:Paired (dm H) vs as):dY K H vs (as.map Cr):=by
 induction h with
 | nil=>exact .nil
 | cons h _ ih=>exact .cons h.rd ih
structure lm (H:Hp) (dl u1 u2 u3:Addr):Prop where
 h1:H u1=some (.tup [.int 0,.int 1])
 h2:H u2=some (.tup [.int 0,.int 1])
 h3:H u3=some (.tup [.int 0,.int 6])
 hl:H dl=some (.lst [.ref u1,.ref u2,.ref u3])
theorem lm.mono {H H':Hp} {dl u1 u2 u3:Addr} (h:lm H dl u1 u2 u3) (g:aO H H'):lm H' dl u1 u2 u3:=⟨g _ _ h.h1,g _ _ h.h2,g _ _ h.h3,g _ _ h.hl⟩
theorem lm.rd {K:Frag} {H:Hp} {dl u1 u2 u3:Addr} (h:lm H dl u1 u2 u3):RdD K H (.ref dl) (.list [.tuple [.int 0,.int 1],.tuple [.int 0,.int 1],.tuple [.int 0,.int 6]]) :=
 .lst (SqL.of h.hl) (.cons (.tup (SqT.of h.h1) (.cons (.int _) (.cons (.int _) .nil))) (.cons (.tup (SqT.of h.h2) (.cons (.int _) (.cons (.int _) .nil))) (.cons (.tup (SqT.of h.h3) (.cons (.int _) (.cons (.int _) .nil))) .nil)))
section
variable {P:Program} {w:World} {K:Frag} {mg:Str→Option Value} {base:Heap} {f g:Addr} {fd gd:FuncData}
theorem Aa {xs:List V} {as:List (Option (Int×Int))} {H4:Hp} {r:Addr} {Z:List V→Hp→Prop} (hr:H4 r=some (.lst xs)) (hl:xs.length=as.length) (h10:xs.length≤10)
  (hx:∀ (i:Nat) x,xs[i]?=some x→∃ d m rr,DT K H4 x d∧FW J9 m [(d,1)] 1 rr∧as[i]?=some (rr.map fun k=>(0,(k:Int)))) (q:∀ acc H5,aO H4 H5→Paired (dm H5) acc as→Z acc H5) :
  eW (Itl K r) 1 (fM 0) lE (oY (me K) [] E0 (gJ (oY xm [] E0 (gJ (qj 0) uv)) uv)) [none] Z H4:=by
 refine cZ (xs:=xs) xs.length rfl (by omega) (fun i acc H5=>aO H4 H5∧Paired (dm H5) acc (as.take i)) ⟨aO.refl _,by rw [List.take_zero]; exact .nil⟩ (fun i acc H5 p=>SqL.of (p.1 _ _ hr)) (fun i acc H5 x hi la hx' p=>?_) (fun acc H5 p la=>?_)
 ·obtain ⟨g5,pa⟩:=p
  obtain ⟨d,m,rr,dx,fw,ea⟩:=hx i x hx'
  refine ⟨⟨rfl,rfl⟩,bu ⟨_,rfl,x,rfl,fun a H6 g6 pg=>?_⟩⟩
  obtain ⟨ra,z,fa,pn,pq,lo,bb,gv,gn,pl⟩:=pg
  refine ⟨a,_,rfl,pl.r9 (dx.mono (ar (g5.trans g6))) fw,fun v H7 g7 an=>nxT (by omega) hi la ⟨(g5.trans g6).trans g7,?_⟩⟩
  rw [List.take_add_one,ea]
  exact Paired.snoc (Paired.mapP pa fun _ _ z=>z.mono (ar (g6.trans g7))) an
 ·obtain ⟨g5,pa⟩:=p
  rw [hl,List.take_length] at pa
  exact q _ _ g5 pa
theorem CA {xs:List V} {as:List (Option (Int×Int))} {H4:Hp} {r:Addr} {Z:List V→Hp→Prop} (hr:H4 r=some (.lst xs)) (hl:xs.length=as.length) (h10:xs.length≤10)
  (hx:∀ (i:Nat) x,xs[i]?=some x→∃ a ans,x=.ref a∧R9 K H4 a ans∧as[i]?=some ans) (q:∀ acc H5,aO H4 H5→Paired (dm H5) acc as→Z acc H5) :
  eW (Itl K r) 1 (fM 0) lE (oY (me K) [] E0 (gJ (qj 0) uv)) [none] Z H4:=by
 refine cZ (xs:=xs) xs.length rfl (by omega) (fun i acc H5=>aO H4 H5∧Paired (dm H5) acc (as.take i)) ⟨aO.refl _,by rw [List.take_zero]; exact .nil⟩ (fun i acc H5 p=>SqL.of (p.1 _ _ hr)) (fun i acc H5 x hi la hx' p=>?_) (fun acc H5 p la=>?_)
 ·obtain ⟨g5,pa⟩:=p
  obtain ⟨a,ans,rfl,r9,ea⟩:=hx i x hx'
  refine ⟨⟨rfl,rfl⟩,bu ⟨_,rfl,a,ans,rfl,r9.mono (ar g5),fun v H7 g7 an=>nxT (by omega) hi la ⟨g5.trans g7,?_⟩⟩⟩
  rw [List.take_add_one,ea]
  exact Paired.snoc (Paired.mapP pa fun _ _ z=>z.mono (ar g7)) an
 ·obtain ⟨g5,pa⟩:=p
  rw [hl,List.take_length] at pa
  exact q _ _ g5 pa
theorem ivL {H4:Hp} {r a b:Addr} {v:V} {ys:List V} {Z:List V→Hp→Prop} (hr:H4 r=some (.lst (PL.map V.str))) (ha:H4 a=some (.tup [.ref b])) (hb:H4 b=some (.tup ys)) (q:∀ H5,aO H4 H5→Z [.bl false,.bl false,.bl false] H5) :
  eW (Itl K r) 1 (fM 0) lE (oY BE [] E0 (gJ (qj 1) (gJ (qj 0) (gJ (qj 2) uv)))) [none,some v,some (.ref a)] Z H4:=by
 refine cZ (xs:=PL.map V.str) 3 rfl (by omega) (fun i acc H5=>aO H4 H5∧acc=(List.replicate i false).map V.bl) ⟨aO.refl _,rfl⟩ (fun i acc H5 p=>SqL.of (p.1 _ _ hr)) (fun i acc H5 x hi la hx' p=>?_) (fun acc H5 p la=>?_)
 ·obtain ⟨g5,rfl⟩:=p
  rw [List.getElem?_map] at hx'
  obtain ⟨k,hk,rfl⟩:=Option.map_eq_some_iff.mp hx'
  refine ⟨⟨rfl,rfl⟩,bu ⟨_,rfl,_,rfl,_,rfl,v,k,a,b,ys,rfl,List.mem_of_getElem? hk,g5 _ _ ha,g5 _ _ hb,fun H6 g6=>nxT (by omega) hi la ⟨g5.trans g6,?_⟩⟩⟩
  rw [List.replicate_succ',List.map_append]
  rfl
 ·obtain ⟨g5,rfl⟩:=p
  exact q _ g5
abbrev oS:List Str:=["_law_script", "_law_tape_here", "_law_turn", "_law_many", "_law_some", "_law_due", "_law_void", "_law_k", "_law_good", "_law_bent"]
abbrev qz:List Str:=["_law_kind", "_law_good", "_law_void"]
theorem wR:qz.Nodup:=by decide +kernel
abbrev pi:List Str:=["_law_one"]
theorem wJ:pi.Nodup:=by decide +kernel
abbrev qo:List Str:=["_law_line"]
theorem wO:qo.Nodup:=by decide +kernel
abbrev qG:List Str:=["_law_line"]
theorem wI:qG.Nodup:=by decide +kernel
theorem cK:aK oS ["_law_script"] (defScope iy):=⟨rfl,rfl,rfl,by decide +kernel,rfl,by decide +kernel,by decide +kernel⟩
def xg (K:Frag):Sp:=fun vs H Q _=>∃ (a:Addr) (ns:List Int),vs=[.ref a]∧SqL K H a (ns.map V.int)∧∀ H',Q (.bl true) H'
theorem AJ (T:G0 mg) (F:Fun K "law" "law" iy f fd) (D_is_value:Cal P w K mg base 3 "is_value" ["program", "kind", "thing"] BE) (D_l_told:Cal P w K mg base 36 "_law_told" ["_law_thing"] (me K)) (D_l_program:Cal P w K mg base 1 "_law_program" ["_law_line"] xm) (D_l_lines:Cal P w K mg base 1 "_law_lines" ["_law_many"] (CN K))
  (D_l_draw:Cal P w K mg base 1 "_law_draw" ["_law_tape_here", "_law_many"] yk) (D_l_tape:Cal P w K mg base 1 "_law_tape" ["_law_script"] (yM K)):aV P w K mg base CX0 37 f fd ["_law_script"] (xg K):=by
 obtain ⟨g_is_value,gd_is_value,G_is_value,b_is_value,k_is_value,m_is_value⟩:=D_is_value.ex
 obtain ⟨g_l_told,gd_l_told,G_l_told,b_l_told,k_l_told,m_l_told⟩:=D_l_told.ex
 obtain ⟨g_l_program,gd_l_program,G_l_program,b_l_program,k_l_program,m_l_program⟩:=D_l_program.ex
 obtain ⟨g_l_lines,gd_l_lines,G_l_lines,b_l_lines,k_l_lines,m_l_lines⟩:=D_l_lines.ex
 obtain ⟨g_l_draw,gd_l_draw,G_l_draw,b_l_draw,k_l_draw,m_l_draw⟩:=D_l_draw.ex
 obtain ⟨g_l_tape,gd_l_tape,G_l_tape,b_l_tape,k_l_tape,m_l_tape⟩:=D_l_tape.ex
 refine F.ok cK (fun vs H Q EX h=>?_) (fun cdv A outer s H vs Q EX hr h=>?_)
 ·obtain ⟨a,ns,rfl,_⟩:=h
  rfl
 obtain ⟨a,ns,rfl,hS,q⟩:=h
 refine ⟨_,(@am _ _ _ _ _ (@aR _ _ 1 _ _ _ _ cK.nd rfl (Or.inl rfl) (@au _ _ _ _ _ _ _ _ _ _ _ _ _ _ _ _ G_l_tape (hr.mono (by omega)) rfl m_l_tape k_l_tape b_l_tape .nil aI (@ad _ _ _ _ _ (pv 0) ah (ac rfl)) (by decide) (ac rfl) (ak rfl)) (aC rfl) (.inr rfl)) (@am _ _ _ _ _ (@cB _ _ _ _ _ _ _ _ PassesOwn.never rfl (ik rfl T.range (@ad _ _ _ _ _ aj ah (ac rfl))) (aQ (i:=2) cK.nd rfl (Or.inl rfl)) (@am _ _ _ _ _ (@aR _ _ 3 _ _ _ _ cK.nd rfl (Or.inl rfl) (@bJ _ _ _ _ _ _ _ _ ip aj (@au _ _ _ _ _ _ _ _ _ _ _ _ _ _ _ _ G_l_draw (hr.mono (by omega)) rfl m_l_draw k_l_draw b_l_draw .nil aI (@ad _ _ _ _ _ (pv 1) (@ad _ _ _ _ _ aj ah (ac rfl)) (ac rfl)) (by decide) (ac rfl) (ak rfl))) (aC rfl) (.inr rfl)) (@am _ _ _ _ _ (@aR _ _ 4 _ _ _ _ cK.nd rfl (Or.inl rfl) (@au _ _ _ _ _ _ _ _ _ _ _ _ _ _ _ _ G_l_lines (hr.mono (by omega)) rfl m_l_lines k_l_lines b_l_lines .nil aI (@ad _ _ _ _ _ (pv 3) ah (ac rfl)) (by decide) (ac rfl) (ak rfl)) (aC rfl) (.inr rfl)) (@am _ _ _ _ _ (@aR _ _ 5 _ _ _ _ cK.nd rfl (Or.inl rfl) (@bW _ _ _ _ (@ad _ _ _ _ _ (@aH _ _ _ _ _ (@ad _ _ _ _ _ aj (@ad _ _ _ _ _ aj ah (ac rfl)) (ac rfl))) (@ad _ _ _ _ _ (@aH _ _ _ _ _ (@ad _ _ _ _ _ aj (@ad _ _ _ _ _ aj ah (ac rfl)) (ac rfl))) (@ad _ _ _ _ _ (@aH _ _ _ _ _ (@ad _ _ _ _ _ aj (@ad _ _ _ _ _ aj ah (ac rfl)) (ac rfl))) ah (ac rfl)) (ac rfl)) (ac rfl))) (aC rfl) (.inr rfl)) (@am _ _ _ _ _ (@aT _ _ _ _ _ _ _ _ (@aD _ _ _ _ _ _ _ _ (oa hr.units) (bt (N':=qG) (ρ:=[none]) (m:=1) (bF.of (fs:=defScope iy) (N:=oS) rfl rfl (by decide +kernel)) rfl (dR (pv 4)) (fun _ _ _ _=>(aQ (i:=0) wI rfl (Or.inl rfl))) (fun _ _ _ _=>bq) (fun _ _ _ _=>(au G_l_told (hr.mono (by omega)) rfl m_l_told k_l_told b_l_told .nil aI (ad (au G_l_program (hr.mono (by omega)) rfl m_l_program k_l_program b_l_program .nil aI (ad (pv 0) ah)) ah)))) (pv 5) (aJ _)) (@ao _ _ _ (@ay _ _ _ _ bo)) aE) (@am _ _ _ _ _ (@aT _ _ _ _ _ _ _ _ (@aD _ _ _ _ _ _ _ _ (oa hr.units) (bt (N':=qo) (ρ:=[none]) (m:=1) (bF.of (fs:=defScope iy) (N:=oS) rfl rfl (by decide +kernel)) rfl (dR (au G_l_lines (hr.mono (by omega)) rfl m_l_lines k_l_lines b_l_lines .nil aI (ad aj ah))) (fun _ _ _ _=>(aQ (i:=0) wO rfl (Or.inl rfl))) (fun _ _ _ _=>bq) (fun _ _ _ _=>(au G_l_told (hr.mono (by omega)) rfl m_l_told k_l_told b_l_told .nil aI (ad (au G_l_program (hr.mono (by omega)) rfl m_l_program k_l_program b_l_program .nil aI (ad (pv 0) ah)) ah)))) (@bW _ _ _ _ (@ad _ _ _ _ _ bo (@ad _ _ _ _ _ bo (@ad _ _ _ _ _ bo ah (ac rfl)) (ac rfl)) (ac rfl))) (aJ _)) (@ao _ _ _ (@ay _ _ _ _ bo)) aE) (@am _ _ _ _ _ (@aR _ _ 6 _ _ _ _ cK.nd rfl (Or.inr rfl) (@aH _ _ _ _ _ ah) (aC rfl) (.inl rfl)) (@am _ _ _ _ _ (@cB _ _ _ _ _ _ _ _ PassesOwn.never rfl (ik rfl T.range (@ad _ _ _ _ _ (pv 3) ah (ac rfl))) (aQ (i:=7) cK.nd rfl (Or.inl rfl)) (@ao _ _ _ (@aR _ _ 6 _ _ _ _ cK.nd rfl (Or.inr rfl) (@aH _ _ _ _ _ (@ad _ _ _ _ _ (pv 6) ah (ac rfl))) (aC rfl) (.inl rfl))) (fun _=>rfl)) (@am _ _ _ _ _ (@aR _ _ 8 _ _ _ _ cK.nd rfl (Or.inr rfl) (@au _ _ _ _ _ _ _ _ _ _ _ _ _ _ _ _ G_l_program (hr.mono (by omega)) rfl m_l_program k_l_program b_l_program .nil aI (@ad _ _ _ _ _ (@aH _ _ _ _ _ (@ad _ _ _ _ _ aG (@ad _ _ _ _ _ (@aH _ _ _ _ _ (@ad _ _ _ _ _ aG (@ad _ _ _ _ _ aj ah (ac rfl)) (ac rfl))) ah (ac rfl)) (ac rfl))) ah (ac rfl)) (by decide) (ac rfl) (ak rfl)) (aC rfl) (.inl rfl)) (@am _ _ _ _ _ (@aR _ _ 9 _ _ _ _ cK.nd rfl (Or.inl rfl) (@bW _ _ _ _ (@ad _ _ _ _ _ (@au _ _ _ _ _ _ _ _ _ _ _ _ _ _ _ _ G_l_program (hr.mono (by omega)) rfl m_l_program k_l_program b_l_program .nil aI (@ad _ _ _ _ _ (pv 6) ah (ac rfl)) (by decide) (ac rfl) (ak rfl)) (@ad _ _ _ _ _ (@aH _ _ _ _ _ (@ad _ _ _ _ _ (@aA _ _ _ _ _ _ _ av (pv 8) aj (fun _ _=>rfl)) (@ad _ _ _ _ _ (@aH _ _ _ _ _ (@ad _ _ _ _ _ (pv 6) ah (ac rfl))) ah (ac rfl)) (ac rfl))) (@ad _ _ _ _ _ (@aH _ _ _ _ _ (@ad _ _ _ _ _ (@aA _ _ _ _ _ _ _ av (pv 8) aj (fun _ _=>rfl)) (@ad _ _ _ _ _ (@aH _ _ _ _ _ (@ad _ _ _ _ _ (@bJ _ _ _ _ _ _ _ _ (iY.or gf) (@eO _ _ _ _ _ _ _ _ _ _ (nR.or iR) (@aA _ _ _ _ _ _ _ av (@aA _ _ _ _ _ _ _ av (pv 8) aj (fun _ _=>rfl)) aj (fun _ _=>rfl)) gy (gR aj)) (@aH _ _ _ _ _ (@ad _ _ _ _ _ (pv 6) ah (ac rfl)))) ah (ac rfl))) ah (ac rfl)) (ac rfl))) (@ad _ _ _ _ _ (@aH _ _ _ _ _ (@ad _ _ _ _ _ (pv 6) (@ad _ _ _ _ _ (@aA _ _ _ _ _ _ _ av (pv 8) aj (fun _ _=>rfl)) ah (ac rfl)) (ac rfl))) (@ad _ _ _ _ _ (pv 6) ah (ac rfl)) (ac rfl)) (ac rfl)) (ac rfl)) (ac rfl))) (aC rfl) (.inr rfl)) (@am _ _ _ _ _ (@fj _ _ _ _ (@lr _ _ _ _ _ _ _ _ _ _ _ _ PySem.F.plainAttrs_list PySem.F.slot_list_append PySem.F.type_list_append kY (pv 9) (@ad _ _ _ _ _ (@aH _ _ _ _ _ (@ad _ _ _ _ _ (@aA _ _ _ _ _ _ _ av (pv 8) aj (fun _ _=>rfl)) (@ad _ _ _ _ _ (@aH _ _ _ _ _ (@ad _ _ _ _ _ (@bJ _ _ _ _ _ _ _ _ (iY.or gf) (@aH _ _ _ _ _ (@ad _ _ _ _ _ (pv 6) ah (ac rfl))) (@eO _ _ _ _ _ _ _ _ _ _ (nR.or iR) (@aA _ _ _ _ _ _ _ av (@aA _ _ _ _ _ _ _ av (pv 8) aj (fun _ _=>rfl)) aj (fun _ _=>rfl)) (gR aj) gy)) ah (ac rfl))) ah (ac rfl)) (ac rfl))) ah (ac rfl)) rfl (fW rfl rfl) rfl (ac rfl) (ak rfl)) (aC rfl)) (@am _ _ _ _ _ (@aT _ _ _ _ _ _ _ _ (@aD _ _ _ _ _ _ _ _ (oa hr.units) (bt (N':=pi) (ρ:=[none]) (m:=1) (bF.of (fs:=defScope iy) (N:=oS) rfl rfl (by decide +kernel)) rfl (dR (pv 9)) (fun _ _ _ _=>(aQ (i:=0) wJ rfl (Or.inl rfl))) (fun _ _ _ _=>bq) (fun _ _ _ _=>(au G_l_told (hr.mono (by omega)) rfl m_l_told k_l_told b_l_told .nil aI (ad (pv 0) ah)))) (@bW _ _ _ _ (@ad _ _ _ _ _ (@aH _ _ _ _ _ (@ad _ _ _ _ _ aj (@ad _ _ _ _ _ aj ah (ac rfl)) (ac rfl))) (@ad _ _ _ _ _ (@aH _ _ _ _ _ (@ad _ _ _ _ _ aj (@ad _ _ _ _ _ (@fJ _ _ _ _ _ _ cS aj) ah (ac rfl)) (ac rfl))) (@ad _ _ _ _ _ (@aH _ _ _ _ _ (@ad _ _ _ _ _ aj (@ad _ _ _ _ _ aj ah (ac rfl)) (ac rfl))) (@ad _ _ _ _ _ (@aH _ _ _ _ _ (@ad _ _ _ _ _ (@fJ _ _ _ _ _ _ cS aj) (@ad _ _ _ _ _ (@fJ _ _ _ _ _ _ cS aj) ah (ac rfl)) (ac rfl))) (@ad _ _ _ _ _ (@aH _ _ _ _ _ (@ad _ _ _ _ _ (@fJ _ _ _ _ _ _ cS aj) (@ad _ _ _ _ _ (@fJ _ _ _ _ _ _ cS aj) ah (ac rfl)) (ac rfl))) (@ad _ _ _ _ _ (@aH _ _ _ _ _ (@ad _ _ _ _ _ aj (@ad _ _ _ _ _ (@fJ _ _ _ _ _ _ cS aj) ah (ac rfl)) (ac rfl))) ah (ac rfl)) (ac rfl)) (ac rfl)) (ac rfl)) (ac rfl)) (ac rfl))) (aJ _)) (@ao _ _ _ (@ay _ _ _ _ bo)) aE) (@ao _ _ _ (@aT _ _ _ _ _ _ _ _ (@aD _ _ _ _ _ _ _ _ (oa hr.units) (bt (N':=qz) (ρ:=[none,some 8,some 6]) (m:=1) (bF.of (fs:=defScope iy) (N:=oS) rfl rfl (by decide +kernel)) rfl (dR (bW (ad aG (ad aG (ad aG ah))))) (fun _ _ _ _=>(aQ (i:=0) wR rfl (Or.inl rfl))) (fun _ _ _ _=>bq) (fun _ _ _ _=>(au G_is_value (hr.mono (by omega)) rfl m_is_value k_is_value b_is_value .nil aI (ad (pv 1) (ad (pv 0) (ad (pv 2) ah)))))) (@bW _ _ _ _ (@ad _ _ _ _ _ bo (@ad _ _ _ _ _ bo (@ad _ _ _ _ _ bo ah (ac rfl)) (ac rfl)) (ac rfl))) (aJ _)) (@ao _ _ _ (@ay _ _ _ _ bo)) aE))))))))))))) (fun _=>rfl)) (@ao _ _ _ (@ay _ _ _ _ bo)))),?_⟩
 refine ⟨_,rfl,a,ns,rfl,hS,fun tp H1 g1 t1=>?_⟩
 refine ⟨4,rfl,by decide,by decide,hX (n:=4) (fun i σ H'=>∃ m2 m3 m4 m5 m6 m7 m8 m9,σ=[some (.ref a),some (.ref tp),m2,m3,m4,m5,m6,m7,m8,m9]∧Tp H' tp) ⟨none,none,none,none,none,none,none,none,rfl,t1⟩ (fun i0 σ H0 hi pv=>?_) (fun σ H' pv=>?_)⟩
 ·obtain ⟨m2,m3,m4,m5,m6,m7,m8,m9,rfl,t0⟩:=pv
  refine ⟨_,rfl,tp,8,rfl,t0,by decide,by decide,fun v HA v0 v8 _ tA=>?_⟩
  refine ⟨_,_,rfl,rfl,?_⟩
  obtain ⟨n,en⟩:∃ n:Nat,(7:Int)+v=((n+1:Nat):Int):=⟨6+v.toNat,by omega⟩
  have n6:6≤n:=by omega
  have n13:n≤13:=by omega
  dsimp only
  rw [en]
  refine ⟨_,rfl,n,rfl,by omega,fun rl x1 x2 x3 HB gB _ hrl dx1 dx2 dx3=>?_⟩
  refine ⟨(sz 2 (by decide)),fun u1 k1=>⟨(sz 2 (by decide)),fun u2 k2=>⟨(sz 2 (by decide)),fun u3 k3=>⟨(sz 3 (by decide)),fun dl k4=>?_⟩⟩⟩⟩
  have j1:=ag k1 (.tup [.int 0,.int 1])
  have j2:=ag k2 (.tup [.int 0,.int 1])
  have j3:=ag k3 (.tup [.int 0,.int 6])
  have j4:=ag k4 (.lst [.ref u1,.ref u2,.ref u3])
  have jC:=((j1.trans j2).trans j3).trans j4
  have hu:lm (upd (upd (upd (upd HB u1 (.tup [.int 0,.int 1])) u2 (.tup [.int 0,.int 1])) u3 (.tup [.int 0,.int 6])) dl (.lst [.ref u1,.ref u2,.ref u3])) dl u1 u2 u3:=⟨(j2.trans (j3.trans j4)) _ _ af,(j3.trans j4) _ _ af,j4 _ _ af,af⟩
  generalize eHC:upd (upd (upd (upd HB u1 (.tup [.int 0,.int 1])) u2 (.tup [.int 0,.int 1])) u3 (.tup [.int 0,.int 6])) dl (.lst [.ref u1,.ref u2,.ref u3])=HC at hu jC ⊢
  have hrl':=jC _ _ hrl
  refine ⟨_,rfl,rl,rfl,⟨_,SqL.of hrl'⟩,Aa (as:=[some (0,1),some (0,1),some (0,6)]) hrl' rfl (by simp) (fun i x hx=>?_) (fun acc HD gD pa D hD=>?_)⟩
  ·match i,hx with
   | 0,hx=>cases hx; exact ⟨_,_,_,dx1.mono (ar jC),gQ (AW (by omega) (by omega)) (by omega),rfl⟩
   | 1,hx=>cases hx; exact ⟨_,_,_,dx2.mono (ar jC),gQ (AH (by omega) (by omega)) (by omega),rfl⟩
   | 2,hx=>cases hx; obtain ⟨j,rfl⟩:∃ j,n=j+5:=⟨n - 5,by omega⟩; exact ⟨_,_,_,dx3.mono (ar jC),AO j,rfl⟩
   | i+3,hx=>simp at hx
  have jD:=ag hD (.lst acc)
  refine ⟨_,rfl,_,_,.lst (SqL.of af) (oE (Paired.mapP pa fun _ _ z=>z.mono (ar jD))),(hu.mono (gD.trans jD)).rd,rfl,rfl,_,rfl,?_⟩
  refine az (fun c=>absurd c (by decide)) (fun c=>?_)
  have G1:=(gB.trans jC).trans (gD.trans jD)
  generalize eHE:upd HD D (.lst acc)=HE at G1 ⊢
  refine ⟨4,rfl,by omega,fun r2 y1 y2 y3 HF gF _ hr2 dy1 dy2 dy3=>⟨r2,rfl,⟨_,SqL.of hr2⟩,Aa (as:=[none,none,none]) hr2 rfl (by simp) (fun i x hx=>?_) (fun acc2 HG gG pa2 D2 hD2=>?_)⟩⟩
  ·match i,hx with
   | 0,hx=>cases hx; exact ⟨_,_,_,dy1,pV (Cw (by omega)) rfl,rfl⟩
   | 1,hx=>cases hx; exact ⟨_,_,_,dy2,pV (Ca (by omega)) rfl,rfl⟩
   | 2,hx=>cases hx; exact ⟨_,_,_,dy3,zK,rfl⟩
   | i+3,hx=>simp at hx
  refine ⟨(sz 3 (by decide)),fun e1 he1=>?_⟩
  have jD2:=ag hD2 (.lst acc2)
  have je:=ag he1 (.lst [.bl true,.bl true,.bl true])
  refine ⟨_,_,.lst (SqL.of (je _ _ af)) (oE (Paired.mapP pa2 fun _ _ z=>z.mono (ar (jD2.trans je)))),.lst (SqL.of af) (.cons (.bl _) (.cons (.bl _) (.cons (.bl _) .nil))),rfl,rfl,_,rfl,?_⟩
  refine az (fun c=>absurd c (by decide)) (fun c=>?_)
  have G2:=((G1.trans gF).trans gG).trans (jD2.trans je)
  generalize eHI:upd (upd HG D2 (.lst acc2)) e1 (.lst [.bl true,.bl true,.bl true])=HI at G2 ⊢
  refine ⟨(sz 0 (by decide)),fun p0 hp0=>?_⟩
  have jp0:=ag hp0 (.tup [])
  have en':((n+1:Nat):Int).toNat=n+1:=by omega
  refine ⟨_,rfl,_,rfl,by omega,by omega,hX (lo:=0) (n:=((n+1:Nat):Int).toNat) (fun i σ H'=>∃ m7 vd,σ=[some (.ref a),some (.ref tp),some (.int (0+(i0:Int))),some (.int ((n+1:Nat):Int)),some (.ref rl),some (.ref dl),some (.ref vd),m7,m8,m9]∧aO HI H'∧DT K H' (.ref vd) (VD i))
   ⟨m7,p0,rfl,jp0,.tup (.inl af) .nil⟩ (fun i σ H' hi p=>?_) (fun σ HV p=>?_)⟩
  ·obtain ⟨m7,vd,rfl,g,d⟩:=p
   refine ⟨_,rfl,(sz 1 (by decide)),fun q1 k1=>?_⟩
   have u:=ag k1 (.tup [.ref vd])
   exact ⟨_,q1,rfl,g.trans u,.tup (.inl af) (.cons (d.mono (ar u)) .nil)⟩
  obtain ⟨m7',vd,rfl,gV,dV⟩:=p
  rw [en'] at dV
  obtain ⟨n',rfl⟩:∃ n',n=n'+2:=⟨n - 2,by omega⟩
  obtain ⟨vb,hvd,dvb⟩:∃ vb,HV vd=some (.tup [.ref vb])∧DT K HV (.ref vb) (VD (n'+2)):=by
   obtain ⟨_,xs,e,h,d⟩:=dV.open
   cases e
   obtain ⟨y,r,rfl,dy,dr⟩:=d.open
   cases dr
   obtain ⟨b,_,rfl,_⟩:=DT.open (show DT K HV y (.tuple [VD (n'+1)]) from dy)
   exact ⟨b,h,dy⟩
  obtain ⟨vc,hvb,dvc⟩:∃ vc,HV vb=some (.tup [.ref vc])∧DT K HV (.ref vc) (VD (n'+1)):=by
   obtain ⟨_,xs,e,h,d⟩:=DT.open (show DT K HV (.ref vb) (.tuple [VD (n'+1)]) from dvb)
   cases e
   obtain ⟨y,r,rfl,dy,dr⟩:=d.open
   cases dr
   obtain ⟨b,_,rfl,_⟩:=DT.open (show DT K HV y (.tuple [VD n']) from dy)
   exact ⟨b,h,dy⟩
  have G3:=G2.trans gV
  refine ⟨(sz 2 (by decide)),fun w1 k5=>⟨(sz 2 (by decide)),fun w2 k6=>⟨_,rfl,fun ga HW gW pg=>?_⟩⟩⟩
  obtain ⟨ra,z,fa,pn,pq,lo,bb,gv,gn,pl⟩:=pg
  have jW:=((ag k5 (.tup [.str "num",.int 1])).trans (ag k6 (.tup [.str "give",.ref w1]))).trans gW
  refine ⟨_,rfl,_,rfl,fun a1 HX gX pg1=>?_⟩
  obtain ⟨ra1,z1,fa1,pn1,pq1,lo1,bb1,gv1,gn1,pl1⟩:=pg1
  have plX:=pl.mono (ar gX)
  refine ⟨_,rfl,ga,_,_,_,rfl,rfl,SqT.of plX.a,rfl,_,rfl,(sz 1 (by decide)),fun t1 k7=>⟨(sz 2 (by decide)),fun t2 k8=>?_⟩⟩
  have c7:=ag k7 (.tup [.ref vd])
  have c8:=ag k8 (.tup [.ref ra,.ref t1])
  have plY:=plX.mono (ar (c7.trans c8))
  refine ⟨_,rfl,ga,_,_,_,rfl,rfl,SqT.of plY.a,rfl,_,rfl,ga,_,_,_,rfl,rfl,SqT.of plY.a,rfl,z,_,_,_,rfl,rfl,SqT.of plY.z,rfl,?_⟩
  refine ⟨_,rfl,?_⟩
  refine iS (k:=4) plY.fa fun c1 HZ gZ hc1=>?_
  refine ⟨_,rfl,(sz 1 (by decide)),fun t3 k9=>?_⟩
  have c9:=ag k9 (.tup [.ref vd])
  refine oG (c9 _ _ hc1) af (by simp) fun c2 Ha ga2 hc2=>?_
  refine ⟨(sz 1 (by decide)),fun t4 k10=>⟨(sz 2 (by decide)),fun t5 k11=>?_⟩⟩
  have c10:=ag k10 (.tup [.ref c2])
  have c11:=ag k11 (.tup [.ref ra,.ref t4])
  have jb:=((gZ.trans c9).trans ga2).trans (c10.trans c11)
  have plZ:=plY.mono (ar jb)
  refine ⟨_,rfl,_,rfl,ga,_,_,_,rfl,rfl,SqT.of plZ.a,rfl,(sz 2 (by decide)),fun t6 k12=>⟨_,rfl,(sz 5 (by decide)),fun bl k13=>?_⟩⟩
  have c12:=ag k12 (.tup [.ref vd,.ref z])
  have c13:=ag k13 (.lst [.ref a1,.ref t2,.ref t5,.ref t6,.ref vd])
  have plA:=plZ.mono (ar (c12.trans c13))
  refine ⟨_,rfl,.inl ⟨rfl,_,SqL.of af⟩,?_⟩
  refine ⟨_,rfl,ga,_,_,_,rfl,rfl,SqT.of plA.a,rfl,_,rfl,(sz 1 (by decide)),fun t7 k14=>?_⟩
  have c14:=ag k14 (.tup [.ref vd])
  have plB:=plA.mono (ar c14)
  refine ⟨_,rfl,ga,_,_,_,rfl,rfl,SqT.of plB.a,rfl,z,_,_,_,rfl,rfl,SqT.of plB.z,rfl,_,rfl,?_⟩
  refine zL (k:=1) plB.fa fun c3 Hb gb hc3=>?_
  refine oG (gb _ _ af) hc3 (by simp) fun c4 Hc gc hc4=>?_
  refine ⟨(sz 1 (by decide)),fun t8 k15=>⟨(sz 2 (by decide)),fun t9 k16=>?_⟩⟩
  have c15:=ag k15 (.tup [.ref c4])
  have c16:=ag k16 (.tup [.ref ra,.ref t8])
  have jc:=((c14.trans gb).trans gc).trans (c15.trans c16)
  have hbl:=jc _ _ (af (a:=bl) (o:=.lst [.ref a1,.ref t2,.ref t5,.ref t6,.ref vd]))
  refine ⟨bl,_,_,rfl,rfl,hbl,(sz 6 (by decide)),?_⟩
  have GA:=G3.trans (jW.trans (gX.trans ((c7.trans c8).trans (jb.trans c12))))
  have hbA:=GA.free k13
  have jXd:=(c7.trans c8).trans (jb.trans ((c12.trans c13).trans jc))
  have sd0:=jR (o:=.lst ([.ref a1,.ref t2,.ref t5,.ref t6,.ref vd]++[.ref t9])) hbA (GA.trans (c13.trans jc))
  have kd:=dC hbl (.lst ([.ref a1,.ref t2,.ref t5,.ref t6,.ref vd]++[.ref t9]))
  have tp1:=c8 t1 _ af
  have kX:=(ar jXd).trans kd
  have k8':=(ar (jb.trans ((c12.trans c13).trans jc))).trans kd
  have k11':=(ar ((c12.trans c13).trans jc)).trans kd
  have k12':=(ar (c13.trans jc)).trans kd
  have kV:=(ar (jW.trans gX)).trans kX
  have e1:=(pl1.r9 (dV.mono (ar (jW.trans gX))) (gQ (k:=1) (xU (by omega)) (by omega))).mono kX
  have f1:=k8' _ _ tp1
  have f2:=k8' _ _ (af (a:=t2) (o:=.tup [.ref ra,.ref t1]))
  have f3:=k11' _ _ (c11 _ _ (af (a:=t4) (o:=.tup [.ref c2])))
  have f4:=k11' _ _ (af (a:=t5) (o:=.tup [.ref ra,.ref t4]))
  have f5:=k11' _ _ ((c10.trans c11) _ _ hc2)
  have f6:=k12' _ _ (af (a:=t6) (o:=.tup [.ref vd,.ref z]))
  have f7:=kd _ _ (c16 _ _ (af (a:=t8) (o:=.tup [.ref c4])))
  have f8:=kd _ _ (af (a:=t9) (o:=.tup [.ref ra,.ref t8]))
  have f9:=kd _ _ ((c15.trans c16) _ _ hc4)
  have plD:=plX.mono kX
  have hbl':=af (a:=bl) (o:=.lst ([.ref a1,.ref t2,.ref t5,.ref t6,.ref vd]++[.ref t9])) (H:=upd (upd Hc t8 (.tup [.ref c4])) t9 (.tup [.ref ra,.ref t8]))
  generalize eHd:upd (upd (upd Hc t8 (.tup [.ref c4])) t9 (.tup [.ref ra,.ref t8])) bl (.lst ([.ref a1,.ref t2,.ref t5,.ref t6,.ref vd]++[.ref t9]))=Hd at hbl' sd0 kV e1 f1 f2 f3 f4 f5 f6 f7 f8 f9 plD ⊢
  have hvd':=kV _ _ hvd
  have hvb':=kV _ _ hvb
  have e2:R9 K Hd t2 (some (0,-1)):=.head f2 plD.ra f1 ⟨vd,_,rfl,hvd',.inl (by simp)⟩
  have e3:R9 K Hd t5 (some (0,0)):=.body (F:=(H9,[])) (ds:=[VD (n'+2)]) f4 plD.ra f3 ⟨c2,.ref pn,.ref lo,vd,_,rfl,f5,⟨pn,_,rfl,plD.pn,.cons ⟨pq,rfl,plD.pq⟩ .nil⟩,⟨lo,_,rfl,plD.lo,.nil⟩,hvd'⟩ hp9 ⟨c2,_,_,_,_,vd,_,rfl,f5,hvd',.cons (dvb.mono kV) .nil⟩ (by simp) (gQ (k:=0) (xU (by omega)) (by omega))
  have e4:R9 K Hd t6 (some (-1,-1)):=.recs f6 hvd' hvb' (by simp)
  have e5:R9 K Hd vd (some (-1,-1)):=.whole hvd' (by simp)
  have e6:R9 K Hd t9 (some (0,-1)):=.head f8 plD.ra f7 ⟨c4,_,rfl,f9,.inr ⟨rfl,vd,_,_,rfl,hvd'⟩⟩
  refine ⟨_,rfl,bl,rfl,⟨_,SqL.of hbl'⟩,CA (as:=[some (0,1),some (0,-1),some (0,0),some (-1,-1),some (-1,-1),some (0,-1)]) hbl' rfl (by simp) (fun i x hx=>?_) (fun acc3 He ge pa3 D3 hD3=>?_)⟩
  ·match i,hx with
   | 0,hx=>cases hx; exact ⟨_,_,rfl,e1,rfl⟩
   | 1,hx=>cases hx; exact ⟨_,_,rfl,e2,rfl⟩
   | 2,hx=>cases hx; exact ⟨_,_,rfl,e3,rfl⟩
   | 3,hx=>cases hx; exact ⟨_,_,rfl,e4,rfl⟩
   | 4,hx=>cases hx; exact ⟨_,_,rfl,e5,rfl⟩
   | 5,hx=>cases hx; exact ⟨_,_,rfl,e6,rfl⟩
   | i+6,hx=>simp at hx
  have jD3:=ag hD3 (.lst acc3)
  have hD3':=af (H:=He) (a:=D3) (o:=.lst acc3)
  have pD3:=Paired.mapP pa3 fun _ _ z=>dm.mono (ar jD3) z
  have gE:=(sd0.trans ge).trans jD3
  have hvdE:=(ge.trans jD3) _ _ hvd'
  have hvbE:=(ge.trans jD3) _ _ hvb'
  generalize eHf:upd He D3 (.lst acc3)=Hf at hD3' pD3 gE hvdE hvbE ⊢
  refine ⟨(sz 2 (by decide)),fun b1 r1=>⟨_,rfl,(sz 2 (by decide)),fun b2 r2=>⟨(sz 2 (by decide)),fun b3 r3=>⟨_,rfl,_,rfl,(sz 2 (by decide)),fun b4 r4=>⟨_,rfl,_,rfl,(sz 2 (by decide)),fun b5 r5=>⟨_,rfl,(sz 2 (by decide)),fun b6 r6=>⟨(sz 6 (by decide)),fun b7 r7=>?_⟩⟩⟩⟩⟩⟩⟩
  have i1:=ag r1 (.tup [.int 0,.int 1])
  have i2:=ag r2 (.tup [.int 0,.int (-1)])
  have i3:=ag r3 (.tup [.int 0,.int 0])
  have i4:=ag r4 (.tup [.int (-1),.int (-1)])
  have i5:=ag r5 (.tup [.int (-1),.int (-1)])
  have i6:=ag r6 (.tup [.int 0,.int (-1)])
  have i7:=ag r7 (.lst [.ref b1,.ref b2,.ref b3,.ref b4,.ref b5,.ref b6])
  have l6:=i6.trans i7
  have l5:=i5.trans l6
  have l4:=i4.trans l5
  have l3:=i3.trans l4
  have l2:=i2.trans l3
  have l1:=i1.trans l2
  have tt2:∀ {Hx:Hp} {b:Addr} {x y:Int},Hx b=some (.tup [.int x,.int y])→RdD K Hx (.ref b) (.tuple [.int x,.int y]):=fun h=>.tup (SqT.of h) (.cons (.int _) (.cons (.int _) .nil))
  refine ⟨_,_,.lst (SqL.of (l1 _ _ hD3')) (oE (Paired.mapP pD3 fun _ _ z=>dm.mono (ar l1) z)),.lst (SqL.of af) (.cons (tt2 (l2 _ _ af)) (.cons (tt2 (l3 _ _ af)) (.cons (tt2 (l4 _ _ af)) (.cons (tt2 (l5 _ _ af)) (.cons (tt2 (l6 _ _ af)) (.cons (tt2 (i7 _ _ af)) .nil)))))),rfl,rfl,_,rfl,?_⟩
  refine az (fun c=>absurd c (by decide)) (fun c=>?_)
  have gF':=gE.trans l1
  have hvdF:=l1 _ _ hvdE
  have hvbF:=l1 _ _ hvbE
  generalize eHg:upd (upd (upd (upd (upd (upd (upd Hf b1 (.tup [.int 0,.int 1])) b2 (.tup [.int 0,.int (-1)])) b3 (.tup [.int 0,.int 0])) b4 (.tup [.int (-1),.int (-1)])) b5 (.tup [.int (-1),.int (-1)])) b6 (.tup [.int 0,.int (-1)])) b7 (.lst [.ref b1,.ref b2,.ref b3,.ref b4,.ref b5,.ref b6])=Hg at gF' hvdF hvbF ⊢
  refine ⟨(sz 3 (by decide)),fun z1 s1=>⟨z1,rfl,⟨_,SqL.of af⟩,ivL af ((ag s1 _) _ _ hvdF) ((ag s1 _) _ _ hvbF) (fun Hh gh D4 hD4=>⟨(sz 3 (by decide)),fun z2 s2=>?_⟩)⟩⟩
  have y1:=ag hD4 (.lst [.bl false,.bl false,.bl false])
  have y2:=ag s2 (.lst [.bl false,.bl false,.bl false])
  refine ⟨_,_,.lst (SqL.of (y2 _ _ af)) (.cons (.bl _) (.cons (.bl _) (.cons (.bl _) .nil))),.lst (SqL.of af) (.cons (.bl _) (.cons (.bl _) (.cons (.bl _) .nil))),rfl,rfl,_,rfl,?_⟩
  refine az (fun c=>absurd c (by decide)) (fun c=>?_)
  exact ⟨_,_,_,_,_,_,_,_,rfl,tA.same (((gF'.trans (ag s1 _)).trans gh).trans (y1.trans y2))⟩
 ·obtain ⟨_,_,_,_,_,_,_,_,rfl,_⟩:=pv
  exact q _
end
end K6
namespace HD
open PySem PySem.W
abbrev pE:Program:=PySem.Challenge.pw_everyfork_k09_deep_things
abbrev top:Nat→Stmt:=K6.top
abbrev sx:String→Str:=Str.ofString
noncomputable abbrev de (P:Params) (x:Str) (t:Nat) (v:Value):DictEntry:=⟨PyData.keyHash P x,.str x t,v⟩
abbrev fd (i:Nat) (x qual:Str) (dV kV doc pm:Value) (an:Option Addr) (cdv ct:Value):FuncData:=fnOf x qual (L2.defArgs (top i)) (L2.defBody (top i)) (L2.defScope (top i)) dV kV doc pm an cdv ct
abbrev fd0 (i:Nat) (x qual:Str) (dV kV doc pm:Value) (an:Option Addr) (cdv ct:Value):FuncData:={ fd i x qual dV kV doc pm an cdv ct with globals:=0 }
abbrev topM (i j:Nat):Stmt:=match top i with | .ClassDef (body:=b) ..=>b.getD j (.Pass ⟨0,0,0,0⟩) | s=>s
abbrev fdm (i j:Nat) (x qual:Str) (dV kV doc pm:Value) (an:Option Addr) (cdv ct:Value):FuncData:=fnOf x qual (L2.defArgs (topM i j)) (L2.defBody (topM i j)) (L2.defScope (topM i j)) dV kV doc pm an cdv ct
abbrev DH (i j:Nat) (x qual:Str) (dV kV doc pm:Value) (an:Option Addr) (cdv ct:Value):FuncData:={ fdm i j x qual dV kV doc pm an cdv ct with globals:=0 }
noncomputable abbrev st (x:String) (t:Nat):Value:=.str (sx x) t
abbrev i0 (i:Int):Value:=.int i 0
noncomputable abbrev tu (l:List Value):Obj:=⟨.type "tuple",none,.seq ⟨l⟩ 0,#[]⟩
noncomputable abbrev co (l:List Value):Obj:=⟨.type "code",none,.fields ⟨l⟩,#[]⟩
noncomputable abbrev dr (P:Params) (x:String) (t r:Nat):DictEntry:=de P (sx x) t (.ref r)
noncomputable abbrev fu (i:Nat) (x q m:String) (t c:Nat):Obj:=⟨.type "function",none,.func (fd i (sx x) (sx q) .none .none .none (st m t) none (.ref c) .none),#[]⟩
noncomputable abbrev fv (i:Nat) (x m:String) (t c:Nat):Obj:=fu i x x m t c
noncomputable abbrev fw (i:Nat) (x:String):Obj:=⟨.none,none,.func (fd0 i (sx x) (sx x) .none .none .none .none none .none .none),#[]⟩
noncomputable section
def m0:Nat:=11
def ann:Option Value:=some (.ref 6)
def env:Env:={ scope:=pE.main.scope,locals:=mainNs,globals:=mainNs,cells:=[],code:=.ref 13,frame:=some 14 }
abbrev cE:Code:=.body (behindTheImports pE) env
abbrev B:List Frame:=[topFrame ⟨0,0,0,0⟩]
def s0 (w:World) (os:OsState):Shared:=⟨boot_heap w.params,Array.mk [],boot_drawn,boot_toks,os⟩
def aq:Obj:=tu []
def aM:Obj:=⟨.none,none,.fields #[],#[]⟩
def ww:Obj:=co [st "<module>" 182,st "<module>" 183,st "/claim/cut.py" 184,i0 1,i0 0,i0 0,i0 0,i0 0,.ref 11,.bool false,i0 181,.ref 12,.none,.none,.none,.none,i0 185,i0 1,st "/claim/cut.py" 186]
def wt:Obj:=⟨.type "frame",none,.plain,#[some (.ref 13),some (.ref 3),some (.ref 3),none,some (st "__main__" 164),none,some (.ref 0)]⟩
def ha (P:Params):Heap:=⟨⟨[(boot_o_0 P),(boot_o_1 P),(boot_o_2 P),(boot_o_3 P),(boot_o_4 P),(boot_o_5 P),(boot_o_6 P),(boot_o_7 P),(boot_o_8 P),(boot_o_9 P),(boot_o_10 P),aq,aM,ww,wt]⟩,{ :Life }⟩
def sa (w:World) (os:OsState):Shared:=⟨ha w.params,#[],⟨0,0,0,0⟩,187,os⟩
theorem Cd:∀ (w:World) (os:OsState),topGo treeTable pE w m0 ann 12 (s0 w os) (topStub pE)=some (sa w os,Thread.mk (denote treeTable cE) cE ⟨0,0,0,0⟩ B):=fun w os=>by kernel_rfl
def tb (P:Params):BT:=(.node (boot_o_0 P) (.node (boot_o_1 P) (.node (boot_o_3 P) (.node (boot_o_7 P) .nil .nil) (.node aq .nil .nil)) (.node (boot_o_5 P) (.node (boot_o_9 P) .nil .nil) (.node ww .nil .nil))) (.node (boot_o_2 P) (.node (boot_o_4 P) (.node (boot_o_8 P) .nil .nil) (.node aM .nil .nil)) (.node (boot_o_6 P) (.node (boot_o_10 P) .nil .nil) (.node wt .nil .nil))))
def sb (w:World) (os:OsState):SharedT:=⟨tb w.params,15,{ :Life },#[],⟨0,0,0,0⟩,187,os⟩
theorem zj:∀ (w:World) (os:OsState),segRun treeTable pE w m0 ann 1 1 (sa w os) (blockOf (behindTheImports pE) env cE ⟨0,0,0,0⟩ B)=some (.next,(sb w os).abs,cE,⟨0,0,0,0⟩):=fun w os=>by kernel_rfl
def Dw (P:Params):Obj:=⟨.type "dict",none,.dict #[de P (sx "__name__") 165 (st "everyfork.shapes" 322),de P (sx "__doc__") 166 .none,de P (sx "__package__") 167 .none,de P (sx "__loader__") 168 (.builtin "__main__.__loader__#opaque"),de P (sx "__spec__") 169 .none,dr P "__annotations__" 170 6,dr P "__builtins__" 171 4,de P (sx "__file__") 173 (st "/claim/cut.py" 172),de P (sx "__cached__") 174 .none,dr P "ForkError" 206 24,dr P "NoProgram" 233 44,dr P "PLAIN_KINDS" 239 47,dr P "NO_NAMES" 246 48,de P (sx "LETTERS") 248 (st "abcdefghijklmnopqrstuvwxyz" 247),dr P "is_whole" 255 55,dr P "is_between" 264 62,dr P "is_sign_number" 271 69,dr P "is_text" 277 74,dr P "is_name" 283 79,dr P "fields_of" 292 86,dr P "field_kinds" 298 91,dr P "field_kind" 308 98,dr P "parts" 321 105] 23,#[]⟩
def Af:Obj:=⟨.none,none,.fields #[i0 2,i0 0,.ref 20,i0 4,i0 0,.ref 33,i0 14,i0 0,.ref 54,i0 16,i0 0,.ref 61,i0 18,i0 0,.ref 68,i0 20,i0 0,.ref 73,i0 22,i0 0,.ref 78,i0 26,i0 0,.ref 85,i0 31,i0 0,.ref 90,i0 33,i0 0,.ref 97,i0 38,i0 0,.ref 104],#[]⟩
def pd:Obj:=tu [.type "ValueError"]
def iu:Obj:=⟨.type "builtin_function_or_method",none,.fields #[.builtin "type.__prepare__",.type "type"],#[]⟩
def vD (P:Params):Obj:=⟨.type "dict",none,.dict #[de P (sx "__module__") 196 (st "everyfork.errors" 187),de P (sx "__qualname__") 198 (st "ForkError" 197),de P (sx "__firstlineno__") 200 (.int 2 199),dr P "__static_attributes__" 201 22] 4,#[]⟩
def vB:Obj:=co [st "ForkError" 191,st "ForkError" 192,st "/claim/cut.py" 193,i0 2,i0 0,i0 0,i0 0,i0 0,.ref 18,.bool false,i0 181,.ref 19,.none,.none,.none,.none,i0 194,i0 2,st "/claim/cut.py" 195]
def vO:Obj:=⟨.type "frame",none,.plain,#[some (.ref 20),some (.ref 3),some (.ref 17),none,some (st "everyfork.errors" 187),none,some (.ref 0)]⟩
def qO (P:Params):Obj:=⟨.type "dict",none,.dict #[de P (sx "__module__") 196 (st "everyfork.errors" 187),de P (sx "__firstlineno__") 200 (.int 2 199),dr P "__static_attributes__" 201 22,dr P "__weakref__" 203 25,de P (sx "__doc__") 204 .none] 3,#[]⟩
def qB:Obj:=⟨.type "type",none,.cls ⟨(sx "ForkError"),[.type "ValueError"],[.ref 24,.type "ValueError",.type "Exception",.type "BaseException",.type "object"],23,(sx "ForkError"),true,[],[.ref 44],false,none,false⟩,#[some (.ref 15),none,some (st "ForkError" 189),some (st "ForkError" 197),some (.builtin "ValueError.__new__"),some (.bool true)]⟩
def pH:Obj:=⟨.type "getset_descriptor",none,.fields #[st "__weakref__" 202,.ref 24,.builtin "ExceptionGroup.__weakref__",.none],#[]⟩
def vF:Obj:=⟨.type "super",none,.fields #[.ref 24,.ref 24,.ref 24],#[]⟩
def vf:Obj:=⟨.type "builtin_function_or_method",none,.fields #[.builtin "object.__init_subclass__",.ref 24],#[]⟩
def qu:Obj:=tu [.ref 24]
def vL (P:Params):Obj:=⟨.type "dict",none,.dict #[de P (sx "__module__") 214 (st "everyfork.errors" 187),de P (sx "__qualname__") 216 (st "NoProgram" 215),de P (sx "__firstlineno__") 218 (.int 4 217),dr P "__init__" 227 41,dr P "__static_attributes__" 230 42] 5,#[]⟩
def vy:Obj:=⟨.none,none,.fields #[i0 6,i0 4,.ref 40],#[]⟩
def vQ:Obj:=co [st "NoProgram" 209,st "NoProgram" 210,st "/claim/cut.py" 211,i0 4,i0 0,i0 0,i0 0,i0 0,.ref 31,.bool false,i0 181,.ref 32,.none,.none,.none,.none,i0 212,i0 4,st "/claim/cut.py" 213]
def vh:Obj:=⟨.type "frame",none,.plain,#[some (.ref 33),some (.ref 3),some (.ref 30),none,some (st "everyfork.errors" 187),none,some (.ref 0)]⟩
def qQ:Obj:=tu [st "self" 222,st "function" 223,st "line" 224]
def uZ:Obj:=⟨.none,none,.func (DH 2 0 (sx "__init__") (sx "NoProgram.__init__") .none .none .none .none none .none .none),#[]⟩
def qF:Obj:=co [st "__init__" 219,st "NoProgram.__init__" 220,st "/claim/cut.py" 221,i0 6,i0 3,i0 0,i0 0,i0 3,.ref 35,.bool true,i0 181,.ref 36,.none,.ref 37,.ref 38,.ref 39,i0 225,i0 6,st "/claim/cut.py" 226]
def qK:Obj:=⟨.type "function",none,.func (fdm 2 0 (sx "__init__") (sx "NoProgram.__init__") .none .none .none (st "everyfork.errors" 187) none (.ref 40) .none),#[]⟩
def qC:Obj:=tu [st "function" 228,st "line" 229]
def qR (P:Params):Obj:=⟨.type "dict",none,.dict #[de P (sx "__module__") 214 (st "everyfork.errors" 187),de P (sx "__firstlineno__") 218 (.int 4 217),dr P "__init__" 227 41,dr P "__static_attributes__" 230 42,de P (sx "__doc__") 231 .none] 2,#[]⟩
def qv:Obj:=⟨.type "type",none,.cls ⟨(sx "NoProgram"),[.ref 24],[.ref 44,.ref 24,.type "ValueError",.type "Exception",.type "BaseException",.type "object"],43,(sx "NoProgram"),true,[],[],false,none,false⟩,#[some (.ref 28),none,some (st "NoProgram" 207),some (st "NoProgram" 215),some (.builtin "ValueError.__new__"),some (.bool true)]⟩
def vP:Obj:=⟨.type "super",none,.fields #[.ref 44,.ref 44,.ref 44],#[]⟩
def vT:Obj:=⟨.type "builtin_function_or_method",none,.fields #[.builtin "object.__init_subclass__",.ref 44],#[]⟩
def pI:Obj:=tu [st "num" 236,st "text" 237,st "row" 238]
def pS:Obj:=tu [st "num" 240,st "text" 241,st "row" 242,st "gives" 243,st "rounds" 244,st "range" 245]
def qt:Obj:=tu [st "thing" 252]
def vX:Obj:=fw 7 "is_whole"
def qH:Obj:=co [st "is_whole" 249,st "is_whole" 250,st "/claim/cut.py" 251,i0 14,i0 1,i0 0,i0 0,i0 3,.ref 49,.bool true,i0 181,.ref 50,.none,.ref 51,.ref 52,.ref 53,i0 253,i0 14,st "/claim/cut.py" 254]
def pQ:Obj:=fv 7 "is_whole" "everyfork.kinds" 234 54
def qk:Obj:=tu [st "thing" 259,st "least" 260,st "most" 261]
def vz:Obj:=fw 8 "is_between"
def pj:Obj:=co [st "is_between" 256,st "is_between" 257,st "/claim/cut.py" 258,i0 16,i0 3,i0 0,i0 0,i0 3,.ref 56,.bool true,i0 181,.ref 57,.none,.ref 58,.ref 59,.ref 60,i0 262,i0 16,st "/claim/cut.py" 263]
def oQ:Obj:=fv 8 "is_between" "everyfork.kinds" 234 61
def pb:Obj:=tu [st "number" 268]
def uW:Obj:=fw 9 "is_sign_number"
def pB:Obj:=co [st "is_sign_number" 265,st "is_sign_number" 266,st "/claim/cut.py" 267,i0 18,i0 1,i0 0,i0 0,i0 3,.ref 63,.bool true,i0 181,.ref 64,.none,.ref 65,.ref 66,.ref 67,i0 269,i0 18,st "/claim/cut.py" 270]
def qy:Obj:=fv 9 "is_sign_number" "everyfork.kinds" 234 68
def vq:Obj:=fw 10 "is_text"
def oW:Obj:=co [st "is_text" 272,st "is_text" 273,st "/claim/cut.py" 274,i0 20,i0 1,i0 0,i0 0,i0 3,.ref 70,.bool true,i0 181,.ref 71,.none,.none,.none,.ref 72,i0 275,i0 20,st "/claim/cut.py" 276]
def oX:Obj:=fv 10 "is_text" "everyfork.kinds" 234 73
def uU:Obj:=fw 11 "is_name"
def pL:Obj:=co [st "is_name" 278,st "is_name" 279,st "/claim/cut.py" 280,i0 22,i0 1,i0 0,i0 0,i0 3,.ref 75,.bool true,i0 181,.ref 76,.none,.none,.none,.ref 77,i0 281,i0 22,st "/claim/cut.py" 282]
def oR:Obj:=fv 11 "is_name" "everyfork.kinds" 234 78
def pD:Obj:=tu [st "program" 287,st "kind" 288,st "record" 289]
def vH:Obj:=fw 12 "fields_of"
def pO:Obj:=co [st "fields_of" 284,st "fields_of" 285,st "/claim/cut.py" 286,i0 26,i0 2,i0 0,i0 0,i0 3,.ref 80,.bool true,i0 181,.ref 81,.none,.ref 82,.ref 83,.ref 84,i0 290,i0 26,st "/claim/cut.py" 291]
def pY:Obj:=fv 12 "fields_of" "everyfork.kinds" 234 85
def vR:Obj:=fw 13 "field_kinds"
def qS:Obj:=co [st "field_kinds" 293,st "field_kinds" 294,st "/claim/cut.py" 295,i0 31,i0 2,i0 0,i0 0,i0 3,.ref 87,.bool true,i0 181,.ref 88,.none,.none,.none,.ref 89,i0 296,i0 31,st "/claim/cut.py" 297]
def pe:Obj:=fv 13 "field_kinds" "everyfork.kinds" 234 90
def pW:Obj:=tu [st "program" 302,st "kind" 303,st "field" 304,st "pair" 305]
def vm:Obj:=fw 14 "field_kind"
def qP:Obj:=co [st "field_kind" 299,st "field_kind" 300,st "/claim/cut.py" 301,i0 33,i0 3,i0 0,i0 0,i0 3,.ref 92,.bool true,i0 181,.ref 93,.none,.ref 94,.ref 95,.ref 96,i0 306,i0 33,st "/claim/cut.py" 307]
def pG:Obj:=fv 14 "field_kind" "everyfork.kinds" 234 97
def jv:Obj:=tu [st "program" 312,st "kind" 313,st "told" 314,st "field" 315,st "inner" 316,st "path" 317,st "sort" 318]
def mZ:Obj:=fw 15 "parts"
def jj:Obj:=co [st "parts" 309,st "parts" 310,st "/claim/cut.py" 311,i0 38,i0 2,i0 0,i0 0,i0 3,.ref 99,.bool true,i0 181,.ref 100,.none,.ref 101,.ref 102,.ref 103,i0 319,i0 38,st "/claim/cut.py" 320]
def jh:Obj:=fv 15 "parts" "everyfork.kinds" 234 104
def t_0 (P:Params):BT:=(.node (boot_o_0 P) (.node (boot_o_1 P) (.node (Dw P) (.node (boot_o_7 P) (.node pd (.node aq (.node aq .nil .nil) (.node aq .nil .nil)) (.node pI (.node oR .nil .nil) .nil)) (.node (qO P) (.node uZ (.node aM .nil .nil) (.node mZ .nil .nil)) (.node pQ (.node aq .nil .nil) .nil))) (.node aq (.node aM (.node aq (.node uW .nil .nil) (.node aq .nil .nil)) (.node qt (.node aq .nil .nil) .nil)) (.node vf (.node (qR P) (.node aq .nil .nil) .nil) (.node aq (.node pe .nil .nil) .nil)))) (.node (boot_o_5 P) (.node (boot_o_9 P) (.node (vD P) (.node vQ (.node pb .nil .nil) (.node qP .nil .nil)) (.node aq (.node aM .nil .nil) .nil)) (.node pH (.node qK (.node oW .nil .nil) (.node jh .nil .nil)) (.node aM (.node vR .nil .nil) .nil))) (.node ww (.node vO (.node qQ (.node qy .nil .nil) (.node jv .nil .nil)) (.node vX (.node pO .nil .nil) .nil)) (.node iu (.node vP (.node uU .nil .nil) .nil) (.node pj (.node aM .nil .nil) .nil))))) (.node (boot_o_2 P) (.node (boot_o_4 P) (.node (boot_o_8 P) (.node iu (.node vy (.node aM .nil .nil) (.node vm .nil .nil)) (.node pS (.node aq .nil .nil) .nil)) (.node qB (.node qF (.node vq .nil .nil) (.node jj .nil .nil)) (.node aq (.node aM .nil .nil) .nil))) (.node Af (.node vB (.node aM (.node pB .nil .nil) (.node aM .nil .nil)) (.node aq (.node vH .nil .nil) .nil)) (.node qu (.node qv (.node aM .nil .nil) .nil) (.node vz (.node aq .nil .nil) .nil)))) (.node (boot_o_6 P) (.node (boot_o_10 P) (.node aq (.node vh (.node aq .nil .nil) (.node pG .nil .nil)) (.node aM (.node pD .nil .nil) .nil)) (.node vF (.node qC (.node oX .nil .nil) .nil) (.node qk (.node qS .nil .nil) .nil))) (.node wt (.node aq (.node aq (.node aq .nil .nil) (.node aq .nil .nil)) (.node qH (.node pY .nil .nil) .nil)) (.node (vL P) (.node vT (.node pL .nil .nil) .nil) (.node oQ (.node pW .nil .nil) .nil))))))
def s_0 (w:World) (os:OsState):SharedT:=⟨t_0 w.params,106,{ :Life },#[],⟨0,0,0,0⟩,324,os⟩
def q0:List Stmt:=(pE.main.body.drop 0).take 17
theorem l_0:∀ (w:World) (os:OsState),segRunT treeTable pE w m0 ann 1 764 (sb w os) (piecesOf q0 env cE ⟨0,0,0,0⟩ B)=some (.next,s_0 w os,cE,⟨46,0,46,8⟩):=fun w os=>by kernel_rfl
def DP (P:Params):Obj:=⟨.type "dict",none,.dict #[de P (sx "__name__") 165 (st "everyfork.shapes" 322),de P (sx "__doc__") 166 .none,de P (sx "__package__") 167 .none,de P (sx "__loader__") 168 (.builtin "__main__.__loader__#opaque"),de P (sx "__spec__") 169 .none,dr P "__annotations__" 170 6,dr P "__builtins__" 171 4,de P (sx "__file__") 173 (st "/claim/cut.py" 172),de P (sx "__cached__") 174 .none,dr P "ForkError" 206 24,dr P "NoProgram" 233 44,dr P "PLAIN_KINDS" 239 47,dr P "NO_NAMES" 246 48,de P (sx "LETTERS") 248 (st "abcdefghijklmnopqrstuvwxyz" 247),dr P "is_whole" 255 55,dr P "is_between" 264 62,dr P "is_sign_number" 271 69,dr P "is_text" 277 74,dr P "is_name" 283 79,dr P "fields_of" 292 86,dr P "field_kinds" 298 91,dr P "field_kind" 308 98,dr P "parts" 321 105,dr P "SHAPES" 469 106,dr P "LISTED" 479 164,dr P "GOES_BY" 517 165] 26,#[]⟩
def nM (P:Params):Obj:=⟨.type "dict",none,.dict #[dr P "let" 324 108,dr P "say" 329 110,dr P "if" 334 112,dr P "while" 339 114,dr P "call" 344 116,dr P "give" 348 118,dr P "num" 353 120,dr P "text" 357 122,dr P "var" 361 124,dr P "of" 365 126,dr P "with" 370 128,dr P "new" 376 130,dr P "add" 380 132,dr P "sub" 386 134,dr P "times" 392 136,dr P "div" 397 138,dr P "rest" 402 140,dr P "len" 407 143,dr P "at" 411 145,dr P "rows" 416 147,dr P "put" 419 149,dr P "more" 425 151,dr P "signs" 430 153,dr P "less" 434 155,dr P "same" 439 157,dr P "and" 444 159,dr P "or" 449 161,dr P "not" 454 163] 28,#[]⟩
def lS:Obj:=tu [.int 2 327]
def nO:Obj:=tu [st "statement" 325,.int 3 326,.ref 107]
def mq:Obj:=tu [.int 2 332]
def nV:Obj:=tu [st "statement" 330,.int 3 331,.ref 109]
def nW:Obj:=tu [.int 1 337]
def oM:Obj:=tu [st "statement" 335,.int 4 336,.ref 111]
def oz:Obj:=tu [.int 1 342]
def mx:Obj:=tu [st "statement" 340,.int 3 341,.ref 113]
def oJ:Obj:=tu [st "statement" 345,.int 4 346,.ref 115]
def lV:Obj:=tu [.int 1 351]
def mF:Obj:=tu [st "statement" 349,.int 2 350,.ref 117]
def ow:Obj:=tu [st "expression" 354,.int 2 355,.ref 119]
def nQ:Obj:=tu [st "expression" 358,.int 2 359,.ref 121]
def lN:Obj:=tu [st "expression" 362,.int 2 363,.ref 123]
def nX:Obj:=tu [.int 1 368]
def nP:Obj:=tu [st "expression" 366,.int 3 367,.ref 125]
def nJ:Obj:=tu [.int 1 373,.int 3 374]
def mH:Obj:=tu [st "expression" 371,.int 4 372,.ref 127]
def mt:Obj:=tu [st "expression" 377,.int 3 378,.ref 129]
def nZ:Obj:=tu [.int 1 383,.int 2 384]
def nr:Obj:=tu [st "expression" 381,.int 3 382,.ref 131]
def lW:Obj:=tu [.int 1 389,.int 2 390]
def lP:Obj:=tu [st "expression" 387,.int 3 388,.ref 133]
def lZ:Obj:=tu [.int 2 395]
def mW:Obj:=tu [st "expression" 393,.int 3 394,.ref 135]
def lO:Obj:=tu [.int 1 400]
def lY:Obj:=tu [st "expression" 398,.int 3 399,.ref 137]
def my:Obj:=tu [.int 1 405]
def nh:Obj:=tu [st "expression" 403,.int 3 404,.ref 139]
def rT (P:Params):Obj:=⟨.type "dict",none,.dict #[dr P "len" 407 143,dr P "at" 411 145,dr P "rows" 416 147,dr P "put" 419 149,dr P "more" 425 151,dr P "signs" 430 153,dr P "less" 434 155,dr P "same" 439 157,dr P "and" 444 159,dr P "or" 449 161,dr P "not" 454 163] 11,#[]⟩
def nY:Obj:=tu [.int 1 410]
def nH:Obj:=tu [st "expression" 408,.int 2 409,.ref 142]
def oH:Obj:=tu [.int 1 414,.int 2 415]
def ou:Obj:=tu [st "expression" 412,.int 3 413,.ref 144]
def lU:Obj:=tu [st "expression" 417,.int 2 418,.ref 146]
def nF:Obj:=tu [.int 1 422,.int 2 423,.int 3 424]
def lT:Obj:=tu [st "expression" 420,.int 4 421,.ref 148]
def mm:Obj:=tu [.int 1 428,.int 2 429]
def mV:Obj:=tu [st "expression" 426,.int 3 427,.ref 150]
def ng:Obj:=tu [.int 1 433]
def mY:Obj:=tu [st "expression" 431,.int 2 432,.ref 152]
def oh:Obj:=tu [.int 1 437,.int 2 438]
def lM:Obj:=tu [st "condition" 435,.int 3 436,.ref 154]
def oO:Obj:=tu [.int 1 442,.int 2 443]
def ml:Obj:=tu [st "condition" 440,.int 3 441,.ref 156]
def nE:Obj:=tu [.int 1 447,.int 2 448]
def mf:Obj:=tu [st "condition" 445,.int 3 446,.ref 158]
def mK:Obj:=tu [.int 1 452,.int 2 453]
def nj:Obj:=tu [st "condition" 450,.int 3 451,.ref 160]
def og:Obj:=tu [.int 1 457]
def ny:Obj:=tu [st "condition" 455,.int 2 456,.ref 162]
def mw (P:Params):Obj:=⟨.type "dict",none,.dict #[de P (sx "call") 470 (.int 3 471),de P (sx "new") 472 (.int 2 473),de P (sx "rows") 474 (.int 1 475)] 3,#[]⟩
def om (P:Params):Obj:=⟨.type "dict",none,.dict #[dr P "add" 480 167,dr P "sub" 484 169,dr P "times" 488 171,dr P "div" 491 173,dr P "rest" 494 175,dr P "put" 497 177,dr P "more" 502 179,dr P "signs" 506 181] 8,#[]⟩
def oB:Obj:=tu [st "num" 481,st "num" 482]
def lX:Obj:=tu [.ref 166,st "num" 483]
def mO:Obj:=tu [st "num" 485,st "num" 486]
def oA:Obj:=tu [.ref 168,st "num" 487]
def lQ:Obj:=tu [st "num" 489]
def nU:Obj:=tu [.ref 170,st "num" 490]
def mv:Obj:=tu [st "num" 492]
def nB:Obj:=tu [.ref 172,st "num" 493]
def nu:Obj:=tu [st "num" 495]
def nK:Obj:=tu [.ref 174,st "num" 496]
def mj:Obj:=tu [st "row" 498,st "num" 499,st "num" 500]
def mQ:Obj:=tu [.ref 176,st "row" 501]
def nt:Obj:=tu [st "row" 503,st "num" 504]
def oK:Obj:=tu [.ref 178,st "row" 505]
def oN:Obj:=tu [st "text" 507]
def nI:Obj:=tu [.ref 180,st "row" 508]
def t_1 (P:Params):BT:=(.node (boot_o_0 P) (.node (boot_o_1 P) (.node (DP P) (.node (boot_o_7 P) (.node pd (.node aq (.node aq (.node nJ .nil .nil) .nil) (.node aq (.node mf .nil .nil) .nil)) (.node pI (.node oR (.node nH .nil .nil) .nil) (.node nW (.node nK .nil .nil) .nil))) (.node (qO P) (.node uZ (.node aM (.node lZ .nil .nil) .nil) (.node mZ (.node lX .nil .nil) .nil)) (.node pQ (.node aq (.node mV .nil .nil) .nil) (.node aq .nil .nil)))) (.node aq (.node aM (.node aq (.node uW (.node nZ .nil .nil) .nil) (.node aq (.node ny .nil .nil) .nil)) (.node qt (.node aq (.node lU .nil .nil) .nil) (.node aq (.node oK .nil .nil) .nil))) (.node vf (.node (qR P) (.node aq (.node my .nil .nil) .nil) (.node lS (.node nU .nil .nil) .nil)) (.node aq (.node pe (.node lM .nil .nil) .nil) (.node aq .nil .nil))))) (.node (boot_o_5 P) (.node (boot_o_9 P) (.node (vD P) (.node vQ (.node pb (.node aq .nil .nil) .nil) (.node qP (.node nj .nil .nil) .nil)) (.node aq (.node aM (.node ou .nil .nil) .nil) (.node oz (.node mQ .nil .nil) .nil))) (.node pH (.node qK (.node oW (.node lO .nil .nil) .nil) (.node jh (.node oA .nil .nil) .nil)) (.node aM (.node vR (.node mY .nil .nil) .nil) (.node aq .nil .nil)))) (.node ww (.node vO (.node qQ (.node qy (.node lW .nil .nil) .nil) (.node jv (.node (om P) .nil .nil) .nil)) (.node vX (.node pO (.node lT .nil .nil) .nil) (.node lV (.node nI .nil .nil) .nil))) (.node iu (.node vP (.node uU (.node (rT P) .nil .nil) .nil) (.node mq (.node nB .nil .nil) .nil)) (.node pj (.node aM (.node ml .nil .nil) .nil) (.node nX .nil .nil)))))) (.node (boot_o_2 P) (.node (boot_o_4 P) (.node (boot_o_8 P) (.node iu (.node vy (.node aM (.node mH .nil .nil) .nil) (.node vm (.node mK .nil .nil) .nil)) (.node pS (.node aq (.node oH .nil .nil) .nil) (.node oM (.node mj .nil .nil) .nil))) (.node qB (.node qF (.node vq (.node mW .nil .nil) .nil) (.node jj (.node mO .nil .nil) .nil)) (.node aq (.node aM (.node ng .nil .nil) .nil) (.node ow .nil .nil)))) (.node Af (.node vB (.node aM (.node pB (.node nr .nil .nil) .nil) (.node aM (.node (mw P) .nil .nil) .nil)) (.node aq (.node vH (.node nF .nil .nil) .nil) (.node oJ (.node oN .nil .nil) .nil))) (.node qu (.node qv (.node aM (.node nh .nil .nil) .nil) (.node nO (.node mv .nil .nil) .nil)) (.node vz (.node aq (.node oO .nil .nil) .nil) (.node lN .nil .nil))))) (.node (boot_o_6 P) (.node (boot_o_10 P) (.node aq (.node vh (.node aq (.node mt .nil .nil) .nil) (.node pG (.node og .nil .nil) .nil)) (.node aM (.node pD (.node aq .nil .nil) .nil) (.node mx (.node nt .nil .nil) .nil))) (.node vF (.node qC (.node oX (.node lY .nil .nil) .nil) (.node (nM P) (.node lQ .nil .nil) .nil)) (.node qk (.node qS (.node oh .nil .nil) .nil) (.node nQ .nil .nil)))) (.node wt (.node aq (.node aq (.node aq (.node lP .nil .nil) .nil) (.node aq (.node oB .nil .nil) .nil)) (.node qH (.node pY (.node mm .nil .nil) .nil) (.node mF .nil .nil))) (.node (vL P) (.node vT (.node pL (.node nY .nil .nil) .nil) (.node nV (.node nu .nil .nil) .nil)) (.node oQ (.node pW (.node nE .nil .nil) .nil) (.node nP .nil .nil)))))))
def s_1 (w:World) (os:OsState):SharedT:=⟨t_1 w.params,182,{ :Life },#[],⟨0,0,0,0⟩,518,os⟩
def q1:List Stmt:=(pE.main.body.drop 17).take 3
theorem CH:∀ (v:World) (os:OsState),(fun w=>segRunT treeTable pE w m0 ann 1 907 (s_0 w os) (piecesOf q1 env cE ⟨46,0,46,8⟩ B)=some (.next,s_1 w os,cE,⟨49,0,49,7⟩)) (v.withFollow "special-get-raises" false):=fun v os=>by kernel_rfl
theorem Ci:∀ (v:World) (os:OsState),(fun w=>segRunT treeTable pE w m0 ann 1 907 (s_0 w os) (piecesOf q1 env cE ⟨46,0,46,8⟩ B)=some (.next,s_1 w os,cE,⟨49,0,49,7⟩)) (v.withFollow "special-get-raises" true):=fun v os=>by kernel_rfl
theorem l_1:∀ (w:World) (os:OsState),segRunT treeTable pE w m0 ann 1 907 (s_0 w os) (piecesOf q1 env cE ⟨46,0,46,8⟩ B)=some (.next,s_1 w os,cE,⟨49,0,49,7⟩):=fun w os=>byRow2 "special-get-raises" (P:=fun w=>segRunT treeTable pE w m0 ann 1 907 (s_0 w os) (piecesOf q1 env cE ⟨46,0,46,8⟩ B)=some (.next,s_1 w os,cE,⟨49,0,49,7⟩)) (fun v=>CH v os) (fun v=>Ci v os) w
def Bo (P:Params):Obj:=⟨.type "dict",none,.dict #[de P (sx "__name__") 165 (st "law_everyfork_k09_deep_things" 755),de P (sx "__doc__") 166 .none,de P (sx "__package__") 167 .none,de P (sx "__loader__") 168 (.builtin "__main__.__loader__#opaque"),de P (sx "__spec__") 169 .none,dr P "__annotations__" 170 6,dr P "__builtins__" 171 4,de P (sx "__file__") 173 (st "/claim/cut.py" 172),de P (sx "__cached__") 174 .none,dr P "ForkError" 206 24,dr P "NoProgram" 233 44,dr P "PLAIN_KINDS" 239 47,dr P "NO_NAMES" 246 48,de P (sx "LETTERS") 248 (st "abcdefghijklmnopqrstuvwxyz" 247),dr P "is_whole" 255 55,dr P "is_between" 264 62,dr P "is_sign_number" 271 69,dr P "is_text" 277 74,dr P "is_name" 283 79,dr P "fields_of" 292 86,dr P "field_kinds" 298 91,dr P "field_kind" 308 98,dr P "parts" 321 105,dr P "SHAPES" 469 106,dr P "LISTED" 479 164,dr P "GOES_BY" 517 165,de P (sx "MOST_NUMBER") 519 (.int 1000000 518),de P (sx "MOST_SIGNS") 521 (.int 40 520),de P (sx "MOST_IN_ROWS") 523 (.int 8 522),de P (sx "MOST_EXPRESSIONS") 525 (.int 12 524),de P (sx "MOST_CONDITIONS") 527 (.int 6 526),dr P "is_shaped" 536 188,dr P "inner_of" 542 193,dr P "may_break" 551 200,dr P "is_small" 561 207,dr P "own_right" 569 214,dr P "named_kind" 577 221,dr P "record_kind" 587 228,dr P "kind_by" 593 233,dr P "kind_in" 605 240,dr P "expression_kind" 614 247,dr P "is_compared" 623 254,dr P "is_condition" 629 259,de P (sx "MOST_RECORDS") 633 (.int 4 632),de P (sx "MOST_FUNCTIONS") 635 (.int 6 634),de P (sx "MOST_FIELDS") 637 (.int 4 636),de P (sx "MOST_PARTS") 639 (.int 8 638),de P (sx "MOST_PARAMS") 641 (.int 4 640),de P (sx "MOST_LOCALS") 643 (.int 6 642),de P (sx "MOST_LINES") 645 (.int 30 644),de P (sx "MOST_DEEP") 647 (.int 5 646),dr P "function_of" 656 266,dr P "variable_kinds" 663 273,dr P "bodies_of" 670 280,dr P "is_tuple_of" 679 287,dr P "is_kind" 685 292,dr P "are_named" 691 297,dr P "is_record" 697 302,dr P "are_records" 706 309,dr P "is_headed" 712 314,dr P "is_call" 718 319,dr P "is_line" 724 324,dr P "first_wrong_line" 730 329,dr P "right_program" 740 336,dr P "is_value" 748 341,dr P "are_values" 754 346,dr P "_law_tape" 763 353,dr P "_law_draw" 774 360,dr P "_law_told" 783 367,dr P "_law_program" 790 374,dr P "_law_lines" 801 381,dr P "law" 807 386] 72,#[]⟩
def AA:Obj:=⟨.none,none,.fields #[i0 2,i0 0,.ref 20,i0 4,i0 0,.ref 33,i0 14,i0 0,.ref 54,i0 16,i0 0,.ref 61,i0 18,i0 0,.ref 68,i0 20,i0 0,.ref 73,i0 22,i0 0,.ref 78,i0 26,i0 0,.ref 85,i0 31,i0 0,.ref 90,i0 33,i0 0,.ref 97,i0 38,i0 0,.ref 104,i0 55,i0 0,.ref 187,i0 62,i0 0,.ref 192,i0 67,i0 0,.ref 199,i0 75,i0 0,.ref 206,i0 85,i0 0,.ref 213,i0 94,i0 0,.ref 220,i0 96,i0 0,.ref 227,i0 103,i0 0,.ref 232,i0 118,i0 0,.ref 239,i0 126,i0 0,.ref 246,i0 128,i0 0,.ref 253,i0 130,i0 0,.ref 258,i0 152,i0 0,.ref 265,i0 157,i0 0,.ref 272,i0 159,i0 0,.ref 279,i0 165,i0 0,.ref 286,i0 167,i0 0,.ref 291,i0 169,i0 0,.ref 296,i0 176,i0 0,.ref 301,i0 182,i0 0,.ref 308,i0 189,i0 0,.ref 313,i0 198,i0 0,.ref 318,i0 204,i0 0,.ref 323,i0 219,i0 0,.ref 328,i0 231,i0 0,.ref 335,i0 243,i0 0,.ref 340,i0 251,i0 0,.ref 345,i0 256,i0 0,.ref 352,i0 258,i0 0,.ref 359,i0 272,i0 0,.ref 366,i0 279,i0 0,.ref 373,i0 281,i0 0,.ref 380,i0 290,i0 0,.ref 385],#[]⟩
def re:Obj:=tu [st "thing" 531,st "sort" 532,st "shape" 533]
def yU:Obj:=fw 25 "is_shaped"
def uy:Obj:=co [st "is_shaped" 528,st "is_shaped" 529,st "/claim/cut.py" 530,i0 55,i0 2,i0 0,i0 0,i0 3,.ref 182,.bool true,i0 181,.ref 183,.none,.ref 184,.ref 185,.ref 186,i0 534,i0 55,st "/claim/cut.py" 535]
def sY:Obj:=fv 25 "is_shaped" "everyfork.shapes" 322 187
def xG:Obj:=fw 26 "inner_of"
def uK:Obj:=co [st "inner_of" 537,st "inner_of" 538,st "/claim/cut.py" 539,i0 62,i0 1,i0 0,i0 0,i0 3,.ref 189,.bool true,i0 181,.ref 190,.none,.none,.none,.ref 191,i0 540,i0 62,st "/claim/cut.py" 541]
def rL:Obj:=fv 26 "inner_of" "everyfork.shapes" 322 192
def uM:Obj:=tu [st "shaped" 546,st "waiting" 547,st "one" 548]
def yA:Obj:=fw 27 "may_break"
def rh:Obj:=co [st "may_break" 543,st "may_break" 544,st "/claim/cut.py" 545,i0 67,i0 1,i0 0,i0 0,i0 3,.ref 194,.bool true,i0 181,.ref 195,.none,.ref 196,.ref 197,.ref 198,i0 549,i0 67,st "/claim/cut.py" 550]
def rB:Obj:=fv 27 "may_break" "everyfork.shapes" 322 199
def sk:Obj:=tu [st "thing" 555,st "waiting" 556,st "count" 557,st "one" 558]
def yC:Obj:=fw 28 "is_small"
def uG:Obj:=co [st "is_small" 552,st "is_small" 553,st "/claim/cut.py" 554,i0 75,i0 1,i0 0,i0 0,i0 3,.ref 201,.bool true,i0 181,.ref 202,.none,.ref 203,.ref 204,.ref 205,i0 559,i0 75,st "/claim/cut.py" 560]
def sF:Obj:=fv 28 "is_small" "everyfork.shapes" 322 206
def qY:Obj:=tu [st "e" 565,st "word" 566]
def xw:Obj:=fw 29 "own_right"
def uP:Obj:=co [st "own_right" 562,st "own_right" 563,st "/claim/cut.py" 564,i0 85,i0 1,i0 0,i0 0,i0 3,.ref 208,.bool true,i0 181,.ref 209,.none,.ref 210,.ref 211,.ref 212,i0 567,i0 85,st "/claim/cut.py" 568]
def sB:Obj:=fv 29 "own_right" "everyfork.shapes" 322 213
def rO:Obj:=tu [st "kinds" 573,st "thing" 574]
def wZ:Obj:=fw 30 "named_kind"
def sQ:Obj:=co [st "named_kind" 570,st "named_kind" 571,st "/claim/cut.py" 572,i0 94,i0 2,i0 0,i0 0,i0 3,.ref 215,.bool true,i0 181,.ref 216,.none,.ref 217,.ref 218,.ref 219,i0 575,i0 94,st "/claim/cut.py" 576]
def ss:Obj:=fv 30 "named_kind" "everyfork.shapes" 322 220
def rk:Obj:=tu [st "program" 581,st "e" 582,st "inner" 583,st "wanted" 584]
def yu:Obj:=fw 31 "record_kind"
def uS:Obj:=co [st "record_kind" 578,st "record_kind" 579,st "/claim/cut.py" 580,i0 96,i0 3,i0 0,i0 0,i0 3,.ref 222,.bool true,i0 181,.ref 223,.none,.ref 224,.ref 225,.ref 226,i0 585,i0 96,st "/claim/cut.py" 586]
def uQ:Obj:=fv 31 "record_kind" "everyfork.shapes" 322 227
def xy:Obj:=fw 32 "kind_by"
def rY:Obj:=co [st "kind_by" 588,st "kind_by" 589,st "/claim/cut.py" 590,i0 103,i0 4,i0 0,i0 0,i0 3,.ref 229,.bool true,i0 181,.ref 230,.none,.none,.none,.ref 231,i0 591,i0 103,st "/claim/cut.py" 592]
def ut:Obj:=fv 32 "kind_by" "everyfork.shapes" 322 232
def rq:Obj:=tu [st "program" 597,st "kinds" 598,st "e" 599,st "inner" 600,st "one" 601,st "kind" 602]
def wV:Obj:=fw 33 "kind_in"
def sD:Obj:=co [st "kind_in" 594,st "kind_in" 595,st "/claim/cut.py" 596,i0 118,i0 3,i0 0,i0 0,i0 3,.ref 234,.bool true,i0 181,.ref 235,.none,.ref 236,.ref 237,.ref 238,i0 603,i0 118,st "/claim/cut.py" 604]
def rM:Obj:=fv 33 "kind_in" "everyfork.shapes" 322 239
def sv:Obj:=tu [st "program" 609,st "kinds" 610,st "thing" 611]
def yW:Obj:=fw 34 "expression_kind"
def qX:Obj:=co [st "expression_kind" 606,st "expression_kind" 607,st "/claim/cut.py" 608,i0 126,i0 3,i0 0,i0 0,i0 3,.ref 241,.bool true,i0 181,.ref 242,.none,.ref 243,.ref 244,.ref 245,i0 612,i0 126,st "/claim/cut.py" 613]
def sW:Obj:=fv 34 "expression_kind" "everyfork.shapes" 322 246
def sZ:Obj:=tu [st "program" 618,st "kinds" 619,st "thing" 620]
def xI:Obj:=fw 35 "is_compared"
def qU:Obj:=co [st "is_compared" 615,st "is_compared" 616,st "/claim/cut.py" 617,i0 128,i0 3,i0 0,i0 0,i0 3,.ref 248,.bool true,i0 181,.ref 249,.none,.ref 250,.ref 251,.ref 252,i0 621,i0 128,st "/claim/cut.py" 622]
def uw:Obj:=fv 35 "is_compared" "everyfork.shapes" 322 253
def ye:Obj:=fw 36 "is_condition"
def tV:Obj:=co [st "is_condition" 624,st "is_condition" 625,st "/claim/cut.py" 626,i0 130,i0 3,i0 0,i0 0,i0 3,.ref 255,.bool true,i0 181,.ref 256,.none,.none,.none,.ref 257,i0 627,i0 130,st "/claim/cut.py" 628]
def sU:Obj:=fv 36 "is_condition" "everyfork.shapes" 322 258
def rg:Obj:=tu [st "program" 651,st "f" 652,st "function" 653]
def wW:Obj:=fw 46 "function_of"
def sC:Obj:=co [st "function_of" 648,st "function_of" 649,st "/claim/cut.py" 650,i0 152,i0 2,i0 0,i0 0,i0 3,.ref 260,.bool true,i0 181,.ref 261,.none,.ref 262,.ref 263,.ref 264,i0 654,i0 152,st "/claim/cut.py" 655]
def ug:Obj:=fv 46 "function_of" "everyfork.programs" 630 265
def uJ:Obj:=tu [st "function" 660]
def yD:Obj:=fw 47 "variable_kinds"
def si:Obj:=co [st "variable_kinds" 657,st "variable_kinds" 658,st "/claim/cut.py" 659,i0 157,i0 1,i0 0,i0 0,i0 3,.ref 267,.bool true,i0 181,.ref 268,.none,.ref 269,.ref 270,.ref 271,i0 661,i0 157,st "/claim/cut.py" 662]
def tG:Obj:=fv 47 "variable_kinds" "everyfork.programs" 630 272
def ul:Obj:=tu [st "statement" 667]
def yJ:Obj:=fw 48 "bodies_of"
def uF:Obj:=co [st "bodies_of" 664,st "bodies_of" 665,st "/claim/cut.py" 666,i0 159,i0 1,i0 0,i0 0,i0 3,.ref 274,.bool true,i0 181,.ref 275,.none,.ref 276,.ref 277,.ref 278,i0 668,i0 159,st "/claim/cut.py" 669]
def sH:Obj:=fv 48 "bodies_of" "everyfork.programs" 630 279
def sV:Obj:=tu [st "thing" 674,st "least" 675,st "most" 676]
def xl:Obj:=fw 49 "is_tuple_of"
def tJ:Obj:=co [st "is_tuple_of" 671,st "is_tuple_of" 672,st "/claim/cut.py" 673,i0 165,i0 3,i0 0,i0 0,i0 3,.ref 281,.bool true,i0 181,.ref 282,.none,.ref 283,.ref 284,.ref 285,i0 677,i0 165,st "/claim/cut.py" 678]
def rN:Obj:=fv 49 "is_tuple_of" "everyfork.programs" 630 286
def yz:Obj:=fw 50 "is_kind"
def sT:Obj:=co [st "is_kind" 680,st "is_kind" 681,st "/claim/cut.py" 682,i0 167,i0 2,i0 0,i0 0,i0 3,.ref 288,.bool true,i0 181,.ref 289,.none,.none,.none,.ref 290,i0 683,i0 167,st "/claim/cut.py" 684]
def rj:Obj:=fv 50 "is_kind" "everyfork.programs" 630 291
def xR:Obj:=fw 51 "are_named"
def sy:Obj:=co [st "are_named" 686,st "are_named" 687,st "/claim/cut.py" 688,i0 169,i0 4,i0 0,i0 0,i0 3,.ref 293,.bool true,i0 181,.ref 294,.none,.none,.none,.ref 295,i0 689,i0 169,st "/claim/cut.py" 690]
def tW:Obj:=fv 51 "are_named" "everyfork.programs" 630 296
def yb:Obj:=fw 52 "is_record"
def um:Obj:=co [st "is_record" 692,st "is_record" 693,st "/claim/cut.py" 694,i0 176,i0 2,i0 0,i0 0,i0 3,.ref 298,.bool true,i0 181,.ref 299,.none,.none,.none,.ref 300,i0 695,i0 176,st "/claim/cut.py" 696]
def uj:Obj:=fv 52 "is_record" "everyfork.programs" 630 301
def uN:Obj:=tu [st "thing" 701,st "place" 702,st "record" 703]
def yO:Obj:=fw 53 "are_records"
def sf:Obj:=co [st "are_records" 698,st "are_records" 699,st "/claim/cut.py" 700,i0 182,i0 1,i0 0,i0 0,i0 3,.ref 303,.bool true,i0 181,.ref 304,.none,.ref 305,.ref 306,.ref 307,i0 704,i0 182,st "/claim/cut.py" 705]
def rZ:Obj:=fv 53 "are_records" "everyfork.programs" 630 308
def yd:Obj:=fw 54 "is_headed"
def uq:Obj:=co [st "is_headed" 707,st "is_headed" 708,st "/claim/cut.py" 709,i0 189,i0 3,i0 0,i0 0,i0 3,.ref 310,.bool true,i0 181,.ref 311,.none,.none,.none,.ref 312,i0 710,i0 189,st "/claim/cut.py" 711]
def qT:Obj:=fv 54 "is_headed" "everyfork.programs" 630 313
def xN:Obj:=fw 55 "is_call"
def rn:Obj:=co [st "is_call" 713,st "is_call" 714,st "/claim/cut.py" 715,i0 198,i0 3,i0 0,i0 0,i0 3,.ref 315,.bool true,i0 181,.ref 316,.none,.none,.none,.ref 317,i0 716,i0 198,st "/claim/cut.py" 717]
def sA:Obj:=fv 55 "is_call" "everyfork.programs" 630 318
def xq:Obj:=fw 56 "is_line"
def sr:Obj:=co [st "is_line" 719,st "is_line" 720,st "/claim/cut.py" 721,i0 204,i0 3,i0 0,i0 0,i0 3,.ref 320,.bool true,i0 181,.ref 321,.none,.none,.none,.ref 322,i0 722,i0 204,st "/claim/cut.py" 723]
def rz:Obj:=fv 56 "is_line" "everyfork.programs" 630 323
def xT:Obj:=fw 57 "first_wrong_line"
def uc:Obj:=co [st "first_wrong_line" 725,st "first_wrong_line" 726,st "/claim/cut.py" 727,i0 219,i0 2,i0 0,i0 0,i0 3,.ref 325,.bool true,i0 181,.ref 326,.none,.none,.none,.ref 327,i0 728,i0 219,st "/claim/cut.py" 729]
def rf:Obj:=fv 57 "first_wrong_line" "everyfork.programs" 630 328
def sg:Obj:=tu [st "thing" 734,st "number" 735,st "function" 736,st "k" 737]
def zb:Obj:=fw 58 "right_program"
def rX:Obj:=co [st "right_program" 731,st "right_program" 732,st "/claim/cut.py" 733,i0 231,i0 1,i0 0,i0 0,i0 3,.ref 330,.bool true,i0 181,.ref 331,.none,.ref 332,.ref 333,.ref 334,i0 738,i0 231,st "/claim/cut.py" 739]
def ud:Obj:=fv 58 "right_program" "everyfork.programs" 630 335
def yI:Obj:=fw 60 "is_value"
def uC:Obj:=co [st "is_value" 743,st "is_value" 744,st "/claim/cut.py" 745,i0 243,i0 3,i0 0,i0 0,i0 3,.ref 337,.bool true,i0 181,.ref 338,.none,.none,.none,.ref 339,i0 746,i0 243,st "/claim/cut.py" 747]
def uA:Obj:=fv 60 "is_value" "everyfork.values" 741 340
def yT:Obj:=fw 61 "are_values"
def uE:Obj:=co [st "are_values" 749,st "are_values" 750,st "/claim/cut.py" 751,i0 251,i0 3,i0 0,i0 0,i0 3,.ref 342,.bool true,i0 181,.ref 343,.none,.none,.none,.ref 344,i0 752,i0 251,st "/claim/cut.py" 753]
def sS:Obj:=fv 61 "are_values" "everyfork.values" 741 345
def tY:Obj:=tu [st "_law_script" 760]
def ya:Obj:=fw 63 "_law_tape"
def ub:Obj:=co [st "_law_tape" 757,st "_law_tape" 758,st "/claim/cut.py" 759,i0 256,i0 1,i0 0,i0 0,i0 3,.ref 347,.bool true,i0 181,.ref 348,.none,.ref 349,.ref 350,.ref 351,i0 761,i0 256,st "/claim/cut.py" 762]
def rF:Obj:=fv 63 "_law_tape" "law_everyfork_k09_deep_things" 755 352
def uO:Obj:=tu [st "_law_tape_here" 767,st "_law_many" 768,st "_law_cell" 769,st "_law_mixed" 770,st "_law_found" 771]
def xK:Obj:=fw 64 "_law_draw"
def sq:Obj:=co [st "_law_draw" 764,st "_law_draw" 765,st "/claim/cut.py" 766,i0 258,i0 2,i0 0,i0 0,i0 3,.ref 354,.bool true,i0 181,.ref 355,.none,.ref 356,.ref 357,.ref 358,i0 772,i0 258,st "/claim/cut.py" 773]
def qW:Obj:=fv 64 "_law_draw" "law_everyfork_k09_deep_things" 755 359
def tT:Obj:=tu [st "_law_thing" 778,st "_law_told_here" 779,st "_law_e" 780]
def yx:Obj:=fw 65 "_law_told"
def sM:Obj:=co [st "_law_told" 775,st "_law_told" 776,st "/claim/cut.py" 777,i0 272,i0 1,i0 0,i0 0,i0 3,.ref 361,.bool true,i0 181,.ref 362,.none,.ref 363,.ref 364,.ref 365,i0 781,i0 272,st "/claim/cut.py" 782]
def uk:Obj:=fv 65 "_law_told" "law_everyfork_k09_deep_things" 755 366
def uf:Obj:=tu [st "_law_line" 787]
def xQ:Obj:=fw 66 "_law_program"
def tH:Obj:=co [st "_law_program" 784,st "_law_program" 785,st "/claim/cut.py" 786,i0 279,i0 1,i0 0,i0 0,i0 3,.ref 368,.bool true,i0 181,.ref 369,.none,.ref 370,.ref 371,.ref 372,i0 788,i0 279,st "/claim/cut.py" 789]
def tZ:Obj:=fv 66 "_law_program" "law_everyfork_k09_deep_things" 755 373
def rH:Obj:=tu [st "_law_many" 794,st "_law_e" 795,st "_law_c" 796,st "_law_body" 797,st "_law_k" 798]
def yR:Obj:=fw 67 "_law_lines"
def sK:Obj:=co [st "_law_lines" 791,st "_law_lines" 792,st "/claim/cut.py" 793,i0 281,i0 1,i0 0,i0 0,i0 3,.ref 375,.bool true,i0 181,.ref 376,.none,.ref 377,.ref 378,.ref 379,i0 799,i0 281,st "/claim/cut.py" 800]
def uI:Obj:=fv 67 "_law_lines" "law_everyfork_k09_deep_things" 755 380
def yB:Obj:=fw 68 "law"
def tw:Obj:=co [st "law" 802,st "law" 803,st "/claim/cut.py" 804,i0 290,i0 1,i0 0,i0 0,i0 3,.ref 382,.bool true,i0 181,.ref 383,.none,.none,.none,.ref 384,i0 805,i0 290,st "/claim/cut.py" 806]
def uu:Obj:=fv 68 "law" "law_everyfork_k09_deep_things" 755 385
def t_2 (P:Params):BT:=(.node (boot_o_0 P) (.node (boot_o_1 P) (.node (Bo P) (.node (boot_o_7 P) (.node pd (.node aq (.node aq (.node nJ (.node aq .nil .nil) (.node aM .nil .nil)) (.node xG (.node sA .nil .nil) .nil)) (.node aq (.node mf (.node rN .nil .nil) .nil) (.node aM (.node ya .nil .nil) .nil))) (.node pI (.node oR (.node nH (.node yD .nil .nil) .nil) (.node sF (.node rX .nil .nil) .nil)) (.node nW (.node nK (.node aq .nil .nil) .nil) (.node sD (.node uk .nil .nil) .nil)))) (.node (qO P) (.node uZ (.node aM (.node lZ (.node aq .nil .nil) .nil) (.node rh (.node xT .nil .nil) .nil)) (.node mZ (.node lX (.node xR .nil .nil) .nil) (.node xy (.node sq .nil .nil) .nil))) (.node pQ (.node aq (.node mV (.node uF .nil .nil) .nil) (.node aq (.node aM .nil .nil) .nil)) (.node aq (.node aM (.node aM .nil .nil) .nil) (.node sW (.node aq .nil .nil) .nil))))) (.node aq (.node aM (.node aq (.node uW (.node nZ (.node sU .nil .nil) .nil) (.node aM (.node sr .nil .nil) .nil)) (.node aq (.node ny (.node sT .nil .nil) .nil) (.node uS (.node aM .nil .nil) .nil))) (.node qt (.node aq (.node lU (.node aM .nil .nil) .nil) (.node aq (.node yI .nil .nil) .nil)) (.node aq (.node oK (.node yO .nil .nil) .nil) (.node sv (.node aq .nil .nil) .nil)))) (.node vf (.node (qR P) (.node aq (.node my (.node aq .nil .nil) .nil) (.node sk (.node aM .nil .nil) .nil)) (.node lS (.node nU (.node aM .nil .nil) .nil) (.node aM (.node tT .nil .nil) .nil))) (.node aq (.node pe (.node lM (.node sV .nil .nil) .nil) (.node wZ (.node aq .nil .nil) .nil)) (.node aq (.node uy (.node aq .nil .nil) .nil) (.node aq (.node yR .nil .nil) .nil)))))) (.node (boot_o_5 P) (.node (boot_o_9 P) (.node (vD P) (.node vQ (.node pb (.node aq (.node ye .nil .nil) (.node tw .nil .nil)) (.node rL (.node aM .nil .nil) .nil)) (.node qP (.node nj (.node aM .nil .nil) .nil) (.node aq (.node rF .nil .nil) .nil))) (.node aq (.node aM (.node ou (.node tG .nil .nil) .nil) (.node aM (.node aq .nil .nil) .nil)) (.node oz (.node mQ (.node uN .nil .nil) .nil) (.node aq (.node aM .nil .nil) .nil)))) (.node pH (.node qK (.node oW (.node lO (.node sC .nil .nil) .nil) (.node aq (.node rf .nil .nil) .nil)) (.node jh (.node oA (.node tW .nil .nil) .nil) (.node ut (.node aq .nil .nil) .nil))) (.node aM (.node vR (.node mY (.node aq .nil .nil) .nil) (.node rO (.node uE .nil .nil) .nil)) (.node aq (.node aq (.node uq .nil .nil) .nil) (.node aM (.node rH .nil .nil) .nil))))) (.node ww (.node vO (.node qQ (.node qy (.node lW (.node aM .nil .nil) .nil) (.node aq (.node aq .nil .nil) .nil)) (.node jv (.node (om P) (.node aq .nil .nil) .nil) (.node aq (.node aq .nil .nil) .nil))) (.node vX (.node pO (.node lT (.node aq .nil .nil) .nil) (.node uP (.node uA .nil .nil) .nil)) (.node lV (.node nI (.node rZ .nil .nil) .nil) (.node yW (.node tH .nil .nil) .nil)))) (.node iu (.node vP (.node uU (.node (rT P) (.node uJ .nil .nil) .nil) (.node yC (.node aq .nil .nil) .nil)) (.node mq (.node nB (.node um .nil .nil) .nil) (.node aq (.node yx .nil .nil) .nil))) (.node pj (.node aM (.node ml (.node xl .nil .nil) .nil) (.node ss (.node tY .nil .nil) .nil)) (.node nX (.node aq (.node xN .nil .nil) .nil) (.node qU (.node uI .nil .nil) .nil))))))) (.node (boot_o_2 P) (.node (boot_o_4 P) (.node (boot_o_8 P) (.node iu (.node vy (.node aM (.node mH (.node aM .nil .nil) (.node yB .nil .nil)) (.node uK (.node aq .nil .nil) .nil)) (.node vm (.node mK (.node aq .nil .nil) .nil) (.node rk (.node ub .nil .nil) .nil))) (.node pS (.node aq (.node oH (.node si .nil .nil) .nil) (.node aq (.node ud .nil .nil) .nil)) (.node oM (.node mj (.node aM .nil .nil) .nil) (.node rM (.node aq .nil .nil) .nil)))) (.node qB (.node qF (.node vq (.node mW (.node wW .nil .nil) .nil) (.node rB (.node uc .nil .nil) .nil)) (.node jj (.node mO (.node sy .nil .nil) .nil) (.node rY (.node qW .nil .nil) .nil))) (.node aq (.node aM (.node ng (.node sH .nil .nil) .nil) (.node aM (.node yT .nil .nil) .nil)) (.node ow (.node re (.node yd .nil .nil) .nil) (.node aq (.node aM .nil .nil) .nil))))) (.node AA (.node vB (.node aM (.node pB (.node nr (.node aq .nil .nil) .nil) (.node uM (.node rz .nil .nil) .nil)) (.node aM (.node (mw P) (.node rj .nil .nil) .nil) (.node uQ (.node uO .nil .nil) .nil))) (.node aq (.node vH (.node nF (.node ul .nil .nil) .nil) (.node xw (.node uC .nil .nil) .nil)) (.node oJ (.node oN (.node sf .nil .nil) .nil) (.node aq (.node xQ .nil .nil) .nil)))) (.node qu (.node qv (.node aM (.node nh (.node aM .nil .nil) .nil) (.node aq (.node sg .nil .nil) .nil)) (.node nO (.node mv (.node yb .nil .nil) .nil) (.node rq (.node aq .nil .nil) .nil))) (.node vz (.node aq (.node oO (.node aq .nil .nil) .nil) (.node sQ (.node aM .nil .nil) .nil)) (.node lN (.node sY (.node aM .nil .nil) .nil) (.node xI (.node sK .nil .nil) .nil)))))) (.node (boot_o_6 P) (.node (boot_o_10 P) (.node aq (.node vh (.node aq (.node mt (.node tV .nil .nil) (.node uu .nil .nil)) (.node aq (.node xq .nil .nil) .nil)) (.node pG (.node og (.node yz .nil .nil) .nil) (.node yu (.node aq .nil .nil) .nil))) (.node aM (.node pD (.node aq (.node aq .nil .nil) .nil) (.node qY (.node aM .nil .nil) .nil)) (.node mx (.node nt (.node aq .nil .nil) .nil) (.node aM (.node uf .nil .nil) .nil)))) (.node vF (.node qC (.node oX (.node lY (.node ug .nil .nil) .nil) (.node aM (.node aq .nil .nil) .nil)) (.node (nM P) (.node lQ (.node aq .nil .nil) .nil) (.node aq (.node aM .nil .nil) .nil))) (.node qk (.node qS (.node oh (.node aM .nil .nil) .nil) (.node aq (.node sS .nil .nil) .nil)) (.node nQ (.node yU (.node qT .nil .nil) .nil) (.node sZ (.node aq .nil .nil) .nil))))) (.node wt (.node aq (.node aq (.node aq (.node lP (.node rg .nil .nil) .nil) (.node yA (.node aM .nil .nil) .nil)) (.node aq (.node oB (.node aM .nil .nil) .nil) (.node aM (.node xK .nil .nil) .nil))) (.node qH (.node pY (.node mm (.node yJ .nil .nil) .nil) (.node sB (.node aq .nil .nil) .nil)) (.node mF (.node aq (.node aq .nil .nil) .nil) (.node qX (.node tZ .nil .nil) .nil)))) (.node (vL P) (.node vT (.node pL (.node nY (.node aq .nil .nil) .nil) (.node uG (.node zb .nil .nil) .nil)) (.node nV (.node nu (.node uj .nil .nil) .nil) (.node wV (.node sM .nil .nil) .nil))) (.node oQ (.node pW (.node nE (.node tJ .nil .nil) .nil) (.node aq (.node aq .nil .nil) .nil)) (.node nP (.node aM (.node rn .nil .nil) .nil) (.node uw (.node aq .nil .nil) .nil))))))))
def s_2 (w:World) (os:OsState):SharedT:=⟨t_2 w.params,387,{ :Life },#[],⟨0,0,0,0⟩,808,os⟩
def q2:List Stmt:=(pE.main.body.drop 20).take 49
theorem l_2:∀ (w:World) (os:OsState),segRunT treeTable pE w m0 ann 1 1103 (s_1 w os) (piecesOf q2 env cE ⟨49,0,49,7⟩ B)=some (.next,s_2 w os,cE,⟨290,0,310,15⟩):=fun w os=>by kernel_rfl
def hz (P:Params):Heap:=⟨⟨[(boot_o_0 P),(boot_o_1 P),(boot_o_2 P),(Bo P),(boot_o_4 P),(boot_o_5 P),(boot_o_6 P),(boot_o_7 P),(boot_o_8 P),(boot_o_9 P),(boot_o_10 P),aq,AA,ww,wt,pd,iu,(vD P),aq,aM,vB,vO,aq,(qO P),qB,pH,vF,vf,qu,iu,(vL P),aq,vy,vQ,vh,aq,aM,qQ,aq,uZ,qF,qK,qC,(qR P),qv,vP,vT,pI,pS,aq,aM,qt,aq,vX,qH,pQ,aq,aM,qk,aq,vz,pj,oQ,aq,aM,pb,aq,uW,pB,qy,aq,aM,vq,oW,oX,aq,aM,uU,pL,oR,aq,aM,pD,aq,vH,pO,pY,aq,aM,vR,qS,pe,aq,aM,pW,aq,vm,qP,pG,aq,aM,jv,aq,mZ,jj,jh,(nM P),lS,nO,mq,nV,nW,oM,oz,mx,aq,oJ,lV,mF,aq,ow,aq,nQ,aq,lN,nX,nP,nJ,mH,aq,mt,nZ,nr,lW,lP,lZ,mW,lO,lY,my,nh,(rT P),nY,nH,oH,ou,aq,lU,nF,lT,mm,mV,ng,mY,oh,lM,oO,ml,nE,mf,mK,nj,og,ny,(mw P),(om P),oB,lX,mO,oA,lQ,nU,mv,nB,nu,nK,mj,mQ,nt,oK,oN,nI,aq,aM,re,aq,yU,uy,sY,aq,aM,xG,uK,rL,aq,aM,uM,aq,yA,rh,rB,aq,aM,sk,aq,yC,uG,sF,aq,aM,qY,aq,xw,uP,sB,aq,aM,rO,aq,wZ,sQ,ss,aq,aM,rk,aq,yu,uS,uQ,aq,aM,xy,rY,ut,aq,aM,rq,aq,wV,sD,rM,aq,aM,sv,aq,yW,qX,sW,aq,aM,sZ,aq,xI,qU,uw,aq,aM,ye,tV,sU,aq,aM,rg,aq,wW,sC,ug,aq,aM,uJ,aq,yD,si,tG,aq,aM,ul,aq,yJ,uF,sH,aq,aM,sV,aq,xl,tJ,rN,aq,aM,yz,sT,rj,aq,aM,xR,sy,tW,aq,aM,yb,um,uj,aq,aM,uN,aq,yO,sf,rZ,aq,aM,yd,uq,qT,aq,aM,xN,rn,sA,aq,aM,xq,sr,rz,aq,aM,xT,uc,rf,aq,aM,sg,aq,zb,rX,ud,aq,aM,yI,uC,uA,aq,aM,yT,uE,sS,aq,aM,tY,aq,ya,ub,rF,aq,aM,uO,aq,xK,sq,qW,aq,aM,tT,aq,yx,sM,uk,aq,aM,uf,aq,xQ,tH,tZ,aq,aM,rH,aq,yR,sK,uI,aq,aM,yB,tw,uu]⟩,{ :Life }⟩
def sz (w:World) (os:OsState):Shared:=⟨hz w.params,#[],⟨0,0,0,0⟩,808,os⟩
theorem Ch:∀ (w:World) (os:OsState),topRun treeTable pE w m0 ann 2 (s_2 w os).abs (Thread.mk (doneF .next) cE ⟨290,0,310,15⟩ B)=some (sz w os):=fun w os=>by kernel_rfl
theorem CW:∀ (w:World) (os:OsState),topRun treeTable pE w m0 ann (12+(1+(764+(907+(1103+2))))) (s0 w os) (topStub pE)=some (sz w os):=fun w os=>go_top (Cd w os) (piece_block (zj w os) (piece_app (l:=q0) (segRun_of (l_0 w os)) (piece_app (l:=q1) (segRun_of (l_1 w os)) (piece_app (l:=q2) (segRun_of (l_2 w os)) (piece_nil (Ch w os))))))
def HK (P:Params):Frag:=[(2,(boot_o_2 P)),(3,(Bo P)),(15,pd),(22,aq),(23,(qO P)),(24,qB),(25,pH),(28,qu),(35,aq),(37,qQ),(38,aq),(40,qF),(41,qK),(42,qC),(43,(qR P)),(44,qv),(47,pI),(48,pS),(49,aq),(51,qt),(52,aq),(54,qH),(55,pQ),(56,aq),(58,qk),(59,aq),(61,pj),(62,oQ),(63,aq),(65,pb),(66,aq),(68,pB),(69,qy),(70,aq),(73,oW),(74,oX),(75,aq),(78,pL),(79,oR),(80,aq),(82,pD),(83,aq),(85,pO),(86,pY),(87,aq),(90,qS),(91,pe),(92,aq),(94,pW),(95,aq),(97,qP),(98,pG),(99,aq),(101,jv),(102,aq),(104,jj),(105,jh),(106,(nM P)),(107,lS),(108,nO),(109,mq),(110,nV),(111,nW),(112,oM),(113,oz),(114,mx),(115,aq),(116,oJ),(117,lV),(118,mF),(119,aq),(120,ow),(121,aq),(122,nQ),(123,aq),(124,lN),(125,nX),(126,nP),(127,nJ),(128,mH),(129,aq),(130,mt),(131,nZ),(132,nr),(133,lW),(134,lP),(135,lZ),(136,mW),(137,lO),(138,lY),(139,my),(140,nh),(142,nY),(143,nH),(144,oH),(145,ou),(146,aq),(147,lU),(148,nF),(149,lT),(150,mm),(151,mV),(152,ng),(153,mY),(154,oh),(155,lM),(156,oO),(157,ml),(158,nE),(159,mf),(160,mK),(161,nj),(162,og),(163,ny),(164,(mw P)),(165,(om P)),(166,oB),(167,lX),(168,mO),(169,oA),(170,lQ),(171,nU),(172,mv),(173,nB),(174,nu),(175,nK),(176,mj),(177,mQ),(178,nt),(179,oK),(180,oN),(181,nI),(182,aq),(184,re),(185,aq),(187,uy),(188,sY),(189,aq),(192,uK),(193,rL),(194,aq),(196,uM),(197,aq),(199,rh),(200,rB),(201,aq),(203,sk),(204,aq),(206,uG),(207,sF),(208,aq),(210,qY),(211,aq),(213,uP),(214,sB),(215,aq),(217,rO),(218,aq),(220,sQ),(221,ss),(222,aq),(224,rk),(225,aq),(227,uS),(228,uQ),(229,aq),(232,rY),(233,ut),(234,aq),(236,rq),(237,aq),(239,sD),(240,rM),(241,aq),(243,sv),(244,aq),(246,qX),(247,sW),(248,aq),(250,sZ),(251,aq),(253,qU),(254,uw),(255,aq),(258,tV),(259,sU),(260,aq),(262,rg),(263,aq),(265,sC),(266,ug),(267,aq),(269,uJ),(270,aq),(272,si),(273,tG),(274,aq),(276,ul),(277,aq),(279,uF),(280,sH),(281,aq),(283,sV),(284,aq),(286,tJ),(287,rN),(288,aq),(291,sT),(292,rj),(293,aq),(296,sy),(297,tW),(298,aq),(301,um),(302,uj),(303,aq),(305,uN),(306,aq),(308,sf),(309,rZ),(310,aq),(313,uq),(314,qT),(315,aq),(318,rn),(319,sA),(320,aq),(323,sr),(324,rz),(325,aq),(328,uc),(329,rf),(330,aq),(332,sg),(333,aq),(335,rX),(336,ud),(337,aq),(340,uC),(341,uA),(342,aq),(345,uE),(346,sS),(347,aq),(349,tY),(350,aq),(352,ub),(353,rF),(354,aq),(356,uO),(357,aq),(359,sq),(360,qW),(361,aq),(363,tT),(364,aq),(366,sM),(367,uk),(368,aq),(370,uf),(371,aq),(373,tH),(374,tZ),(375,aq),(377,rH),(378,aq),(380,sK),(381,uI),(382,aq),(385,tw),(386,uu)]
def HA:List Addr:=[2,3,15,22,23,24,25,28,35,37,38,40,41,42,43,44,47,48,49,51,52,54,55,56,58,59,61,62,63,65,66,68,69,70,73,74,75,78,79,80,82,83,85,86,87,90,91,92,94,95,97,98,99,101,102,104,105,106,107,108,109,110,111,112,113,114,115,116,117,118,119,120,121,122,123,124,125,126,127,128,129,130,131,132,133,134,135,136,137,138,139,140,142,143,144,145,146,147,148,149,150,151,152,153,154,155,156,157,158,159,160,161,162,163,164,165,166,167,168,169,170,171,172,173,174,175,176,177,178,179,180,181,182,184,185,187,188,189,192,193,194,196,197,199,200,201,203,204,206,207,208,210,211,213,214,215,217,218,220,221,222,224,225,227,228,229,232,233,234,236,237,239,240,241,243,244,246,247,248,250,251,253,254,255,258,259,260,262,263,265,266,267,269,270,272,273,274,276,277,279,280,281,283,284,286,287,288,291,292,293,296,297,298,301,302,303,305,306,308,309,310,313,314,315,318,319,320,323,324,325,328,329,330,332,333,335,336,337,340,341,342,345,346,347,349,350,352,353,354,356,357,359,360,361,363,364,366,367,368,370,371,373,374,375,377,378,380,381,382,385,386]
theorem CJ (P:Params):HA=(HK P).map (·.1):=by kernel_rfl
def qV:Program:={ pE with main:={ pE.main with body:=[top 68] } }
def lo:List Str:=[(sx "ForkError"),(sx "NoProgram"),(sx "PLAIN_KINDS"),(sx "NO_NAMES"),(sx "LETTERS"),(sx "is_whole"),(sx "is_between"),(sx "is_sign_number"),(sx "is_text"),(sx "is_name"),(sx "fields_of"),(sx "field_kinds"),(sx "field_kind"),(sx "parts"),(sx "SHAPES"),(sx "LISTED"),(sx "GOES_BY"),(sx "MOST_NUMBER"),(sx "MOST_SIGNS"),(sx "MOST_IN_ROWS"),(sx "MOST_EXPRESSIONS"),(sx "MOST_CONDITIONS"),(sx "is_shaped"),(sx "inner_of"),(sx "may_break"),(sx "is_small"),(sx "own_right"),(sx "named_kind"),(sx "record_kind"),(sx "kind_by"),(sx "kind_in"),(sx "expression_kind"),(sx "is_compared"),(sx "is_condition"),(sx "MOST_RECORDS"),(sx "MOST_FUNCTIONS"),(sx "MOST_FIELDS"),(sx "MOST_PARTS"),(sx "MOST_PARAMS"),(sx "MOST_LOCALS"),(sx "MOST_LINES"),(sx "MOST_DEEP"),(sx "function_of"),(sx "variable_kinds"),(sx "bodies_of"),(sx "is_tuple_of"),(sx "is_kind"),(sx "are_named"),(sx "is_record"),(sx "are_records"),(sx "is_headed"),(sx "is_call"),(sx "is_line"),(sx "first_wrong_line"),(sx "right_program"),(sx "is_value"),(sx "are_values"),(sx "_law_tape"),(sx "_law_draw"),(sx "_law_told"),(sx "_law_program"),(sx "_law_lines")]
abbrev rW:RowW:=OpenRow.toRowW (OpenLaw.row PySem.Challenge.rw_everyfork_k09_deep_things)
abbrev Xt:Shared→Bool:=fun s=>xlAt qV [] s&&recOk (RowW.records rW) s
abbrev hk:Hook:=kHook HK HA CJ
theorem BR:∀ w:World,(fencedOpening treeTable pE w 5000).map (fun s=>(s.heap,s.gens,s.drawn,s.toks))=some (boot_heap w.params,Array.mk [],boot_drawn,boot_toks) :=
 boot_open (by kernel_rfl) (by kernel_rfl) fun s=>by kernel_rfl
theorem BV:∀ w:World,((boot_heap w.params).isNs mainGlobals&&(Array.mk []:Array GenState).size==0,(boot_heap w.params).objs.size,(boot_heap w.params).nsMap mainGlobals "__annotations__")=(true,m0,ann):=fun w=>by kernel_rfl
theorem zh:∀ w:World,(fun os=>((staticsOk (importedModules pE.main.body) (boot_heap w.params) (hz w.params)&&namesBound pE (hz w.params)&&gensDone ⟨hz w.params,#[],⟨0,0,0,0⟩,808,os⟩&&laidKept (boot_heap w.params) (hz w.params)),openSeen qV lo (importedModules pE.main.body) Xt true ⟨hz w.params,#[],⟨0,0,0,0⟩,808,os⟩,hk.obs ⟨hz w.params,#[],⟨0,0,0,0⟩,808,os⟩))=fun _=>(true,openGood qV lo,hk.val w):=fun w=>by kernel_rfl
theorem left:LeftO pE qV lo Xt hk.obs hk.val 5000:=LeftO.of_pieces (M:=(12+(1+(764+(907+(1103+2)))))) BR BV CW (by kernel_rfl) zh
end
end HD
namespace K6
open PySem L2
def SHX:List (Str×Str×Int×List Int):=[("let", "statement",3,[2]),("say", "statement",3,[2]),("if", "statement",4,[1]),("while", "statement",3,[1]),("call", "statement",4,[]),("give", "statement",2,[1]),("num", "expression",2,[]),("text", "expression",2,[]),("var", "expression",2,[]),("of", "expression",3,[1]),("with", "expression",4,[1,3]),("new", "expression",3,[]),("add", "expression",3,[1,2]),("sub", "expression",3,[1,2]),("times", "expression",3,[2]),("div", "expression",3,[1]),("rest", "expression",3,[1]),("len", "expression",2,[1]),("at", "expression",3,[1,2]),("rows", "expression",2,[]),("put", "expression",4,[1,2,3]),("more", "expression",3,[1,2]),("signs", "expression",2,[1]),("less", "condition",3,[1,2]),("same", "condition",3,[1,2]),("and", "condition",3,[1,2]),("or", "condition",3,[1,2]),("not", "condition",2,[1])]
theorem An:∀ p∈SH4,p∈SHX.map fun q=>(q.1,q.2.1,q.2.2.1):=by decide +kernel
theorem Ax:∀ p∈PLC,p∈SHX.map fun q=>(q.1,q.2.2.2):=by decide +kernel
theorem Cc:∀ p∈PLC,∀ q∈LIT,q.1≠p.1:=by decide +kernel
structure GX (K:Frag) (w:World) (mg:Str→Option Value):Prop where
 sh:∃ aS,mg "SHAPES"=some (.ref aS)∧KDv K w aS∧∀ q∈SHX,∃ a b,PySem.W.nsIn K aS q.1=some (some (.ref a))∧(∀ H,SqT K H a [.str q.2.1,.int q.2.2.1,.ref b])∧∀ H,SqT K H b (q.2.2.2.map V.int)
 li:∃ aL,mg "LISTED"=some (.ref aL)∧KDv K w aL∧(∀ p∈LIT,∃ t,PySem.W.nsIn K aL p.1=some (some (.int p.2 t)))∧∀ q∈SHX,(∀ p∈LIT,p.1≠q.1)→PySem.W.nsIn K aL q.1=some none
theorem GX.gs {K:Frag} {w:World} {mg:Str→Option Value} (x:GX K w mg):GS K w mg:=by
 obtain ⟨aS,m1,k1,h1⟩:=x.sh
 obtain ⟨aL,m2,k2,h2,h3⟩:=x.li
 refine ⟨⟨aS,m1,k1,fun p hp=>?_⟩,⟨aL,m2,k2,h2,fun p hp hn=>?_⟩⟩
 ·obtain ⟨q,hq,rfl⟩:=List.mem_map.mp (An p hp)
  obtain ⟨a,b,e1,e2,_⟩:=h1 q hq
  exact ⟨a,b,e1,e2⟩
 ·obtain ⟨q,hq,rfl⟩:=List.mem_map.mp (An p hp)
  exact h3 q hq hn
theorem GX.gp {K:Frag} {w:World} {mg:Str→Option Value} (x:GX K w mg):GP K w mg:=by
 obtain ⟨aS,m1,k1,h1⟩:=x.sh
 obtain ⟨aL,m2,k2,h2,h3⟩:=x.li
 refine ⟨⟨aS,m1,k1,fun p hp=>?_⟩,⟨aL,m2,k2,h2,fun p hp=>?_⟩⟩
 ·obtain ⟨q,hq,rfl⟩:=List.mem_map.mp (Ax p hp)
  obtain ⟨a,b,e1,e2,e3⟩:=h1 q hq
  exact ⟨a,b,_,_,e1,e2,e3⟩
 ·have hn:=Cc p hp
  obtain ⟨q,hq,rfl⟩:=List.mem_map.mp (Ax p hp)
  exact h3 q hq hn
end K6
namespace L2
open PySem
structure Df (K:Frag) (mg:Str→Option Value) (x:Str) (st:Stmt) (ps:List Str) (f:Addr) (fd:FuncData):Prop where
 F:Fun K x x st f fd
 b:fF K fd ps []
 m:mg x=some (.ref f)
def fdA (K:Frag) (f:Addr):FuncData:=match K.lookup f with | some ⟨_,_,.func d,_⟩=>d | _=>default
abbrev fdO (K:Frag) (f:Addr) (x:Str) (st:Stmt):FuncData:=PySem.W.fnOf x x (defArgs st) (defBody st) (defScope st) .none (fdA K f).kwdefaults (fdA K f).doc (fdA K f).pyModule (fdA K f).annotations (fdA K f).code (fdA K f).closureTuple
abbrev DfE (K:Frag) (x:Str) (f:Addr) (st:Stmt):Prop:=(PySem.W.nsIn K mainGlobals x,K.lookup f,PySem.W.codeIn K (fdA K f).code x,keepIn K (.ref f))=(some (some (.ref f)),some ⟨.type "function",none,.func (fdO K f x st),#[]⟩,true,true)
section
variable {K:Frag} {mg:Str→Option Value} {h:Heap}
theorem bl1 {α:Type} {C:List α→Prop} (h:∀ a,C [a]) (us:List α) (hl:us.length=1):C us:=by
 obtain ⟨a,rfl⟩:=List.length_eq_one_iff.mp hl
 exact h a
theorem blc {α:Type} {n:Nat} {us:List α} (hl:us.length=n+1):∃ a r,us=a::r∧r.length=n:=by
 cases us with
 | nil=>cases hl
 | cons a r=>exact ⟨a,r,rfl,Nat.succ.inj hl⟩
theorem bl2 {α:Type} {C:List α→Prop} (h:∀ a b,C [a,b]) (us:List α) (hl:us.length=2):C us:=by
 obtain ⟨a,r,rfl,e⟩:=blc hl
 exact bl1 (C:=fun r=>C (a::r)) (h a) r e
theorem bl3 {α:Type} {C:List α→Prop} (h:∀ a b c,C [a,b,c]) (us:List α) (hl:us.length=3):C us:=by
 obtain ⟨a,r,rfl,e⟩:=blc hl
 exact bl2 (C:=fun r=>C (a::r)) (h a) r e
theorem bl4 {α:Type} {C:List α→Prop} (h:∀ a b c d,C [a,b,c,d]) (us:List α) (hl:us.length=4):C us:=by
 obtain ⟨a,r,rfl,e⟩:=blc hl
 exact bl3 (C:=fun r=>C (a::r)) (h a) r e
theorem bj (X:K.In h) (G:h.Ns mainGlobals mg) {x:Str} {f:Addr} {st:Stmt} {ps:List Str} (e:DfE K x f st)
  (hb:∀ (kV doc pm:Value) (an:Option Addr) (cdv ct:Value) (us:List Value),us.length=ps.length→bindArgs (PySem.W.fnOf x x (defArgs st) (defBody st) (defScope st) .none kV doc pm an cdv ct) ⟨us,[]⟩=pure (ps.zip us)):Df K mg x st ps f (fdO K f x st):=by
 obtain ⟨e1,e⟩:=Prod.mk.inj e
 obtain ⟨e2,e⟩:=Prod.mk.inj e
 obtain ⟨e3,e4⟩:=Prod.mk.inj e
 have F:Fun K x x st f (fdO K f x st):=xO e2 e3 e4
 exact ⟨F,F.binds hb,mg_of X G e1⟩
theorem Df.cal {P:Program} {w:World} {base:Heap} {x:Str} {st:Stmt} {ps:List Str} {f:Addr} {fd:FuncData} {k:Nat} {sp:Sp} (D:Df K mg x st ps f fd) (o:aV P w K mg base CX0 k f fd ps sp):K6.Cal P w K mg base k x ps sp:=⟨f,fd,o,D.b,D.F.kp,D.m⟩
def za (K:Frag) (a:Addr):Array Value:=match K.lookup a with | some ⟨_,_,.seq xs _,_⟩=>xs | _=>#[]
def esA (K:Frag) (a:Addr):Array DictEntry:=match K.lookup a with | some ⟨_,_,.dict xs _,_⟩=>xs | _=>#[]
def nA (K:Frag) (a:Addr):Nat:=match K.lookup a with | some ⟨_,_,.dict _ n,_⟩=>n | _=>0
abbrev tO (K:Frag) (a:Addr):Obj:=⟨.type "tuple",none,.seq (za K a) 0,#[]⟩
def vIs:V→Value→Bool
 | .int i,.int j _=>i==j
 | .str z,.str y _=>z==y
 | .ref a,.ref b=>a==b
 | _,_=>false
theorem Bl {v:V} {u:Value} (h:vIs v u=true):bh v u:=by
 unfold vIs at h
 split at h
 ·exact ⟨_,by rw [eq_of_beq h]⟩
 ·exact ⟨_,by rw [eq_of_beq h]⟩
 ·show _=_
  rw [eq_of_beq h]
 ·cases h
def jw:List V→List Value→Bool
 | [],[]=>true
 | v::vs,u::us=>vIs v u&&jw vs us
 | _,_=>false
theorem qp:∀ {vs:List V} {us:List Value},jw vs us=true→aY vs us
 | [],[],_=>.nil
 | v::vs,u::us,h=>by
  simp only [jw,Bool.and_eq_true] at h
  exact .cons (Bl h.1) (qp h.2)
 | [],_::_,h=>by cases h
 | _::_,[],h=>by cases h
theorem tq {a:Addr} {xs:List V} (e:K.lookup a=some (tO K a)) (hl:xs.length≤1000) (h:jw xs (za K a).toList=true):∀ H,SqT K H a xs:=fun H=>by
 have r:=qp h
 have:=aY.length r
 refine .inr ⟨_,_,0,e,rfl,rfl,?_,r⟩
 have:=cH hl
 rw [← Array.length_toList]
 omega
def kx (e:DictEntry):Str:=match e.key with | .str x _=>x | _=>Str.empty
def kt (e:DictEntry):Tok:=match e.key with | .str _ t=>t | _=>0
theorem vC {P:Params}:∀ {l:List DictEntry},l.map (fun e=>(e.key,e.hash))=l.map (fun e=>(.str (kx e) (kt e),PyData.keyHash P (kx e)))→KeysLit P l
 | [],_=>trivial
 | e::r,h=>by
  rw [List.map_cons,List.map_cons] at h
  obtain ⟨h1,h2⟩:=List.cons.inj h
  obtain ⟨h3,h4⟩:=Prod.mk.inj h1
  exact ⟨⟨_,_,h3,h4⟩,vC h2⟩
abbrev KdE (K:Frag) (P:Params) (a:Addr):Prop:=(K.lookup a,(esA K a).toList.map (fun e=>(e.key,e.hash)))=(some ⟨.type "dict",none,.dict (esA K a) (nA K a),#[]⟩,(esA K a).toList.map fun e=>(.str (kx e) (kt e),PyData.keyHash P (kx e)))
theorem tI {w:World} {a:Addr} (e:KdE K w.params a) (lo:(a==sysModules)=false):KDv K w a:=⟨⟨_,_,(Prod.mk.inj e).1,vC (Prod.mk.inj e).2⟩,lo⟩
abbrev zC:=Str×Addr×Addr×List V×List V
abbrev TbE (K:Frag) (a:Addr) (q:List zC):Prop:=(q.map fun r=>(PySem.W.nsIn K a r.1,K.lookup r.2.1,K.lookup r.2.2.1),q.all fun r=>r.2.2.2.1.length≤1000&&r.2.2.2.2.length≤1000&&jw r.2.2.2.1 (za K r.2.1).toList&&jw r.2.2.2.2 (za K r.2.2.1).toList)=(q.map fun r=>(some (some (.ref r.2.1)),some (tO K r.2.1),some (tO K r.2.2.1)),true)
theorem xD {a:Addr} {q:List zC} (e:TbE K a q):∀ r∈q,PySem.W.nsIn K a r.1=some (some (.ref r.2.1))∧(∀ H,SqT K H r.2.1 r.2.2.2.1)∧∀ H,SqT K H r.2.2.1 r.2.2.2.2:=fun r hr=>by
 obtain ⟨e1,e2⟩:=Prod.mk.inj e
 have h1:=List.map_inj_left.mp e1 r hr
 have h2:=List.all_eq_true.mp e2 r hr
 simp only [Bool.and_eq_true,decide_eq_true_eq] at h2
 obtain ⟨a1,a2⟩:=Prod.mk.inj h1
 obtain ⟨a2,a3⟩:=Prod.mk.inj a2
 exact ⟨a1,tq a2 h2.1.1.1 h2.1.2,tq a3 h2.1.1.2 h2.2⟩
theorem sR {α β:Type}:∀ {l:List α} {m:List β},l.length=m.length→∀ x∈l,∃ y,(x,y)∈l.zip m
 | a::l,b::m,h,x,hx=>by
  rcases List.mem_cons.mp hx with rfl | hx
  ·exact ⟨b,List.mem_cons_self ..⟩
  ·obtain ⟨y,hy⟩:=sR (by simpa using h) x hx
   exact ⟨y,List.mem_cons_of_mem _ hy⟩
def AU (K:Frag) (a:Addr) (x:Str):Tok:=match PySem.W.nsIn K a x with | some (some (.int _ t))=>t | some (some (.str _ t))=>t | _=>0
theorem mI (X:K.In h) (G:h.Ns mainGlobals mg) {x:Str} {i:Int} (e:PySem.W.nsIn K mainGlobals x=some (some (.int i (AU K mainGlobals x)))):∃ t,mg x=some (.int i t):=⟨_,mg_of X G e⟩
theorem mS' (X:K.In h) (G:h.Ns mainGlobals mg) {x z:Str} (e:PySem.W.nsIn K mainGlobals x=some (some (.str z (AU K mainGlobals x)))):∃ t,mg x=some (.str z t):=⟨_,mg_of X G e⟩
abbrev TuE (K:Frag) (x:Str) (a:Addr) (xs:List V):Prop:=(PySem.W.nsIn K mainGlobals x,K.lookup a,jw xs (za K a).toList)=(some (some (.ref a)),some (tO K a),true)
theorem mT (X:K.In h) (G:h.Ns mainGlobals mg) {x:Str} {a:Addr} {xs:List V} (e:TuE K x a xs) (hl:xs.length≤1000):∃ a,mg x=some (.ref a)∧∀ H,SqT K H a xs:=by
 obtain ⟨e1,e⟩:=Prod.mk.inj e
 obtain ⟨e2,e3⟩:=Prod.mk.inj e
 exact ⟨a,mg_of X G e1,tq e2 hl e3⟩
end
end L2
namespace K6
open PySem L2
def qSh (l:List (Addr×Addr)):List zC:=(SHX.zip l).map fun p=>(p.1.1,p.2.1,p.2.2,[.str p.1.2.1,.int p.1.2.2.1,.ref p.2.2],p.1.2.2.2.map V.int)
def qGb (l:List (Addr×Addr)):List zC:=(GBT.zip l).map fun p=>(p.1.1,p.2.1,p.2.2,[.ref p.2.2,.str p.1.2.2],p.1.2.1.map V.str)
abbrev LiE (K:Frag) (a:Addr):Prop:=(LIT.map fun p=>PySem.W.nsIn K a p.1,(SHX.filter fun q=>LIT.all fun p=>!(p.1==q.1)).map fun q=>PySem.W.nsIn K a q.1)=(LIT.map fun p=>some (some (.int p.2 (AU K a p.1))),(SHX.filter fun q=>LIT.all fun p=>!(p.1==q.1)).map fun _=>some none)
section
variable {K:Frag} {mg:Str→Option Value} {h:Heap} {w:World}
theorem Cp (X:K.In h) (G:h.Ns mainGlobals mg) {aS aL:Addr} {l:List (Addr×Addr)} (hl:l.length=28) (mS:PySem.W.nsIn K mainGlobals "SHAPES"=some (some (.ref aS))) (mL:PySem.W.nsIn K mainGlobals "LISTED"=some (some (.ref aL))) (kS:KDv K w aS) (kL:KDv K w aL) (tS:TbE K aS (qSh l)) (tL:LiE K aL):GX K w mg:=by
 refine ⟨⟨aS,mg_of X G mS,kS,fun q hq=>?_⟩,⟨aL,mg_of X G mL,kL,fun p hp=>?_,fun q hq hn=>?_⟩⟩
 ·obtain ⟨y,hy⟩:=sR (m:=l) (by rw [hl]; rfl) q hq
  obtain ⟨e1,e2,e3⟩:=xD tS _ (List.mem_map.mpr ⟨_,hy,rfl⟩)
  exact ⟨_,_,e1,e2,e3⟩
 ·exact ⟨_,List.map_inj_left.mp (Prod.mk.inj tL).1 p hp⟩
 ·refine List.map_inj_left.mp (Prod.mk.inj tL).2 q (List.mem_filter.mpr ⟨hq,List.all_eq_true.mpr fun p hp=>?_⟩)
  simp only [Bool.not_eq_true',beq_eq_false_iff_ne]
  exact hn p hp
abbrev GbE (K:Frag) (a:Addr):Prop:=GBN.map (fun z=>PySem.W.nsIn K a z)=GBN.map fun _=>some none
theorem CD (X:K.In h) (G:h.Ns mainGlobals mg) {aB:Addr} {l:List (Addr×Addr)} (hl:l.length=8) (mB:PySem.W.nsIn K mainGlobals "GOES_BY"=some (some (.ref aB))) (kB:KDv K w aB) (tB:TbE K aB (qGb l)) (tN:GbE K aB) :
  ∃ aB,mg "GOES_BY"=some (.ref aB)∧KDv K w aB∧(∀ p∈GBT,∃ a b,PySem.W.nsIn K aB p.1=some (some (.ref a))∧(∀ H,SqT K H a [.ref b,.str p.2.2])∧∀ H,SqT K H b (p.2.1.map V.str))∧∀ z∈GBN,PySem.W.nsIn K aB z=some none:=by
 refine ⟨aB,mg_of X G mB,kB,fun q hq=>?_,fun z hz=>List.map_inj_left.mp tN z hz⟩
 obtain ⟨y,hy⟩:=sR (m:=l) (by rw [hl]; rfl) q hq
 obtain ⟨e1,e2,e3⟩:=xD tB _ (List.mem_map.mpr ⟨_,hy,rfl⟩)
 exact ⟨_,_,e1,e2,e3⟩
end
end K6
namespace L2
open PySem
def rR:DictEntry→Bool
 | ⟨_,.str _ _,_⟩=>true
 | _=>false
theorem uX {K:Frag} {N:Addr} (lk:K.lookup N=some ⟨.type "dict",none,.dict (esA K N) (nA K N),#[]⟩) (ks:(esA K N).toList.all rR=true):xL K N (nsFind (esA K N)):=by
 refine ⟨_,_,_,lk,rfl,fun h hh=>⟨_,_,_,hh,rfl,fun e he=>?_,fun _=>rfl⟩⟩
 have:=List.all_eq_true.mp ks e (Array.mem_toList_iff.mpr he)
 obtain ⟨hs,k,v⟩:=e
 cases k<;>first | exact ⟨_,_,rfl⟩ | cases this
theorem sG {K:Frag} {N:Addr} {n:Str} {r:Option Value} (e:PySem.W.nsIn K N n=some r):nsFind (esA K N) n=r:=by
 unfold PySem.W.nsIn at e
 split at e
 ·rename_i c d es' n' sl q
  have ee:esA K N=es':=by unfold esA; rw [q]
  rw [ee]
  split at e
  ·rename_i en he
   cases e
   unfold nsFind findBy
   rw [← Array.find?_toList,he]
   rfl
  ·rename_i he
   split at e
   ·cases e
   cases e
   unfold nsFind findBy
   rw [← Array.find?_toList,he]
   rfl
 ·cases e
def el:List Stmt→Nat→Pos
 | [.Expr (.Call (.Attribute (.Name _ p0) _ p1) [.Name _ p2,.Name _ p3,.Name _ p4] [] p5) p6,.Assign [.Attribute (.Name _ p7) _ p8] (.Name _ p9) p10,.Assign [.Attribute (.Name _ p11) _ p12] (.Name _ p13) p14],i=>[p0,p1,p2,p3,p4,p5,p6,p7,p8,p9,p10,p11,p12,p13,p14].getD i ⟨0,0,0,0⟩
 | _,_=>⟨0,0,0,0⟩
abbrev fdQ (K:Frag) (f:Addr) (x q:Str) (st:Stmt):FuncData:=PySem.W.fnOf x q (defArgs st) (defBody st) (defScope st) .none (fdA K f).kwdefaults (fdA K f).doc (fdA K f).pyModule (fdA K f).annotations (fdA K f).code (fdA K f).closureTuple
theorem Df.calX {P:Program} {w:World} {K:Frag} {mg:Str→Option Value} {base:Heap} {C:Addr} {x:Str} {st:Stmt} {ps:List Str} {f:Addr} {fd:FuncData} {k:Nat} {sp:Sp} (D:Df K mg x st ps f fd) (o:aV P w K mg base (CXE P w base C) k f fd ps sp):K6.CalX P w K mg base C k x ps sp:=⟨f,fd,o,D.b,D.F.kp,D.m⟩
end L2
namespace K6
open PySem L2
theorem yS {P:Program} {w:World} {K:Frag} {mg:Str→Option Value} {base:Heap} {f:Addr} {fd:FuncData} (T:G0 mg) (F:Fun K "_law_draw" "_law_draw" gj f fd):aV P w K mg base CX0 1 f fd ["_law_tape_here", "_law_many"] yk :=
 (xY T F).sub fun _ _ _ _ ⟨tp,many,e,t,a,b,k⟩=>⟨tp,many,e,t,a,b,fun v H' x y z t' _=>k v H' x y z t'⟩
abbrev sI:Stmt:=HD.topM 2 0
theorem q1 (P:Params):(HD.HK P).lookup 44=some (excClassObj "NoProgram" "NoProgram" 44 43 [.ref 24] (.ref 24::VE) true [] [] false none none (some (.ref 28)) none (some (.str "NoProgram" 207)) (some (.str "NoProgram" 215)) (some (.bool true)) "ValueError.__new__"):=by kernel_rfl
theorem q2 (P:Params):(HD.HK P).lookup 43=some ⟨.type "dict",none,.dict (esA (HD.HK P) 43) (nA (HD.HK P) 43),#[]⟩:=by kernel_rfl
theorem q3 (P:Params):(esA (HD.HK P) 43).toList.all rR=true:=by kernel_rfl
theorem q4 (P:Params):(HD.HK P).lookup 24=some ⟨.type "type",none,.cls ⟨"ForkError",[.type "ValueError"],[.ref 24,.type "ValueError",.type "Exception",.type "BaseException",.type "object"],23, "ForkError",true,[],[.ref 44],false,none,false⟩,#[some (.ref 15),none,some (.str "ForkError" 189),some (.str "ForkError" 197),some (.builtin "ValueError.__new__"),some (.bool true)]⟩:=by kernel_rfl
theorem q5 (P:Params):(HD.HK P).lookup 23=some ⟨.type "dict",none,.dict (esA (HD.HK P) 23) (nA (HD.HK P) 23),#[]⟩:=by kernel_rfl
theorem q6 (P:Params):(esA (HD.HK P) 23).toList.all rR=true:=by kernel_rfl
theorem q7 (P:Params):PySem.W.specialIn (HD.HK P) (.ref 24) "__getattribute__"=some (some (.builtin "type.__getattribute__")):=by kernel_rfl
theorem q8 (P:Params):PySem.W.readsIn (HD.HK P) 24 (.type "type")=true:=by kernel_rfl
theorem q9 (P:Params):PySem.W.findCls (HD.HK P) (.ref 24) (.type "type") "__init__"=some (.val (.builtin "ValueError.__init__")):=by kernel_rfl
theorem qa (P:Params):(XN "function" "line").map (fun n=>PySem.W.nsIn (HD.HK P) 43 n)=(XN "function" "line").map (fun _=>some none):=by kernel_rfl
theorem qb (P:Params):(("__init__":Str)::XN "function" "line").map (fun n=>PySem.W.nsIn (HD.HK P) 23 n)=(("__init__":Str)::XN "function" "line").map (fun _=>some none):=by kernel_rfl
theorem qc (P:Params):(HD.HK P).lookup 41=some ⟨.type "function",none,.func (fdQ (HD.HK P) 41 "__init__" "NoProgram.__init__" sI),#[]⟩:=by kernel_rfl
theorem qd (P:Params):PySem.W.codeIn (HD.HK P) (fdA (HD.HK P) 41).code "NoProgram.__init__"=true:=by kernel_rfl
theorem qe (P:Params):keepIn (HD.HK P) (.ref 41)=true:=by kernel_rfl
theorem qf:defBody sI=jd "ForkError" "function" "line" (el (defBody sI)):=by kernel_rfl
theorem qg:aK ["self", "function", "line"] ["self", "function", "line"] (defScope sI):=⟨rfl,rfl,rfl,by decide +kernel,rfl,by decide +kernel,by decide +kernel⟩
theorem qh (env:PySem.Env):eval (.Call (.Attribute (.Name "ForkError" (el (defBody sI) 0)) "__init__" (el (defBody sI) 1)) [.Name "self" (el (defBody sI) 2),.Name "function" (el (defBody sI) 3),.Name "line" (el (defBody sI) 4)] [] (el (defBody sI) 5)) env=(do
   let ov ← eval (.Name "ForkError" (el (defBody sI) 0)) env
   standAt (el (defBody sI) 1).atName
   let (f,first) ← holding [ov] (getMethod ov "__init__" (do return (← importBound (.Name "ForkError" (el (defBody sI) 0)) env).getD true))
   callWith (el (defBody sI) 5) f first (backTo (el (defBody sI) 5) (starEach [.Name "self" (el (defBody sI) 2),.Name "function" (el (defBody sI) 3),.Name "line" (el (defBody sI) 4)] env)) (backToKw (el (defBody sI) 5) (keywordEach [] env))):=rfl
theorem xc9 {P:Params} {h:Heap} {mg:Str→Option Value} (X:(HD.HK P).In h) (G0:h.Ns mainGlobals mg):km (HD.HK P) mg 44 24 41 (fdQ (HD.HK P) 41 "__init__" "NoProgram.__init__" sI) "NoProgram" "NoProgram.__init__" "ForkError" "function" "line" sI where
 cls:=⟨_,_,_,_,_,_,_,_,_,_,_,_,_,_,_,q1 P,uX (q2 P) (q3 P),sG (by kernel_rfl),fun n hn=>sG (List.map_inj_left.mp (qa P) n hn)⟩
 up:=⟨_,_,_,_,_,q4 P,uX (q5 P) (q6 P),fun n hn=>sG (List.map_inj_left.mp (qb P) n hn)⟩
 special:=q7 P
 reads:=q8 P
 find:=q9 P
 gC:=mg_of X G0 (by kernel_rfl)
 gB:=mg_of X G0 (by kernel_rfl)
 fn:=xO (qc P) (qd P) (qe P)
 fc:=fun oc od dt osl e=>by rw [qc P] at e; cases e; rfl
 body:=⟨el (defBody sI),qf,qh⟩
 sc:=qg
 l0:=by kernel_rfl
 l1:=by kernel_rfl
 l2:=by kernel_rfl
 lB:=by kernel_rfl
 d1:=by decide
 d2:=by decide
 dB:=by decide
 b1:=by rfl
 b2:=by rfl
 ne:=by decide
 bind:=fun s us hl=>bl3 (C:=fun us=>BindsTo s (fdQ (HD.HK P) 41 "__init__" "NoProgram.__init__" sI) ⟨us,[]⟩ ((["self", "function", "line"]:List Str).zip us)) (fun a b c=>.of_eq rfl) us hl
theorem x1 (P:Params):DfE (HD.HK P) "fields_of" 86 eQ:=by kernel_rfl
theorem x2 (P:Params):DfE (HD.HK P) "field_kinds" 91 cv:=by kernel_rfl
theorem x3 (P:Params):DfE (HD.HK P) "is_whole" 55 dM:=by kernel_rfl
theorem x4 (P:Params):DfE (HD.HK P) "is_between" 62 dS:=by kernel_rfl
theorem x5 (P:Params):DfE (HD.HK P) "is_sign_number" 69 cm:=by kernel_rfl
theorem x6 (P:Params):DfE (HD.HK P) "is_text" 74 cI:=by kernel_rfl
theorem x7 (P:Params):DfE (HD.HK P) "field_kind" 98 dO:=by kernel_rfl
theorem x8 (P:Params):DfE (HD.HK P) "named_kind" 221 dH:=by kernel_rfl
theorem x9 (P:Params):DfE (HD.HK P) "function_of" 266 cU:=by kernel_rfl
theorem x10 (P:Params):DfE (HD.HK P) "variable_kinds" 273 cj:=by kernel_rfl
theorem x11 (P:Params):DfE (HD.HK P) "inner_of" 193 cL:=by kernel_rfl
theorem x12 (P:Params):DfE (HD.HK P) "own_right" 214 eE:=by kernel_rfl
theorem x13 (P:Params):DfE (HD.HK P) "record_kind" 228 cV:=by kernel_rfl
theorem x14 (P:Params):DfE (HD.HK P) "kind_by" 233 fg:=by kernel_rfl
theorem x15 (P:Params):DfE (HD.HK P) "kind_in" 240 ff:=by kernel_rfl
theorem x16 (P:Params):DfE (HD.HK P) "is_name" 79 cu:=by kernel_rfl
theorem x17 (P:Params):DfE (HD.HK P) "is_shaped" 188 cA:=by kernel_rfl
theorem x18 (P:Params):DfE (HD.HK P) "may_break" 200 eP:=by kernel_rfl
theorem x19 (P:Params):DfE (HD.HK P) "is_small" 207 fS:=by kernel_rfl
theorem x20 (P:Params):DfE (HD.HK P) "expression_kind" 247 bN:=by kernel_rfl
theorem x21 (P:Params):DfE (HD.HK P) "is_compared" 254 cY:=by kernel_rfl
theorem x22 (P:Params):DfE (HD.HK P) "is_condition" 259 bZ:=by kernel_rfl
theorem x23 (P:Params):DfE (HD.HK P) "bodies_of" 280 eY:=by kernel_rfl
theorem x24 (P:Params):DfE (HD.HK P) "is_tuple_of" 287 bT:=by kernel_rfl
theorem x25 (P:Params):DfE (HD.HK P) "is_kind" 292 fh:=by kernel_rfl
theorem x26 (P:Params):DfE (HD.HK P) "are_named" 297 cP:=by kernel_rfl
theorem x27 (P:Params):DfE (HD.HK P) "is_record" 302 eA:=by kernel_rfl
theorem x28 (P:Params):DfE (HD.HK P) "are_records" 309 cW:=by kernel_rfl
theorem x29 (P:Params):DfE (HD.HK P) "is_headed" 314 bX:=by kernel_rfl
theorem x30 (P:Params):DfE (HD.HK P) "is_call" 319 dj:=by kernel_rfl
theorem x31 (P:Params):DfE (HD.HK P) "is_line" 324 fm:=by kernel_rfl
theorem x32 (P:Params):DfE (HD.HK P) "first_wrong_line" 329 bB:=by kernel_rfl
theorem x33 (P:Params):DfE (HD.HK P) "right_program" 336 cC:=by kernel_rfl
theorem x34 (P:Params):DfE (HD.HK P) "is_value" 341 dX:=by kernel_rfl
theorem x35 (P:Params):DfE (HD.HK P) "_law_tape" 353 jH:=by kernel_rfl
theorem x36 (P:Params):DfE (HD.HK P) "_law_draw" 360 gj:=by kernel_rfl
theorem x37 (P:Params):DfE (HD.HK P) "_law_told" 367 jG:=by kernel_rfl
theorem x38 (P:Params):DfE (HD.HK P) "_law_program" 374 eZ:=by kernel_rfl
theorem x39 (P:Params):DfE (HD.HK P) "_law_lines" 381 ii:=by kernel_rfl
theorem x40 (P:Params):DfE (HD.HK P) "law" 386 iy:=by kernel_rfl
theorem Bn {l:PySem.W.OpenLaw} {w:World} {h:Heap} {mg:Str→Option Value} {fa:Addr} (X:(HD.HK w.params).In h) (G0:h.Ns mainGlobals mg) (hfa:mg "law"=some (.ref fa)) :
  ∃ fd:FuncData,(∀ (s:Shared) (v:Value),BindsTo s fd ⟨[v],[]⟩ [("_law_script",v)])∧∀ base:Heap,(HD.HK w.params).In base→base.Ns mainGlobals mg→aV l.prog w (HD.HK w.params) mg base CX0 37 fa fd ["_law_script"] (xg (HD.HK w.params)):=by
 have E1:=bj X G0 (ps:=["program", "kind"]) (x1 _) fun _ _ _ _ _ _=>bl2 fun _ _=>rfl
 have E2:=bj X G0 (ps:=["program", "kind"]) (x2 _) fun _ _ _ _ _ _=>bl2 fun _ _=>rfl
 have E3:=bj X G0 (ps:=["thing"]) (x3 _) fun _ _ _ _ _ _=>bl1 fun _=>rfl
 have E4:=bj X G0 (ps:=["thing", "least", "most"]) (x4 _) fun _ _ _ _ _ _=>bl3 fun _ _ _=>rfl
 have E5:=bj X G0 (ps:=["number"]) (x5 _) fun _ _ _ _ _ _=>bl1 fun _=>rfl
 have E6:=bj X G0 (ps:=["thing"]) (x6 _) fun _ _ _ _ _ _=>bl1 fun _=>rfl
 have E7:=bj X G0 (ps:=["program", "kind", "field"]) (x7 _) fun _ _ _ _ _ _=>bl3 fun _ _ _=>rfl
 have E8:=bj X G0 (ps:=["kinds", "thing"]) (x8 _) fun _ _ _ _ _ _=>bl2 fun _ _=>rfl
 have E9:=bj X G0 (ps:=["program", "f"]) (x9 _) fun _ _ _ _ _ _=>bl2 fun _ _=>rfl
 have E10:=bj X G0 (ps:=["function"]) (x10 _) fun _ _ _ _ _ _=>bl1 fun _=>rfl
 have E11:=bj X G0 (ps:=["shaped"]) (x11 _) fun _ _ _ _ _ _=>bl1 fun _=>rfl
 have E12:=bj X G0 (ps:=["e"]) (x12 _) fun _ _ _ _ _ _=>bl1 fun _=>rfl
 have E13:=bj X G0 (ps:=["program", "e", "inner"]) (x13 _) fun _ _ _ _ _ _=>bl3 fun _ _ _=>rfl
 have E14:=bj X G0 (ps:=["program", "kinds", "e", "inner"]) (x14 _) fun _ _ _ _ _ _=>bl4 fun _ _ _ _=>rfl
 have E15:=bj X G0 (ps:=["program", "kinds", "e"]) (x15 _) fun _ _ _ _ _ _=>bl3 fun _ _ _=>rfl
 have E16:=bj X G0 (ps:=["thing"]) (x16 _) fun _ _ _ _ _ _=>bl1 fun _=>rfl
 have E17:=bj X G0 (ps:=["thing", "sort"]) (x17 _) fun _ _ _ _ _ _=>bl2 fun _ _=>rfl
 have E18:=bj X G0 (ps:=["shaped"]) (x18 _) fun _ _ _ _ _ _=>bl1 fun _=>rfl
 have E19:=bj X G0 (ps:=["thing"]) (x19 _) fun _ _ _ _ _ _=>bl1 fun _=>rfl
 have E20:=bj X G0 (ps:=["program", "kinds", "thing"]) (x20 _) fun _ _ _ _ _ _=>bl3 fun _ _ _=>rfl
 have E21:=bj X G0 (ps:=["program", "kinds", "thing"]) (x21 _) fun _ _ _ _ _ _=>bl3 fun _ _ _=>rfl
 have E22:=bj X G0 (ps:=["program", "kinds", "thing"]) (x22 _) fun _ _ _ _ _ _=>bl3 fun _ _ _=>rfl
 have E23:=bj X G0 (ps:=["statement"]) (x23 _) fun _ _ _ _ _ _=>bl1 fun _=>rfl
 have E24:=bj X G0 (ps:=["thing", "least", "most"]) (x24 _) fun _ _ _ _ _ _=>bl3 fun _ _ _=>rfl
 have E25:=bj X G0 (ps:=["records", "thing"]) (x25 _) fun _ _ _ _ _ _=>bl2 fun _ _=>rfl
 have E26:=bj X G0 (ps:=["records", "thing", "least", "most"]) (x26 _) fun _ _ _ _ _ _=>bl4 fun _ _ _ _=>rfl
 have E27:=bj X G0 (ps:=["ahead", "thing"]) (x27 _) fun _ _ _ _ _ _=>bl2 fun _ _=>rfl
 have E28:=bj X G0 (ps:=["thing"]) (x28 _) fun _ _ _ _ _ _=>bl1 fun _=>rfl
 have E29:=bj X G0 (ps:=["records", "ahead", "thing"]) (x29 _) fun _ _ _ _ _ _=>bl3 fun _ _ _=>rfl
 have E30:=bj X G0 (ps:=["program", "kinds", "statement"]) (x30 _) fun _ _ _ _ _ _=>bl3 fun _ _ _=>rfl
 have E31:=bj X G0 (ps:=["program", "function", "thing"]) (x31 _) fun _ _ _ _ _ _=>bl3 fun _ _ _=>rfl
 have E32:=bj X G0 (ps:=["program", "function"]) (x32 _) fun _ _ _ _ _ _=>bl2 fun _ _=>rfl
 have E33:=bj X G0 (ps:=["thing"]) (x33 _) fun _ _ _ _ _ _=>bl1 fun _=>rfl
 have E34:=bj X G0 (ps:=["program", "kind", "thing"]) (x34 _) fun _ _ _ _ _ _=>bl3 fun _ _ _=>rfl
 have E35:=bj X G0 (ps:=["_law_script"]) (x35 _) fun _ _ _ _ _ _=>bl1 fun _=>rfl
 have E36:=bj X G0 (ps:=["_law_tape_here", "_law_many"]) (x36 _) fun _ _ _ _ _ _=>bl2 fun _ _=>rfl
 have E37:=bj X G0 (ps:=["_law_thing"]) (x37 _) fun _ _ _ _ _ _=>bl1 fun _=>rfl
 have E38:=bj X G0 (ps:=["_law_line"]) (x38 _) fun _ _ _ _ _ _=>bl1 fun _=>rfl
 have E39:=bj X G0 (ps:=["_law_many"]) (x39 _) fun _ _ _ _ _ _=>bl1 fun _=>rfl
 have E40:=bj X G0 (ps:=["_law_script"]) (x40 _) fun _ _ _ _ _ _=>bl1 fun _=>rfl
 have e:=hfa.symm.trans E40.m
 cases e
 have z:=fun x e=>mg_none_of (n:=x) X G0 e
 have T:K6.G0 mg:=⟨z _ (by kernel_rfl),z _ (by kernel_rfl),z _ (by kernel_rfl),z _ (by kernel_rfl),z _ (by kernel_rfl),z _ (by kernel_rfl),z _ (by kernel_rfl),z _ (by kernel_rfl),z _ (by kernel_rfl),z _ (by kernel_rfl),z _ (by kernel_rfl),z _ (by kernel_rfl)⟩
 have TR:=z "reversed" (by kernel_rfl)
 have TE:=z "enumerate" (by kernel_rfl)
 have TSt:=z "set" (by kernel_rfl)
 have XC:=xc9 X G0
 have TG:G (HD.HK w.params) w mg:=⟨T,CD X G0 (l:=[(167,166),(169,168),(171,170),(173,172),(175,174),(177,176),(179,178),(181,180)]) rfl (by kernel_rfl) (tI (a:=165) (by kernel_rfl) rfl) (by kernel_rfl) (by kernel_rfl),mI X G0 (by kernel_rfl),mI X G0 (by kernel_rfl),mI X G0 (by kernel_rfl)⟩
 have TX:GX (HD.HK w.params) w mg:=Cp X G0 (l:=[(108,107),(110,109),(112,111),(114,113),(116,115),(118,117),(120,119),(122,121),(124,123),(126,125),(128,127),(130,129),(132,131),(134,133),(136,135),(138,137),(140,139),(143,142),(145,144),(147,146),(149,148),(151,150),(153,152),(155,154),(157,156),(159,158),(161,160),(163,162)]) rfl (by kernel_rfl) (by kernel_rfl) (tI (a:=106) (by kernel_rfl) rfl) (tI (a:=164) (by kernel_rfl) rfl) (by kernel_rfl) (by kernel_rfl)
 have TS:=TX.gs
 have TP:=TX.gp
 have TN:GN (HD.HK w.params) mg:=⟨mT X G0 (a:=47) (by kernel_rfl) (by decide),mT X G0 (a:=48) (by kernel_rfl) (by decide),mS' X G0 (by kernel_rfl)⟩
 refine ⟨fdO (HD.HK w.params) 386 "law" iy,fun s v=>.of_eq rfl,fun base _ _=>?_⟩
 have D1:=E1.cal (base:=base) (P:=l.prog) (w:=w) (wq E1.F)
 have D2:=E2.cal (base:=base) (P:=l.prog) (w:=w) (yQ E2.F D1)
 have D3:=E3.cal (base:=base) (P:=l.prog) (w:=w) (xJ T E3.F)
 have DwF:=E3.cal (base:=base) (P:=l.prog) (w:=w) (wA T E3.F)
 have D4:=E4.cal (base:=base) (P:=l.prog) (w:=w) (tU T E4.F D3)
 have D5:=E5.cal (base:=base) (P:=l.prog) (w:=w) (zo E5.F)
 have D6:=E6.cal (base:=base) (P:=l.prog) (w:=w) (zI T E6.F D5)
 have DtF:=E6.cal (base:=base) (P:=l.prog) (w:=w) (yc T E6.F D5)
 have D7:=E7.cal (base:=base) (P:=l.prog) (w:=w) (xk E7.F D1)
 have D8:=E8.cal (base:=base) (P:=l.prog) (w:=w) (yv T E8.F)
 have D9:=E9.cal (base:=base) (P:=l.prog) (w:=w) (qr E9.F)
 have D10:=E10.cal (base:=base) (P:=l.prog) (w:=w) (zU T E10.F)
 have Din:=E11.cal (base:=base) (P:=l.prog) (w:=w) (wP TP T E11.F)
 have D11:=E11.cal (base:=base) (P:=l.prog) (w:=w) (xh TP T E11.F)
 have D12:=E12.cal (base:=base) (P:=l.prog) (w:=w) (BU TG E12.F D4 D6)
 have D13:=E13.cal (base:=base) (P:=l.prog) (w:=w) (BO T E13.F D2 D7)
 have D14:=E14.cal (base:=base) (P:=l.prog) (w:=w) (AQ TG E14.F D13 D8)
 have D15:=E15.cal (base:=base) (P:=l.prog) (w:=w) (vY T E15.F E15.b E15.m D12 D14 Din 23)
 have D16:=E16.cal (base:=base) (P:=l.prog) (w:=w) (vj T TN E16.F)
 have Dnm:=E16.cal (base:=base) (P:=l.prog) (w:=w) (yn T TN E16.F)
 have D17:=E17.cal (base:=base) (P:=l.prog) (w:=w) (kN T TS E17.F)
 have Dsh:=E17.cal (base:=base) (P:=l.prog) (w:=w) (rG T TS E17.F)
 have D18:=E18.cal (base:=base) (P:=l.prog) (w:=w) (Bq E18.F D11)
 have D19:=E19.cal (base:=base) (P:=l.prog) (w:=w) (xF T (mI X G0 (by kernel_rfl)) E19.F D17 D11)
 have D20:=E20.cal (base:=base) (P:=l.prog) (w:=w) (As E20.F D15 D19)
 have Dek:=E20.cal (base:=base) (P:=l.prog) (w:=w) ((As E20.F D15 D19).or (AG E20.F D15 D19))
 have D21:=E21.cal (base:=base) (P:=l.prog) (w:=w) (Bw E21.F D20 D18)
 have D22:=E22.cal (base:=base) (P:=l.prog) (w:=w) (CT T (mI X G0 (by kernel_rfl)) E22.F D17 D11 D21)
 have D23:=E23.cal (base:=base) (P:=l.prog) (w:=w) (zq E23.F)
 have D24:=E24.cal (base:=base) (P:=l.prog) (w:=w) (Av T E24.F)
 have Dto:=E24.cal (base:=base) (P:=l.prog) (w:=w) (Bh T E24.F)
 have D25:=E25.cal (base:=base) (P:=l.prog) (w:=w) (wj T TN E25.F)
 have D26:=E26.cal (base:=base) (P:=l.prog) (w:=w) (AV T TSt E26.F D24 D16 D25)
 have D27:=E27.cal (base:=base) (P:=l.prog) (w:=w) (BZ E27.F Dto Dnm)
 have D28:=E28.cal (base:=base) (P:=l.prog) (w:=w) (Bu TE (mI X G0 (by kernel_rfl)) E28.F Dto D27)
 have D29:=E29.cal (base:=base) (P:=l.prog) (w:=w) ((Cf T TSt (mI X G0 (by kernel_rfl)) (mI X G0 (by kernel_rfl)) E29.F D24 D16 D25 D26).or (BP T E29.F Dto Dnm))
 have D30:=E30.cal (base:=base) (P:=l.prog) (w:=w) (zD E30.F D9 D8 D20)
 have D31:=E31.cal (base:=base) (P:=l.prog) (w:=w) (zr T E31.F Dsh D10 D8 Dek D30 D16 D22 D23)
 have D32:=E32.cal (base:=base) (P:=l.prog) (w:=w) (CC T TR (mI X G0 (by kernel_rfl)) (mI X G0 (by kernel_rfl)) E32.F D31 D23)
 have D33:=E33.calX (base:=base) (P:=l.prog) (w:=w) (CY XC TE (mI X G0 (by kernel_rfl)) E33.F Dto D28 D29 D32)
 have D34:=E34.cal (base:=base) (P:=l.prog) (w:=w) (Dc T E34.F DwF DtF)
 have D35:=E35.cal (base:=base) (P:=l.prog) (w:=w) (zM T E35.F)
 have D36:=E36.cal (base:=base) (P:=l.prog) (w:=w) (yS T E36.F)
 have D37:=E37.cal (base:=base) (P:=l.prog) (w:=w) (zu XC E37.F D33)
 have D38:=E38.cal (base:=base) (P:=l.prog) (w:=w) (Bd E38.F)
 have D39:=E39.cal (base:=base) (P:=l.prog) (w:=w) (Ck T E39.F)
 exact AJ T E40.F D34 D37 D38 D39 D36 D35
theorem walk {l:PySem.W.OpenLaw} {q:Program} {loose:List Str} {XP:(Str→Option Value)→Heap→Prop} {YP:World→Heap→Prop} {d:DefRec} (hn:l.most=some 63) (hdf:d.params.defaults=[])
  (hY:∀ (w:World) (h:Heap),YP w h→(HD.HK w.params).In h) (hd:d.name = "law"):PySem.W.WalkO q loose XP YP l.row.toRowW d [] (fun f vs=>PySem.call f vs) :=
 L2.walk_of (K:=HD.HK) (n:=63) (k:=37) (x := "_law_script") (CX:=fun _=>CX0) (sp:=fun w=>xg (HD.HK w.params)) hn (by decide) hdf ⟨rfl,by decide,by decide,rfl⟩ hY (fun w mg fa h KX G hmg=>Bn KX G (hd ▸ hmg)) (fun _ _ a ns hl _ hS=>⟨a,ns,rfl,hS,fun _=>rfl⟩) fun _ _ _ _ _ z=>z
end K6
open PySem PySem.W PyProof.Rows
set_option maxHeartbeats 0 in
theorem zi:PySem.Challenge.rw_everyfork_k09_deep_things.wellSaid=true:=by
 unfold OpenLaw.wellSaid
 iterate 18 refine look_both ?_ (by decide +kernel)
 unfold OpenRow.wellSaid
 iterate 2 refine look_both ?_ (by decide +kernel)
 unfold OpenRow.partSaid
 iterate 13 refine look_both ?_ (by decide +kernel)
 unfold looksOpen
 iterate 5 refine look_both ?_ (by decide +kernel)
 decide +kernel
set_option maxRecDepth 100000 in
set_option maxHeartbeats 0 in
theorem PySem.Challenge.cw_everyfork_k09_deep_things_holds : PySem.Challenge.rw_everyfork_k09_deep_things.Holds := by
 refine holds_law zi fun said=>?_
 refine holds_open (q:=HD.qV) (loose:=HD.lo) (Xt:=HD.Xt) (XP:=XL HD.qV []) (Yf:=Hook.obs HD.hk) (Ya:=Hook.val HD.hk) (YP:=Hook.says HD.hk) (N:=5000) HD.left (Hook.of HD.hk) (Hook.keeps HD.hk)
  (fun s e=>xl_of s (Bool.and_eq_true_iff.mp e).1) XL.keeps (by rfl) (by rfl) (by rfl) (fun s e=>recFacts_of (Bool.and_eq_true_iff.mp e).2) (by rfl) said (by decide +kernel) ⟨rfl,rfl,rfl,rfl,rfl,by decide +kernel⟩ ?hw
  (K6.walk (l:=PySem.Challenge.rw_everyfork_k09_deep_things) rfl rfl (fun w h Y=>kIn_of Y) rfl)
 case hw=>w_witness2