import PyProof.Rows.All
import Wide.All
import OpenK.AllK
import Wide.FinOn
import Lean
import PyProof.EqAt
import PyProof.EqKinds
import PyProof.TupleCall
import PyProof.AttrMiss
import PyProof.IsiH_tuple
import KE.KDictOf
import PyProof.ZipIter
import PyProof.Draws
import PyProof.Rows.FactsT2
import KE.KRevIter
import PyProof.EnumStmt
import PyProof.TupleOps
import PyProof.ListRange
import PyProof.EnumFor
import PyProof.EnumMake
import KE.KDictList
import PyProof.DictWalks
import PySem.Challenge.RW_everyfork_k20_deep_calls
open PySem.W (Frag mg_of mg_none_of keepIn KeysLit)
noncomputable section
set_option Elab.async false
set_option linter.all false
set_option maxRecDepth 100000
set_option maxHeartbeats 4000000
namespace L2
open PySem PySem.Spec PyProof.Rows
abbrev Key:=Sum Int Str
def b2i (b:Bool):Int:=if b then 1 else 0
def gM:Key→Value→Bool
 | .inl k,.bool b=>k==b2i b
 | .inl k,v=>Value.isInt k v
 | .inr x,v=>Value.isStrOf x v
def AQ (w:World):Key→Int
 | .inl k=>hashInt k
 | .inr x=>hashStr w x
theorem bf:∀ {k:Key} {v:Value},gM k v=true→(∃ i t,k=Sum.inl i∧v=Value.int i t)∨(∃ x t,k=Sum.inr x∧v=Value.str x t)∨∃ b,k=Sum.inl (b2i b)∧v=Value.bool b
 | .inl i,v,h=>by
  cases v with
  | bool b=>exact .inr (.inr ⟨b,by rw [eq_of_beq (show (i==b2i b)=true from h)],rfl⟩)
  | int j t=>exact .inl ⟨i,t,rfl,by rw [show j=i from eq_of_beq (show (j==i)=true from h)]⟩
  | _=>cases h
 | .inr x,v,h=>by
  obtain ⟨t,e⟩:=Value.isStrOf_shape (x:=x) (v:=v) (by cases v<;>exact h)
  exact .inr (.inl ⟨x,t,rfl,e⟩)
theorem lN (i:Int) (t:Tok):gM (.inl i) (.int i t)=true:=by simp [gM,Value.isInt]
theorem kZ (x:Str) (t:Tok):gM (.inr x) (.str x t)=true:=by simp [gM,Value.isStrOf]
theorem qA (b:Bool):gM (.inl (b2i b)) (.bool b)=true:=by simp [gM]
theorem mD (a b:Int):decide ((Sum.inl a:Key)=Sum.inl b)=(a==b):=by
 by_cases e:a=b
 ·subst e; simp
 ·have h:¬ (Sum.inl a:Key)=Sum.inl b:=fun q=>e (Sum.inl.inj q)
  rw [decide_eq_false h]
  exact (beq_eq_false_iff_ne.mpr e).symm
theorem xG (a b:Str):decide ((Sum.inr a:Key)=Sum.inr b)=decide (a=b):=by
 by_cases e:a=b
 ·subst e; simp
 ·have h:¬ (Sum.inr a:Key)=Sum.inr b:=fun q=>e (Sum.inr.inj q)
  rw [decide_eq_false h,decide_eq_false e]
theorem vJ (a:Int) (b:Str):decide ((Sum.inl a:Key)=Sum.inr b)=false:=decide_eq_false (fun q=>nomatch q)
theorem tH (a:Str) (b:Int):decide ((Sum.inr a:Key)=Sum.inl b)=false:=decide_eq_false (fun q=>nomatch q)
theorem yh (a b:Bool):(b2i a==b2i b)=(a==b):=by cases a<;>cases b<;>rfl
theorem bJ:Slot "bool" "__hash__" "int.__hash__" :=
 .of (owner := "int") (n := "__hash__") (by rw [typeLookup_type,builtinLookup_eq_fast]; kernel_rfl) (by decide +kernel) (by decide +kernel) (by decide +kernel) (by first | exact .inl (by decide +kernel) | exact .inr (by decide +kernel)) (by rw [isSubtype_type]; kernel_rfl)
theorem sL {prog:Program} {w:World} {A:Around} {E:Value→Shared→Prop} {s:Shared} {b:Bool} {Q:Int→Shared→Prop} (h:Q (hashInt (b2i b)) { s with toks:=s.toks+1 }):wpAny (model prog w) A (pyHash (.bool b)) Q E s:=by
 have hr:=rawHash_range (b2i b)
 unfold pyHash
 have hv:[Value.bool b].any Value.onHeap=false:=rfl
 have ty:s.TypeIs (.bool b) "bool":=rfl
 refine wpAny_bind ?_
 rw [cRoomFor,if_neg (by rw [hv]; exact Bool.false_ne_true)]; refine wpAny_pure ?_
 refine wpAny_bind (wpAny_specialOf ty bJ.lookup ?_)
 show wpAny _ _ (if (some (Value.builtin "int.__hash__")==some Value.none)=true then _ else _) Q E s
 rw [if_neg (by rw [beq_builtin_none]; exact Bool.false_ne_true)]
 refine wpAny_bind (wpAny_specialOf ty bJ.lookup ?_)
 show wpAny _ _ (callSpecialIfBoundUnlessNone? (.bool b) "__hash__" _ >>= _) Q E s
 refine wpAny_bind (wpAny_callSpecialIfBoundUnlessNone?_slot ty bJ
  (wpAny_call_entry bJ ty entry_int_hash
   (show wpAny _ _ (do ret (← mkInt (rawHash (b2i b)))) _ _ s from wpAny_ret_mkInt ?_) (args_int_hash _)))
 show wpAny _ _ (if (decide (-(2:Int) ^ 63≤rawHash (b2i b))&&decide (rawHash (b2i b)<2 ^ 63))=true then _ else _) Q E _
 rw [if_pos (by rw [decide_eq_true hr.1,decide_eq_true hr.2]; rfl)]
 exact wpAny_pure h
def bc (prog:Program) (w:World):PySem.KeyKind prog w Key where
 is:=gM
 hash:=AQ w
 inj:=fun v a b ha hb=>by
  rcases bf ha with ⟨i,t,rfl,rfl⟩ | ⟨x,t,rfl,rfl⟩ | ⟨x,rfl,rfl⟩
  ·rcases bf hb with ⟨j,u,rfl,e⟩ | ⟨y,u,rfl,e⟩ | ⟨y,rfl,e⟩
   ·injection e with e1 _; rw [e1]
   ·exact nomatch e
   ·exact nomatch e
  ·rcases bf hb with ⟨j,u,rfl,e⟩ | ⟨y,u,rfl,e⟩ | ⟨y,rfl,e⟩
   ·exact nomatch e
   ·injection e with e1 _; rw [e1]
   ·exact nomatch e
  ·rcases bf hb with ⟨j,u,rfl,e⟩ | ⟨y,u,rfl,e⟩ | ⟨y,rfl,e⟩
   ·exact nomatch e
   ·exact nomatch e
   ·injection e with e1; rw [e1]
 byValue:=fun k v h=>by
  rcases bf h with ⟨i,t,rfl,rfl⟩ | ⟨x,t,rfl,rfl⟩ | ⟨x,rfl,rfl⟩<;>rfl
 pyHash:=fun hv h=>by
  rcases bf hv with ⟨i,t,rfl,rfl⟩ | ⟨x,t,rfl,rfl⟩ | ⟨x,rfl,rfl⟩
  ·exact wpAny_pyHash_int h
  ·exact wpAny_pyHash_str h
  ·exact sL h
 eqBool:=fun hu hv h=>by
  rcases bf hu with ⟨i,t,rfl,rfl⟩ | ⟨x,t,rfl,rfl⟩ | ⟨x,rfl,rfl⟩
  ·rcases bf hv with ⟨j,u,rfl,rfl⟩ | ⟨y,u,rfl,rfl⟩ | ⟨y,rfl,rfl⟩
   ·rw [mD] at h; exact wpAny_eqBool_int h
   ·rw [vJ] at h; exact SeqAt.EqAt.int_str i t y u _ _ _ _ h
   ·rw [mD] at h; exact SeqAt.EqAt.int_bool i t y _ _ _ _ h
  ·rcases bf hv with ⟨j,u,rfl,rfl⟩ | ⟨y,u,rfl,rfl⟩ | ⟨y,rfl,rfl⟩
   ·rw [tH] at h; exact SeqAt.EqAt.str_int x t j u _ _ _ _ h
   ·rw [xG] at h; exact wpAny_eqBool_str h
   ·rw [tH] at h; exact SeqAt.EqAt.str_bool x t y _ _ _ _ h
  ·rcases bf hv with ⟨j,u,rfl,rfl⟩ | ⟨y,u,rfl,rfl⟩ | ⟨y,rfl,rfl⟩
   ·rw [mD] at h; exact SeqAt.EqAt.bool_int x j u _ _ _ _ h
   ·rw [vJ] at h; exact SeqAt.EqAt.bool_str x y u _ _ _ _ h
   ·rw [mD,yh] at h; exact SeqAt.EqAt.bool_bool x y _ _ _ _ h
 «strs»:=fun k x t v h=>by
  rcases bf h with ⟨i,u,rfl,e⟩ | ⟨y,u,rfl,e⟩ | ⟨y,rfl,e⟩
  ·exact nomatch e
  ·injection e with e1 _
   subst e1
   cases v<;>rfl
  ·exact nomatch e
theorem nY (prog:Program) (w:World) (i:Int) (t:Tok):(bc prog w).is (.inl i) (.int i t)=true:=lN i t
theorem gN (prog:Program) (w:World) (x:Str) (t:Tok):(bc prog w).is (.inr x) (.str x t)=true:=kZ x t
inductive V where
 | non | bl (b:Bool) | int (i:Int) | str (x:Str) | byt (b:Array UInt8) | flt (b:UInt64) | ref (a:Addr) | ty (n:String)
 deriving DecidableEq
def aJ:V→Value→Prop
 | .non,u=>u=Value.none
 | .bl b,u=>u=Value.bool b
 | .int i,u=>∃ t,u=Value.int i t
 | .str x,u=>∃ t,u=Value.str x t
 | .byt b,u=>∃ t,u=Value.bytes b t
 | .flt b,u=>∃ t,u=Value.float b t
 | .ref a,u=>u=Value.ref a
 | .ty n,u=>u=Value.type n
abbrev aD:List V→List Value→Prop:=Paired aJ
theorem aD.length {xs:List V} {us:List Value} (r:aD xs us):xs.length=us.length:=Paired.length r
theorem aD.get:∀ {xs:List V} {us:List Value} {i:Nat} {x:V},aD xs us→xs[i]?=some x→∃ u,us[i]?=some u∧aJ x u
 | _,_,_,_,.nil,e=>by simp at e
 | _,_,0,_,.cons r _,e=>by simp at e; subst e; exact ⟨_,rfl,r⟩
 | _,_,i+1,x,.cons _ t,e=>by
  obtain ⟨u,h1,h2⟩:=aD.get (i:=i) (x:=x) t (by simpa using e)
  exact ⟨u,by simpa using h1,h2⟩
theorem aD.set {x:V} {u:Value} (r:aJ x u):∀ {xs:List V} {us:List Value} (i:Nat),aD xs us→aD (xs.set i x) (us.set i u)
 | _,_,_,.nil=>.nil
 | _,_,0,.cons _ t=>.cons r t
 | _,_,i+1,.cons q t=>.cons q (aD.set r i t)
theorem aD.append:∀ {xs ys:List V} {us ws:List Value},aD xs us→aD ys ws→aD (xs++ys) (us++ws)
 | _,_,_,_,.nil,s=>s
 | _,_,_,_,.cons r t,s=>.cons r (aD.append t s)
theorem aD.take:∀ {xs:List V} {us:List Value} (n:Nat),aD xs us→aD (xs.take n) (us.take n)
 | _,_,0,_=>.nil
 | _,_,_+1,.nil=>.nil
 | _,_,n+1,.cons r t=>.cons r (aD.take n t)
theorem aD.drop:∀ {xs:List V} {us:List Value} (n:Nat),aD xs us→aD (xs.drop n) (us.drop n)
 | _,_,0,r=>r
 | _,_,_+1,.nil=>.nil
 | _,_,n+1,.cons _ t=>aD.drop n t
def dm:Option V→Option Value→Prop
 | some v,some u=>aJ v u
 | none,none=>True
 | _,_=>False
def KV {κ:Type}:List (κ×V)→List (κ×Value)→Prop:=Paired fun (p:κ×V) (q:κ×Value)=>p.1=q.1∧aJ p.2 q.2
def kV:Key→V
 | .inl i=>.int i
 | .inr x=>.str x
def cK:V→Key
 | .int i=>.inl i
 | .bl b=>.inl (b2i b)
 | .str x=>.inr x
 | _=>.inl 0
def isK:V→Bool
 | .int _=>true
 | .bl _=>true
 | .str _=>true
 | _=>false
inductive HO where
 /-- a list -/
 | lst (xs:List V)
 /-- a tuple (never changes) -/
 | tup (xs:List V)
 /-- a dict whose keys are ints and texts; one whose keys are tuples of ints and texts (the empty one is both) -/
 | dK (kvs:List (Key×V)) | dT (kvs:List (List V×V))
 /-- a set of ints: its members,its size -/
 | set (S:Int→Bool) (n:Nat)
 /-- an instance of the class at C,its dict at dx,its attributes -/
 | ins (C dx:Addr) (fs:List (Str×V))
 /-- the dict of the instance at x -/
 | own (x:Addr)
 /-- the dict of an exception -/
 | xd (fs:List (Str×V))
 /-- a bound method,f of x -/
 | met (f x:Addr)
 /-- a range object lo,lo+1,.. below hi -/
 | rng (lo hi:Int)
 /-- a thing that is known to the object (the script; a dict while a loop walks it): read,never written while it is so -/
 | frz (o:Obj) (u:HO)
 /-- a code object's table -/
 | tbl (ps:Array Value)
 /-- any other thing,by what is true of its one object (a def of one's own: SetO a S n:=HO.ext fun h=>..) -/
 | ext (φ:Heap→Prop)
abbrev Hp:=Addr→Option HO
def upd (H:Hp) (a:Addr) (o:HO):Hp:=fun b=>if b=a then some o else H b
theorem ad {H:Hp} {a:Addr} {o:HO}:upd H a o a=some o:=by unfold upd; rw [if_pos rfl]
theorem ax {H:Hp} {a b:Addr} {o:HO} (h:b≠a):upd H a o b=H b:=by unfold upd; rw [if_neg h]
theorem aX {H:Hp} {a b:Addr} {o u:HO} (h:H a=some o) (h':H b=some u) (d:o≠u):a≠b:=by
 intro e; subst e; rw [h] at h'; exact d (Option.some.inj h')
theorem av {H:Hp} {a b:Addr} {o:HO} (h:H a=some o) (h':H b=none):a≠b:=by
 intro e; subst e; rw [h] at h'; cases h'
section
variable (P:Program) (w:World)
def bx (H:Hp) (h:Heap) (a:Addr):HO→Prop
 | .lst xs=>xs.length≤sizeLine∧∃ (its:List Value) (n:Nat),aD xs its∧h.get? a=some { cls:=.type "list",data:=.seq its.toArray n }
 | .tup xs=>xs.length≤sizeLine∧∃ its:List Value,aD xs its∧IsTup h a its.toArray∧∃ o,h.get? a=some o∧o.dict=none
 | .dK kvs=>kvs.length≤sizeLine∧(a==sysModules)=false∧∃ vs,KV kvs vs∧h.DictOf (bc P w) a vs
 | .dT kvs=>kvs.length≤sizeLine∧(a==sysModules)=false∧∃ xs:List (List Key×Addr×Value),
   Paired (fun (p:List V×V) (q:List Key×Addr×Value)=>p.1.map cK=q.1∧(H q.2.1=some (.tup p.1)∧p.1.all isK=true)∧aJ p.2 q.2.2) kvs xs ∧
   ∃ o es ep,h.get? a=some o∧o.ExactDict∧o.data=.dict es ep∧es.toList=xs.map (entryOfKey (tupleKind (bc P w)))∧(xs.map (·.1)).Nodup
 | .set S n=>h.SetOf (intKind P w) a S n
 | .ins C dx fs=>H dx=some (.own a)∧fs.length≤1000∧dx≠a∧h.get? a=some (PySem.W.instObj C dx) ∧
   ∃ mA,h.Ns1 dx mA∧(∀ f,dm (fs.lookup f) (mA f))∧PySem.Within mA (fs.map (·.1))
 | .own _=>∃ o,h.get? a=some o
 | .xd fs=>∃ mA,h.Ns1 a mA∧∀ f,dm (fs.lookup f) (mA f)
 | .rng lo hi=>∃ t u v,h.get? a=some { cls:=.type "range",data:=.fields #[.int lo t,.int hi u,.int 1 v] }
 | .frz o u=>h.get? a=some o∧bx H h a u
 | .tbl ps=>h.get? a=some { cls:=.none,data:=.fields ps }
 | .met f x=>h.get? a=some (PySem.W.methodObj (.ref f) (.ref x))
 | .ext φ=>φ h∧(∃ o,h.get? a=some o)∧∀ h1 h2:Heap,φ h1→(∀ o,h1.get? a=some o→h2.get? a=some o)→φ h2
def HOk (H:Hp) (h:Heap):Prop:=∀ a o,H a=some o→bx P w H h a o
end
section
variable {P:Program} {w:World} {H H':Hp} {h h':Heap} {a:Addr} {o:HO}
theorem bx.lt (x:bx P w H h a o):a<h.objs.size:=by
 cases o with
 | lst xs=>obtain ⟨_,_,_,_,e⟩:=x; exact Heap.lt_size e
 | tup xs=>obtain ⟨_,_,_,p,_⟩:=x; exact p.lt
 | dK kvs=>obtain ⟨_,_,_,_,o,_,_,e,_⟩:=x; exact Heap.lt_size e
 | dT kvs=>obtain ⟨_,_,_,_,o,_,_,e,_⟩:=x; exact Heap.lt_size e
 | set S n=>obtain ⟨o,_,_,_,e,_⟩:=x; exact Heap.lt_size e
 | ins C dx fs=>obtain ⟨_,_,_,e,_⟩:=x; exact Heap.lt_size e
 | own y=>obtain ⟨_,e⟩:=x; exact Heap.lt_size e
 | xd fs=>obtain ⟨_,⟨_,_,_,e,_⟩,_⟩:=x; exact Heap.lt_size e
 | rng lo hi=>obtain ⟨_,_,_,e⟩:=x; exact Heap.lt_size e
 | frz ob u=>obtain ⟨e,_⟩:=x; exact Heap.lt_size e
 | tbl ps=>exact Heap.lt_size (show h.get? a=some _ from x)
 | met f y=>exact Heap.lt_size (show h.get? a=some _ from x)
 | ext φ=>obtain ⟨_,⟨_,e⟩,_⟩:=x; exact Heap.lt_size e
theorem Paired.mapP {α β:Type} {F G:α→β→Prop}:∀ {l₁:List α} {l₂:List β},Paired F l₁ l₂→(∀ a b,F a b→G a b)→Paired G l₁ l₂
 | _,_,.nil,_=>.nil
 | _,_,.cons r t,f=>.cons (f _ _ r) (Paired.mapP t f)
theorem bx.stay (x:bx P w H h a o) (k:∀ b u,(b=a∨H b=some (.own a))→h.get? b=some u→h'.get? b=some u)
  (ho:∀ b,H b=some (.own a)→H' b=some (.own a)) (ht:∀ b xs,H b=some (.tup xs)→H' b=some (.tup xs)):bx P w H' h' a o:=by
 induction o with
 | lst xs=>obtain ⟨z,its,n,r,e⟩:=x; exact ⟨z,its,n,r,k _ _ (.inl rfl) e⟩
 | tup xs=>obtain ⟨z,its,r,⟨ob,e,c⟩,o2,e2,d2⟩:=x; exact ⟨z,its,r,⟨ob,k _ _ (.inl rfl) e,c⟩,o2,k _ _ (.inl rfl) e2,d2⟩
 | dK kvs=>obtain ⟨z,y,vs,r,ob,es,ep,e,c⟩:=x; exact ⟨z,y,vs,r,ob,es,ep,k _ _ (.inl rfl) e,c⟩
 | dT kvs =>
  obtain ⟨z,y,xs,r,ob,es,ep,e,c⟩:=x
  exact ⟨z,y,xs,Paired.mapP r fun p q z=>⟨z.1,⟨ht _ _ z.2.1.1,z.2.1.2⟩,z.2.2⟩,ob,es,ep,k _ _ (.inl rfl) e,c⟩
 | set S n=>obtain ⟨ob,es,ep,t,e,c⟩:=x; exact ⟨ob,es,ep,t,k _ _ (.inl rfl) e,c⟩
 | ins C dx fs =>
  obtain ⟨d,z,ne,e,mA,⟨od,es,ep,e2,c⟩,r⟩:=x
  exact ⟨ho _ d,z,ne,k _ _ (.inl rfl) e,mA,⟨od,es,ep,k _ _ (.inr d) e2,c⟩,r⟩
 | own y=>obtain ⟨ob,e⟩:=x; exact ⟨ob,k _ _ (.inl rfl) e⟩
 | xd fs=>obtain ⟨mA,⟨od,es,ep,e,c⟩,r⟩:=x; exact ⟨mA,⟨od,es,ep,k _ _ (.inl rfl) e,c⟩,r⟩
 | rng lo hi=>obtain ⟨t,u,v,e⟩:=x; exact ⟨t,u,v,k _ _ (.inl rfl) e⟩
 | frz ob u ih=>obtain ⟨e,q⟩:=x; exact ⟨k _ _ (.inl rfl) e,ih q⟩
 | tbl ps =>
  have e:h.get? a=some { cls:=.none,data:=.fields ps }:=x
  show h'.get? a=some { cls:=.none,data:=.fields ps }
  exact k a _ (.inl rfl) e
 | met f y =>
  have e:h.get? a=some (PySem.W.methodObj (.ref f) (.ref y)):=x
  show h'.get? a=some (PySem.W.methodObj (.ref f) (.ref y))
  exact k a _ (.inl rfl) e
 | ext φ=>obtain ⟨p,⟨o,e⟩,st⟩:=x; exact ⟨st _ _ p fun o q=>k _ _ (.inl rfl) q,⟨o,k _ _ (.inl rfl) e⟩,st⟩
theorem HOk.lt (x:HOk P w H h) (e:H a=some o):a<h.objs.size:=(x a o e).lt
theorem HOk.fresh (x:HOk P w H h) (e:h.objs.size≤a):H a=none:=by
 cases q:H a with
 | none=>rfl
 | some u=>exact absurd (Nat.lt_of_lt_of_le (x.lt q) e) (Nat.lt_irrefl _)
theorem HOk.kept (x:HOk P w H h) (k:∀ b u,h.get? b=some u→h'.get? b=some u):HOk P w H h':=fun a o e =>
 (x a o e).stay (fun b u _ q=>k b u q) (fun _ q=>q) fun _ _ q=>q
theorem HOk.laid (x:HOk P w H h) (k:∀ b u,h.get? b=some u→h'.get? b=some u) (hp:h.objs.size≤a) (new:bx P w (upd H a o) h' a o):HOk P w (upd H a o) h':=fun b u e=>by
 have hn:=x.fresh hp
 by_cases hb:b=a
 ·subst hb; rw [ad] at e; cases e; exact new
 ·rw [ax hb] at e
  exact (x b u e).stay (fun c v _ q=>k c v q) (fun c q=>by rw [ax (av q hn)]; exact q) fun c xs q=>by rw [ax (av q hn)]; exact q
end
def Rd (H:Hp) (a:Addr) (u:HO):Prop:=H a=some u∨∃ o,H a=some (.frz o u)
theorem Rd.ok {P:Program} {w:World} {H:Hp} {h:Heap} {a:Addr} {u:HO} (r:Rd H a u) (x:HOk P w H h):bx P w H h a u:=by
 rcases r with r | ⟨o,r⟩
 ·exact x a u r
 ·obtain ⟨_,q⟩:=x a _ r
  exact q
def Mut:Option HO→Prop
 | some (.lst _)=>True
 | some (.dK _)=>True
 | some (.dT _)=>True
 | some (.set _ _)=>True
 | some (.ins _ _ _)=>True
 | some (.ext _)=>True
 | _=>False
section
variable {P:Program} {w:World} {H:Hp} {h h':Heap} {x e:Addr} {o':HO}
theorem HOk.write (ok:HOk P w H h) (mu:Mut (H x)) (he:e=x∨H e=some (.own x)) (k:∀ b u,b≠e→h.get? b=some u→h'.get? b=some u) (heo:∃ u,h'.get? e=some u)
  (new:bx P w (upd H x o') h' x o'):HOk P w (upd H x o') h':=fun b u q=>by
 have nown:∀ c y,H c=some (.own y)→c≠x:=fun c y r z=>by subst z; rw [r] at mu; exact mu
 have ntup:∀ c xs,H c=some (.tup xs)→c≠x:=fun c xs r z=>by subst z; rw [r] at mu; exact mu
 by_cases hb:b=x
 ·subst hb; rw [ad] at q; cases q; exact new
 ·rw [ax hb] at q
  by_cases hbe:b=e
  ·have q':H b=some (.own x):=by
    rcases he with z | z
    ·exact absurd (hbe.trans z) hb
    ·rw [hbe]; exact z
   rw [q] at q'; cases q'
   obtain ⟨v,hv⟩:=heo
   exact ⟨v,by rw [hbe]; exact hv⟩
  ·refine (ok b u q).stay (fun c v hc r=>k c v ?_ r) (fun c r=>by rw [ax (nown c b r)]; exact r) fun c xs r=>by rw [ax (ntup c xs r)]; exact r
   rcases hc with rfl | hc
   ·exact hbe
   ·rintro rfl
    rcases he with z | z
    ·exact nown c b hc z
    ·rw [hc] at z; cases z; exact hb rfl
end
structure Un (fs ex:List Addr) (H H':Hp) (h h':Heap):Prop where
 keep:∀ b o,h.get? b=some o→H b=none→b∉fs→b∉ex→h'.get? b=some o
 slot:∀ b o,h.get? b=some o→H b=none→b∈fs→b∉ex→∃ sl,h'.get? b=some { o with slots:=sl }
 free:∀ b o,h.get? b=some o→H b=none→b∉ex→H' b=none
 there:∀ b o,h.get? b=some o→b∉ex→∃ o',h'.get? b=some o'
 tups:∀ b xs,H b=some (.tup xs)→H' b=some (.tup xs)
 frzs:∀ b o u,H b=some (.frz o u)→H' b=some (.frz o u)
 tbls:∀ b ps,H b=some (.tbl ps)→∃ more,H' b=some (.tbl (ps++more))
section
variable {fs fs' ex ex':List Addr} {H H1 H2:Hp} {h h1 h2 h':Heap} {a x e:Addr} {o:HO}
theorem Un.any (u:Un fs ex H H1 h h1) {b:Addr} {ob:Obj} (q:h.get? b=some ob) (n:H b=none) (hx:b∉ex):∃ sl,h1.get? b=some { ob with slots:=sl }:=by
 by_cases hb:b∈fs
 ·exact u.slot b ob q n hb hx
 ·exact ⟨ob.slots,u.keep b ob q n hb hx⟩
theorem Un.kept (k:∀ b u,h.get? b=some u→h'.get? b=some u):Un fs ex H H h h' :=
 ⟨fun b ob q _ _ _=>k b ob q,fun b ob q _ _ _=>⟨ob.slots,k b ob q⟩,fun _ _ _ n _=>n,fun b ob q _=>⟨ob,k b ob q⟩,fun _ _ q=>q,fun _ _ _ q=>q,fun _ ps q=>⟨#[],by rw [q]; simp⟩⟩
theorem Un.refl:Un fs ex H H h h:=Un.kept fun _ _ q=>q
theorem Un.laid (k:∀ b u,h.get? b=some u→h'.get? b=some u) (hp:h.objs.size≤a) (hn:H a=none):Un fs ex H (upd H a o) h h' where
 keep:=fun b u q _ _ _=>k b u q
 slot:=fun b u q _ _ _=>⟨u.slots,k b u q⟩
 free:=fun b u q n _=>by rw [ax (Nat.ne_of_lt (Nat.lt_of_lt_of_le (Heap.lt_size q) hp))]; exact n
 there:=fun b u q _=>⟨u,k b u q⟩
 tups:=fun b xs q=>by rw [ax (av q hn)]; exact q
 frzs:=fun b u xs q=>by rw [ax (av q hn)]; exact q
 tbls:=fun b ps q=>⟨#[],by rw [ax (av q hn),q]; simp⟩
theorem Un.write (mu:Mut (H x)) (he:e=x∨H e=some (.own x)) (k:∀ b u,b≠e→h.get? b=some u→h'.get? b=some u) (heo:∃ u,h'.get? e=some u):Un fs ex H (upd H x o) h h':=by
 have hx:∀ b,H b=none→b≠x:=fun b n z=>by subst z; rw [n] at mu; exact mu
 have hb:∀ b,H b=none→b≠e:=fun b n z=>by
  subst z
  rcases he with r | r
  ·exact hx b n r
  ·rw [n] at r; cases r
 have hm:∀ b u,H b=some u→¬ Mut (some u)→b≠x:=fun b u q nm z=>by subst z; rw [q] at mu; exact nm mu
 refine ⟨fun b u q n _ _=>k b u (hb b n) q,fun b u q n _ _=>⟨u.slots,k b u (hb b n) q⟩,fun b u q n _=>by rw [ax (hx b n)]; exact n,fun b u q _=>?_,
  fun b xs q=>by rw [ax (hm b _ q fun z=>z)]; exact q,fun b u xs q=>by rw [ax (hm b _ q fun z=>z)]; exact q,fun b ps q=>⟨#[],by rw [ax (hm b _ q fun z=>z),q]; simp⟩⟩
 by_cases hbe:b=e
 ·subst hbe; exact heo
 ·exact ⟨u,k b u hbe q⟩
end
def trk (h:Heap) (H:Hp):List Addr:=(List.range h.objs.size).filter fun a=>(H a).isSome
def ms (h:Heap) (H:Hp):Heap:=PySem.W.hideAll h (trk h H)
theorem sV (h:Heap) (H:Hp):(ms h H).objs.size=h.objs.size:=PySem.W.hideAll_size _ _
theorem ui {h:Heap} {H:Hp} {b:Addr} {o:Obj} (e:h.get? b=some o) (n:H b=none):(ms h H).get? b=some o :=
 PySem.W.hideAll_get _ e fun hm=>by
  have q:(H b).isSome=true:=(List.mem_filter.mp hm).2
  rw [n] at q; simp at q
theorem wg {h:Heap} {H:Hp} {b:Addr} {o:Obj} (e:(ms h H).get? b=some o):h.get? b=some o∧H b=none:=by
 have e':h.get? b=some o:=PySem.W.of_hideAll (trk h H) e
 refine ⟨e',?_⟩
 cases q:H b with
 | none=>rfl
 | some x =>
  have hm:b∈trk h H:=List.mem_filter.mpr ⟨List.mem_range.mpr (Heap.lt_size e'),by simp [q]⟩
  have z:(ms h H).get? b=none:=PySem.W.hideAll_none (trk h H) hm
  rw [z] at e; cases e
open PySem PySem.Spec PyProof.Rows
structure Mod (K:Frag) (mg:Str→Option Value) (base:Heap):Prop where
 kin:K.In base
 glob:base.Ns mainGlobals mg
 blt:∃ mb,base.Ns builtinsNs mb∧∀ x:Str,x ≠ "__name__"→mb x=bootBuiltins x
 nolimit:base.NoLimit
structure Cx where
 prog:Program
 w:World
 K:Frag
 mg:Str→Option Value
 base:Heap
 A:Around
 N:List Str
 s₀:Shared
 H₀:Hp
 env:Env
 outer:List Env
 stack:List Env
 ex:List Addr
 fn:Str→Bool
 calm:Bool
 pn:List (Addr×Obj)
 xe:Value→Shared→Prop
def frs (l:List Env):List Addr:=l.filterMap (·.frame)
abbrev Cx.fs (X:Cx):List Addr:=frs X.outer
def Vis (sc:Scope) (x:Str):Prop:=sc.names.lookup x=some .local∨sc.names.lookup x=some .cell∨sc.names.lookup x=some .free
def Loc (sc:Scope) (x:Str):Prop:=sc.names.lookup x=some .local∨sc.names.lookup x=some .cell
def Az (env:Env) (h:Heap) (m:Str→Option Value) (x:Str) (u:Value):Prop :=
 (env.kindOf x=some .local∧m x=some u)∨((env.kindOf x=some .cell∨env.kindOf x=some .free)∧∃ c,env.cells.lookup x=some c∧h.IsCell c (some u))
structure Cx.Ok (X:Cx):Prop where
 mod:Mod X.K X.mg X.base
 kind:X.env.scope.kind=.function
 glob:X.env.globals=mainGlobals
 blt:X.env.builtins=builtinsNs
 above:X.s₀.heap.objs.size≤X.env.locals
 inj:∀ x y c,X.env.cells.lookup x=some c→X.env.cells.lookup y=some c→x=y
 has:∀ x,(X.env.kindOf x=some .cell∨X.env.kindOf x=some .free)→∃ c,X.env.cells.lookup x=some c
 cab:∀ x c,X.fn x=true→X.env.cells.lookup x=some c→X.s₀.heap.objs.size≤c
 hd:X.calm=true→X.A.handled=none
 frames:X.A.frames=some X.stack
 stk:X.stack=X.outer∨(X.stack=X.env::X.outer∧X.env.frame=some X.env.locals)
 exf:∀ b∈X.ex,b≠X.env.locals∧∀ x c,X.env.cells.lookup x=some c→c≠b
 bs:∀ b o,X.base.get? b=some o→X.s₀.heap.get? b=some o∧X.H₀ b=none
 bsz:X.base.objs.size≤X.s₀.heap.objs.size
 noex:∀ b o,X.base.get? b=some o→b∉X.ex
 exfs:∀ b∈X.ex,b∉X.fs
 funs:X.s₀.heap.FunFrames X.base X.outer
 frf:∀ b∈X.fs,X.H₀ b=none
structure Inv (X:Cx) (pins:List (Addr×Obj)) (σ:List (Option V)) (H:Hp) (s:Shared):Prop where
 ok:X.Ok
 os:s.os=X.s₀.os
 bare:AllBare s.gens
 base:Un X.fs X.ex X.H₀ H X.s₀.heap s.heap
 loc:∃ m,s.heap.Ns X.env.locals m∧∀ (i:Nat) (x:Str) (v:V),X.N[i]?=some x→σ[i]?=some (some v)→Vis X.env.scope x→∃ u,aJ v u∧Az X.env s.heap m x u
 cell:∀ x c,X.env.cells.lookup x=some c→∃ v,s.heap.IsCell c v
 free:H X.env.locals=none
 freeC:∀ x c,X.env.cells.lookup x=some c→H c=none
 pin:∀ p∈X.pn++pins,s.heap.get? p.1=some p.2∧H p.1=none∧p.1≠X.env.locals∧p.1∉X.fs∧∀ v,p.2.data≠.cell v
 hok:HOk X.prog X.w H s.heap
 len:σ.length=X.N.length
section
variable {X:Cx} {pins:List (Addr×Obj)} {σ:List (Option V)} {H H':Hp} {s:Shared} {h':Heap}
theorem Cx.Ok.nofr (ok:X.Ok) {b:Addr} {o:Obj} (e:X.base.get? b=some o):b∉X.fs:=fun hb=>by
 have:=(ok.funs.mem hb).1
 rw [e] at this; cases this
theorem Inv.bs (I:Inv X pins σ H s):∀ b o,X.base.get? b=some o→s.heap.get? b=some o∧H b=none:=fun b o e =>
 ⟨I.base.keep b o (I.ok.bs b o e).1 (I.ok.bs b o e).2 (I.ok.nofr e) (I.ok.noex b o e),I.base.free b o (I.ok.bs b o e).1 (I.ok.bs b o e).2 (I.ok.noex b o e)⟩
theorem Inv.bk (I:Inv X pins σ H s):∀ b o,X.base.get? b=some o→s.heap.get? b=some o:=fun b o e=>(I.bs b o e).1
theorem Inv.mod (I:Inv X pins σ H s):Mod X.K X.mg X.base:=I.ok.mod
theorem Inv.kIn (I:Inv X pins σ H s):X.K.In s.heap:=I.ok.mod.kin.keeps I.bk
theorem Inv.fr (I:Inv X pins σ H s):∃ m,Fr X.base X.env.locals s.heap m :=
 let ⟨m,hn,_⟩:=I.loc
 ⟨m,hn,I.bk,Nat.le_trans I.ok.bsz I.ok.above⟩
theorem Inv.lt (I:Inv X pins σ H s):X.env.locals<s.heap.objs.size:=let ⟨_,hn,_⟩:=I.loc; hn.lt
theorem Inv.sz (I:Inv X pins σ H s):X.s₀.heap.objs.size≤s.heap.objs.size:=Nat.le_trans I.ok.above (Nat.le_of_lt I.lt)
theorem Inv.nofs (I:Inv X pins σ H s) {a:Addr} (h:s.heap.objs.size≤a):a∉X.fs:=fun hb=>by
 obtain ⟨_,o,ho,_⟩:=I.ok.funs.mem hb
 exact absurd (Nat.lt_of_lt_of_le (Heap.lt_size ho) (Nat.le_trans I.sz h)) (Nat.lt_irrefl _)
theorem Inv.cne (I:Inv X pins σ H s):∀ x c,X.env.cells.lookup x=some c→c≠X.env.locals:=fun x c e z=>by
 obtain ⟨v,o,ho,hd⟩:=I.cell x c e
 obtain ⟨m,⟨o',es,ep,ho',hd',_⟩,_⟩:=I.loc
 rw [z,ho'] at ho; cases ho; rw [hd'] at hd; cases hd
theorem Inv.funs (I:Inv X pins σ H s):s.heap.FunFrames X.base X.outer:=by
 have all:∀ (l:List Env),(∀ b∈frs l,b∈X.fs)→X.s₀.heap.FunFrames X.base l→s.heap.FunFrames X.base l:=by
  intro l
  induction l with
  | nil=>intro _ _; trivial
  | cons env r ih =>
   intro hs hl
   obtain ⟨hk,⟨L,o,hf,hn,ho,hd⟩,hr⟩:=hl
   have hL:L∈X.fs:=hs L (by unfold frs; rw [List.filterMap_cons,hf]; exact List.mem_cons_self)
   obtain ⟨sl,e⟩:=I.base.slot L o ho (I.ok.frf L hL) hL fun z=>I.ok.exfs L z hL
   exact ⟨hk,⟨L,_,hf,hn,e,hd⟩,ih (fun b hb=>hs b (by unfold frs; rw [List.filterMap_cons,hf]; exact List.mem_cons_of_mem _ hb)) hr⟩
 exact all X.outer (fun _ hb=>hb) I.ok.funs
theorem Inv.stack (I:Inv X pins σ H s):s.heap.FunFrames X.base X.stack:=by
 rcases I.ok.stk with e | ⟨e,hf⟩
 ·rw [e]; exact I.funs
 ·rw [e]
  obtain ⟨m,hn,_⟩:=I.loc
  refine .cons (by rw [I.ok.kind]; decide) hf hn ?_ I.funs
  exact Heap.get?_none_of_le (Nat.le_trans I.ok.bsz I.ok.above)
theorem Inv.stkSub (I:Inv X pins σ H s):∀ b∈frs X.stack,b∈X.env.locals::X.fs:=fun b hb=>by
 rcases I.ok.stk with e | ⟨e,hf⟩
 ·rw [e] at hb; exact List.mem_cons_of_mem _ hb
 ·rw [e] at hb
  unfold frs at hb
  rw [List.filterMap_cons,hf] at hb
  exact hb
theorem Inv.stkFree (I:Inv X pins σ H s):∀ b∈frs X.stack,H b=none:=fun b hb=>by
 rcases List.mem_cons.mp (I.stkSub b hb) with e | hb
 ·rw [e]; exact I.free
 ·obtain ⟨_,o,ho,_⟩:=I.ok.funs.mem hb
  exact I.base.free b o ho (I.ok.frf b hb) fun z=>I.ok.exfs b z hb
theorem Inv.step {g':Array GenState} {t':Nat} {d':Drawn} {ch:List Addr} (I:Inv X pins σ H s)
  (hch:∀ b∈ch,(b∈X.ex∨X.s₀.heap.objs.size≤b)∧b≠X.env.locals∧(∀ x c,X.env.cells.lookup x=some c→c≠b)∧∀ p∈X.pn++pins,p.1≠b)
  (keep:∀ b o,b≠X.env.locals→b∉X.fs→b∉ch→s.heap.get? b=some o→H b=none→h'.get? b=some o)
  (slot:∀ b o,b≠X.env.locals→b∈X.fs→b∉ch→s.heap.get? b=some o→H b=none→∃ sl,h'.get? b=some { o with slots:=sl }) (free:∀ b o,b∉ch→s.heap.get? b=some o→H b=none→H' b=none)
  (there:∀ b o,b∉ch→s.heap.get? b=some o→∃ o',h'.get? b=some o')
  (tups:∀ b xs,H b=some (.tup xs)→H' b=some (.tup xs)) (frzs:∀ b o u,H b=some (.frz o u)→H' b=some (.frz o u)) (tbls:∀ b ps,H b=some (.tbl ps)→∃ more,H' b=some (.tbl (ps++more)))
  (ns:∀ m,s.heap.Ns X.env.locals m→h'.Ns X.env.locals m) (hok:HOk X.prog X.w H' h') (hg:AllBare g') :
  Inv X pins σ H' { s with heap:=h',gens:=g',drawn:=d',toks:=t' }:=by
 have neL:∀ b o,X.s₀.heap.get? b=some o→b≠X.env.locals:=fun b o e=>Nat.ne_of_lt (Nat.lt_of_lt_of_le (Heap.lt_size e) I.ok.above)
 have neC:∀ b o,X.s₀.heap.get? b=some o→b∉X.ex→b∉ch:=fun b o e hx hb=>by
  rcases (hch b hb).1 with z | z
  ·exact hx z
  ·exact absurd (Nat.lt_of_lt_of_le (Heap.lt_size e) z) (Nat.lt_irrefl _)
 have cellK:∀ x c,X.env.cells.lookup x=some c→∀ v,s.heap.IsCell c v→h'.IsCell c v:=fun x c e v ⟨o,ho,hd⟩=>by
  have nch:c∉ch:=fun z=>(hch c z).2.2.1 x c e rfl
  by_cases hc:c∈X.fs
  ·obtain ⟨sl,q⟩:=slot c o (I.cne x c e) hc nch ho (I.freeC x c e)
   exact ⟨_,q,hd⟩
  ·exact ⟨o,keep c o (I.cne x c e) hc nch ho (I.freeC x c e),hd⟩
 refine ⟨I.ok,I.os,hg,⟨fun b o e n hb hx=>?_,fun b o e n hb hx=>?_,fun b o e n hx=>?_,fun b o e hx=>?_,fun b xs e=>tups b xs (I.base.tups b xs e),fun b o xs e=>frzs b o xs (I.base.frzs b o xs e),fun b ps e=>?_⟩,?_,fun x c e=>?_,?_,fun x c e=>?_,fun p hp=>?_,hok,I.len⟩
 ·exact keep b o (neL b o e) hb (neC b o e hx) (I.base.keep b o e n hb hx) (I.base.free b o e n hx)
 ·obtain ⟨sl,e1⟩:=I.base.slot b o e n hb hx
  obtain ⟨sl',e2⟩:=slot b _ (neL b o e) hb (neC b o e hx) e1 (I.base.free b o e n hx)
  exact ⟨sl',e2⟩
 ·obtain ⟨o',e1⟩:=I.base.there b o e hx
  exact free b o' (neC b o e hx) e1 (I.base.free b o e n hx)
 ·obtain ⟨o',e1⟩:=I.base.there b o e hx
  exact there b o' (neC b o e hx) e1
 ·obtain ⟨m1,e1⟩:=I.base.tbls b ps e
  obtain ⟨m2,e2⟩:=tbls b _ e1
  exact ⟨m1++m2,by rw [e2,Array.append_assoc]⟩
 ·obtain ⟨m,hn,hl⟩:=I.loc
  refine ⟨m,ns m hn,fun i x v e1 e2 e3=>?_⟩
  obtain ⟨u,r,l⟩:=hl i x v e1 e2 e3
  refine ⟨u,r,?_⟩
  rcases l with l | ⟨k,c,e,z⟩
  ·exact .inl l
  ·exact .inr ⟨k,c,e,cellK x c e _ z⟩
 ·obtain ⟨v,z⟩:=I.cell x c e
  exact ⟨v,cellK x c e v z⟩
 ·obtain ⟨m,⟨o,_,_,ho,_⟩,_⟩:=I.loc
  exact free _ o (fun z=>(hch _ z).2.1 rfl) ho I.free
 ·obtain ⟨v,o,ho,hd⟩:=I.cell x c e
  exact free c o (fun z=>(hch c z).2.2.1 x c e rfl) ho (I.freeC x c e)
 ·obtain ⟨e,n,ne,nf,d⟩:=I.pin p hp
  have nch:p.1∉ch:=fun z=>(hch p.1 z).2.2.2 p hp rfl
  exact ⟨keep p.1 p.2 ne nf nch e n,free p.1 p.2 nch e n,ne,nf,d⟩
theorem Inv.un {t':Nat} (I:Inv X pins σ H s) (u:Un X.fs [] H H' s.heap h') (hok:HOk X.prog X.w H' h'):Inv X pins σ H' { s with heap:=h',toks:=t' }:=by
 obtain ⟨m,⟨o,es,ep,ho,r⟩,_⟩:=id I.loc
 obtain ⟨sl,hL⟩:=u.any ho I.free (by simp)
 exact I.step (g':=s.gens) (d':=s.drawn) (ch:=[]) (fun _ z=>nomatch z) (fun b o _ hb _ e n=>u.keep b o e n hb (by simp)) (fun b o _ hb _ e n=>u.slot b o e n hb (by simp)) (fun b o _ e n=>u.free b o e n (by simp)) (fun b o _ e=>u.there b o e (by simp)) u.tups u.frzs u.tbls (fun m' hm=>by
  obtain ⟨o',es',ep',ho',r'⟩:=hm
  rw [ho] at ho'; cases ho'
  exact ⟨_,es',ep',hL,r'⟩) hok I.bare
theorem Inv.call {g':Array GenState} {t':Nat} {d':Drawn} {ch:List Addr} (I:Inv X pins σ H s) (u:Un (frs X.stack) ch H H' s.heap h') (hok:HOk X.prog X.w H' h') (hg:AllBare g')
  (hch:∀ b∈ch,(b∈X.ex∨X.s₀.heap.objs.size≤b)∧b≠X.env.locals∧(∀ x c,X.env.cells.lookup x=some c→c≠b)∧∀ p∈X.pn++pins,p.1≠b) :
  Inv X pins σ H' { s with heap:=h',gens:=g',drawn:=d',toks:=t' }:=by
 obtain ⟨m,⟨o,es,ep,ho,r⟩,_⟩:=id I.loc
 obtain ⟨sl,hL⟩:=u.any ho I.free fun z=>(hch _ z).2.1 rfl
 exact I.step (ch:=ch) hch (fun b o hL hb hc e n=>u.keep b o e n (fun z=>(List.mem_cons.mp (I.stkSub b z)).elim hL hb) hc) (fun b o _ _ hc e n=>u.any e n hc) (fun b o hc e n=>u.free b o e n hc) (fun b o hc e=>u.there b o e hc) u.tups u.frzs u.tbls (fun m' hm=>by
  obtain ⟨o',es',ep',ho',r'⟩:=hm
  rw [ho] at ho'; cases ho'
  exact ⟨_,es',ep',hL,r'⟩) hok hg
theorem Inv.turned {t':Nat} {it:Addr} (I:Inv X pins σ H s) (k:∀ b o,b≠it→s.heap.get? b=some o→h'.get? b=some o) (hn:H it=none) (hL:it≠X.env.locals)
  (h1:it∈X.ex∨X.s₀.heap.objs.size≤it) (h2:∀ x c,X.env.cells.lookup x=some c→c≠it) (h3:∀ p∈X.pn++pins,p.1≠it):Inv X pins σ H { s with heap:=h',toks:=t' }:=by
 have nit:∀ b u,H b=some u→b≠it:=fun b u e z=>by rw [z,hn] at e; cases e
 refine I.step (g':=s.gens) (d':=s.drawn) (ch:=[it]) (fun b hb=>?_) (fun b o _ _ hc e _=>k b o (fun z=>hc (by simp [z])) e) (fun b o _ _ hc e _=>⟨o.slots,k b o (fun z=>hc (by simp [z])) e⟩) (fun _ _ _ _ n=>n)
  (fun b o hc e=>⟨o,k b o (fun z=>hc (by simp [z])) e⟩) (fun _ _ e=>e) (fun _ _ _ e=>e) (fun b ps e=>⟨#[],by rw [e]; simp⟩) (fun m hm=>?_) (fun b u e=>?_) I.bare
 ·have e:b=it:=by simpa using hb
  subst e
  exact ⟨h1,hL,h2,h3⟩
 ·obtain ⟨o,es,ep,ho,r⟩:=hm
  exact ⟨o,es,ep,k _ o (Ne.symm hL) ho,r⟩
 ·refine (I.hok b u e).stay (fun c v hc q=>k c v ?_ q) (fun _ q=>q) fun _ _ q=>q
  rcases hc with z | z
  ·rw [z]; exact nit b u e
  ·exact nit c _ z
theorem Inv.tok (I:Inv X pins σ H s) (t:Nat):Inv X pins σ H { s with toks:=t }:=I.un (h':=s.heap) (t':=t) Un.refl I.hok
theorem Inv.kept {t':Nat} (I:Inv X pins σ H s) (k:∀ b u,s.heap.get? b=some u→h'.get? b=some u):Inv X pins σ H { s with heap:=h',toks:=t' }:=I.un (Un.kept k) (I.hok.kept k)
theorem Inv.laid {a:Addr} {o:HO} {t':Nat} (I:Inv X pins σ H s) (k:∀ b u,s.heap.get? b=some u→h'.get? b=some u) (hp:s.heap.objs.size≤a) (new:bx X.prog X.w (upd H a o) h' a o) :
  Inv X pins σ (upd H a o) { s with heap:=h',toks:=t' }:=I.un (Un.laid k hp (I.hok.fresh hp)) (I.hok.laid k hp new)
theorem Inv.write {x e:Addr} {o:HO} {t':Nat} (I:Inv X pins σ H s) (mu:Mut (H x)) (he:e=x∨H e=some (.own x)) (k:∀ b u,b≠e→s.heap.get? b=some u→h'.get? b=some u) (heo:∃ u,h'.get? e=some u)
  (new:bx X.prog X.w (upd H x o) h' x o):Inv X pins σ (upd H x o) { s with heap:=h',toks:=t' }:=I.un (Un.write mu he k heo) (I.hok.write mu he k heo new)
theorem Inv.weak {σ':List (Option V)} (I:Inv X pins σ H s) (hl:σ'.length=σ.length) (w:∀ (i:Nat) v,σ'[i]?=some (some v)→σ[i]?=some (some v)):Inv X pins σ' H s :=
 ⟨I.ok,I.os,I.bare,I.base,let ⟨m,hn,hl'⟩:=I.loc; ⟨m,hn,fun i x v e1 e2 e3=>hl' i x v e1 (w i v e2) e3⟩,I.cell,I.free,I.freeC,I.pin,I.hok,hl.trans I.len⟩
theorem Inv.pins_of {pins':List (Addr×Obj)} (I:Inv X pins σ H s) (h:∀ p∈pins',s.heap.get? p.1=some p.2∧H p.1=none∧p.1≠X.env.locals∧p.1∉X.fs∧∀ v,p.2.data≠.cell v):Inv X pins' σ H s :=
 ⟨I.ok,I.os,I.bare,I.base,I.loc,I.cell,I.free,I.freeC,fun p hp=>(List.mem_append.mp hp).elim (fun z=>I.pin p (List.mem_append_left _ z)) (h p),I.hok,I.len⟩
theorem nZ {N:List Str} (hN:N.Nodup) {i j:Nat} {x:Str} (a:N[i]?=some x) (b:N[j]?=some x):i=j:=by
 obtain ⟨h1,e1⟩:=List.getElem?_eq_some_iff.mp a
 obtain ⟨h2,e2⟩:=List.getElem?_eq_some_iff.mp b
 exact (List.getElem_inj hN).mp (e1.trans e2.symm)
theorem tf {M:Model} {A:Around} {E:Value→Shared→Prop} {i:Nat} {x:Str} {v:V} {u:Value} {Q:Unit→Shared→Prop} (I:Inv X pins σ H s) (hN:X.N.Nodup) (hi:X.N[i]?=some x) (hx:Loc X.env.scope x) (r:aJ v u)
  (h:∀ s',Inv X pins (σ.set i (some v)) H s'→(∃ a,Heap.SameBut a s.heap s'.heap∧(a=X.env.locals∨X.env.cells.lookup x=some a))→Q () s') (hf:X.fn x=true∨X.env.scope.names.lookup x=some .local:=by first | exact .inl rfl | exact .inr rfl | assumption):wpAny M A (storeName X.env x u) Q E s:=by
 obtain ⟨m,hn,hl⟩:=id I.loc
 have hcls:(X.env.scope.kind==.class||(X.env.scope.kind==.module&&X.env.locals != X.env.globals))=false:=by rw [I.ok.kind]; rfl
 have hiσ:i<σ.length:=by rw [I.len]; exact (List.getElem?_eq_some_iff.mp hi).1
 have cne:=I.cne
 have tracked:∀ {a:Addr} {h':Heap},(∃ o,s.heap.get? a=some o∧H a=none)→Heap.SameBut a s.heap h'→HOk X.prog X.w H h':=fun {a h'} ha hs b ob e=>by
  obtain ⟨_,_,hfree⟩:=ha
  refine (I.hok b ob e).stay (fun c w' hc q=>(hs.2 c ?_).trans q) (fun _ q=>q) fun _ _ q=>q
  rintro rfl
  rcases hc with rfl | hc
  ·rw [hfree] at e; cases e
  ·rw [hfree] at hc; cases hc
 rcases hx with hk | hk
 ·refine wpAny_storeName_local hk hn (fun h' hn' hs=>?_) hcls
  obtain ⟨oL,_,_,hoL,_⟩:=id hn
  refine h _ ⟨I.ok,I.os,I.bare,⟨fun b o e n hb hx=>?_,fun b o e n hb hx=>?_,I.base.free,fun b o e hx=>?_,I.base.tups,I.base.frzs,I.base.tbls⟩,⟨_,hn',fun j y v' e1 e2 e3=>?_⟩,fun y c e=>?_,I.free,I.freeC,fun p hp=>?_,tracked ⟨oL,hoL,I.free⟩ hs,by simpa using I.len⟩ ⟨_,hs,.inl rfl⟩
  ·exact (hs.2 b (Nat.ne_of_lt (Nat.lt_of_lt_of_le (Heap.lt_size e) I.ok.above))).trans (I.base.keep b o e n hb hx)
  ·obtain ⟨sl,e1⟩:=I.base.slot b o e n hb hx
   exact ⟨sl,(hs.2 b (Nat.ne_of_lt (Nat.lt_of_lt_of_le (Heap.lt_size e) I.ok.above))).trans e1⟩
  ·obtain ⟨o',e1⟩:=I.base.there b o e hx
   exact ⟨o',(hs.2 b (Nat.ne_of_lt (Nat.lt_of_lt_of_le (Heap.lt_size e) I.ok.above))).trans e1⟩
  ·by_cases hj:j=i
   ·subst hj
    rw [hi] at e1; cases e1
    rw [List.getElem?_set_self hiσ] at e2
    cases e2
    exact ⟨u,r,.inl ⟨hk,by simp⟩⟩
   ·rw [List.getElem?_set_ne (Ne.symm hj)] at e2
    obtain ⟨u',r',q⟩:=hl j y v' e1 e2 e3
    refine ⟨u',r',?_⟩
    rcases q with ⟨k,e⟩ | ⟨k,c,e,z⟩
    ·refine .inl ⟨k,?_⟩
     have:y≠x:=fun e=>hj (nZ hN e1 (e ▸ hi))
     simp [this,e]
    ·exact .inr ⟨k,c,e,z.sameBut hs (cne y c e)⟩
  ·obtain ⟨w',z⟩:=I.cell y c e
   exact ⟨w',z.sameBut hs (cne y c e)⟩
  ·obtain ⟨e,n,ne,nf,d⟩:=I.pin p hp
   exact ⟨(hs.2 p.1 ne).trans e,n,ne,nf,d⟩
 ·have hfn:X.fn x=true:=by
   rcases hf with z | z
   ·exact z
   ·rw [z] at hk; cases hk
  obtain ⟨c,hc⟩:=I.ok.has x (.inl hk)
  obtain ⟨w',z⟩:=I.cell x c hc
  refine wpAny_storeName_cell I.ok.kind hk hc z (fun h' hc' hs=>?_)
  obtain ⟨oc,hoc,hocd⟩:=id z
  refine h { s with heap:=h' } ⟨I.ok,I.os,I.bare,⟨fun b o e n hb hx=>?_,fun b o e n hb hx=>?_,I.base.free,fun b o e hx=>?_,I.base.tups,I.base.frzs,I.base.tbls⟩,⟨m,hn.sameBut hs (Ne.symm (cne x c hc)),fun j y v' e1 e2 e3=>?_⟩,fun y c' e=>?_,I.free,I.freeC,fun p hp=>?_,tracked ⟨oc,hoc,I.freeC x c hc⟩ hs,by simpa using I.len⟩ ⟨c,hs,.inr hc⟩
  ·exact (hs.2 b (Nat.ne_of_lt (Nat.lt_of_lt_of_le (Heap.lt_size e) (I.ok.cab x c hfn hc)))).trans (I.base.keep b o e n hb hx)
  ·obtain ⟨sl,e1⟩:=I.base.slot b o e n hb hx
   exact ⟨sl,(hs.2 b (Nat.ne_of_lt (Nat.lt_of_lt_of_le (Heap.lt_size e) (I.ok.cab x c hfn hc)))).trans e1⟩
  ·obtain ⟨o',e1⟩:=I.base.there b o e hx
   exact ⟨o',(hs.2 b (Nat.ne_of_lt (Nat.lt_of_lt_of_le (Heap.lt_size e) (I.ok.cab x c hfn hc)))).trans e1⟩
  ·by_cases hj:j=i
   ·subst hj
    rw [hi] at e1; cases e1
    rw [List.getElem?_set_self hiσ] at e2
    cases e2
    exact ⟨u,r,.inr ⟨.inl hk,c,hc,hc'⟩⟩
   ·rw [List.getElem?_set_ne (Ne.symm hj)] at e2
    obtain ⟨u',r',q⟩:=hl j y v' e1 e2 e3
    refine ⟨u',r',?_⟩
    rcases q with q | ⟨k,c',e,z'⟩
    ·exact .inl q
    ·refine .inr ⟨k,c',e,z'.sameBut hs ?_⟩
     rintro rfl
     exact hj (nZ hN e1 (I.ok.inj _ _ _ e hc ▸ hi))
  ·by_cases hcc:c'=c
   ·subst hcc; exact ⟨_,hc'⟩
   ·obtain ⟨w2,z2⟩:=I.cell y c' e
    exact ⟨w2,z2.sameBut hs hcc⟩
  ·obtain ⟨e,n,ne,nf,d⟩:=I.pin p hp
   refine ⟨(hs.2 p.1 ?_).trans e,n,ne,nf,d⟩
   intro q
   rw [q,hoc] at e
   have q':oc=p.2:=Option.some.inj e
   exact d w' (by rw [← q']; exact hocd)
theorem cJ {M:Model} {A:Around} {E:Value→Shared→Prop} {i:Nat} {x:Str} {v:V} {u:Value} {Q:Unit→Shared→Prop} (I:Inv X pins σ H s) (hN:X.N.Nodup) (hi:X.N[i]?=some x) (hx:Loc X.env.scope x) (r:aJ v u)
  (h:∀ s',Inv X pins (σ.set i (some v)) H s'→Q () s') (hf:X.fn x=true∨X.env.scope.names.lookup x=some .local:=by first | exact .inl rfl | exact .inr rfl | assumption):wpAny M A (storeName X.env x u) Q E s :=
 tf I hN hi hx r (fun s' I' _=>h s' I') hf
theorem Inv.call' {s':Shared} {ch:List Addr} (I:Inv X pins σ H s) (ho:s'.os=s.os) (u:Un (frs X.stack) ch H H' s.heap s'.heap) (hok:HOk X.prog X.w H' s'.heap) (hg:AllBare s'.gens)
  (hch:∀ b∈ch,(b∈X.ex∨X.s₀.heap.objs.size≤b)∧b≠X.env.locals∧(∀ x c,X.env.cells.lookup x=some c→c≠b)∧∀ p∈X.pn++pins,p.1≠b):Inv X pins σ H' s':=by
 obtain ⟨h',g',d',t',o'⟩:=s'
 have e:o'=s.os:=ho
 subst e
 exact I.call (g':=g') (t':=t') (d':=d') u hok hg hch
end
abbrev XK:=Value→Option Addr→Hp→Prop
abbrev St:=List (Option V)
abbrev VK:=V→Hp→Prop
abbrev TE:=St→Hp→VK→Prop
abbrev TT:=St→Hp→(Bool→Hp→Prop)→Prop
abbrev TA:=St→Hp→(List V→Hp→Prop)→Prop
structure kq where
 nx:St→Hp→Prop
 rt:VK
 bk:St→Hp→Prop:=fun _ _=>False
 ct:St→Hp→Prop:=fun _ _=>False
abbrev TS:=kq→St→Hp→Prop
def EP (X:Cx) (pins:List (Addr×Obj)) (σ:St) (Q:VK) (u:Value) (s':Shared):Prop:=∃ v H',Inv X pins σ H' s'∧aJ v u∧Q v H'
def TP (X:Cx) (pins:List (Addr×Obj)) (σ:St) (Q:Bool→Hp→Prop) (b:Bool) (s':Shared):Prop:=∃ H',Inv X pins σ H' s'∧Q b H'
def AP (X:Cx) (pins:List (Addr×Obj)) (σ:St) (Q:List V→Hp→Prop) (us:List Value) (s':Shared):Prop:=∃ vs H',Inv X pins σ H' s'∧aD vs us∧Q vs H'
def SP (X:Cx) (pins:List (Addr×Obj)) (D:kq) (f:Flow) (s':Shared):Prop :=
 match f with
 | .next=>∃ σ' H',Inv X pins σ' H' s'∧D.nx σ' H'
 | .brk=>∃ σ' H',Inv X pins σ' H' s'∧D.bk σ' H'
 | .cont=>∃ σ' H',Inv X pins σ' H' s'∧D.ct σ' H'
 | .ret u=>∃ v σ' H',Inv X pins σ' H' s'∧aJ v u∧D.rt v H'
def PE (X:Cx) (e:Expr) (t:TE):Prop :=
 ∀ (pins:List (Addr×Obj)) (s:Shared) (σ:St) (H:Hp) (Q:VK),Inv X pins σ H s→t σ H Q→wpAny (model X.prog X.w) X.A (eval e X.env) (EP X pins σ Q) X.xe s
def PT (X:Cx) (e:Expr) (t:TT):Prop :=
 ∀ (pins:List (Addr×Obj)) (s:Shared) (σ:St) (H:Hp) (Q:Bool→Hp→Prop),Inv X pins σ H s→t σ H Q→wpAny (model X.prog X.w) X.A (isTrue e X.env (eval e X.env)) (TP X pins σ Q) X.xe s
def PA (X:Cx) (es:List Expr) (t:TA):Prop :=
 ∀ (pos:Pos) (pins:List (Addr×Obj)) (s:Shared) (σ:St) (H:Hp) (Q:List V→Hp→Prop),Inv X pins σ H s→t σ H Q→wpAny (model X.prog X.w) X.A (spliced (backTo pos (starEach es X.env))) (AP X pins σ Q) X.xe s
def PS (X:Cx) (st:Stmt) (t:TS):Prop :=
 ∀ (pins:List (Addr×Obj)) (s:Shared) (σ:St) (H:Hp) (D:kq),Inv X pins σ H s→t D σ H→wpAny (model X.prog X.w) X.A (exec st X.env) (SP X pins D) X.xe s
def PSs (X:Cx) (st:List Stmt) (t:TS):Prop :=
 ∀ (pins:List (Addr×Obj)) (s:Shared) (σ:St) (H:Hp) (D:kq),Inv X pins σ H s→t D σ H→wpAny (model X.prog X.w) X.A (execs st X.env) (SP X pins D) X.xe s
theorem thn {α:Type} {t:Sem α} {Q Q':α→Shared→Prop} {M:Model} {A:Around} {E:Value→Shared→Prop} {s:Shared} (h:wpAny M A t Q E s) (hQ:∀ a s,Q a s→Q' a s):wpAny M A t Q' E s:=wpAny_mono h hQ fun _ _ x=>x
open PySem PySem.Spec PyProof.Rows
section
variable {X:Cx}
def yH (i:Nat):TE:=fun σ H Q=>∃ v,σ[i]?=some (some v)∧Q v H
def tC (v:V):TE:=fun _ H Q=>Q v H
theorem yb {i:Nat} {x:Str} {pos:Pos} (hN:X.N[i]?=some x) (hv:Vis X.env.scope x) (hd:(x==("__debug__":Str))=false:=by decide) (hcd:(x==("__classdict__":Str))=false:=by decide):PE X (.Name x pos) (yH i):=by
 intro pins s σ H Q I h
 obtain ⟨v,e,h⟩:=h
 obtain ⟨m,hn,hl⟩:=I.loc
 obtain ⟨u,r,l⟩:=hl i x v hN e hv
 have fin:EP X pins σ Q u s:=⟨v,H,I,r,h⟩
 rcases l with ⟨hk,hm⟩ | ⟨hk,c,hc,hcell⟩
 ·exact wpAny_Name (wpAny_loadName_local I.ok.kind hk hn hm fin) hd
 ·rcases hk with hk | hk
  ·exact wpAny_Name (wpAny_loadName_cell I.ok.kind hk hc hcell fin) hd
  ·exact wpAny_Name (wpAny_loadName_free I.ok.kind hk hc hcell fin hcd) hd
theorem ak {i j pos}:PE X (.Constant (.int i) j pos) (tC (.int i)):=fun _ _ _ H _ I h=>wpAny_Constant_int ⟨.int i,H,I.tok _,⟨_,rfl⟩,h⟩
theorem lV {b j pos}:PE X (.Constant (.bool b) j pos) (tC (.bl b)):=fun _ _ _ H _ I h=>Constant_bool ⟨.bl b,H,I,rfl,h⟩
theorem dC {j pos}:PE X (.Constant .none j pos) (tC .non):=fun _ _ _ H _ I h=>Constant_none ⟨.non,H,I,rfl,h⟩
theorem ao {x j pos}:PE X (.Constant (.str x) j pos) (tC (.str x)):=fun _ _ _ H _ I h=>Calls.Constant_str ⟨.str x,H,I.tok _,⟨_,rfl⟩,h⟩
def Gl (X:Cx) (x:Str):Prop:=X.env.kindOf x=some .globalImplicit
theorem nv {E:Value→Shared→Prop} {pins:List (Addr×Obj)} {s:Shared} {σ:St} {H:Hp} {x:Str} {u:Value} {pos:Pos} {Q:Value→Shared→Prop} (I:Inv X pins σ H s) (hg:Gl X x) (hm:X.mg x=some u) (h:Q u s)
  (hd:(x==("__debug__":Str))=false:=by decide):wpAny (model X.prog X.w) X.A (eval (.Name x pos) X.env) Q E s :=
 Calls.Name_function_global I.ok.kind hg (Calls.loadGlobal_global (by rw [I.ok.glob]; exact I.mod.glob.keeps I.bk) hm h) hd
theorem eu {E:Value→Shared→Prop} {pins:List (Addr×Obj)} {s:Shared} {σ:St} {H:Hp} {x:Str} {u:Value} {pos:Pos} {Q:Value→Shared→Prop} (I:Inv X pins σ H s) (hg:Gl X x) (hm:X.mg x=none) (hv:bootBuiltins x=some u) (h:Q u s)
  (hn:x ≠ "__name__":=by decide) (hd:(x==("__debug__":Str))=false:=by decide):wpAny (model X.prog X.w) X.A (eval (.Name x pos) X.env) Q E s:=by
 obtain ⟨mb,h1,h2⟩:=I.mod.blt
 exact Calls.Name_function_global I.ok.kind hg (Calls.loadGlobal_builtin (by rw [I.ok.glob]; exact I.mod.glob.keeps I.bk) hm (by rw [I.ok.blt]; exact h1.keeps I.bk) ((h2 x hn).trans hv) h) hd
theorem eS {x:Str} {v:V} {u:Value} {pos:Pos} (hg:Gl X x) (hm:X.mg x=some u) (r:aJ v u) (hd:(x==("__debug__":Str))=false:=by decide):PE X (.Name x pos) (tC v) :=
 fun _ _ _ H _ I h=>nv I hg hm ⟨v,H,I,r,h⟩ hd
variable {a b:Expr} {ta tb:TE} {pos:Pos}
def tB (t:TE):TT:=fun σ H Q=>t σ H fun x H1=>∃ c,x=.bl c∧Q c H1
theorem uI {e:Expr} {t:TE} (h:PE X e t) (he:∀ whole,isTrue e X.env whole=(do let v ← whole; standAt e.pos; holding [v] (truthy v)):=by intro _; rfl):PT X e (tB t):=by
 intro pins s σ H Q I hw
 refine isTrue_plain (thn (h pins s σ H _ I hw) fun v s1 ⟨x,H1,I1,r1,q1⟩=>?_) (he _)
 obtain ⟨d,rfl,q⟩:=q1
 cases r1
 exact wpAny_truthy_bool ⟨H1,I1,q⟩
variable {tA tB':TT} {rest:List Expr}
def tIf (t:TT) (ta tb:TE):TE:=fun σ H Q=>t σ H fun c H1=>if c=true then ta σ H1 Q else tb σ H1 Q
theorem oG {c:Expr} (hc:PT X c tA) (ha:PE X a ta) (hb:PE X b tb):PE X (.IfExp c a b pos) (tIf tA ta tb):=by
 intro pins s σ H Q I h
 refine wpAny_IfExp (thn (hc pins s σ H _ I h) fun d s1 ⟨H1,I1,q1⟩=>?_)
 cases d with
 | true=>exact ha pins s1 σ H1 Q I1 q1
 | false=>exact hb pins s1 σ H1 Q I1 q1
end
open PySem PySem.Spec PyProof.Rows
def SqL (K:Frag) (H:Hp) (a:Addr) (xs:List V):Prop :=
 Rd H a (.lst xs) ∨
  ∃ (o:Obj) (its:Array Value) (n:Nat),K.lookup a=some o∧o.cls=.type "list"∧o.dict=none∧o.data=.seq its n∧its.size≤sizeLine∧aD xs its.toList
def SqT (K:Frag) (H:Hp) (a:Addr) (xs:List V):Prop :=
 Rd H a (.tup xs) ∨
  ∃ (o:Obj) (its:Array Value) (n:Nat),K.lookup a=some o∧o.cls=.type "tuple"∧o.data=.seq its n∧its.size≤sizeLine∧aD xs its.toList
def Au:Value→Option V
 | .none=>some .non
 | .bool b=>some (.bl b)
 | .int i _=>some (.int i)
 | .str x _=>some (.str x)
 | .bytes b _=>some (.byt b)
 | .float b _=>some (.flt b)
 | .ref a=>some (.ref a)
 | .type n=>some (.ty n)
 | _=>none
theorem aJ.abs {x:V} {u:Value} (r:aJ x u):Au u=some x:=by
 cases x with
 | non=>cases r; rfl
 | bl _=>cases r; rfl
 | int _=>obtain ⟨t,rfl⟩:=r; rfl
 | str _=>obtain ⟨t,rfl⟩:=r; rfl
 | byt _=>obtain ⟨t,rfl⟩:=r; rfl
 | flt _=>obtain ⟨t,rfl⟩:=r; rfl
 | ref _=>cases r; rfl
 | ty _=>cases r; rfl
theorem aJ.inj {x y:V} {u:Value} (r:aJ x u) (q:aJ y u):x=y:=Option.some.inj (r.abs.symm.trans q.abs)
theorem aD.inj:∀ {xs ys:List V} {us:List Value},aD xs us→aD ys us→xs=ys
 | _,_,_,.nil,.nil=>rfl
 | _,_,_,.cons r t,.cons r' t'=>by rw [r.inj r',aD.inj t t']
section
variable {X:Cx} {pins:List (Addr×Obj)} {σ:St} {H:Hp} {s:Shared} {a:Addr} {xs ys:List V}
theorem SqL.of {K:Frag} (h:H a=some (.lst xs)):SqL K H a xs:=.inl (.inl h)
theorem SqT.of {K:Frag} (h:H a=some (.tup xs)):SqT K H a xs:=.inl (.inl h)
theorem Inv.list (I:Inv X pins σ H s) (h:SqL X.K H a xs):∃ its:List Value,aD xs its∧PlainL s.heap a its.toArray∧xs.length≤sizeLine:=by
 rcases h with h | ⟨o,its,n,hk,hc,hd,hs,hz,r⟩
 ·obtain ⟨z,its,n,r,e⟩:=h.ok I.hok
  exact ⟨its,r,⟨_,n,e,rfl,rfl,rfl⟩,z⟩
 ·refine ⟨its.toList,r,⟨o,n,I.kIn a o hk,hc,hd,by simpa using hs⟩,?_⟩
  have e:=r.length
  simp only [Array.length_toList] at e
  omega
theorem Inv.tuple (I:Inv X pins σ H s) (h:SqT X.K H a xs):∃ its:List Value,aD xs its∧IsTup s.heap a its.toArray∧xs.length≤sizeLine:=by
 rcases h with h | ⟨o,its,n,hk,hc,hs,hz,r⟩
 ·obtain ⟨z,its,r,p,_⟩:=h.ok I.hok
  exact ⟨its,r,p,z⟩
 ·refine ⟨its.toList,r,⟨o,I.kIn a o hk,hc,n,by simpa using hs⟩,?_⟩
  have e:=r.length
  simp only [Array.length_toList] at e
  omega
theorem Inv.list_inj (I:Inv X pins σ H s) (h:SqL X.K H a xs) (h':SqL X.K H a ys):xs=ys:=by
 obtain ⟨its,r,⟨o,n,e,_,_,d⟩,_⟩:=I.list h
 obtain ⟨its',r',⟨o',n',e',_,_,d'⟩,_⟩:=I.list h'
 rw [e] at e'; cases e'
 rw [d] at d'
 injection d' with d1 _
 have:its=its':=by simpa using congrArg Array.toList d1
 subst this
 exact r.inj r'
theorem Inv.tuple_inj (I:Inv X pins σ H s) (h:SqT X.K H a xs) (h':SqT X.K H a ys):xs=ys:=by
 obtain ⟨its,r,⟨o,e,_,n,d⟩,_⟩:=I.tuple h
 obtain ⟨its',r',⟨o',e',_,n',d'⟩,_⟩:=I.tuple h'
 rw [e] at e'; cases e'
 rw [d] at d'
 injection d' with d1 _
 have:its=its':=by simpa using congrArg Array.toList d1
 subst this
 exact r.inj r'
end
abbrev Cx.wish (X:Cx) (E:Value→Shared→Prop):Cx:={ X with xe:=E }
abbrev Cx.nox (X:Cx):Cx:=X.wish fun _ _=>False
theorem Cx.Ok.wish {X:Cx} (ok:X.Ok) (E:Value→Shared→Prop):(X.wish E).Ok :=
 ⟨ok.mod,ok.kind,ok.glob,ok.blt,ok.above,ok.inj,ok.has,ok.cab,ok.hd,ok.frames,ok.stk,ok.exf,ok.bs,ok.bsz,ok.noex,ok.exfs,ok.funs,ok.frf⟩
theorem Cx.Ok.unwish {X:Cx} {E:Value→Shared→Prop} (ok:(X.wish E).Ok):X.Ok :=
 ⟨ok.mod,ok.kind,ok.glob,ok.blt,ok.above,ok.inj,ok.has,ok.cab,ok.hd,ok.frames,ok.stk,ok.exf,ok.bs,ok.bsz,ok.noex,ok.exfs,ok.funs,ok.frf⟩
section
variable {X:Cx} {pins:List (Addr×Obj)} {σ:St} {H:Hp} {s:Shared} {E:Value→Shared→Prop}
theorem Inv.wish (I:Inv X pins σ H s) (E:Value→Shared→Prop):Inv (X.wish E) pins σ H s:=⟨I.ok.wish E,I.os,I.bare,I.base,I.loc,I.cell,I.free,I.freeC,I.pin,I.hok,I.len⟩
theorem Inv.unwish (I:Inv (X.wish E) pins σ H s):Inv X pins σ H s:=⟨I.ok.unwish,I.os,I.bare,I.base,I.loc,I.cell,I.free,I.freeC,I.pin,I.hok,I.len⟩
theorem SP.unwish {D:kq} {f:Flow} {s':Shared} (h:SP (X.wish E) pins D f s'):SP X pins D f s':=by
 cases f with
 | next=>obtain ⟨σ',H',I,q⟩:=h; exact ⟨σ',H',I.unwish,q⟩
 | brk=>obtain ⟨σ',H',I,q⟩:=h; exact ⟨σ',H',I.unwish,q⟩
 | cont=>obtain ⟨σ',H',I,q⟩:=h; exact ⟨σ',H',I.unwish,q⟩
 | ret u=>obtain ⟨v,σ',H',I,r,q⟩:=h; exact ⟨v,σ',H',I.unwish,r,q⟩
theorem PSs.nox {st:List Stmt} {t:TS} (h:PSs X.nox st t):PSs X st t:=fun pins s σ H D I hw =>
 wpAny_mono (h pins s σ H D (I.wish _) hw) (fun _ _ q=>q.unwish) fun _ _ z=>False.elim z
end
def wC:Expr→Bool
 | .Starred _ _=>true
 | _=>false
theorem ab {e:Expr} {es:List Expr} {env:Env} (h:wC e=false):starEach (e::es) env=(false,eval e env)::starEach es env:=by
 cases e<;>first | rfl | cases h
theorem jI {env:Env}:∀ {es:List Expr},es.all (fun e=>!wC e)=true→starEach es env=es.map fun e=>(false,eval e env)
 | [],_=>rfl
 | e::es,h=>by
  rw [List.all_cons,Bool.and_eq_true] at h
  rw [ab (by simpa using h.1),jI h.2]
  rfl
theorem am {es:List Expr} {env:Env} {pos:Pos} (h:es.all (fun e=>!wC e)=true):(backTo pos (starEach es env)).any (·.1)=false:=by
 rw [jI h]
 unfold backTo
 rw [List.map_map,List.any_map,List.any_eq_false]
 intro x _
 simp
theorem cm {e:Expr} {es:List Expr} {env:Env} {cpos:Pos} (h:(e::es).all (fun e=>!wC e)=true) (h2:decide ((e::es).length<29)=true):((backTo cpos (starEach (e::es) env)).all (fun x=>!x.1)&&(backToKw cpos (keywordEach [] env)).all (fun x=>x.1.isSome)
 &&decide ((e::es).length+([]:List Keyword).length+(if ([]:List Keyword).isEmpty then 0 else 1)<30))=true:=by
 rw [jI h]
 have e1:(backTo cpos ((e::es).map fun e=>(false,eval e env))).all (fun x=>!x.1)=true:=by
  unfold backTo
  rw [List.map_map,List.all_map,List.all_eq_true]
  intro x _
  simp
 have e2:(backToKw cpos (keywordEach [] env)).all (fun x=>x.1.isSome)=true:=rfl
 have e3:=of_decide_eq_true h2
 rw [e1,e2]
 simp at e3 ⊢
 omega
def xW:Expr→Bool
 | .ListComp _ _ _ _ | .SetComp _ _ _ _ | .DictComp _ _ _ _ _=>false
 | _=>true
theorem aj {e:Expr} {t:Option Expr} {l:Nat} {env:Env} (h:xW e=true):swapsWith e t l env=pure false:=by
 cases e<;>first | rfl | cases h
section
variable {X:Cx} {st:Stmt} {rest:List Stmt} {t u:TS} {e:Expr} {te:TE} {pos:Pos}
def zz:TS:=fun D σ H=>D.nx σ H
def iS (t u:TS):TS:=fun D σ H=>t { D with nx:=u D } σ H
theorem aM:PSs X [] zz:=fun _ _ σ H _ I h=>wpAny_execs_nil ⟨σ,H,I,h⟩
theorem ah (h1:PS X st t) (h2:PSs X rest u):PSs X (st::rest) (iS t u):=by
 intro pins s σ H D I h
 refine wpAny_execs_cons (thn (h1 pins s σ H { D with nx:=u D } I h) fun f s1 q=>?_)
 cases f with
 | next =>
  obtain ⟨σ',H',I',q⟩:=q
  exact h2 pins s1 σ' H' D I' q
 | ret v=>exact q
 | brk=>exact q
 | cont=>exact q
theorem ap (h1:PS X st t):PSs X [st] t:=by
 intro pins s σ H D I h
 refine wpAny_execs_cons (thn (h1 pins s σ H D I h) fun f s1 q=>?_)
 cases f with
 | next=>exact wpAny_execs_nil q
 | ret v=>exact q
 | brk=>exact q
 | cont=>exact q
theorem Inv.quiet {pins:List (Addr×Obj)} {σ:St} {H:Hp} {s:Shared} (I:Inv X pins σ H s):interactive X.env=false:=by simp [interactive,I.ok.kind]
def zH (te:TE):TS:=fun D σ H=>te σ H fun _ H1=>D.nx σ H1
theorem bq (he:PE X e te) (hs:swapsWith e none pos.line X.env=pure false:=by first | exact aj rfl | rfl):PS X (.Expr e pos) (zH te):=by
 intro pins s σ H D I h
 exact wpAny_Expr_any (thn (he pins s σ H _ I h) fun v s1 ⟨x,H1,I1,r1,q1⟩=>⟨σ,H1,I1,q1⟩) I.quiet hs
def AI (te:TE):TS:=fun D σ H=>te σ H D.rt
theorem aP (he:PE X e te):PS X (.Return (some e) pos) (AI te):=by
 intro pins s σ H D I h
 exact wpAny_Return_some (thn (he pins s σ H _ I h) fun v s1 ⟨x,H1,I1,r1,q1⟩=>⟨x,σ,H1,I1,r1,q1⟩)
def An (c:TT) (t u:TS):TS:=fun D σ H=>c σ H fun b H1=>if b=true then t D σ H1 else u D σ H1
theorem aZ {c:Expr} {a b:List Stmt} {tc:TT} (hc:PT X c tc) (ha:PSs X a t) (hb:PSs X b u):PS X (.If c a b pos) (An tc t u):=by
 intro pins s σ H D I h
 refine wpAny_If (thn (hc pins s σ H _ I h) fun d s1 ⟨H1,I1,q1⟩=>?_)
 cases d with
 | true=>exact ha pins s1 σ H1 D I1 q1
 | false=>exact hb pins s1 σ H1 D I1 q1
def xA:TS:=fun _ _ _=>False
theorem aW {sts:List Stmt}:PSs X sts xA:=fun _ _ _ _ _ _ h=>h.elim
end
abbrev TG:=V→St→Hp→(St→Hp→Prop)→Prop
abbrev TGs:=List V→St→Hp→(St→Hp→Prop)→Prop
def PG (X:Cx) (target:Expr) (t:TG):Prop :=
 ∀ (pins:List (Addr×Obj)) (s:Shared) (σ:St) (H:Hp) (v:V) (u:Value) (Q:St→Hp→Prop),Inv X pins σ H s→aJ v u→t v σ H Q →
  wpAny (model X.prog X.w) X.A (assign target X.env u) (fun _ s'=>∃ σ' H',Inv X pins σ' H' s'∧Q σ' H') X.xe s
def PGs (X:Cx) (ts:List Expr) (t:TGs):Prop :=
 ∀ (pins:List (Addr×Obj)) (s:Shared) (σ:St) (H:Hp) (vs:List V) (us:List Value) (Q:St→Hp→Prop),Inv X pins σ H s→aD vs us→t vs σ H Q →
  wpAny (model X.prog X.w) X.A (assignInOrder ((assignEach ts X.env).map (·.2)) us) (fun _ s'=>∃ σ' H',Inv X pins σ' H' s'∧Q σ' H') X.xe s
abbrev yv:=V→V→V→Hp→(Hp→Prop)→Prop
def zk (X:Cx) (t:yv):Prop :=
 ∀ (pins:List (Addr×Obj)) (s:Shared) (σ:St) (H:Hp) (o i v:V) (ov iv u:Value) (Q:Hp→Prop),Inv X pins σ H s→aJ o ov→aJ i iv→aJ v u→t o i v H Q →
  wpAny (model X.prog X.w) X.A (setItem ov iv u) (fun _ s'=>∃ H',Inv X pins σ H' s'∧Q H') X.xe s
abbrev TIp:=V→V→Hp→VK→Prop
def PIp (X:Cx) (op:Operator) (t:TIp):Prop :=
 ∀ (pins:List (Addr×Obj)) (s:Shared) (σ:St) (H:Hp) (x y:V) (v u:Value) (Q:VK),Inv X pins σ H s→aJ x v→aJ y u→t x y H Q →
  wpAny (model X.prog X.w) X.A (inplaceOp op v u) (EP X pins σ Q) X.xe s
section
variable {X:Cx} {pos:Pos}
def uM (i:Nat):TG:=fun v σ H Q=>Q (σ.set i (some v)) H
theorem bC {i:Nat} {x:Str} (hN:X.N.Nodup) (hi:X.N[i]?=some x) (hx:Loc X.env.scope x) (hf:X.fn x=true∨X.env.scope.names.lookup x=some .local:=by first | exact .inl rfl | exact .inr rfl | assumption):PG X (.Name x pos) (uM i):=by
 intro pins s σ H v u Q I r h
 exact wpAny_assign_Name (cJ I hN hi hx r (fun s' I'=>⟨_,H,I',h⟩) hf)
def AF:TGs:=fun vs σ H Q=>vs=[]∧Q σ H
def zG (t:TG) (u:TGs):TGs:=fun vs σ H Q=>∃ v r,vs=v::r∧t v σ H fun σ' H'=>u r σ' H' Q
theorem wD:PGs X [] AF:=by
 intro pins s σ H vs us Q I r h
 obtain ⟨e,h⟩:=h
 subst e
 cases r
 exact assignInOrder_nil ⟨σ,H,I,h⟩
theorem nT {e:Expr} {es:List Expr} {t:TG} {u:TGs} (h1:PG X e t) (h2:PGs X es u)
  (hs:(assignEach (e::es) X.env).map (·.2)=assign e X.env::(assignEach es X.env).map (·.2):=by rfl):PGs X (e::es) (zG t u):=by
 intro pins s σ H vs us Q I r h
 obtain ⟨v,vr,e1,h⟩:=h
 subst e1
 cases r with
 | cons r rr =>
  rw [hs]
  refine assignInOrder_cons (thn (h1 pins s σ H _ _ _ I r h) fun _ s1 ⟨σ1,H1,I1,q1⟩=>?_)
  exact h2 pins s1 σ1 H1 _ _ Q I1 rr q1
def AG (K:Frag) (n:Nat) (t:TGs):TG:=fun v σ H Q=>∃ a xs,v=.ref a∧SqT K H a xs∧xs.length=n∧t xs σ H Q
theorem xV {es:List Expr} {k:Nat} {t:TGs} {n:Nat} (hc:X.calm=true) (h:PGs X es t)
  (hn:(assignEach es X.env).length=n:=by rfl) (hst:(assignEach es X.env).findIdx? (·.1)=none:=by rfl):PG X (.Tuple es k pos) (AG X.K n t):=by
 intro pins s σ H v u Q I r hw
 obtain ⟨a,xs,e1,hq,hl,hw⟩:=hw
 subst e1
 cases r
 obtain ⟨its,rv,ht,hz⟩:=I.tuple hq
 refine assign_Tuple_tuple (I.ok.hd hc) ht (by simp [hn,← hl,rv.length]) hst fun h' hx=>?_
 have I1:Inv X pins σ H { s with heap:=h' }:=I.kept (t':=s.toks) fun b o e=>hx b o (Nat.ne_of_lt (Heap.lt_size e)) e
 exact h pins _ σ H xs _ Q I1 (by simpa using rv) hw
def AB (to ti:TE) (t:yv):TG:=fun v σ H Q=>to σ H fun o H1=>ti σ H1 fun i H2=>t o i v H2 fun H3=>Q σ H3
theorem nj {o i:Expr} {to ti:TE} {t:yv} (ho:PE X o to) (hi:PE X i ti) (hs:zk X t)
  (ha:∀ v,assign (.Subscript o i pos) X.env v=(do
   let ov ← holding [v] (eval o X.env)
   let iv ← holding [v,ov] (eval i X.env)
   standAt pos
   holding [v,ov,iv] (setItem ov iv v)
   release [v,ov,iv] []):=by intro _; rfl):PG X (.Subscript o i pos) (AB to ti t):=by
 intro pins s σ H v u Q I r h
 rw [ha]
 refine wpAny_bind (wpAny_holding (thn (ho pins s σ H _ I h) fun ov s1 ⟨x,H1,I1,r1,q1⟩=>?_))
 refine wpAny_bind (wpAny_holding (thn (hi pins s1 σ H1 _ I1 q1) fun iv s2 ⟨y,H2,I2,r2,q2⟩=>?_))
 refine wpAny_bind (wpAny_standAt (wpAny_bind (wpAny_holding (thn (hs pins s2 σ H2 x y v ov iv u _ I2 r1 r2 r q2) fun _ s3 ⟨H3,I3,q3⟩=>?_))))
 exact wpAny_release ⟨σ,H3,I3,q3⟩
def xX (te:TE) (g:TG):TS:=fun D σ H=>te σ H fun x H1=>g x σ H1 D.nx
theorem mt {tg e:Expr} {te:TE} {g:TG} (he:PE X e te) (hg:PG X tg g) (hs:swapsWithSole [tg] e pos.line X.env=pure false:=by rfl) (hw:swappedStores [tg] e X.env=pure none:=by rfl)
  (h1:(assignEach [tg] X.env).map (·.2)=[assign tg X.env]:=by rfl):PS X (.Assign [tg] e pos) (xX te g):=by
 intro pins s σ H D I h
 refine wpAny_Assign_stores (thn (he pins s σ H _ I h) fun v s1 ⟨x,H1,I1,r1,q1⟩=>?_) hs hw
 rw [h1]
 exact thn (hg pins s1 σ H1 x v _ I1 r1 q1) fun _ s2 q=>q
theorem aA {i:Nat} {x:Str} {e:Expr} {te:TE} {pos':Pos} (hN:X.N.Nodup) (hi:X.N[i]?=some x) (hx:Loc X.env.scope x) (he:PE X e te) (hs:swapsWith e (some (.Name x pos')) pos.line X.env=pure false:=by first | exact aj rfl | rfl) (hf:X.fn x=true∨X.env.scope.names.lookup x=some .local:=by first | exact .inl rfl | exact .inr rfl | assumption) :
  PS X (.Assign [.Name x pos'] e pos) (xX te (uM i)):=by
 intro pins s σ H D I h
 refine wpAny_Assign_Name (thn (he pins s σ H _ I h) fun v s1 ⟨y,H1,I1,r1,q1⟩=>?_) hs
 exact cJ I1 hN hi hx r1 (fun s2 I2=>⟨_,H1,I2,q1⟩) hf
def Av (i j:Nat) (ta:TA):TS:=fun D σ H=>ta σ H fun vs H1=>∃ v w,vs=[v,w]∧D.nx ((σ.set i (some v)).set j (some w)) H1
theorem yg {i j:Nat} {x y:Str} {a b:Expr} {ta:TA} {px py pt:Pos} {kt k2 pt2} (hc:X.calm=true) (hN:X.N.Nodup) (hi:X.N[i]?=some x) (hj:X.N[j]?=some y) (hij:i≠j)
  (hx:X.env.scope.names.lookup x=some .local) (hy:X.env.scope.names.lookup y=some .local) (ha:PA X [a,b] ta)
  (hw:swappedStores [.Tuple [.Name x px,.Name y py] kt pt] (.Tuple [a,b] k2 pt2) X.env=pure (some [x,y]))
  (hs:swapsWithSole [.Tuple [.Name x px,.Name y py] kt pt] (.Tuple [a,b] k2 pt2) pos.line X.env=pure false:=by rfl) :
  PS X (.Assign [.Tuple [.Name x px,.Name y py] kt pt] (.Tuple [a,b] k2 pt2) pos) (Av i j ta):=by
 intro pins s σ H D I h
 rw [exec_Assign_arm]
 refine wpAny_bind (wpAny_standAt ?_)
 rw [hs]
 refine wpAny_bind (wpAny_pure ?_)
 rw [if_neg (by decide)]
 refine wpAny_bind (Tuple_ (thn (ha _ pins s σ H _ I h) fun us s1 ⟨vs,H1,I1,r1,q1⟩=>?_))
 obtain ⟨v,w,e1,q1⟩:=q1
 subst e1
 obtain ⟨u1,u2,rfl,rv,rw'⟩:∃ u1 u2,us=[u1,u2]∧aJ v u1∧aJ w u2:=by
  cases r1 with
  | cons p q =>
   cases q with
   | cons p' q' =>
    cases q'
    exact ⟨_,_,rfl,p,p'⟩
 refine wpAny_newObj_type ?_ (by show 2≤sizeLine; decide)
 have I2:Inv X pins σ H1 { s1 with heap:=s1.heap.push { cls:=.type "tuple",data:=.seq [u1,u2].toArray } }:=I1.kept (t':=s1.toks) fun b o e=>Heap.get?_push_of_some _ e
 rw [hw]
 refine wpAny_bind (wpAny_pure ?_)
 show wpAny (model X.prog X.w) X.A (do rule "assign.swapped-stores"; let items ← unpackItems (.ref s1.heap.objs.size) 2 none; assignInOrder [fun v=>bindName X.env y v,fun v=>bindName X.env x v] items.reverse; pure Flow.next) _ _ _
 refine wpAny_bind (wpAny_rule (wpAny_bind (unpackItems_tuple (items:=#[u1,u2]) (I.ok.hd hc) (IsTup.new s1.heap _) fun h' hx'=>?_)))
 have I3:=I2.kept (h':=h') (t':=s1.toks) fun b o e=>hx' b o (Nat.ne_of_lt (Heap.lt_size e)) e
 show wpAny _ _ (assignInOrder [fun v=>bindName X.env y v,fun v=>bindName X.env x v] [u2,u1] >>= fun _=>pure Flow.next) _ _ _
 refine wpAny_bind (assignInOrder_cons (wpAny_bindName (cJ I3 hN hj (.inl hy) rw' (fun s2 I4=>?_) (.inr hy))))
 refine assignInOrder_cons (wpAny_bindName (cJ I4 hN hi (.inl hx) rv (fun s3 I5=>assignInOrder_nil (wpAny_pure ?_)) (.inr hx)))
 rw [List.set_comm _ _ (Ne.symm hij)] at I5
 exact ⟨_,H1,I5,q1⟩
def AM (i:Nat) (te:TE) (ti:TIp):TS:=fun D σ H=>∃ x,σ[i]?=some (some x)∧te σ H fun y H1=>ti x y H1 fun z H2=>D.nx (σ.set i (some z)) H2
theorem tm {i:Nat} {x:Str} {e:Expr} {te:TE} {op:Operator} {ti:TIp} {pos':Pos} (hN:X.N.Nodup) (hi:X.N[i]?=some x) (hx:Loc X.env.scope x) (he:PE X e te) (ho:PIp X op ti) (hf:X.fn x=true∨X.env.scope.names.lookup x=some .local:=by first | exact .inl rfl | exact .inr rfl | assumption) :
  PS X (.AugAssign (.Name x pos') op e pos) (AM i te ti):=by
 intro pins s σ H D I h
 obtain ⟨v,e1,h⟩:=h
 obtain ⟨m,hn,hl⟩:=I.loc
 have vis:Vis X.env.scope x:=by rcases hx with k | k; exact .inl k; exact .inr (.inl k)
 obtain ⟨u,r,l⟩:=hl i x v hi e1 vis
 refine wpAny_AugAssign_Name ?_
 have go:wpAny (model X.prog X.w) X.A (eval e X.env) (fun w s₂=>wpAny (model X.prog X.w) X.A (inplaceOp op u w) (fun r s₃=>wpAny (model X.prog X.w) X.A (storeName X.env x r) (fun _=>SP X pins D .next) X.xe s₃) X.xe s₂) X.xe s:=by
  refine thn (he pins s σ H _ I h) fun w s1 ⟨y,H1,I1,r1,q1⟩=>?_
  refine thn (ho pins s1 σ H1 v y u w _ I1 r r1 q1) fun z s2 ⟨zv,H2,I2,r2,q2⟩=>?_
  exact cJ I2 hN hi hx r2 (fun s3 I3=>⟨_,H2,I3,q2⟩) hf
 rcases l with ⟨hk,hm⟩ | ⟨hk,c,hc,hcell⟩
 ·exact wpAny_loadName_local I.ok.kind hk hn hm go
 ·rcases hk with hk | hk
  ·exact wpAny_loadName_cell I.ok.kind hk hc hcell go
  ·rcases hx with k | k
   ·have:X.env.scope.names.lookup x=some .free:=hk
    rw [k] at this; cases this
   ·have:X.env.scope.names.lookup x=some .free:=hk
    rw [k] at this; cases this
def ipI (f:Int→Int→Int):TIp:=fun x y H Q=>∃ i j,x=.int i∧y=.int j∧Q (.int (f i j)) H
theorem vc:PIp X .Add (ipI fun i j=>i+j):=by
 intro pins s σ H x y v u Q I r1 r2 h
 obtain ⟨i,j,e1,e2,q⟩:=h
 subst e1; subst e2
 obtain ⟨t,rfl⟩:=r1
 obtain ⟨t',rfl⟩:=r2
 exact iadd_int ⟨.int _,H,I.tok _,⟨_,rfl⟩,q⟩
def xu (c:TT) (tb:TS):TS:=fun D σ H=>∃ W:Nat→St→Hp→Prop,(∃ m,W m σ H)∧∀ m σ H,W m σ H →
 c σ H fun b H1=>if b=true then ∃ N:St→Hp→Prop,(∀ σ' H',N σ' H'→∃ m',m'<m∧W m' σ' H')∧tb { D with nx:=N,ct:=N,bk:=D.nx } σ H1 else D.nx σ H1
theorem nK {c:Expr} {body:List Stmt} {tc:TT} {tb:TS} (hp:PassesOwn (model X.prog X.w) X.A X.env X.xe) (hc:PT X c tc) (hb:PSs X body tb):PS X (.While c body [] pos) (xu tc tb):=by
 intro pins s σ H D I h
 obtain ⟨W,⟨m0,w0⟩,turn⟩:=h
 refine wpAny_While (codeAny_whileLoop (fun n s'=>∃ σ' H',Inv X pins σ' H' s'∧W n σ' H') ?_ m0 ⟨σ,H,I,w0⟩)
 rintro n s1 ⟨σ1,H1,I1,w1⟩
 refine wpAny_passesOwn hp (thn (hc pins s1 σ1 H1 _ I1 (turn n σ1 H1 w1)) fun b s2 ⟨H2,I2,q2⟩=>?_)
 cases b with
 | true =>
  obtain ⟨N,hN,q2⟩:=q2
  rw [if_pos rfl]
  refine wpAny_passesOwn hp (thn (hb pins s2 σ1 H2 _ I2 q2) fun f s3 q3=>?_)
  cases f with
  | next =>
   obtain ⟨σ3,H3,I3,n3⟩:=q3
   obtain ⟨m',hm,w3⟩:=hN σ3 H3 n3
   exact ⟨m',hm,σ3,H3,I3,w3⟩
  | cont =>
   obtain ⟨σ3,H3,I3,n3⟩:=q3
   obtain ⟨m',hm,w3⟩:=hN σ3 H3 n3
   exact ⟨m',hm,σ3,H3,I3,w3⟩
  | brk=>exact q3
  | ret v=>exact q3
 | false =>
  rw [if_neg Bool.false_ne_true]
  exact wpAny_execs_nil ⟨σ1,H2,I2,q2⟩
end
structure It where
 go:Nat→Hp→Prop
 yld:Nat→Hp→V→Hp→Prop
 stop:Nat→Hp→Prop
def eR (X:Cx) (pins:List (Addr×Obj)) (H:Hp) (b:Addr):Prop :=
 H b=none∧b≠X.env.locals∧b∉X.fs∧(b∈X.ex∨X.s₀.heap.objs.size≤b)∧(∀ x c,X.env.cells.lookup x=some c→c≠b)∧∀ p∈X.pn++pins,p.1≠b
theorem Inv.fpOk {X:Cx} {pins:List (Addr×Obj)} {σ:St} {H H':Hp} {s:Shared} {b:Addr} (I:Inv X pins σ H s) (hb:s.heap.objs.size≤b) (hn:H' b=none):eR X pins H' b:=by
 refine ⟨hn,Nat.ne_of_gt (Nat.lt_of_lt_of_le I.lt hb),I.nofs hb,.inr (Nat.le_trans I.sz hb),fun x c e z=>?_,fun p hp z=>?_⟩
 ·obtain ⟨v,q⟩:=I.cell x c e
  exact absurd (Nat.lt_of_lt_of_le q.lt (by rw [z]; exact hb)) (Nat.lt_irrefl _)
 ·exact absurd (Nat.lt_of_lt_of_le (Heap.lt_size (I.pin p hp).1) (by rw [z]; exact hb)) (Nat.lt_irrefl _)
structure oJ (P:Program) (w:World) (K:Frag) (tg:Expr) (J:It) (fp:List Addr) (it:Addr) (tn:Nat→Heap→Prop):Prop where
 mem:it∈fp
 obj:∀ i h,tn i h→∀ b∈fp,∃ o,h.get? b=some o∧∀ v,o.data≠.cell v
 keep:∀ i h h',tn i h→(∀ b∈fp,∀ o,h.get? b=some o→h'.get? b=some o)→tn i h'
 item:∀ (X:Cx),X.prog=P→X.w=w→X.K=K→X.calm=true→∀ (i:Nat) (pins:List (Addr×Obj)) (s:Shared) (σ:St) (H:Hp) (E:Value→Shared→Prop),Inv X pins σ H s→(∀ b∈fp,eR X pins H b)→tn i s.heap→J.go i H →
  wpAny (model P w) X.A (pyNext (.ref it)) (fun r s1=>∃ u,r=some u ∧
   wpAny (model P w) X.A (letOwnedTupleGo tg (.ref it) u) (fun _ s2=>∃ x H',Inv X pins σ H' s2∧aJ x u∧J.yld i H x H'∧tn (i+1) s2.heap∧∀ b∈fp,H' b=none) E s1) E s
 done:∀ (X:Cx),X.prog=P→X.w=w→X.K=K→X.calm=true→∀ (i:Nat) (pins:List (Addr×Obj)) (s:Shared) (σ:St) (H:Hp) (E:Value→Shared→Prop),Inv X pins σ H s→(∀ b∈fp,eR X pins H b)→tn i s.heap→J.stop i H →
  wpAny (model P w) X.A (pyNext (.ref it)) (fun r s1=>r=none∧Inv X pins σ H s1) E s
 self:∀ (A:Around) (i:Nat) (s:Shared) (Q:Value→Shared→Prop) (E:Value→Shared→Prop),tn i s.heap→Q (.ref it) s→wpAny (model P w) A (pyIter (.ref it)) Q E s
abbrev TI:=St→Hp→(It→Hp→Prop)→Prop
def PIE (X:Cx) (pins:List (Addr×Obj)) (σ:St) (tg:Expr) (R:It→Hp→Prop) (itv:Value) (s2:Shared):Prop :=
 ∃ (it:Addr) (fp:List Addr) (tn:Nat→Heap→Prop) (J:It) (H':Hp),itv=.ref it∧Inv X pins σ H' s2∧oJ X.prog X.w X.K tg J fp it tn∧tn 0 s2.heap∧(∀ b∈fp,eR X pins H' b)∧R J H'
def PI (X:Cx) (tg iter:Expr) (wi:TI):Prop :=
 ∀ (pins:List (Addr×Obj)) (s:Shared) (σ:St) (H:Hp) (R:It→Hp→Prop),Inv X pins σ H s→wi σ H R →
  wpAny (model X.prog X.w) X.A (eval iter X.env) (fun v s1=>wpAny (model X.prog X.w) X.A (pyIter v) (PIE X pins σ tg R) X.xe s1) X.xe s
theorem rq {M:Model} {A:Around} {E:Value→Shared→Prop} {s:Shared} {tg:Expr} {it:Addr} {u:Value} {o:Obj} {n:String} {vs:Array Value} {Q:Unit→Shared→Prop} (ho:s.heap.get? it=some o) (hc:o.cls=.type n) (hd:o.data=.fields vs)
  (hn:["enumerate", "zip", "dict_itemiterator", "dict_reverseitemiterator", "odict_iterator", "itertools.zip_longest", "itertools.pairwise"].contains n=false) (hQ:Q () s):wpAny M A (letOwnedTupleGo tg (.ref it) u) Q E s:=by
 unfold letOwnedTupleGo
 cases tg<;>first
  | exact wpAny_pure hQ
  | (cases u<;>first
    | exact wpAny_pure hQ
    | (refine wpAny_bind (wpAny_load ho ?_)
       rw [hc,hd]
       show wpAny M A (if (["enumerate", "zip", "dict_itemiterator", "dict_reverseitemiterator", "odict_iterator", "itertools.zip_longest", "itertools.pairwise"].contains n&&vs[0]?==some (rawInt _))=true then _ else _) Q E s
       rw [if_neg (by intro h; rw [hn,Bool.false_and] at h; cases h)]
       exact wpAny_pure hQ))
def Itl (K:Frag) (a:Addr):It :=
 ⟨fun i H=>∃ xs x,SqL K H a xs∧xs[i]?=some x,fun i H x H'=>H'=H∧∀ xs,SqL K H a xs→xs[i]?=some x,fun i H=>∃ xs,SqL K H a xs∧xs.length≤i⟩
def Itt (K:Frag) (a:Addr):It :=
 ⟨fun i H=>∃ xs x,SqT K H a xs∧xs[i]?=some x,fun i H x H'=>H'=H∧∀ xs,SqT K H a xs→xs[i]?=some x,fun i H=>∃ xs,SqT K H a xs∧xs.length≤i⟩
def Itr (lo:Int) (n:Nat):It:=⟨fun i _=>i<n,fun i H x H'=>H'=H∧x=.int (lo+i),fun i _=>n≤i⟩
theorem sU {P:Program} {w:World} {K:Frag} {tg:Expr} (a it:Addr):oJ P w K tg (Itl K a) [it] it (fun i h=>h.IsListIter it a i) where
 mem:=by simp
 obj:=fun i h st b hb=>by
  have e:b=it:=by simpa using hb
  subst e
  obtain ⟨o,e,c,d⟩:=st
  exact ⟨o,e,fun v z=>by rw [d] at z; cases z⟩
 keep:=fun i h h' st k=>st.at fun o e=>k it (by simp) o e
 item:=by
  intro X hP hw hK hc i pins s σ H E I hf st hg
  subst hP hw hK
  obtain ⟨xs,x,hq,hx⟩:=hg
  obtain ⟨its,rv,p,hz⟩:=I.list hq
  obtain ⟨u,hu,ru⟩:=rv.get hx
  obtain ⟨f0,f1,f2,f3,f4,f5⟩:=hf it (by simp)
  refine wpAny_pyNext_list_item st p.isList (x:=u) (by simpa using hu) fun h' st' sb=>?_
  have I1:Inv X pins σ H { s with heap:=h' }:=I.turned (t':=s.toks) (fun b o hb e=>(sb.2 b hb).trans e) f0 f1 f3 f4 f5
  obtain ⟨o,e,c,d⟩:=id st'
  exact ⟨u,rfl,rq (s:={ s with heap:=h' }) e c d (by decide) ⟨x,H,I1,ru,⟨rfl,fun ys hy=>by rw [I.list_inj hy hq]; exact hx⟩,st',fun b hb=>(hf b hb).1⟩⟩
 done:=by
  intro X hP hw hK hc i pins s σ H E I hf st hg
  subst hP hw hK
  obtain ⟨xs,hq,hx⟩:=hg
  obtain ⟨its,rv,p,hz⟩:=I.list hq
  obtain ⟨f0,f1,f2,f3,f4,f5⟩:=hf it (by simp)
  have hl:=rv.length
  exact wpAny_pyNext_list_end (I.ok.hd hc) st p.isList (by simp; omega) fun h' eb=>⟨rfl,I.turned (t':=s.toks) (fun b o hb e=>eb b o hb e) f0 f1 f3 f4 f5⟩
 self:=fun _ _ _ _ _ st h=>wpAny_pyIter_listiter st h
theorem pb {P:Program} {w:World} {K:Frag} {tg:Expr} (a it:Addr):oJ P w K tg (Itt K a) [it] it (fun i h=>h.IsTupleIter it a i) where
 mem:=by simp
 obj:=fun i h st b hb=>by
  have e:b=it:=by simpa using hb
  subst e
  obtain ⟨o,e,c,d⟩:=st
  exact ⟨o,e,fun v z=>by rw [d] at z; cases z⟩
 keep:=fun i h h' st k=>st.at fun o e=>k it (by simp) o e
 item:=by
  intro X hP hw hK hc i pins s σ H E I hf st hg
  subst hP hw hK
  obtain ⟨xs,x,hq,hx⟩:=hg
  obtain ⟨its,rv,p,hz⟩:=I.tuple hq
  obtain ⟨u,hu,ru⟩:=rv.get hx
  obtain ⟨f0,f1,f2,f3,f4,f5⟩:=hf it (by simp)
  refine wpAny_pyNext_tuple_item st (show s.heap.IsTuple a its.toArray from p) (x:=u) (by simpa using hu) fun h' st' sb=>?_
  have I1:Inv X pins σ H { s with heap:=h' }:=I.turned (t':=s.toks) (fun b o hb e=>(sb.2 b hb).trans e) f0 f1 f3 f4 f5
  obtain ⟨o,e,c,d⟩:=id st'
  exact ⟨u,rfl,rq (s:={ s with heap:=h' }) e c d (by decide) ⟨x,H,I1,ru,⟨rfl,fun ys hy=>by rw [I.tuple_inj hy hq]; exact hx⟩,st',fun b hb=>(hf b hb).1⟩⟩
 done:=by
  intro X hP hw hK hc i pins s σ H E I hf st hg
  subst hP hw hK
  obtain ⟨xs,hq,hx⟩:=hg
  obtain ⟨its,rv,p,hz⟩:=I.tuple hq
  obtain ⟨f0,f1,f2,f3,f4,f5⟩:=hf it (by simp)
  have hl:=rv.length
  exact wpAny_pyNext_tuple_end (I.ok.hd hc) st (show s.heap.IsTuple a its.toArray from p) (by simp; omega) fun h' eb=>⟨rfl,I.turned (t':=s.toks) (fun b o hb e=>eb b o hb e) f0 f1 f3 f4 f5⟩
 self:=fun _ _ _ _ _ st h=>wpAny_pyIter_tupleiter st h
theorem oY {P:Program} {w:World} {K:Frag} {tg:Expr} (it:Addr) (lo:Int) (n:Nat):oJ P w K tg (Itr lo n) [it] it (fun i h=>IsRangeIter h it (lo+(i:Nat)*1) ((n:Int) - (i:Nat)) 1) where
 mem:=by simp
 obj:=fun i h st b hb=>by
  have e:b=it:=by simpa using hb
  subst e
  exact ⟨_,st,fun v z=>by
   have z':Data.fields _=Data.cell v:=z
   cases z'⟩
 keep:=fun i h h' st k=>k it (by simp) _ st
 item:=by
  intro X hP hw hK hc i pins s σ H E I hf st hg
  subst hP hw hK
  obtain ⟨f0,f1,f2,f3,f4,f5⟩:=hf it (by simp)
  have W:=Walks.range (prog:=X.prog) (w:=X.w) (I.ok.hd hc) it lo 1 n
  refine W.item i s _ _ hg st fun v h' tk hv st' kk=>?_
  obtain ⟨t,rfl⟩:=hv
  have I1:Inv X pins σ H { s with heap:=h',toks:=tk }:=I.turned (fun b o hb e=>kk b o (by simpa using hb) e) f0 f1 f3 f4 f5
  refine ⟨_,rfl,rq (s:={ s with heap:=h',toks:=tk }) (n := "range_iterator") st' rfl rfl (by decide) ⟨.int (lo+i),H,I1,⟨t,?_⟩,⟨rfl,rfl⟩,st',fun b hb=>(hf b hb).1⟩⟩
  rw [Int.mul_one]
 done:=by
  intro X hP hw hK hc i pins s σ H E I hf st hg
  subst hP hw hK
  obtain ⟨f0,f1,f2,f3,f4,f5⟩:=hf it (by simp)
  exact wpAny_pyNext_range_end (I.ok.hd hc) st (by have:n≤i:=hg; omega) fun h' eb=>⟨rfl,I.turned (t':=s.toks) (fun b o hb e=>eb b o hb e) f0 f1 f3 f4 f5⟩
 self:=fun _ _ _ _ _ st h=>wpAny_pyIter_rangeiter st h
open PySem PySem.Spec PyProof.Rows
section
variable {X:Cx} {tg:Expr}
def yF (K:Frag) (tl:TE):TI:=fun σ H R=>tl σ H fun x H1=>∃ a,x=.ref a∧(∃ xs,SqL K H1 a xs)∧R (Itl K a) H1
def Ar (K:Frag) (tl:TE):TI:=fun σ H R=>tl σ H fun x H1=>∃ a,x=.ref a∧(∃ xs,SqT K H1 a xs)∧R (Itt K a) H1
theorem eG {l:Expr} {tl:TE} (hl:PE X l tl):PI X tg l (yF X.K tl):=by
 intro pins s σ H R I h
 refine thn (hl pins s σ H _ I h) fun v s1 ⟨x,H1,I1,r1,q1⟩=>?_
 obtain ⟨a,e,⟨xs,hq⟩,q⟩:=q1
 subst e
 cases r1
 obtain ⟨its,rv,p,hz⟩:=I1.list hq
 refine wpAny_pyIter_list p.isList ?_
 refine ⟨s1.heap.objs.size,[s1.heap.objs.size],_,_,H1,rfl,I1.kept (t':=s1.toks) fun b o e=>Heap.get?_push_of_some _ e,sU a _,⟨_,Heap.get?_push_size _ rfl,rfl,rfl⟩,fun b hb=>?_,q⟩
 have e:b=s1.heap.objs.size:=by simpa using hb
 subst e
 exact I1.fpOk (Nat.le_refl _) (I1.hok.fresh (Nat.le_refl _))
theorem ja {l:Expr} {tl:TE} (hl:PE X l tl):PI X tg l (Ar X.K tl):=by
 intro pins s σ H R I h
 refine thn (hl pins s σ H _ I h) fun v s1 ⟨x,H1,I1,r1,q1⟩=>?_
 obtain ⟨a,e,⟨xs,hq⟩,q⟩:=q1
 subst e
 cases r1
 obtain ⟨its,rv,p,hz⟩:=I1.tuple hq
 refine wpAny_pyIter_tuple (show s1.heap.IsTuple a its.toArray from p) ?_
 refine ⟨s1.heap.objs.size,[s1.heap.objs.size],_,_,H1,rfl,I1.kept (t':=s1.toks) fun b o e=>Heap.get?_push_of_some _ e,pb a _,⟨_,Heap.get?_push_size _ rfl,rfl,rfl⟩,fun b hb=>?_,q⟩
 have e:b=s1.heap.objs.size:=by simpa using hb
 subst e
 exact I1.fpOk (Nat.le_refl _) (I1.hok.fresh (Nat.le_refl _))
theorem vx {pins:List (Addr×Obj)} {σ:St} {H:Hp} {s:Shared} {R:It→Hp→Prop} {E:Value→Shared→Prop} {lo hi:Int} {t u v:Tok} {tk:Nat} (I:Inv X pins σ H s) (h1:-(2 ^ 62)≤lo) (h2:lo<2 ^ 62) (h3:-(2 ^ 62)≤hi) (h4:hi<2 ^ 62)
  (q:R (Itr lo (hi - lo).toNat) H):wpAny (model X.prog X.w) X.A (pyIter (.ref s.heap.objs.size)) (PIE X pins σ tg R) E { s with heap:=s.heap.push { cls:=.type "range",data:=.fields #[.int lo t,.int hi u,.int 1 v] },toks:=tk }:=by
 refine wpAny_pyIter_range (IsRange.new ..) (small_one h1 h2 h3 h4) ?_
 have I1:Inv X pins σ H { s with heap:=s.heap.push { cls:=.type "range",data:=.fields #[.int lo t,.int hi u,.int 1 v] },toks:=tk }:=I.kept fun b o e=>Heap.get?_push_of_some _ e
 refine ⟨(s.heap.push { cls:=.type "range",data:=.fields #[.int lo t,.int hi u,.int 1 v] }).objs.size,[(s.heap.push { cls:=.type "range",data:=.fields #[.int lo t,.int hi u,.int 1 v] }).objs.size],_,_,H,rfl,
  I1.kept (t':=tk) fun b o e=>Heap.get?_push_of_some _ e,oY _ lo (hi - lo).toNat,?_,fun b hb=>?_,q⟩
 ·have e1:lo+((0:Nat):Int)*1=lo:=by simp
  have e2:(((hi - lo).toNat:Nat):Int) - ((0:Nat):Int)=Builtin.Range.rangeSize lo hi 1:=by rw [rangeSize_one]; split<;>omega
  show IsRangeIter _ _ (lo+((0:Nat):Int)*1) ((((hi - lo).toNat:Nat):Int) - ((0:Nat):Int)) 1
  rw [e1,e2]
  exact Heap.get?_push_size _ rfl
 ·have e:b=(s.heap.push { cls:=.type "range",data:=.fields #[.int lo t,.int hi u,.int 1 v] }).objs.size:=by simpa using hb
  subst e
  exact I1.fpOk (Nat.le_refl _) (I1.hok.fresh (Nat.le_refl _))
def zA (ta:TA):TI:=fun σ H R=>ta σ H fun vs H1=>∃ j:Int,vs=[.int j]∧-(2 ^ 62)≤j∧j<2 ^ 62∧R (Itr 0 j.toNat) H1
theorem sr {a:Expr} {ta:TA} {p pos:Pos} (hg:Gl X "range") (hm:X.mg "range"=none) (ha:PA X [a] ta) (hs:starEach [a] X.env=[(false,eval a X.env)]:=by rfl):PI X tg (.Call (.Name "range" p) [a] [] pos) (zA ta):=by
 intro pins s σ H R I h
 refine Call_ (eu I hg hm boot_range (PyProof.Rows.callWith_type1 (thn (ha pos pins s σ H _ I h) fun us s1 ⟨vs,H1,I1,r1,q1⟩=>?_) hs rfl))
 obtain ⟨j,e,q1,q2,q⟩:=q1
 subst e
 cases r1 with
 | cons r rr =>
  cases rr
  obtain ⟨t,rfl⟩:=r
  exact call_range_1 (vx I1 (by omega) (by omega) q1 q2 (by simpa using q))
def At (wi:TI) (g:TG) (tb:TS):TS:=fun D σ H=>wi σ H fun J H1=>∃ W:Nat→Nat→St→Hp→Prop,(∃ m,W 0 m σ H1)∧∀ i m σ H,W i m σ H →
 (J.stop i H∧D.nx σ H)∨(J.go i H∧∃ N:St→Hp→Prop,(∀ σ' H',N σ' H'→∃ m',m'<m∧W (i+1) m' σ' H')∧∀ x H',J.yld i H x H'→g x σ H' fun σ2 H2=>tb { D with nx:=N,ct:=N,bk:=D.nx } σ2 H2)
def fi (fp:List Addr) (h:Heap):List (Addr×Obj):=fp.filterMap fun b=>(h.get? b).map fun o=>(b,o)
theorem cn {fp:List Addr} {h:Heap} {b:Addr} {o:Obj} (hb:b∈fp) (e:h.get? b=some o):(b,o)∈fi fp h:=List.mem_filterMap.mpr ⟨b,hb,by rw [e]; rfl⟩
theorem sy {fp:List Addr} {h:Heap} {p:Addr×Obj} (hp:p∈fi fp h):p.1∈fp∧h.get? p.1=some p.2:=by
 obtain ⟨b,hb,e⟩:=List.mem_filterMap.mp hp
 cases q:h.get? b with
 | none=>rw [q] at e; cases e
 | some o =>
  rw [q] at e
  have e':(b,o)=p:=Option.some.inj e
  subst e'
  exact ⟨hb,q⟩
theorem Inv.pinned {pins:List (Addr×Obj)} {σ:St} {H:Hp} {s:Shared} {fp:List Addr} (I:Inv X pins σ H s) (hf:∀ b∈fp,eR X pins H b) (ho:∀ b∈fp,∃ o,s.heap.get? b=some o∧∀ v,o.data≠.cell v):Inv X (pins++fi fp s.heap) σ H s :=
 I.pins_of fun p hp=>(List.mem_append.mp hp).elim (fun z=>I.pin p (List.mem_append_right _ z)) fun z=>by
  obtain ⟨hb,e⟩:=sy z
  obtain ⟨f0,f1,f2,_⟩:=hf p.1 hb
  obtain ⟨o,e',d⟩:=ho p.1 hb
  rw [e] at e'; cases e'
  exact ⟨e,f0,f1,f2,d⟩
theorem Inv.unpinned {pins pl:List (Addr×Obj)} {σ:St} {H:Hp} {s:Shared} (I:Inv X (pins++pl) σ H s):Inv X pins σ H s:=I.pins_of fun p hp=>I.pin p (List.mem_append_right _ (List.mem_append_left _ hp))
theorem cr {iter:Expr} {body:List Stmt} {wi:TI} {g:TG} {tb:TS} {pos:Pos} (hp:PassesOwn (model X.prog X.w) X.A X.env X.xe) (hc:X.calm=true) (hi:PI X tg iter wi) (hg:PG X tg g) (hb:PSs X body tb)
  (hs:∀ x,foldedSetIterable iter X.env x=pure x:=by intro _; rfl):PS X (.For tg iter body [] pos) (At wi g tb):=by
 intro pins s σ H D I h
 refine wpAny_For (thn (hi pins s σ H _ I h) fun v s1 h1=>thn h1 fun itv s2 h2=>?_) hs
 obtain ⟨it,fp,tn,J,H2,e,I2,T,st2,f2,W,⟨m0,w0⟩,turn⟩:=h2
 subst e
 -- what stays true of the iterator's objects through the loop
 have stat:∀ {H':Hp},(∀ b∈fp,H' b=none)→∀ b∈fp,eR X pins H' b:=fun hn b hb=>⟨hn b hb,(f2 b hb).2⟩
 refine codeAny_forLoop_any (fun n s'=>∃ i σ' H',Inv X pins σ' H' s'∧tn i s'.heap∧(∀ b∈fp,H' b=none)∧W i n σ' H') ?_ m0 ⟨0,σ,H2,I2,st2,fun b hb=>(f2 b hb).1,w0⟩
 rintro n s3 ⟨i,σ3,H3,I3,st3,fr3,w3⟩
 rcases turn i n σ3 H3 w3 with ⟨stop,qn⟩ | ⟨go,N,hN,step⟩
 ·refine wpAny_passesOwn hp (thn (T.done X rfl rfl rfl hc i pins s3 σ3 H3 X.xe I3 (stat fr3) st3 stop) fun r s4 ⟨hr,I4⟩=>?_)
  subst hr
  exact wpAny_execs_nil ⟨σ3,H3,I4,qn⟩
 ·refine wpAny_passesOwn hp (thn (T.item X rfl rfl rfl hc i pins s3 σ3 H3 X.xe I3 (stat fr3) st3 go) fun r s4 ⟨u,hr,h4⟩=>?_)
  subst hr
  refine wpAny_passesOwn hp (thn h4 fun _ s5 ⟨x,H5,I5,r5,y5,st5,fr5⟩=>?_)
  have I5':=I5.pinned (stat fr5) (T.obj _ _ st5)
  refine wpAny_passesOwn hp (thn (hg _ s5 σ3 H5 x u _ I5' r5 (step x H5 y5)) fun _ s6 ⟨σ6,H6,I6,q6⟩=>?_)
  refine wpAny_passesOwn hp (thn (hb _ s6 σ6 H6 _ I6 q6) fun f s7 q7=>?_)
  have again:∀ {σ7:St} {H7:Hp},Inv X (pins++fi fp s5.heap) σ7 H7 s7→N σ7 H7→∃ m,m<n∧∃ i σ' H',Inv X pins σ' H' s7∧tn i s7.heap∧(∀ b∈fp,H' b=none)∧W i m σ' H':=fun {σ7 H7} I7 n7=>by
   obtain ⟨m',hm,w7⟩:=hN σ7 H7 n7
   refine ⟨m',hm,i+1,σ7,H7,I7.unpinned,T.keep _ _ _ st5 fun b hb o e=>(I7.pin (b,o) (List.mem_append_right _ (List.mem_append_right _ (cn hb e)))).1,fun b hb=>?_,w7⟩
   obtain ⟨o,e,d⟩:=T.obj _ _ st5 b hb
   exact (I7.pin (b,o) (List.mem_append_right _ (List.mem_append_right _ (cn hb e)))).2.1
  cases f with
  | next=>obtain ⟨σ7,H7,I7,n7⟩:=q7; exact again I7 n7
  | cont=>obtain ⟨σ7,H7,I7,n7⟩:=q7; exact again I7 n7
  | brk=>obtain ⟨σ7,H7,I7,q7⟩:=q7; exact ⟨σ7,H7,I7.unpinned,q7⟩
  | ret v=>obtain ⟨x7,σ7,H7,I7,r7,q7⟩:=q7; exact ⟨x7,σ7,H7,I7.unpinned,r7,q7⟩
end
theorem eL {K:Frag} {a:Addr} {xs:List V} {g:TG} {tb:TS} {D:kq} {σ:St} {H:Hp} (Pv:Nat→St→Hp→Prop) (h0:Pv 0 σ H) (hl:∀ i σ H,i≤xs.length→Pv i σ H→SqL K H a xs)
  (hs:∀ i x σ H,xs[i]?=some x→Pv i σ H→g x σ H fun σ2 H2=>tb { D with nx:=Pv (i+1),ct:=Pv (i+1),bk:=D.nx } σ2 H2) (hd:∀ σ H,Pv xs.length σ H→D.nx σ H) :
  ∃ W:Nat→Nat→St→Hp→Prop,(∃ m,W 0 m σ H)∧∀ i m σ H,W i m σ H →
   ((Itl K a).stop i H∧D.nx σ H)∨((Itl K a).go i H∧∃ N:St→Hp→Prop,(∀ σ' H',N σ' H'→∃ m',m'<m∧W (i+1) m' σ' H')∧∀ x H',(Itl K a).yld i H x H'→g x σ H' fun σ2 H2=>tb { D with nx:=N,ct:=N,bk:=D.nx } σ2 H2):=by
 refine ⟨fun i m σ H=>m=xs.length - i∧i≤xs.length∧Pv i σ H,⟨xs.length,by simp,Nat.zero_le _,h0⟩,?_⟩
 rintro i m σ H ⟨rfl,hi,p⟩
 have q:=hl i σ H hi p
 by_cases hlt:i<xs.length
 ·refine .inr ⟨⟨xs,xs[i],q,by simp [hlt]⟩,Pv (i+1),fun σ' H' p'=>⟨xs.length - (i+1),by omega,rfl,hlt,p'⟩,fun x H' y=>?_⟩
  obtain ⟨e,y⟩:=y
  subst e
  exact hs i x σ _ (y xs q) p
 ·have e:i=xs.length:=by omega
  subst e
  exact .inl ⟨⟨xs,q,Nat.le_refl _⟩,hd σ H p⟩
theorem hJ {K:Frag} {a:Addr} {xs:List V} {g:TG} {tb:TS} {D:kq} {σ:St} {H:Hp} (Pv:Nat→St→Hp→Prop) (h0:Pv 0 σ H) (hl:∀ i σ H,i≤xs.length→Pv i σ H→SqT K H a xs)
  (hs:∀ i x σ H,xs[i]?=some x→Pv i σ H→g x σ H fun σ2 H2=>tb { D with nx:=Pv (i+1),ct:=Pv (i+1),bk:=D.nx } σ2 H2) (hd:∀ σ H,Pv xs.length σ H→D.nx σ H) :
  ∃ W:Nat→Nat→St→Hp→Prop,(∃ m,W 0 m σ H)∧∀ i m σ H,W i m σ H →
   ((Itt K a).stop i H∧D.nx σ H)∨((Itt K a).go i H∧∃ N:St→Hp→Prop,(∀ σ' H',N σ' H'→∃ m',m'<m∧W (i+1) m' σ' H')∧∀ x H',(Itt K a).yld i H x H'→g x σ H' fun σ2 H2=>tb { D with nx:=N,ct:=N,bk:=D.nx } σ2 H2):=by
 refine ⟨fun i m σ H=>m=xs.length - i∧i≤xs.length∧Pv i σ H,⟨xs.length,by simp,Nat.zero_le _,h0⟩,?_⟩
 rintro i m σ H ⟨rfl,hi,p⟩
 have q:=hl i σ H hi p
 by_cases hlt:i<xs.length
 ·refine .inr ⟨⟨xs,xs[i],q,by simp [hlt]⟩,Pv (i+1),fun σ' H' p'=>⟨xs.length - (i+1),by omega,rfl,hlt,p'⟩,fun x H' y=>?_⟩
  obtain ⟨e,y⟩:=y
  subst e
  exact hs i x σ _ (y xs q) p
 ·have e:i=xs.length:=by omega
  subst e
  exact .inl ⟨⟨xs,q,Nat.le_refl _⟩,hd σ H p⟩
theorem sS {lo:Int} {n:Nat} {g:TG} {tb:TS} {D:kq} {σ:St} {H:Hp} (Pv:Nat→St→Hp→Prop) (h0:Pv 0 σ H)
  (hs:∀ i σ H,i<n→Pv i σ H→g (.int (lo+i)) σ H fun σ2 H2=>tb { D with nx:=Pv (i+1),ct:=Pv (i+1),bk:=D.nx } σ2 H2) (hd:∀ σ H,Pv n σ H→D.nx σ H) :
  ∃ W:Nat→Nat→St→Hp→Prop,(∃ m,W 0 m σ H)∧∀ i m σ H,W i m σ H →
   ((Itr lo n).stop i H∧D.nx σ H)∨((Itr lo n).go i H∧∃ N:St→Hp→Prop,(∀ σ' H',N σ' H'→∃ m',m'<m∧W (i+1) m' σ' H')∧∀ x H',(Itr lo n).yld i H x H'→g x σ H' fun σ2 H2=>tb { D with nx:=N,ct:=N,bk:=D.nx } σ2 H2):=by
 refine ⟨fun i m σ H=>m=n - i∧i≤n∧Pv i σ H,⟨n,by simp,Nat.zero_le _,h0⟩,?_⟩
 rintro i m σ H ⟨rfl,hi,p⟩
 by_cases hlt:i<n
 ·refine .inr ⟨hlt,Pv (i+1),fun σ' H' p'=>⟨n - (i+1),by omega,rfl,hlt,p'⟩,fun x H' y=>?_⟩
  obtain ⟨e,y⟩:=y
  subst e y
  exact hs i σ _ hlt p
 ·have e:i=n:=by omega
  subst e
  exact .inl ⟨Nat.le_refl _,hd σ H p⟩
open PySem PySem.Spec PyProof.Rows
abbrev R2:=V→V→Hp→VK→Prop
def OpR (X:Cx) (f:Value→Value→Sem Value) (r:R2):Prop :=
 ∀ (pins:List (Addr×Obj)) (s:Shared) (σ:St) (H:Hp) (x y:V) (v u:Value) (Q:VK),Inv X pins σ H s→aJ x v→aJ y u→r x y H Q →
  wpAny (model X.prog X.w) X.A (f v u) (EP X pins σ Q) X.xe s
def UnR (X:Cx) (f:Value→Sem Value) (r:V→Hp→VK→Prop):Prop :=
 ∀ (pins:List (Addr×Obj)) (s:Shared) (σ:St) (H:Hp) (x:V) (v:Value) (Q:VK),Inv X pins σ H s→aJ x v→r x H Q →
  wpAny (model X.prog X.w) X.A (f v) (EP X pins σ Q) X.xe s
def dE (X:Cx) (f:Value) (r:List V→Hp→VK→Prop):Prop :=
 ∀ (pins:List (Addr×Obj)) (s:Shared) (σ:St) (H:Hp) (xs:List V) (us:List Value) (Q:VK),Inv X pins σ H s→aD xs us→r xs H Q →
  wpAny (model X.prog X.w) X.A (call f us) (EP X pins σ Q) X.xe s
def Am (X:Cx) (r:V→Hp→(Bool→Hp→Prop)→Prop):Prop :=
 ∀ (pins:List (Addr×Obj)) (s:Shared) (σ:St) (H:Hp) (x:V) (v:Value) (Q:Bool→Hp→Prop),Inv X pins σ H s→aJ x v→r x H Q →
  wpAny (model X.prog X.w) X.A (truthy v) (TP X pins σ Q) X.xe s
def tOp (r:R2) (ta tb:TE):TE:=fun σ H Q=>ta σ H fun x H1=>tb σ H1 fun y H2=>r x y H2 Q
def tUn (r:V→Hp→VK→Prop) (ta:TE):TE:=fun σ H Q=>ta σ H fun x H1=>r x H1 Q
def rI (C:Int→Int→Prop) (g:Int→Int→V):R2:=fun x y H Q=>∃ i j,x=.int i∧y=.int j∧C i j∧Q (g i j) H
def rI0 (g:Int→Int→V):R2:=fun x y H Q=>∃ i j,x=.int i∧y=.int j∧Q (g i j) H
def rU (g:Int→V):V→Hp→VK→Prop:=fun x H Q=>∃ i,x=.int i∧Q (g i) H
section
variable {X:Cx} {a b c:Expr} {ta tb tc:TE} {pos:Pos}
theorem yl (ha:PE X a ta) (hb:PE X b tb) {pins:List (Addr×Obj)} {s:Shared} {σ:St} {H:Hp} {R:V→V→Hp→Prop} (I:Inv X pins σ H s)
  (h:ta σ H fun x H1=>tb σ H1 fun y H2=>R x y H2) {Q:Value→Shared→Prop} {f:Value→Value→Sem Value}
  (hf:∀ v u s2 x y H2,Inv X pins σ H2 s2→aJ x v→aJ y u→R x y H2→wpAny (model X.prog X.w) X.A (f v u) Q X.xe s2) :
  wpAny (model X.prog X.w) X.A (eval a X.env) (fun v s₁=>wpAny (model X.prog X.w) X.A (eval b X.env) (fun u s₂=>wpAny (model X.prog X.w) X.A (f v u) Q X.xe s₂) X.xe s₁) X.xe s:=by
 refine thn (ha pins s σ H _ I h) fun v s1 ⟨x,H1,I1,r1,q1⟩=>?_
 refine thn (hb pins s1 σ H1 _ I1 q1) fun u s2 ⟨y,H2,I2,r2,q2⟩=>?_
 exact hf v u s2 x y H2 I2 r1 r2 q2
theorem aO {op:Operator} {r:R2} (ho:OpR X (binaryOp op) r) (ha:PE X a ta) (hb:PE X b tb):PE X (.BinOp a op b pos) (tOp r ta tb):=by
 intro pins s σ H Q I h
 exact wpAny_BinOp (yl ha hb I h fun v u s2 x y H2 I2 rx ry q=>ho pins s2 σ H2 x y v u Q I2 rx ry q)
theorem uo {op:UnaryOp} {r:V→Hp→VK→Prop} (ho:UnR X (unaryOp op) r) (ha:PE X a ta):PE X (.UnaryOp op a pos) (tUn r ta):=by
 intro pins s σ H Q I h
 exact UnaryOp_ (thn (ha pins s σ H _ I h) fun v s1 ⟨x,H1,I1,r1,q1⟩=>ho pins s1 σ H1 x v Q I1 r1 q1)
theorem opI {f:Value→Value→Sem Value} {C:Int→Int→Prop} {g:Int→Int→Int}
  (rule:∀ (i j:Int) (t u:Tok) (s:Shared) (Q:Value→Shared→Prop) (E:Value→Shared→Prop),C i j→Q (.int (g i j) s.toks) { s with toks:=s.toks+1 }→wpAny (model X.prog X.w) X.A (f (.int i t) (.int j u)) Q E s) :
  OpR X f (rI C fun i j=>.int (g i j)):=by
 intro pins s σ H x y v u Q I rx ry h
 obtain ⟨i,j,rfl,rfl,hc,q⟩:=h
 obtain ⟨t,rfl⟩:=rx
 obtain ⟨t',rfl⟩:=ry
 exact rule i j t t' s _ _ hc ⟨.int (g i j),H,I.tok _,⟨_,rfl⟩,q⟩
theorem Ab {f:Value→Value→Sem Value} {g:Int→Int→Int}
  (rule:∀ (i j:Int) (t u:Tok) (s:Shared) (Q:Value→Shared→Prop) (E:Value→Shared→Prop),Q (.int (g i j) s.toks) { s with toks:=s.toks+1 }→wpAny (model X.prog X.w) X.A (f (.int i t) (.int j u)) Q E s) :
  OpR X f (rI0 fun i j=>.int (g i j)):=by
 intro pins s σ H x y v u Q I rx ry h
 obtain ⟨i,j,rfl,rfl,q⟩:=h
 obtain ⟨t,rfl⟩:=rx
 obtain ⟨t',rfl⟩:=ry
 exact rule i j t t' s _ _ ⟨.int (g i j),H,I.tok _,⟨_,rfl⟩,q⟩
theorem yq {f:Value→Value→Sem Value} {g:Int→Int→Bool}
  (rule:∀ (i j:Int) (t u:Tok) (s:Shared) (Q:Value→Shared→Prop) (E:Value→Shared→Prop),Q (.bool (g i j)) s→wpAny (model X.prog X.w) X.A (f (.int i t) (.int j u)) Q E s) :
  OpR X f (rI0 fun i j=>.bl (g i j)):=by
 intro pins s σ H x y v u Q I rx ry h
 obtain ⟨i,j,rfl,rfl,q⟩:=h
 obtain ⟨t,rfl⟩:=rx
 obtain ⟨t',rfl⟩:=ry
 exact rule i j t t' s _ _ ⟨.bl (g i j),H,I,rfl,q⟩
def As (i j:Int):Prop:=0<j∧j<1073741824
def zu (i j:Int):Prop:=0≤j∧j≤1000000∧i.natAbs<2 ^ 64
def vH (i j:Int):Prop:=(-(2 ^ 64)<i∧i<2 ^ 64)∨(-(2 ^ 64)<j∧j<2 ^ 64)
theorem vH.ok {i j:Int} (h:vH i j):IntMulOk i j:=by
 rcases h with ⟨h1,h2⟩ | ⟨h1,h2⟩
 ·exact .of_left (intBits_le_64 h1 h2)
 ·exact .of_right (intBits_le_64 h1 h2)
theorem bG:OpR X (binaryOp .Add) (rI0 fun i j=>.int (i+j)):=Ab fun _ _ _ _ _ _ _ q=>add_int q
theorem mr:OpR X (binaryOp .Sub) (rI0 fun i j=>.int (i - j)):=Ab fun _ _ _ _ _ _ _ q=>sub_int q
theorem dk:OpR X (binaryOp .Mult) (rI vH fun i j=>.int (i*j)):=opI fun _ _ _ _ _ _ _ hc q=>mul_int q hc.ok
theorem ng:OpR X (binaryOp .FloorDiv) (rI As fun i j=>.int (i / j)):=opI fun i j _ _ _ _ _ hc q=>by
 have h1:(0:Int)<j:=hc.1
 have h2:j<1073741824:=hc.2
 exact floordiv_int (by omega) (by rw [Int.fdiv_eq_ediv_of_nonneg i (by omega)]; exact q) (.inl (PyProof.noPylong_small (by omega)))
theorem cZ:OpR X (binaryOp .Mod) (rI (fun _ j=>0<j) fun i j=>.int (i % j)):=opI fun i j _ _ _ _ _ hc q=>by
 have h1:(0:Int)<j:=hc
 exact mod_int' (by omega) (by rw [Int.fmod_eq_emod_of_nonneg i (by omega)]; exact q)
theorem xT:OpR X (binaryOp .Pow) (rI zu fun i j=>.int (i ^ j.toNat)):=opI fun _ _ _ _ _ _ _ hc q=>pow_int_small hc.1 hc.2.1 hc.2.2 q
theorem unI {f:Value→Sem Value} {g:Int→Int}
  (rule:∀ (i:Int) (t:Tok) (s:Shared) (Q:Value→Shared→Prop) (E:Value→Shared→Prop),Q (.int (g i) s.toks) { s with toks:=s.toks+1 }→wpAny (model X.prog X.w) X.A (f (.int i t)) Q E s) :
  UnR X f (rU fun i=>.int (g i)):=by
 intro pins s σ H x v Q I rx h
 obtain ⟨i,rfl,q⟩:=h
 obtain ⟨t,rfl⟩:=rx
 exact rule i t s _ _ ⟨.int (g i),H,I.tok _,⟨_,rfl⟩,q⟩
theorem pU:UnR X (unaryOp .USub) (rU fun i=>.int (-i)):=unI fun _ _ _ _ _ q=>neg_int q
end
def zJ:V→V→Bool
 | .non,.non=>true | .non,.int _=>true | .int _,.non=>true | .non,.bl _=>true | .bl _,.non=>true | .non,.str _=>true | .str _,.non=>true
 | .int _,.int _=>true | .bl _,.bl _=>true | .str _,.str _=>true | .byt _,.byt _=>true
 | .int _,.str _=>true | .str _,.int _=>true | .bl _,.str _=>true | .str _,.bl _=>true
 | _,_=>false
def rEq:R2:=fun x y H Q=>zJ x y=true∧Q (.bl (decide (x=y))) H
def rNe:R2:=fun x y H Q=>zJ x y=true∧Q (.bl (!decide (x=y))) H
theorem rp {i j:Int}:decide (V.int i=V.int j)=(i==j):=by
 rw [Bool.eq_iff_iff]
 simp
theorem uK {i j:Bool}:decide (V.bl i=V.bl j)=(i==j):=by
 rw [Bool.eq_iff_iff]
 simp
theorem rK {i j:Str}:decide (V.str i=V.str j)=(i==j):=by
 rw [Bool.eq_iff_iff]
 simp
theorem rP {i j:Array UInt8}:decide (V.byt i=V.byt j)=(i.toList==j.toList):=by
 rw [Bool.eq_iff_iff]
 cases i
 cases j
 simp
section
variable {X:Cx} {a b c:Expr} {ta tb tc:TE} {pos:Pos}
theorem aR {pins:List (Addr×Obj)} {σ:St} {H:Hp} {s:Shared} {Q:VK} {k k':Bool} (I:Inv X pins σ H s) (q:Q (.bl k) H) (e:k=k'):EP X pins σ Q (.bool k') s:=by
 subst e
 exact ⟨.bl k,H,I,rfl,q⟩
theorem bD:OpR X (compareOp .Eq) rEq:=by
 intro pins s σ H x y v u Q I rx ry h
 obtain ⟨hs,q⟩:=h
 cases x with
 | non =>
  cases rx
  cases y with
  | non=>cases ry; exact PySem.EqNone.eq_none_none (aR I q (by simp))
  | bl j=>cases ry; exact PySem.EqNone.eq_none_bool (aR I q (by simp))
  | int j=>obtain ⟨t',rfl⟩:=ry; exact PySem.EqNone.eq_none_int (aR I q (by simp))
  | str j=>obtain ⟨t',rfl⟩:=ry; exact PySem.EqNone.eq_none_str (aR I q (by simp))
  | _=>exact absurd (show false=true from hs) Bool.false_ne_true
 | bl i =>
  cases rx
  cases y with
  | non=>cases ry; exact PySem.EqNone.eq_bool_none (aR I q (by simp))
  | bl j=>cases ry; exact eq_bool (aR I q uK)
  | str j=>obtain ⟨t',rfl⟩:=ry; exact PySem.EqMixed.eq_bool_str (aR I q (by simp))
  | _=>exact absurd (show false=true from hs) Bool.false_ne_true
 | int i =>
  obtain ⟨t,rfl⟩:=rx
  cases y with
  | non=>cases ry; exact PySem.EqNone.eq_int_none (aR I q (by simp))
  | int j=>obtain ⟨t',rfl⟩:=ry; exact eq_int (aR I q rp)
  | str j=>obtain ⟨t',rfl⟩:=ry; exact PySem.EqMixed.eq_int_str (aR I q (by simp))
  | _=>exact absurd (show false=true from hs) Bool.false_ne_true
 | str i =>
  obtain ⟨t,rfl⟩:=rx
  cases y with
  | non=>cases ry; exact PySem.EqNone.eq_str_none (aR I q (by simp))
  | bl j=>cases ry; exact PySem.EqMixed.eq_str_bool (aR I q (by simp))
  | int j=>obtain ⟨t',rfl⟩:=ry; exact PySem.EqMixed.eq_str_int (aR I q (by simp))
  | str j=>obtain ⟨t',rfl⟩:=ry; exact eq_str (aR I q rK)
  | _=>exact absurd (show false=true from hs) Bool.false_ne_true
 | byt i =>
  obtain ⟨t,rfl⟩:=rx
  cases y with
  | byt j=>obtain ⟨t',rfl⟩:=ry; exact PySem.W.eq_bytes (aR I q rP)
  | _=>exact absurd (show false=true from hs) Bool.false_ne_true
 | _=>cases y<;>exact absurd (show false=true from hs) Bool.false_ne_true
theorem wT:OpR X (compareOp .NotEq) rNe:=by
 intro pins s σ H x y v u Q I rx ry h
 obtain ⟨hs,q⟩:=h
 cases x with
 | non =>
  cases rx
  cases y with
  | non=>cases ry; exact PySem.EqNone.ne_none_none (aR I q (by simp))
  | bl j=>cases ry; exact PySem.EqNone.ne_none_bool (aR I q (by simp))
  | int j=>obtain ⟨t',rfl⟩:=ry; exact PySem.EqNone.ne_none_int (aR I q (by simp))
  | str j=>obtain ⟨t',rfl⟩:=ry; exact PySem.EqNone.ne_none_str (aR I q (by simp))
  | _=>exact absurd (show false=true from hs) Bool.false_ne_true
 | bl i =>
  cases rx
  cases y with
  | non=>cases ry; exact PySem.EqNone.ne_bool_none (aR I q (by simp))
  | bl j=>cases ry; exact ne_bool (aR I q (congrArg not uK))
  | str j=>obtain ⟨t',rfl⟩:=ry; exact PySem.EqMixed.ne_bool_str (aR I q (by simp))
  | _=>exact absurd (show false=true from hs) Bool.false_ne_true
 | int i =>
  obtain ⟨t,rfl⟩:=rx
  cases y with
  | non=>cases ry; exact PySem.EqNone.ne_int_none (aR I q (by simp))
  | int j=>obtain ⟨t',rfl⟩:=ry; exact ne_int (aR I q (congrArg not rp))
  | str j=>obtain ⟨t',rfl⟩:=ry; exact PySem.EqMixed.ne_int_str (aR I q (by simp))
  | _=>exact absurd (show false=true from hs) Bool.false_ne_true
 | str i =>
  obtain ⟨t,rfl⟩:=rx
  cases y with
  | non=>cases ry; exact PySem.EqNone.ne_str_none (aR I q (by simp))
  | bl j=>cases ry; exact PySem.EqMixed.ne_str_bool (aR I q (by simp))
  | int j=>obtain ⟨t',rfl⟩:=ry; exact PySem.EqMixed.ne_str_int (aR I q (by simp))
  | str j=>obtain ⟨t',rfl⟩:=ry; exact ne_str (aR I q (congrArg not rK))
  | _=>exact absurd (show false=true from hs) Bool.false_ne_true
 | byt i =>
  obtain ⟨t,rfl⟩:=rx
  cases y with
  | byt j=>obtain ⟨t',rfl⟩:=ry; exact PySem.W.ne_bytes (aR I q (congrArg not rP))
  | _=>exact absurd (show false=true from hs) Bool.false_ne_true
 | _=>cases y<;>exact absurd (show false=true from hs) Bool.false_ne_true
theorem zF:OpR X (compareOp .Lt) (rI0 fun i j=>.bl (decide (i<j))):=yq fun _ _ _ _ _ _ _ q=>lt_int q
theorem yZ:OpR X (compareOp .Gt) (rI0 fun i j=>.bl (decide (j<i))):=yq fun _ _ _ _ _ _ _ q=>gt_int q
theorem yK:OpR X (compareOp .GtE) (rI0 fun i j=>.bl (decide (j≤i))):=yq fun _ _ _ _ _ _ _ q=>ge_int q
theorem na:OpR X (compareOp .Is) (fun x y H Q=>y=.non∧Q (.bl (decide (x=.non))) H):=by
 intro pins s σ H x y v u Q I rx ry h
 obtain ⟨rfl,q⟩:=h
 cases ry
 refine is_none_gen (aR I q ?_)
 cases x<;>first
  | (cases rx; rfl)
  | (obtain ⟨t,rfl⟩:=rx; rfl)
theorem OpR.or {f:Value→Value→Sem Value} {r r':R2} (h:OpR X f r) (h':OpR X f r'):OpR X f (fun x y H Q=>r x y H Q∨r' x y H Q):=by
 intro pins s σ H x y v u Q I rx ry q
 rcases q with q | q
 ·exact h pins s σ H x y v u Q I rx ry q
 ·exact h' pins s σ H x y v u Q I rx ry q
theorem aQ (b:Expr) {op:CmpOp} (h:op≠.In:=by decide) (h2:op≠.NotIn:=by decide):behindInMarks op b=false:=by
 have e1:(op==CmpOp.In)=false:=by cases op<;>first | rfl | exact absurd rfl h
 have e2:(op==CmpOp.NotIn)=false:=by cases op<;>first | rfl | exact absurd rfl h2
 cases b<;>simp [behindInMarks,e1,e2]
theorem hW {op:CmpOp} {r:R2} (ho:OpR X (compareOp op) r) (ha:PE X a ta) (hb:PE X b tb) (hm:behindInMarks op b=false):PE X (.Compare a [op] [b] pos) (tOp r ta tb):=by
 intro pins s σ H Q I h
 exact wpAny_Compare1 (yl ha hb I h fun v u s2 x y H2 I2 rx ry q=>ho pins s2 σ H2 x y v u Q I2 rx ry q) hm
def Ac (t:TE):TT:=fun σ H Q=>t σ H fun x H'=>∃ k,x=.bl k∧Q k H'
theorem aC {op:CmpOp} {r:R2} (ho:OpR X (compareOp op) r) (ha:PE X a ta) (hb:PE X b tb) (hm:behindInMarks op b=false):PT X (.Compare a [op] [b] pos) (Ac (tOp r ta tb)):=by
 intro pins s σ H Q I h
 refine wpAny_isTrue_Compare1 (thn (ha pins s σ H _ I h) fun v s1 ⟨x,H1,I1,r1,q1⟩=>thn (hb pins s1 σ H1 _ I1 q1) fun u s2 ⟨y,H2,I2,r2,q2⟩ =>
  thn (ho pins s2 σ H2 x y v u _ I2 r1 r2 q2) fun c s3 ⟨z,H3,I3,r3,k,e,q3⟩=>?_) hm
 subst e
 cases r3
 exact wpAny_truthy_bool ⟨H3,I3,q3⟩
def zI (K:Frag) (x:V) (H:Hp) (k:Bool):Prop :=
 match x with
 | .non=>k=false
 | .bl b=>k=b
 | .int i=>k=(i != 0)
 | .str y=>y.length≤sizeLine∧k=((y.length:Int) != 0)
 | .byt y=>y.size≤sizeLine∧k=((y.size:Int) != 0)
 | .ref p=>(∃ xs,SqL K H p xs∧k=!xs.isEmpty)∨(∃ xs,SqT K H p xs∧k=!xs.isEmpty)∨∃ kvs,H p=some (.dK kvs)∧k=!kvs.isEmpty
 | _=>False
theorem qY {κ:Type} {kvs:List (κ×V)} {vs:List (κ×Value)} (r:KV kvs vs):(!vs.isEmpty)=!kvs.isEmpty:=by
 cases r<;>rfl
theorem iH {xs:List V} {its:List Value} (r:aD xs its):(!its.toArray.isEmpty)=!xs.isEmpty:=by
 cases r<;>simp
theorem ju:(sizeLine:Nat)<2 ^ 63:=by rw [sizeLine_eq]; decide
theorem xy:Am X (fun x H Q=>∃ k,zI X.K x H k∧Q k H):=by
 intro pins s σ H x v Q I rx h
 obtain ⟨k,e,q⟩:=h
 have hl:=ju
 have hs:sizeLine=16777216:=sizeLine_eq
 cases x with
 | non =>
  cases rx
  have e':k=false:=e
  subst e'
  exact truthy_none ⟨H,I,q⟩
 | bl b =>
  cases rx
  have e':k=b:=e
  subst e'
  exact wpAny_truthy_bool ⟨H,I,q⟩
 | int i =>
  obtain ⟨t,rfl⟩:=rx
  have e':k=(i != 0):=e
  subst e'
  exact PySem.P.truthy_int ⟨H,I,q⟩
 | str y =>
  obtain ⟨t,rfl⟩:=rx
  obtain ⟨hy,e'⟩:y.length≤sizeLine∧k=((y.length:Int) != 0):=e
  subst e'
  exact PySem.P.truthy_str (by omega) ⟨H,I.tok _,q⟩
 | byt y =>
  obtain ⟨t,rfl⟩:=rx
  obtain ⟨hy,e'⟩:y.size≤sizeLine∧k=((y.size:Int) != 0):=e
  subst e'
  exact PySem.W.truthy_bytes (by omega) ⟨H,I.tok _,q⟩
 | ref p =>
  cases rx
  have e':(∃ xs,SqL X.K H p xs∧k=!xs.isEmpty)∨(∃ xs,SqT X.K H p xs∧k=!xs.isEmpty)∨∃ kvs,H p=some (.dK kvs)∧k=!kvs.isEmpty:=e
  rcases e' with ⟨xs,hx,e'⟩ | ⟨xs,hx,e'⟩ | ⟨kvs,hx,e'⟩
  ·subst e'
   obtain ⟨its,r,pl,hz⟩:=I.list hx
   have hlen:=r.length
   exact wpAny_truthy_list pl.isList (by simp only [List.size_toArray]; omega) ⟨H,I.tok _,by rw [iH r]; exact q⟩
  ·subst e'
   obtain ⟨its,r,pl,hz⟩:=I.tuple hx
   have hlen:=r.length
   exact truthy_tuple pl (by simp only [List.size_toArray]; omega) ⟨H,I.tok _,by rw [iH r]; exact q⟩
  ·subst e'
   obtain ⟨hz,hS,vs,r,m⟩:kvs.length≤sizeLine∧(p==sysModules)=false∧∃ vs,KV kvs vs∧s.heap.DictOf (bc X.prog X.w) p vs:=I.hok p _ hx
   have hlen:kvs.length=vs.length:=Paired.length r
   exact wpAny_truthy_dict hS m (by omega) ⟨H,I.tok _,by rw [qY r]; exact q⟩
 | _=>exact (show False from e).elim
theorem uX (ha:PE X a ta) (he:∀ whole,isTrue a X.env whole=(do let v ← whole; standAt a.pos; holding [v] (truthy v))) :
  PT X a (fun σ H Q=>ta σ H fun x H'=>∃ k,zI X.K x H' k∧Q k H'):=by
 intro pins s σ H Q I h
 exact isTrue_plain (thn (ha pins s σ H _ I h) fun v s1 ⟨x,H1,I1,r1,q1⟩=>xy pins s1 σ H1 x v Q I1 r1 q1) (he _)
theorem dj {x:V} {us:List Value} (r:aD [x] us):∃ u,us=[u]∧aJ x u:=by
 cases r with
 | cons r1 r2=>cases r2; exact ⟨_,rfl,r1⟩
theorem ur {x y:V} {us:List Value} (r:aD [x,y] us):∃ u w',us=[u,w']∧aJ x u∧aJ y w':=by
 cases r with
 | cons r1 r2 =>
  cases r2 with
  | cons r3 r4=>cases r4; exact ⟨_,_,rfl,r1,r3⟩
theorem sN (hc:X.calm=true):dE X (.builtin "max") (fun xs H Q=>∃ i j,xs=[.int i,.int j]∧Q (.int (if j > i then j else i)) H):=by
 intro pins s σ H xs us Q I r h
 obtain ⟨i,j,rfl,q⟩:=h
 obtain ⟨u,w',rfl,⟨t,rfl⟩,⟨t',rfl⟩⟩:=ur r
 refine max_two_ints (I.ok.hd hc) fun h' tk k=>⟨_,H,I.kept k,?_,q⟩
 by_cases hj:j > i
 ·rw [if_pos hj,if_pos hj]; exact ⟨_,rfl⟩
 ·rw [if_neg hj,if_neg hj]; exact ⟨_,rfl⟩
theorem sZ (hc:X.calm=true):dE X (.builtin "min") (fun xs H Q=>∃ i j,xs=[.int i,.int j]∧Q (.int (if j<i then j else i)) H):=by
 intro pins s σ H xs us Q I r h
 obtain ⟨i,j,rfl,q⟩:=h
 obtain ⟨u,w',rfl,⟨t,rfl⟩,⟨t',rfl⟩⟩:=ur r
 refine min_two_ints (I.ok.hd hc) fun h' tk k=>⟨_,H,I.kept k,?_,q⟩
 by_cases hj:j<i
 ·rw [if_pos hj,if_pos hj]; exact ⟨_,rfl⟩
 ·rw [if_neg hj,if_neg hj]; exact ⟨_,rfl⟩
theorem sA:dE X (.type "int") (fun xs H Q=>(∃ i,xs=[.int i]∧Q (.int i) H)∨∃ k,xs=[.bl k]∧Q (.int (if k then 1 else 0)) H):=by
 intro pins s σ H xs us Q I r h
 rcases h with ⟨i,rfl,q⟩ | ⟨k,rfl,q⟩
 ·obtain ⟨u,rfl,t,rfl⟩:=dj r
  exact call_int_int ⟨.int i,H,I,⟨_,rfl⟩,q⟩
 ·obtain ⟨u,rfl,r1⟩:=dj r
  cases r1
  exact call_int_bool ⟨.int (if k then 1 else 0),H,I.tok _,⟨_,rfl⟩,q⟩
end
open PySem PySem.Spec PyProof.Rows
structure qt (h:Heap) (x dx C:Addr) (mA:Str→Option Value):Prop where
 obj:h.get? x=some (PySem.W.instObj C dx)
 ns:h.Ns1 dx mA
 ne:dx≠x
theorem sP {h:Heap} {dx:Addr} {mA:Str→Option Value} (n:h.Ns1 dx mA):∃ od,h.get? dx=some od∧∀ name,PySem.W.lookIn name od=some (mA name):=by
 obtain ⟨o,es,ep,ho,hd,hk,_,hm⟩:=n
 refine ⟨o,ho,fun name=>?_⟩
 have e:=hm name
 unfold nsFind findBy at e
 rw [← Array.find?_toList] at e
 unfold PySem.W.lookIn
 rw [hd]
 dsimp only
 split
 ·rename_i y q
  rw [q] at e
  exact congrArg some e
 ·rename_i q
  rw [q] at e
  have a:es.toList.any (·.refKey)=false:=by
   rw [List.any_eq_false]
   intro y hy
   obtain ⟨z,t,hkey⟩:=hk y (Array.mem_toList_iff.mp hy)
   simp [DictEntry.refKey,hkey]
  have a':¬ es.toList.any (·.refKey)=true:=by rw [a]; exact Bool.false_ne_true
  rw [if_neg a']
  exact congrArg some e
theorem qt.look {h:Heap} {x dx C:Addr} {mA:Str→Option Value} (I:qt h x dx C mA):∃ od,PySem.W.InstAt h x (PySem.W.instObj C dx) C (some od)∧∀ name,PySem.W.lookIn name od=some (mA name) :=
 let ⟨od,ho,hl⟩:=sP I.ns
 ⟨od,⟨I.obj,rfl,rfl,ho⟩,hl⟩
section
variable {prog:Program} {w:World} {A:Around} {E:Value→Shared→Prop} {s:Shared} {K:Frag} {x dx C f:Addr} {mA:Str→Option Value} {name:Str} {v:Value}
theorem wt {expr:Bool} {Q:Value→Shared→Prop} (X:K.In s.heap) (I:qt s.heap x dx C mA) (hg:PySem.W.plainGet K C name=true) (hh:PySem.W.hasDictIn K C=true)
  (ha:PySem.W.findIn K (.ref C) name=some none) (hv:mA name=some v) (hv':PySem.W.handedIn v=true) (h:Q v { s with toks:=s.toks+1 }) :
  wpAny (model prog w) A (getAttr (.ref x) name expr) Q E s:=by
 obtain ⟨od,J,hl⟩:=I.look
 exact PySem.W.get_value X J (PySem.W.plainGet_of hg).1 (PySem.W.findObj_own hh ha rfl (by rw [hl,hv])) hv' h
theorem ue {pl:Sem Bool} {Q:Value×List Value→Shared→Prop} (X:K.In s.heap) (I:qt s.heap x dx C mA) (hg:PySem.W.plainGet K C name=true)
  (hf:PySem.W.findIn K (.ref C) name=some (some (.ref f))) (ht:PySem.W.isFn K (.ref f)=true) (hv:mA name=none) (h:Q (.ref f,[.ref x]) s) :
  wpAny (model prog w) A (getMethod (.ref x) name pl) Q E s:=by
 obtain ⟨od,J,hl⟩:=I.look
 exact PySem.W.method_fn X J (PySem.W.plainGet_of hg).1 (PySem.W.plainGet_of hg).2 hf (beq_iff_eq.mp ht) (by show (PySem.W.lookIn name od).map (·.isSome)=some false; rw [hl,hv]; rfl) h
theorem vU {ns:List Str} {Q:Unit→Shared→Prop} (X:K.In s.heap) (I:qt s.heap x dx C mA)
  (hs:PySem.W.findIn K (.ref C) "__setattr__"=some (some (.builtin "object.__setattr__"))) (hp:PySem.W.plainOver K C=true) (ht:PySem.W.takerIn K C name=some none) (hh:PySem.W.hasDictIn K C=true)
  (hw:PySem.Within mA ns) (hsz:ns.length≤sizeLine)
  (h:∀ h',qt h' x dx C (fun y=>if y=name then some v else mA y)→Heap.SameBut dx s.heap h'→Q () { s with heap:=h',toks:=s.toks+2 }) :
  wpAny (model prog w) A (setAttr (.ref x) name v) Q E s:=by
 obtain ⟨od,J,hl⟩:=I.look
 refine PySem.W.set_plain X J hs (PySem.W.osa_open (s:={ s with toks:=s.toks+1 }) (r:=none) X J hp ht fun b=>?_)
 obtain ⟨cd,hc,hd'⟩:=PySem.W.any_some hh
 have hx:s.heap.get? x=some ⟨.ref C,some dx,.plain,#[]⟩:=I.obj
 refine wpAny_bind (wpAny_pure (wpAny_bind (wpAny_bind (wpAny_loadPart hx (wpAny_bind (PySem.W.Looks.here (s:={ s with toks:=s.toks+1 }) (PySem.W.looks_clsIn X hc) ?_))))))
 rw [hd']
 refine wpAny_pure (a:=some dx) (wpAny_bind (wpAny_pure (wpAny_bind ?_)))
 refine wpAny_nsSet1 (s:={ s with toks:=s.toks+1 }) I.ns fun h' hn2 hs2=>?_
 obtain ⟨oD,esD,epD,hoD,hdD,hcD⟩:=hn2.count (PySem.Within.cons name v hw)
 refine wpAny_bind (wpAny_lookBehind hoD (by rw [hdD]; exact pastItsLine_dict (Nat.le_trans hcD (by rw [List.length_cons]; omega))) ?_)
 exact wpAny_pure (h _ ⟨(hs2.2 _ (Ne.symm I.ne)).trans I.obj,hn2,I.ne⟩ hs2)
theorem vz {R:Result→Shared→Prop} {vs:List Value} {kw:List (Str×Value)} (X:K.In s.heap) (hm:PySem.W.makesIn K C=true)
  (hi:PySem.W.findIn K (.ref C) "__init__"=some (some (.ref f))) (hf:PySem.W.typeIn K (.ref f)=some (.type "function"))
  (h:codeAny (model prog w) (A.under (.builtin "type.__call__" ⟨.ref C::vs,kw⟩)) (.call (.ref f) ⟨.ref (s.heap.objs.size+1)::vs,kw⟩) (PySem.W.InitBack (s.heap.objs.size+1) R)
   { s with heap:=(s.heap.push PySem.W.emptyDict).push (PySem.W.instObj C s.heap.objs.size) }) :
  codeAny (model prog w) A (.call (.ref C) ⟨vs,kw⟩) R s:=by
 obtain ⟨hh,g,d,t,os⟩:=s
 exact PySem.W.make_core (PySem.W.makes_of X hm) (PySem.W.looks_findIn X hi) (fun self=>PySem.W.bind_fn X self hf) (.inl rfl) h
end
def dB (f:Str) (v:V):List (Str×V)→List (Str×V)
 | []=>[(f,v)]
 | (g,x)::r=>if g=f then (g,v)::r else (g,x)::dB f v r
theorem gR (f g:Str) (v:V):∀ fs:List (Str×V),(dB f v fs).lookup g=if g=f then some v else fs.lookup g
 | []=>by
  show List.lookup g [(f,v)]=_
  by_cases h:g=f
  ·have hb:(g==f)=true:=beq_iff_eq.mpr h
   simp only [List.lookup,hb,if_pos h]
  ·have hb:(g==f)=false:=beq_eq_false_iff_ne.mpr h
   simp only [List.lookup,hb,if_neg h]
 | (k,x)::r=>by
  have ih:=gR f g v r
  rw [show dB f v ((k,x)::r)=(if k=f then (k,v)::r else (k,x)::dB f v r) from rfl]
  by_cases hk:k=f
  ·rw [if_pos hk]
   by_cases h:g=k
   ·have hb:(g==k)=true:=beq_iff_eq.mpr h
    simp only [List.lookup,hb,if_pos (h.trans hk)]
   ·have hb:(g==k)=false:=beq_eq_false_iff_ne.mpr h
    simp only [List.lookup,hb,if_neg (fun e:g=f=>h (e.trans hk.symm))]
  ·rw [if_neg hk]
   by_cases h:g=k
   ·have hb:(g==k)=true:=beq_iff_eq.mpr h
    simp only [List.lookup,hb,if_neg (fun e:g=f=>hk (h.symm.trans e))]
   ·have hb:(g==k)=false:=beq_eq_false_iff_ne.mpr h
    simp only [List.lookup,hb]
    exact ih
theorem gD (f:Str) (v:V):∀ fs:List (Str×V),f∈(dB f v fs).map (·.1)∧∀ g,g∈fs.map (·.1)→g∈(dB f v fs).map (·.1)
 | []=>⟨by simp [dB],fun g h=>by simp at h⟩
 | (k,x)::r=>by
  obtain ⟨i1,i2⟩:=gD f v r
  rw [show dB f v ((k,x)::r)=(if k=f then (k,v)::r else (k,x)::dB f v r) from rfl]
  by_cases hk:k=f
  ·rw [if_pos hk]
   subst hk
   exact ⟨by simp,fun g h=>by simpa using h⟩
  ·rw [if_neg hk]
   refine ⟨?_,fun g h=>?_⟩
   ·rw [List.map_cons]
    exact List.mem_cons_of_mem _ i1
   ·rw [List.map_cons] at h ⊢
    rcases List.mem_cons.mp h with e | e
    ·exact List.mem_cons.mpr (.inl e)
    ·exact List.mem_cons_of_mem _ (i2 g e)
theorem cz (f:Str) (v:V):∀ fs:List (Str×V),(dB f v fs).length≤fs.length+1
 | []=>by simp [dB]
 | (k,x)::r=>by
  have ih:=cz f v r
  rw [show dB f v ((k,x)::r)=(if k=f then (k,v)::r else (k,x)::dB f v r) from rfl]
  by_cases hk:k=f
  ·rw [if_pos hk,List.length_cons,List.length_cons]; omega
  ·rw [if_neg hk,List.length_cons,List.length_cons]; omega
theorem dm.some_of {v:V} {o:Option Value} (r:dm (some v) o):∃ u,o=some u∧aJ v u:=by
 cases o with
 | none=>exact (show False from r).elim
 | some u=>exact ⟨u,rfl,r⟩
theorem dm.none_of {o:Option Value} (r:dm none o):o=none:=by
 cases o with
 | none=>rfl
 | some u=>exact (show False from r).elim
theorem sM {v:V} {u:Value} (r:aJ v u):PySem.W.handedIn u=true:=by
 cases v with
 | non=>cases (show u=Value.none from r); rfl
 | bl b=>cases (show u=Value.bool b from r); rfl
 | int i=>obtain ⟨t,e⟩:=(show ∃ t,u=Value.int i t from r); cases e; rfl
 | str x=>obtain ⟨t,e⟩:=(show ∃ t,u=Value.str x t from r); cases e; rfl
 | byt b=>obtain ⟨t,e⟩:=(show ∃ t,u=Value.bytes b t from r); cases e; rfl
 | flt b=>obtain ⟨t,e⟩:=(show ∃ t,u=Value.float b t from r); cases e; rfl
 | ref a=>cases (show u=Value.ref a from r); rfl
 | ty n=>cases (show u=Value.type n from r); rfl
section
variable {P:Program} {w:World} {H H':Hp} {h h':Heap} {a C dx:Addr} {fs fs':List (Str×V)}
theorem ma (hok:HOk P w H h) (e:H a=some (.ins C dx fs)):∃ mA,qt h a dx C mA∧(∀ f,dm (fs.lookup f) (mA f))∧PySem.Within mA (fs.map (·.1))∧fs.length≤1000∧H dx=some (.own a):=by
 obtain ⟨d,z,ne,ob,mA,n,r,q⟩:=(show bx P w H h a (.ins C dx fs) from hok a _ e)
 exact ⟨mA,⟨ob,n,ne⟩,r,q,z,d⟩
end
structure Cls (K:Frag) (C:Addr):Prop where
 pg:PySem.W.plainGet K C Str.empty=true
 hd:PySem.W.hasDictIn K C=true
 po:PySem.W.plainOver K C=true
 sa:PySem.W.findIn K (.ref C) "__setattr__"=some (some (.builtin "object.__setattr__"))
theorem Cls.get {K:Frag} {C:Addr} (c:Cls K C) (f:Str):PySem.W.plainGet K C f=true:=c.pg
def cD (K:Frag) (C:Addr) (f:Str):Prop:=PySem.W.findIn K (.ref C) f=some none
theorem cD.taker {K:Frag} {C:Addr} {f:Str} (n:cD K C f):PySem.W.takerIn K C f=some none:=by
 unfold PySem.W.takerIn
 rw [show PySem.W.findIn K (.ref C) f=some none from n]
 rfl
structure Con (K:Frag) (C:Addr) (f:Str) (v:V) (u:Value):Prop where
 at_:PySem.W.findIn K (.ref C) f=some (some u)
 rel:aJ v u
 get:PySem.W.specialIn K u "__get__"=some none
 cp:PySem.W.copiedNames.contains f=false
structure sG (K:Frag) (C:Addr) (m:Str) (f:Addr):Prop where
 at_:PySem.W.findIn K (.ref C) m=some (some (.ref f))
 fn:PySem.W.isFn K (.ref f)=true
 kp:keepIn K (.ref f)=true
section
variable {X:Cx} {pins:List (Addr×Obj)} {σ:St} {H:Hp} {s:Shared} {a C dx:Addr} {fs:List (Str×V)} {f:Str} {v:V} {A:Around} {E:Value→Shared→Prop}
theorem kb {b:Bool} {Q:Value→Shared→Prop} (I:Inv X pins σ H s) (e:H a=some (.ins C dx fs)) (c:Cls X.K C) (n:cD X.K C f) (l:fs.lookup f=some v)
  (h:∀ u s',Inv X pins σ H s'→aJ v u→Q u s'):wpAny (model X.prog X.w) A (getAttr (.ref a) f b) Q E s:=by
 obtain ⟨mA,O,r,_,_,_⟩:=ma I.hok e
 obtain ⟨u,hu,ru⟩:=dm.some_of (v:=v) (o:=mA f) (by rw [← l]; exact r f)
 exact wt I.kIn O (c.get f) c.hd n hu (sM ru) (h u _ (I.tok _) ru)
theorem jX {m:Str} {g:Addr} {pl:Sem Bool} {Q:Value×List Value→Shared→Prop} (I:Inv X pins σ H s) (e:H a=some (.ins C dx fs)) (c:Cls X.K C) (k:sG X.K C m g) (l:fs.lookup m=none)
  (h:Q (.ref g,[.ref a]) s):wpAny (model X.prog X.w) A (getMethod (.ref a) m pl) Q E s:=by
 obtain ⟨mA,O,r,_,_,_⟩:=ma I.hok e
 have hn:mA m=none:=dm.none_of (by rw [← l]; exact r m)
 exact ue I.kIn O (c.get m) k.at_ k.fn hn h
theorem iC {y:V} {u:Value} {Q:Unit→Shared→Prop} (I:Inv X pins σ H s) (e:H a=some (.ins C dx fs)) (c:Cls X.K C) (n:cD X.K C f) (hl:fs.length<1000) (ry:aJ y u)
  (h:∀ s',Inv X pins σ (upd H a (.ins C dx (dB f y fs))) s'→Q () s'):wpAny (model X.prog X.w) A (setAttr (.ref a) f u) Q E s:=by
 obtain ⟨mA,O,r,wi,_,ho⟩:=ma I.hok e
 have hz:(fs.map (·.1)).length≤sizeLine:=by rw [List.length_map,sizeLine_eq]; omega
 refine vU I.kIn O c.sa c.po n.taker c.hd wi hz fun h' O' sb=>h _ ?_
 have hd:∃ o,h'.get? dx=some o:=let ⟨o,_,_,e',_⟩:=O'.ns; ⟨o,e'⟩
 refine I.write (x:=a) (e:=dx) (by rw [e]; exact True.intro) (.inr ho) (fun b q hb z=>(sb.2 b hb).trans z) hd ?_
 refine ⟨by rw [ax O.ne]; exact ho,?_,O.ne,O'.obj,_,O'.ns,fun g=>?_,fun g hg=>?_⟩
 ·have:=cz f y fs; omega
 ·show dm ((dB f y fs).lookup g) (if g=f then some u else mA g)
  rw [gR]
  by_cases q:g=f
  ·rw [if_pos q,if_pos q]; exact ry
  ·rw [if_neg q,if_neg q]; exact r g
 ·by_cases q:g=f
  ·rw [q]; exact (gD f y fs).1
  ·refine (gD f y fs).2 g (wi g fun z=>hg ?_)
   show (if g=f then some u else mA g)=none
   rw [if_neg q]; exact z
theorem Inv.made (I:Inv X pins σ H s):Inv X pins σ (upd (upd H s.heap.objs.size (.own (s.heap.objs.size+1))) (s.heap.objs.size+1) (.ins C s.heap.objs.size []))
  { s with heap:=(s.heap.push PySem.W.emptyDict).push (PySem.W.instObj C s.heap.objs.size) }:=by
 have e1:(s.heap.push PySem.W.emptyDict).get? s.heap.objs.size=some PySem.W.emptyDict:=Heap.get?_push_size s.heap rfl
 have e2:((s.heap.push PySem.W.emptyDict).push (PySem.W.instObj C s.heap.objs.size)).get? (s.heap.objs.size+1)=some (PySem.W.instObj C s.heap.objs.size):=by
  have:=Heap.get?_push_size (s.heap.push PySem.W.emptyDict) (o:=PySem.W.instObj C s.heap.objs.size) rfl
  rwa [Heap.size_push] at this
 have e3:(s.heap.push PySem.W.emptyDict).Ns s.heap.objs.size (fun _=>none):=⟨PySem.W.emptyDict,#[],_,e1,rfl,(fun e he=>absurd he (by simp)),fun _=>rfl⟩
 have I1:=I.laid (a:=s.heap.objs.size) (o:=.own (s.heap.objs.size+1)) (h':=s.heap.push PySem.W.emptyDict) (t':=s.toks) (fun b u q=>Heap.get?_push_of_some _ q) (Nat.le_refl _) ⟨_,e1⟩
 refine I1.laid (a:=s.heap.objs.size+1) (o:=.ins C s.heap.objs.size []) (t':=s.toks) (fun b u q=>Heap.get?_push_of_some _ q) (Nat.le_of_eq (Heap.size_push _ _)) ?_
 have ne:s.heap.objs.size≠s.heap.objs.size+1:=Nat.ne_of_lt (Nat.lt_succ_self _)
 refine ⟨by rw [ax ne,ad],Nat.zero_le _,ne,e2,fun _=>none,(Heap.Ns1.of_empty e3).at fun o q=>Heap.get?_push_of_some _ q,fun _=>True.intro,fun y hy=>absurd rfl hy⟩
theorem wu {prog:Program} {w:World} {env:Env} {e:Expr} {f:Str} {pos:Pos} {s:Shared} {Q:Value→Shared→Prop} (hb:attributeBase e f env (eval e env)=eval e env)
  (h:wpAny (model prog w) A (eval e env) (fun o s₁=>wpAny (model prog w) A (getAttr o f true) Q E s₁) E s):wpAny (model prog w) A (eval (.Attribute e f pos) env) Q E s :=
 Attribute_any_ h (by rw [arm_eval_Attribute,hb])
end
def AN (K:Frag) (ta:TE) (f:Str):TE:=fun σ H Q=>ta σ H fun x H1=>∃ a C dx fs v,x=.ref a∧H1 a=some (.ins C dx fs)∧Cls K C∧cD K C f∧fs.lookup f=some v∧Q v H1
def AE (K:Frag) (ta tv:TE) (f:Str):TS:=fun D σ H=>tv σ H fun y H1=>ta σ H1 fun x H2=>∃ a C dx fs,x=.ref a∧H2 a=some (.ins C dx fs)∧Cls K C∧cD K C f∧fs.length<1000 ∧
 D.nx σ (upd H2 a (.ins C dx (dB f y fs)))
def yW (X:Cx) (op:Operator) (rd:V→V→Hp→VK→Prop):Prop :=
 ∀ (pins:List (Addr×Obj)) (s:Shared) (σ:St) (H:Hp) (x y:V) (u v:Value) (Q:VK),Inv X pins σ H s→aJ x u→aJ y v→rd x y H Q→wpAny (model X.prog X.w) X.A (inplaceOp op u v) (EP X pins σ Q) X.xe s
def wE (K:Frag) (ta tv:TE) (rd:V→V→Hp→VK→Prop) (f:Str):TS:=fun D σ H=>ta σ H fun x H1=>∃ a C dx fs v,x=.ref a∧H1 a=some (.ins C dx fs)∧Cls K C∧cD K C f∧fs.lookup f=some v ∧
 tv σ H1 fun y H2=>rd v y H2 fun z H3=>∃ dx' fs',H3 a=some (.ins C dx' fs')∧fs'.length<1000∧D.nx σ (upd H3 a (.ins C dx' (dB f z fs')))
section
variable {X:Cx} {o e value:Expr} {f:Str} {pos pos' tpos:Pos} {ta tv:TE}
theorem aV (he:PE X e ta) (hb:attributeBase e f X.env (eval e X.env)=eval e X.env):PE X (.Attribute e f pos) (AN X.K ta f):=by
 intro pins s σ H Q I h
 refine wu hb (thn (he pins s σ H _ I h) fun u s1 ⟨x,H1,I1,rx,a,C,dx,fs,v,ex,ea,c,n,l,q⟩=>?_)
 subst ex
 obtain rfl:u=Value.ref a:=rx
 exact kb I1 ea c n l fun u' s2 I2 ru=>⟨v,H1,I2,ru,q⟩
theorem bX (ha:PE X o ta) (hv:PE X value tv) (hs:swapsWith value (some (.Attribute o f pos')) pos.line X.env=pure false):PS X (.Assign [.Attribute o f pos'] value pos) (AE X.K ta tv f):=by
 intro pins s σ H D I h
 refine plainObj_wpAny_Assign_Attribute (thn (hv pins s σ H _ I h) fun u s1 ⟨y,H1,I1,ry,q⟩=>thn (ha pins s1 σ H1 _ I1 q) fun ov s2 ⟨x,H2,I2,rx,a,C,dx,fs,ex,ea,c,n,l,q2⟩=>?_) hs
 subst ex
 obtain rfl:ov=Value.ref a:=rx
 exact iC I2 ea c n l ry fun s3 I3=>⟨σ,_,I3,q2⟩
theorem sC {op:Operator} {rd:V→V→Hp→VK→Prop} (ha:PE X o ta) (hv:PE X value tv) (hop:yW X op rd):PS X (.AugAssign (.Attribute o f tpos) op value pos) (wE X.K ta tv rd f):=by
 intro pins s σ H D I h
 refine wpAny_AugAssign_AttributeAny (thn (ha pins s σ H _ I h) fun ov s1 ⟨x,H1,I1,rx,a,C,dx,fs,v,ex,ea,c,n,l,q⟩=>?_)
 subst ex
 obtain rfl:ov=Value.ref a:=rx
 refine kb I1 ea c n l fun u s2 I2 ru=>thn (hv pins s2 σ H1 _ I2 q) fun w3 s3 ⟨y,H2,I3,ry,q3⟩=>thn (hop pins s3 σ H2 v y u w3 _ I3 ru ry q3) fun w4 s4 ⟨z,H3,I4,rz,dx',fs',ea',l',q4⟩=>?_
 exact iC I4 ea' c n l' rz fun s5 I5=>⟨σ,_,I5,q4⟩
def Al:V→V→Hp→VK→Prop:=fun x y H Q=>∃ i j,x=.int i∧y=.int j∧Q (.int (i - j)) H
theorem xD:yW X .Sub Al:=by
 rintro pins s σ H x y u v Q I rx ry ⟨i,j,rfl,rfl,q⟩
 obtain ⟨t,rfl⟩:=(show ∃ t,u=Value.int i t from rx)
 obtain ⟨t',rfl⟩:=(show ∃ t',v=Value.int j t' from ry)
 exact PyProof.Rows.isub_int ⟨.int (i - j),H,I.tok _,⟨_,rfl⟩,q⟩
end
section
variable {X:Cx} {pins:List (Addr×Obj)} {σ:St} {H:Hp} {s:Shared} {A:Around} {E:Value→Shared→Prop} {Q:Value→Shared→Prop} {c:Value} {b:Bool}
end
open PySem PySem.Spec PyProof.Rows
structure bW (k:Nat) (A:Around):Prop where
 hd:A.handled=none
 dp:A.depth+3*k+5<recursionLimit
 un:A.units+16*k+200<cLine
 gd:A.guards=some []
theorem bW.mono {j k:Nat} {A:Around} (r:bW k A) (h:j≤k):bW j A:=⟨r.hd,by have:=r.dp; omega,by have:=r.un; omega,r.gd⟩
theorem bW.deeper {k:Nat} {A:Around} (r:bW (k+1) A) (env:Env):bW k (A.deeper env) :=
 ⟨r.hd,by have:=r.dp; show A.depth+1+3*k+5<_; omega,by have:=r.un; show A.units+3+16*k+200<_; omega,r.gd⟩
theorem qB {A:Around} {C:Addr} {us:List Value} {kw:List (Str×Value)}:(A.under (.builtin "type.__call__" ⟨.ref C::us,kw⟩)).depth=A.depth+1:=by
 first | rfl | simp [Around.under,Code.weight,Code.isCreation,Code.isGuard,Code.isCaller,Code.frames,Code.isFrame,guardIds]
theorem qH {A:Around} {C:Addr} {us:List Value} {kw:List (Str×Value)}:(A.under (.builtin "type.__call__" ⟨.ref C::us,kw⟩)).units=A.units+1:=by
 first | rfl | simp [Around.under,Code.cUnits,Code.frames,Code.isFrame]
theorem bW.make {k:Nat} {A:Around} (r:bW (k+1) A) (C:Addr) (us:List Value) (kw:List (Str×Value)):bW k (A.under (.builtin "type.__call__" ⟨.ref C::us,kw⟩)) :=
 ⟨r.hd,by have:=r.dp; rw [qB]; omega,by have:=r.un; rw [qH]; omega,by first | exact r.gd | (simpa [Around.under,Code.guards,Code.isGuard,guardIds,pushGuards] using r.gd)⟩
theorem bW.depth {k:Nat} {A:Around} (r:bW k A):A.depth<recursionLimit:=by have:=r.dp; omega
theorem bW.units {k:Nat} {A:Around} (r:bW k A):A.units+64<cLine:=by have:=r.un; omega
def zV:TA:=fun _ H Q=>Q [] H
def Ae (ta:TE) (tr:TA):TA:=fun σ H Q=>ta σ H fun x H1=>tr σ H1 fun xs H2=>Q (x::xs) H2
section
variable {X:Cx} {e:Expr} {es:List Expr} {te:TE} {t:TA} {pos:Pos}
theorem ag:PA X [] zV:=fun _ _ _ _ H Q I h=>Calls.spliced_nil ⟨[],H,I,.nil,h⟩
theorem ac (ha:PE X e te) (hr:PA X es t) (hs:starEach (e::es) X.env=(false,eval e X.env)::starEach es X.env:=by exact ab rfl):PA X (e::es) (Ae te t):=by
 intro pos pins s σ H Q I h
 rw [hs]
 show wpAny _ _ (spliced ((false,eval e X.env)::backTo pos (starEach es X.env))) _ _ s
 refine Calls.spliced_cons (thn (ha pins s σ H _ I h) fun u s1 ⟨x,H1,I1,r1,q1⟩=>?_)
 exact thn (hr pos pins s1 σ H1 _ I1 q1) fun us s2 ⟨xs,H2,I2,r2,q2⟩=>⟨x::xs,H2,I2,.cons r1 r2,q2⟩
def Aq (t:TA):TE:=fun σ H Q=>t σ H fun xs H1=>xs.length≤sizeLine∧∀ p,H1 p=none→Q (.ref p) (upd H1 p (.tup xs))
def AA (t:TA):TE:=fun σ H Q=>t σ H fun xs H1=>xs.length≤sizeLine∧∀ p,H1 p=none→Q (.ref p) (upd H1 p (.lst xs))
theorem ar {x1} (h:PA X es t):PE X (.Tuple es x1 pos) (Aq t):=by
 intro pins s σ H Q I hq
 refine wpAny_Tuple_spliced (thn (h pos pins s σ H _ I hq) fun us s1 ⟨xs,H1,I1,r,z,q⟩=>⟨by rw [← r.length]; exact z,?_⟩)
 have hf:H1 s1.heap.objs.size=none:=I1.hok.fresh (Nat.le_refl _)
 refine ⟨.ref s1.heap.objs.size,upd H1 s1.heap.objs.size (.tup xs),I1.laid (t':=s1.toks) (fun b u e=>Heap.get?_push_of_some _ e) (Nat.le_refl _) ?_,rfl,q _ hf⟩
 exact ⟨z,us,r,⟨_,Heap.get?_push_size _ rfl,rfl,_,rfl⟩,_,Heap.get?_push_size _ rfl,rfl⟩
theorem bm (h:PA X es t):PE X (.List es pos) (AA t):=by
 intro pins s σ H Q I hq
 refine wpAny_List_spliced (thn (h pos pins s σ H _ I hq) fun us s1 ⟨xs,H1,I1,r,z,q⟩=>⟨by rw [← r.length]; exact z,?_⟩)
 have hf:H1 s1.heap.objs.size=none:=I1.hok.fresh (Nat.le_refl _)
 refine ⟨.ref s1.heap.objs.size,upd H1 s1.heap.objs.size (.lst xs),I1.laid (t':=s1.toks) (fun b u e=>Heap.get?_push_of_some _ e) (Nat.le_refl _) ?_,rfl,q _ hf⟩
 exact ⟨z,us,0,r,Heap.get?_push_size _ rfl⟩
end
abbrev Sp:=List V→Hp→VK→XK→Prop
abbrev CXT:=List Env→Hp→Shared→XK→Value→Shared→Prop
structure qh (P:Program) (w:World) (K:Frag) (mg:Str→Option Value) (base:Heap) (A:Around) (outer:List Env) (s:Shared) (H:Hp):Prop where
 frames:A.frames=some outer
 mod:Mod K mg base
 bs:∀ b o,base.get? b=some o→s.heap.get? b=some o∧H b=none
 bsz:base.objs.size≤s.heap.objs.size
 funs:s.heap.FunFrames base outer
 frf:∀ b∈frs outer,H b=none
 hok:HOk P w H s.heap
 bare:AllBare s.gens
def CE (outer:List Env) (P:Program) (w:World) (H:Hp) (s:Shared) (Q:VK) (u:Value) (s':Shared):Prop :=
 ∃ v H',s'.os=s.os∧AllBare s'.gens∧Un (frs outer) [] H H' s.heap s'.heap∧HOk P w H' s'.heap∧aJ v u∧Q v H'
def CR (CX:CXT) (outer:List Env) (P:Program) (w:World) (H:Hp) (s:Shared) (Q:VK) (E:XK) (r:Result) (s':Shared):Prop :=
 match r with
 | .ok (.ret u)=>CE outer P w H s Q u s'
 | .ok _=>False
 | .error e=>CX outer H s E e s'
structure bg (P:Program) (w:World) (K:Frag) (mg:Str→Option Value) (base:Heap) (CX:CXT) (k:Nat) (f:Addr) (fd:FuncData) (ps:List Str) (sp:Sp):Prop where
 len:∀ vs H Q E,sp vs H Q E→vs.length=ps.length
 run:∀ (A:Around) (outer:List Env) (s:Shared) (H:Hp) (args:Args) (us:List Value) (vs:List V) (Q:VK) (E:XK),bW k A→qh P w K mg base A outer s H→BindsTo s fd args (ps.zip us)→aD vs us→sp vs H Q E →
  codeAny (model P w) A (.call (.ref f) args) (CR CX outer P w H s Q E) s
theorem qh.make {P:Program} {w:World} {K:Frag} {mg:Str→Option Value} {base:Heap} {A:Around} {outer:List Env} {s:Shared} {H:Hp} (e:qh P w K mg base A outer s H) (C:Addr) (us:List Value) (kw:List (Str×Value)) :
  qh P w K mg base (A.under (.builtin "type.__call__" ⟨.ref C::us,kw⟩)) outer s H:=⟨by first | exact e.frames | (simpa [Around.under,Code.envs,Code.isFrame,pushEnvs] using e.frames),e.mod,e.bs,e.bsz,e.funs,e.frf,e.hok,e.bare⟩
section
variable {X:Cx} {pins:List (Addr×Obj)} {σ:St} {H:Hp} {s s':Shared}
theorem Inv.env0 (I:Inv X pins σ H s):qh X.prog X.w X.K X.mg X.base X.A X.stack s H :=
 ⟨I.ok.frames,I.ok.mod,I.bs,Nat.le_trans I.ok.bsz I.sz,I.stack,I.stkFree,I.hok,I.bare⟩
theorem Inv.after {Q:VK} {u:Value} (I:Inv X pins σ H s) (h:CE X.stack X.prog X.w H s Q u s'):EP X pins σ Q u s':=by
 obtain ⟨v,H',os,bare,un,hok,r,q⟩:=h
 obtain ⟨hh,g,d,t,os'⟩:=s'
 obtain rfl:os'=s.os:=os
 exact ⟨v,H',I.call (h':=hh) (g':=g) (d':=d) (t':=t) (ch:=[]) un hok bare (fun b z=>absurd z (by simp)),r,q⟩
end
def yJ (sp:Sp) (dvs:List V) (E:XK) (t:TA):TE:=fun σ H Q=>t σ H fun vs H1=>sp (vs++dvs) H1 Q E
def xo (C:Addr) (m:Str) (sp:Sp) (dvs:List V) (E:XK) (ta:TE) (t:TA):TE:=fun σ H Q=>ta σ H fun x H1=>∃ a dx fs,x=.ref a∧H1 a=some (.ins C dx fs)∧fs.lookup m=none ∧
 t σ H1 fun vs H2=>sp (x::(vs++dvs)) H2 Q E
def yT (C:Addr) (sp:Sp) (dvs:List V) (E:XK) (t:TA):TE:=fun σ H Q=>t σ H fun vs H1=>∀ x dx,H1 x=none→H1 dx=none→dx≠x →
 sp (.ref x::(vs++dvs)) (upd (upd H1 dx (.own x)) x (.ins C dx [])) (fun v H2=>v=.non∧Q (.ref x) H2) E
def bZ (K:Frag) (fd:FuncData) (ps:List Str) (ds:List Value):Prop :=
 ∀ (s:Shared) (us:List Value),K.In s.heap→(us++ds).length=ps.length→BindsTo s fd ⟨us,[]⟩ (ps.zip (us++ds))
theorem bZ.all {K:Frag} {fd:FuncData} {ps:List Str} (h:∀ us:List Value,us.length=ps.length→bindArgs fd ⟨us,[]⟩=pure (ps.zip us)):bZ K fd ps []:=fun s us _ hl=>by
 rw [List.append_nil] at hl ⊢
 exact .of_eq (h us hl)
def eh (CX:CXT) (X:Cx) (E:XK):Prop:=∀ (pins:List (Addr×Obj)) (σ:St) (H:Hp) (s:Shared) (e:Value) (s':Shared),Inv X pins σ H s→CX X.stack H s E e s'→X.xe e s'
section
variable {X:Cx} {CX:CXT} {k:Nat} {f C:Addr} {fd:FuncData} {ps:List Str} {sp:Sp} {dvs:List V} {ds:List Value} {E:XK} {x m:Str} {p pos apos:Pos} {e o:Expr} {es:List Expr} {ta:TE} {t:TA}
theorem qX {pins:List (Addr×Obj)} {σ:St} {H:Hp} {s:Shared} {Q:VK} {us:List Value} {vs:List V} (F:bg X.prog X.w X.K X.mg X.base CX k f fd ps sp) (hr:bW k X.A) (hb:bZ X.K fd ps ds) (hd:aD dvs ds) (hx:eh CX X E)
  (I:Inv X pins σ H s) (r:aD vs us) (h:sp (vs++dvs) H Q E):wpAny (model X.prog X.w) X.A (call (.ref f) us) (EP X pins σ Q) X.xe s:=by
 have r2:aD (vs++dvs) (us++ds):=r.append hd
 have hl:(us++ds).length=ps.length:=by rw [← r2.length]; exact F.len _ _ _ _ h
 refine wpAny_call (codeAny_mono (F.run X.A X.stack s H ⟨us,[]⟩ (us++ds) (vs++dvs) Q E hr I.env0 (hb s us I.kIn hl) r2 h) fun r s' hq=>?_)
 cases r with
 | error e=>exact hx pins σ H s e s' I hq
 | ok fl =>
  cases fl with
  | ret u=>exact I.after hq
  | next=>exact False.elim hq
  | brk=>exact False.elim hq
  | cont=>exact False.elim hq
theorem aB (F:bg X.prog X.w X.K X.mg X.base CX k f fd ps sp) (hr:bW k X.A) (hg:Gl X x) (hm:X.mg x=some (.ref f)) (hk:keepIn X.K (.ref f)=true) (hb:bZ X.K fd ps ds) (hd:aD dvs ds) (hx:eh CX X E)
  (ha:PA X (e::es) t) (hdb:(x==("__debug__":Str))=false:=by decide) (he:starEach (e::es) X.env=(false,eval e X.env)::starEach es X.env:=by exact ab rfl) (hpl:(backTo pos (starEach es X.env)).any (·.1)=false:=by exact am rfl) :
  PE X (.Call (.Name x p) (e::es) [] pos) (yJ sp dvs E t):=by
 intro pins s σ H Q I h
 refine wpAny_Call_Name_kw (nv I hg hm ?_ hdb)
 refine PySem.W.callWith_K (h₀:=X.base) I.ok.mod.kin hk (thn (ha pos pins s σ H _ I h) fun us s1 ⟨vs,H1,I1,r,q⟩=>⟨I1.kIn,?_⟩) he hpl
 exact qX F hr hb hd hx I1 r q
theorem cx {pl:Sem Bool} (he:PE X o ta) (c:Cls X.K C) (hm:sG X.K C m f) (F:bg X.prog X.w X.K X.mg X.base CX k f fd ps sp) (hr:bW k X.A) (hb:bZ X.K fd ps ds) (hd:aD dvs ds) (hx:eh CX X E) (ha:PA X (e::es) t)
  (hst:starEach (e::es) X.env=(false,eval e X.env)::starEach es X.env:=by exact ab rfl) (hpl:(backTo pos (starEach es X.env)).any (·.1)=false:=by exact am rfl)
  (ht:eval (.Call (.Attribute o m apos) (e::es) [] pos) X.env=(do
   let ov ← eval o X.env
   standAt apos.atName
   let (f,first) ← holding [ov] (getMethod ov m pl)
   callWith pos f first (backTo pos (starEach (e::es) X.env)) (backToKw pos (keywordEach [] X.env))):=by rfl) :
  PE X (.Call (.Attribute o m apos) (e::es) [] pos) (xo C m sp dvs E ta t):=by
 intro pins s σ H Q I h
 refine PySem.W.methodCall_KW (pl:=pl) (thn (he pins s σ H _ I h) fun u s1 ⟨x,H1,I1,rx,a,dx,fs,ex,ea,l,q⟩=>?_) ht
 subst ex
 obtain rfl:u=Value.ref a:=rx
 refine jX I1 ea c hm l ?_
 refine PySem.W.callWith_K (first:=[.ref a]) (h₀:=X.base) I.ok.mod.kin hm.kp (thn (ha pos pins s1 σ H1 _ I1 q) fun us s2 ⟨vs,H2,I2,r,q2⟩=>⟨I2.kIn,?_⟩) hst hpl
 exact qX (us:=.ref a::us) (vs:=.ref a::vs) F hr hb hd hx I2 (.cons rfl r) q2
theorem vR {pl:Sem Bool} (he:PE X o ta) (c:Cls X.K C) (hm:sG X.K C m f) (F:bg X.prog X.w X.K X.mg X.base CX k f fd ps sp) (hr:bW k X.A) (hb:bZ X.K fd ps ds) (hd:aD dvs ds) (hx:eh CX X E)
  (ht:eval (.Call (.Attribute o m apos) [] [] pos) X.env=(do
   let ov ← eval o X.env
   standAt apos.atName
   let (f,first) ← holding [ov] (getMethod ov m pl)
   callWith pos f first (backTo pos (starEach [] X.env)) (backToKw pos (keywordEach [] X.env))):=by rfl) :
  PE X (.Call (.Attribute o m apos) [] [] pos) (xo C m sp dvs E ta zV):=by
 intro pins s σ H Q I h
 refine PySem.W.methodCall_KW (pl:=pl) (thn (he pins s σ H _ I h) fun u s1 ⟨x,H1,I1,rx,a,dx,fs,ex,ea,l,q⟩=>?_) ht
 subst ex
 obtain rfl:u=Value.ref a:=rx
 refine jX I1 ea c hm l ?_
 exact PySem.W.callWith_K0 (first:=[.ref a]) I1.kIn hm.kp (qX (us:=[.ref a]) (vs:=[.ref a]) F hr hb hd hx I1 (.cons rfl .nil) q)
structure Mk (K:Frag) (C f:Addr):Prop where
 makes:PySem.W.makesIn K C=true
 init:PySem.W.findIn K (.ref C) "__init__"=some (some (.ref f))
 fn:PySem.W.isFn K (.ref f)=true
 kp:keepIn K (.ref C)=true
theorem um {pins:List (Addr×Obj)} {σ:St} {H:Hp} {s:Shared} {Q:VK} {us:List Value} {vs:List V} (M:Mk X.K C f) (F:bg X.prog X.w X.K X.mg X.base CX k f fd ps sp) (hr:bW (k+1) X.A) (hb:bZ X.K fd ps ds) (hd:aD dvs ds)
  (hx:eh CX X E) (I:Inv X pins σ H s) (r:aD vs us)
  (h:∀ x dx,H x=none→H dx=none→dx≠x→sp (.ref x::(vs++dvs)) (upd (upd H dx (.own x)) x (.ins C dx [])) (fun v H2=>v=.non∧Q (.ref x) H2) E) :
  wpAny (model X.prog X.w) X.A (call (.ref C) us) (EP X pins σ Q) X.xe s:=by
 have hq:=h (s.heap.objs.size+1) s.heap.objs.size (I.hok.fresh (Nat.le_succ _)) (I.hok.fresh (Nat.le_refl _)) (Nat.ne_of_lt (Nat.lt_succ_self _))
 have I2:=Inv.made (C:=C) I
 have r2:aD (V.ref (s.heap.objs.size+1)::(vs++dvs)) (Value.ref (s.heap.objs.size+1)::(us++ds)):=.cons rfl (r.append hd)
 have hl:(Value.ref (s.heap.objs.size+1)::us++ds).length=ps.length:=by
  have e:=r2.length
  rw [F.len _ _ _ _ hq] at e
  exact e.symm
 refine wpAny_call (vz (f:=f) I.kIn M.makes M.init (beq_iff_eq.mp M.fn) (codeAny_mono (F.run _ X.stack _ _ ⟨Value.ref (s.heap.objs.size+1)::us,[]⟩ (Value.ref (s.heap.objs.size+1)::(us++ds)) _ _ E (hr.make C us [])
  (I2.env0.make C us []) (hb _ (Value.ref (s.heap.objs.size+1)::us) I2.kIn hl) r2 hq) fun r s' hq'=>?_))
 cases r with
 | error e=>exact hx pins σ _ _ e s' I2 hq'
 | ok fl =>
  cases fl with
  | ret u =>
   obtain ⟨v,H',I3,rv,ev,q3⟩:=I2.after hq'
   subst ev
   exact ⟨rv,⟨V.ref (s.heap.objs.size+1),H',I3,rfl,q3⟩⟩
  | next=>exact False.elim hq'
  | brk=>exact False.elim hq'
  | cont=>exact False.elim hq'
theorem mQ (M:Mk X.K C f) (F:bg X.prog X.w X.K X.mg X.base CX k f fd ps sp) (hr:bW (k+1) X.A) (hg:Gl X x) (hm:X.mg x=some (.ref C)) (hb:bZ X.K fd ps ds) (hd:aD dvs ds) (hx:eh CX X E)
  (ha:PA X (e::es) t) (hdb:(x==("__debug__":Str))=false:=by decide) (he:starEach (e::es) X.env=(false,eval e X.env)::starEach es X.env:=by exact ab rfl) (hpl:(backTo pos (starEach es X.env)).any (·.1)=false:=by exact am rfl) :
  PE X (.Call (.Name x p) (e::es) [] pos) (yT C sp dvs E t):=by
 intro pins s σ H Q I h
 refine wpAny_Call_Name_kw (nv I hg hm ?_ hdb)
 refine PySem.W.callWith_K (h₀:=X.base) I.ok.mod.kin M.kp (thn (ha pos pins s σ H _ I h) fun us s1 ⟨vs,H1,I1,r,q⟩=>⟨I1.kIn,?_⟩) he hpl
 exact um M F hr hb hd hx I1 r q
end
section
variable {X:Cx} {CX:CXT} {k:Nat} {f C:Addr} {fd:FuncData} {ps ks:List Str} {sp:Sp} {E:XK} {x m:Str} {p pos apos kpos:Pos} {e o:Expr} {es:List Expr} {kws:List Keyword} {te ta:TE} {t tk:TA} {nm:Option Str}
structure Ax (K:Frag) (fd:FuncData) (ps ks:List Str) (g:List Value→List Value→List Value) (gV:List V→List V→List V):Prop where
 to:∀ (s:Shared) (us ws:List Value),K.In s.heap→(g us ws).length=ps.length→BindsTo s fd ⟨us,ks.zip ws⟩ (ps.zip (g us ws))
 rel:∀ {vs:List V} {us:List Value} {zs:List V} {ws:List Value},aD vs us→aD zs ws→aD (gV vs zs) (g us ws)
variable {g:List Value→List Value→List Value} {gV:List V→List V→List V}
end
structure aF (N P:List Str) (sc:Scope):Prop where
 kind:sc.kind=.function
 co:sc.isCoroutine=false
 gen:sc.isGenerator=false
 nd:N.Nodup
 pre:N.take P.length=P
 par:∀ x∈P,sc.names.lookup x=some .local∨sc.names.lookup x=some .cell
 nofree:∀ y∈sc.names,y.2≠.free
theorem kA {kindOf:Str→Option NameKind} {x:Str}:∀ {binds:List (Str×Value)} {m:Str→Option Value},(∀ v,(x,v)∉binds)→bindL kindOf binds m x=m x
 | [],_,_=>rfl
 | (n,v)::r,m,h=>by
  unfold bindL
  rw [kA fun w hw=>h w (List.mem_cons_of_mem _ hw)]
  split
  ·have:x≠n:=by rintro rfl; exact h v List.mem_cons_self
   simp [this]
  ·rfl
theorem kH {kindOf:Str→Option NameKind} {x:Str}:∀ {binds:List (Str×Value)} {m:Str→Option Value},(∀ v,(x,v)∉binds)→bindC kindOf binds m x=m x
 | [],_,_=>rfl
 | (n,v)::r,m,h=>by
  unfold bindC
  rw [kH fun w hw=>h w (List.mem_cons_of_mem _ hw)]
  split
  ·rfl
  ·have:x≠n:=by rintro rfl; exact h v List.mem_cons_self
   simp [this]
theorem kF {kindOf:Str→Option NameKind} {x:Str} {v:Value}:∀ {P:List Str} {vs:List Value} {i:Nat} {m:Str→Option Value},P.Nodup→P[i]?=some x→vs[i]?=some v→kindOf x=some .local →
  bindL kindOf (P.zip vs) m x=some v
 | [],_,_,_,_,h,_,_=>by simp at h
 | _::_,[],_,_,_,_,h,_=>by simp at h
 | p::P,w::vs,0,m,nd,h1,h2,hk=>by
  simp at h1 h2; subst h1; subst h2
  show bindL kindOf ((p,w)::P.zip vs) m p=_
  unfold bindL
  rw [kA fun v hv=>(List.nodup_cons.mp nd).1 (List.of_mem_zip hv).1,if_pos hk]
  simp
 | p::P,w::vs,i+1,m,nd,h1,h2,hk=>by
  show bindL kindOf ((p,w)::P.zip vs) m x=_
  unfold bindL
  exact kF (i:=i) (List.nodup_cons.mp nd).2 (by simpa using h1) (by simpa using h2) hk
theorem kX {kindOf:Str→Option NameKind} {x:Str} {v:Value}:∀ {P:List Str} {vs:List Value} {i:Nat} {m:Str→Option Value},P.Nodup→P[i]?=some x→vs[i]?=some v→kindOf x≠some .local →
  bindC kindOf (P.zip vs) m x=some v
 | [],_,_,_,_,h,_,_=>by simp at h
 | _::_,[],_,_,_,_,h,_=>by simp at h
 | p::P,w::vs,0,m,nd,h1,h2,hk=>by
  simp at h1 h2; subst h1; subst h2
  show bindC kindOf ((p,w)::P.zip vs) m p=_
  unfold bindC
  rw [kH fun v hv=>(List.nodup_cons.mp nd).1 (List.of_mem_zip hv).1,if_neg hk]
  simp
 | p::P,w::vs,i+1,m,nd,h1,h2,hk=>by
  show bindC kindOf ((p,w)::P.zip vs) m x=_
  unfold bindC
  exact kX (i:=i) (List.nodup_cons.mp nd).2 (by simpa using h1) (by simpa using h2) hk
def gP (N:List Str) (vs:List V):St:=vs.map some++List.replicate (N.length - vs.length) none
def sO (CX:CXT) (P:Program) (w:World) (K:Frag) (mg:Str→Option Value) (base:Heap) (N:List Str) (qual:Str) (scope:Scope) (f:Addr) (cd:Value) (A:Around) (outer:List Env) (s:Shared) (H:Hp) (E:XK):Cx where
 prog:=P
 w:=w
 K:=K
 mg:=mg
 base:=base
 A:=A.deeper (envOfC qual scope s.heap.objs.size f cd)
 N:=N
 s₀:=s
 H₀:=H
 env:=envOfC qual scope s.heap.objs.size f cd
 outer:=outer
 stack:=envOfC qual scope s.heap.objs.size f cd::outer
 ex:=[]
 calm:=true
 fn:=fun _=>true
 pn:=[]
 xe:=fun e s'=>wpAny (model P w) (A.deeper (envOfC qual scope s.heap.objs.size f cd)) (leaving (envOfC qual scope s.heap.objs.size f cd) e) (fun _ s''=>CX outer H s E e s'') (fun e' s''=>CX outer H s E e' s'') s'
theorem nI {sc:Scope} {n:Nat} {x:Str} (h:sc.names.lookup x=some .cell):∃ c,(cellsFrom n sc.names []).lookup x=some c:=by
 have q:=PySem.W.cellsFrom_some sc.names n [] (.inl h)
 exact Option.isSome_iff_exists.mp q
theorem sv {CX:CXT} {P:Program} {w:World} {K:Frag} {mg:Str→Option Value} {base:Heap} {N ps:List Str} {qual:Str} {scope:Scope} {f:Addr} {cd:Value} {A:Around} {outer:List Env} {s s1:Shared} {H:Hp} {E:XK} {us:List Value} {vs:List V}
  (S:aF N ps scope) (hd:A.handled=none) (e0:qh P w K mg base A outer s H) (hl:vs.length=ps.length) (r:aD vs us)
  (x:InCallC s s.heap.objs.size (bindL (envOfC qual scope s.heap.objs.size f cd).kindOf (ps.zip us) fun _=>none) (cellsFrom (s.heap.objs.size+1) scope.names []) (bindC (envOfC qual scope s.heap.objs.size f cd).kindOf (ps.zip us) fun _=>none) s1) :
  Inv (sO CX P w K mg base N qual scope f cd A outer s H E) [] (gP N vs) H s1:=by
 have hpl:ps.length≤N.length:=by have:=congrArg List.length S.pre; rw [List.length_take] at this; omega
 obtain ⟨h1,tk,rfl,hk⟩:=x.done
 have noA:∀ b:Addr,b∉(sO CX P w K mg base N qual scope f cd A outer s H E).ex:=fun b z=>absurd (show b∈([]:List Addr) from z) (by simp)
 refine ⟨⟨e0.mod,S.kind,rfl,rfl,Nat.le_refl _,fun y z c h1 h2=>?_,fun y hy=>?_,fun y c _ h=>?_,fun _=>hd,Around.frames_deeper e0.frames,.inr ⟨rfl,rfl⟩,fun b z=>absurd z (noA b),e0.bs,e0.bsz,fun b _ _=>noA b,fun b z=>absurd z (noA b),e0.funs,e0.frf⟩,
  rfl,e0.bare,Un.kept hk,⟨_,x.toInCall.ns,fun i y v h1 h2 h3=>?_⟩,fun y c h=>⟨_,x.cell y c h⟩,e0.hok.fresh (Nat.le_refl _),fun y c h=>?_,fun p hp=>absurd (show p∈([]:List (Addr×Obj)) from hp) (by simp),e0.hok.kept hk,?_⟩
 ·exact name_of_addr x.apart (PySem.mem_of_lookup h1) (PySem.mem_of_lookup h2)
 ·have hy:scope.names.lookup y=some .cell∨scope.names.lookup y=some .free:=hy
  rcases hy with hy | hy
  ·exact nI hy
  ·exact absurd rfl (S.nofree _ (PySem.mem_of_lookup hy))
 ·exact Nat.le_of_lt (x.above y c (PySem.mem_of_lookup h))
 ·have hi:i<vs.length:=by
   unfold gP at h2
   by_cases hi:i<vs.length
   ·exact hi
   ·rw [List.getElem?_append_right (by simpa using hi)] at h2
    rw [List.getElem?_replicate] at h2
    split at h2<;>cases h2
  have ha:vs[i]?=some v:=by
   unfold gP at h2
   rw [List.getElem?_append_left (by simpa using hi),List.getElem?_map] at h2
   cases e:vs[i]? with
   | none=>rw [e] at h2; cases h2
   | some a=>rw [e] at h2; cases h2; rfl
  obtain ⟨u,hu,rv⟩:=r.get ha
  have hp:ps[i]?=some y:=by
   rw [← S.pre,List.getElem?_take_of_lt (by omega)]; exact h1
  have ndP:ps.Nodup:=by rw [← S.pre]; exact S.nd.sublist (List.take_sublist _ _)
  refine ⟨u,rv,?_⟩
  rcases S.par y (List.mem_of_getElem? hp) with k | k
  ·exact .inl ⟨k,kF ndP hp hu k⟩
  ·obtain ⟨c,e⟩:=nI (n:=s.heap.objs.size+1) k
   refine .inr ⟨.inl k,c,e,?_⟩
   have q:=x.cell y c e
   rw [kX ndP hp hu (by show scope.names.lookup y≠_; rw [k]; decide)] at q
   exact q
 ·exact e0.hok.fresh (Nat.le_of_lt (x.above y c (PySem.mem_of_lookup h)))
 ·unfold gP
  show _=N.length
  rw [List.length_append,List.length_map,List.length_replicate]
  omega
theorem yR {CX:CXT} {P:Program} {w:World} {K:Frag} {mg:Str→Option Value} {base:Heap} {k:Nat} {f:Addr} {name qual:Str} {params:Arguments} {body:List Stmt} {scope:Scope} {dV kV doc pm cdv ct oc:Value} {an od:Option Addr}
  {osl:Array (Option Value)} {N ps:List Str} {sp:Sp} (lk:K.lookup f=some ⟨oc,od,.func (PySem.W.fnOf name qual params body scope dV kV doc pm an cdv ct),osl⟩) (hcd:PySem.W.codeIn K cdv qual=true) (S:aF N ps scope)
  (len:∀ vs H Q E,sp vs H Q E→vs.length=ps.length)
  (hbody:∀ (A:Around) (outer:List Env) (s:Shared) (H:Hp) (vs:List V) (Q:VK) (E:XK),bW k (A.deeper (envOfC qual scope s.heap.objs.size f cdv))→sp vs H Q E →
   ∃ t,PSs (sO CX P w K mg base N qual scope f cdv A outer s H E) body t∧t { nx:=fun _ H'=>Q .non H',rt:=Q } (gP N vs) H) :
  bg P w K mg base CX (k+1) f (PySem.W.fnOf name qual params body scope dV kV doc pm an cdv ct) ps sp:=by
 refine ⟨len,fun A outer s H args us vs Q E hr e0 hb r hsp=>?_⟩
 have hl:=len _ _ _ _ hsp
 have KX:K.In s.heap:=e0.mod.kin.keeps fun b o e=>(e0.bs b o e).1
 have lim:s.heap.NoLimit:=e0.mod.nolimit.keeps fun b o e=>(e0.bs b o e).1
 have hkind:∀ y∈ps.zip us,scope.names.lookup y.1=some .local∨(scope.names.lookup y.1=some .cell∧((cellsFrom (s.heap.objs.size+1) scope.names []).lookup y.1).isSome=true):=fun ⟨n,v⟩ hy=>by
  rcases S.par n (List.of_mem_zip hy).1 with q | q
  ·exact .inl q
  ·exact .inr ⟨q,PySem.W.cellsFrom_some _ _ _ (.inl q)⟩
 refine codeAny_call_function hr.depth (KX _ _ lk) rfl S.co S.gen rfl (PySem.W.codeRec_of KX hcd) (hb _ _ _ _ ?_)
 refine wpAny_newFunctionEnv_cells S.kind hkind fun env he s1 x=>?_
 subst he
 refine ⟨lim.keeps x.toInCall.keep,codeAny_func ?_⟩
 obtain ⟨t,ht,hq⟩:=hbody A outer s H vs Q E (hr.deeper _) hsp
 have I:Inv (sO CX P w K mg base N qual scope f cdv A outer s H E) [] (gP N vs) H s1:=sv S hr.hd e0 hl r x
 refine wpAny_mono (ht [] s1 (gP N vs) H _ I hq) (fun fl s' hs=>?_) fun e s' hs=>hs
 have fin:∀ {σ':St} {H':Hp} {v:V} {u:Value},Inv (sO CX P w K mg base N qual scope f cdv A outer s H E) [] σ' H' s'→aJ v u→Q v H'→CE outer P w H s Q u s' :=
  fun {σ' H' v u} J rv q=>⟨v,H',J.os,J.bare,J.base,J.hok,rv,q⟩
 cases fl with
 | ret u =>
  obtain ⟨v,σ',H',J,rv,q⟩:=hs
  exact fin J rv q
 | next =>
  obtain ⟨σ',H',J,q⟩:=hs
  exact fin (v:=V.non) (u:=Value.none) J rfl q
 | brk =>
  obtain ⟨_,_,_,q⟩:=hs
  exact False.elim q
 | cont =>
  obtain ⟨_,_,_,q⟩:=hs
  exact False.elim q
open PySem PySem.Spec PyProof.Rows
section
variable {X:Cx} {x:Str} {p pos:Pos} {e:Expr} {es:List Expr} {t:TA} {id T:String} {r:List V→Hp→VK→Prop}
def tCB (r:List V→Hp→VK→Prop) (t:TA):TE:=fun σ H Q=>t σ H fun vs H1=>r vs H1 Q
theorem br (hc:dE X (.builtin id) r) (hg:Gl X x) (hm:X.mg x=none) (hv:bootBuiltins x=some (.builtin id)) (ha:PA X (e::es) t) (hn:x ≠ "__name__":=by decide) (hdb:(x==("__debug__":Str))=false:=by decide)
  (he:starEach (e::es) X.env=(false,eval e X.env)::starEach es X.env:=by exact ab rfl) (hpl:(backTo pos (starEach es X.env)).any (·.1)=false:=by exact am rfl):PE X (.Call (.Name x p) (e::es) [] pos) (tCB r t):=by
 intro pins s σ H Q I h
 refine wpAny_Call_Name_kw (eu I hg hm hv ?_ hn hdb)
 exact PyProof.Rows.callWith_builtin1 (thn (ha pos pins s σ H _ I h) fun us s1 ⟨vs,H1,I1,r1,q1⟩=>hc pins s1 σ H1 vs us Q I1 r1 q1) he hpl
theorem dJ (hc:dE X (.type T) r) (hg:Gl X x) (hm:X.mg x=none) (hv:bootBuiltins x=some (.type T)) (ha:PA X (e::es) t) (hn:x ≠ "__name__":=by decide) (hdb:(x==("__debug__":Str))=false:=by decide)
  (he:starEach (e::es) X.env=(false,eval e X.env)::starEach es X.env:=by exact ab rfl) (hpl:(backTo pos (starEach es X.env)).any (·.1)=false:=by exact am rfl):PE X (.Call (.Name x p) (e::es) [] pos) (tCB r t):=by
 intro pins s σ H Q I h
 refine wpAny_Call_Name_kw (eu I hg hm hv ?_ hn hdb)
 exact PyProof.Rows.callWith_type1 (thn (ha pos pins s σ H _ I h) fun us s1 ⟨vs,H1,I1,r1,q1⟩=>hc pins s1 σ H1 vs us Q I1 r1 q1) he hpl
end
end L2
namespace HT
open PySem PyProof.Rows
section
open PySem.SeqAt
open PySem.AutoSeq1 (wpAny_loadPart')
open PySem.MeetsSeq PySem.MeetsSeq2 PySem.MeetsSeq3
end
section
variable {prog:Program} {w:World} {A:Around} {E:Value→Shared→Prop} {s:Shared}
theorem cat_tup {t b:Addr} {vs ws:List Value} {Q:Value→Shared→Prop} (ht:IsTup s.heap t vs.toArray) (hb:IsTup s.heap b ws.toArray) (hv:vs≠[])
  (h1:ws=[]→Q (.ref t) s) (h2:ws≠[]→Q (.ref s.heap.objs.size) { s with heap:=s.heap.push { cls:=.type "tuple",data:=.seq (vs++ws).toArray } })
  (hsz:vs.length+ws.length≤sizeLine):wpAny (model prog w) A (binaryOp .Add (.ref t) (.ref b)) Q E s:=by
 obtain ⟨⟨cls,dd,data,sl⟩,ho,hc,n,hd⟩:=id ht
 obtain ⟨⟨cls2,dd2,data2,sl2⟩,ho2,hc2,n2,hd2⟩:=id hb
 simp only at hc hd hc2 hd2
 subst hc hd hc2 hd2
 have e:vs.toArray++ws.toArray=(vs++ws).toArray:=by simp
 by_cases hw:ws=[]
 ·exact concat_meets ⟨_,ho,rfl⟩ ⟨_,ho2,rfl⟩ noFill_tuple_add seq_tuple_add PySem.F.slot_tuple_add PySem.F.entry_tuple_add (PySem.F.args_tuple_add_2 _ _)
   (tuple_addW1 t b vs.toArray ws.toArray n n2 dd dd2 sl sl2 (by simpa using hv) (by simp [hw])) ⟨ho,ho2,h1 hw⟩
 ·refine concat_meets ⟨_,ho,rfl⟩ ⟨_,ho2,rfl⟩ noFill_tuple_add seq_tuple_add PySem.F.slot_tuple_add PySem.F.entry_tuple_add (PySem.F.args_tuple_add_2 _ _)
   (tuple_addW2 t b vs.toArray ws.toArray n n2 dd dd2 sl sl2 (by simpa using hv) (by simpa using hw) (by rw [List.size_toArray,List.size_toArray]; exact hsz)) ⟨ho,ho2,?_⟩
  rw [e]
  exact h2 hw
def sIx (n d:Nat):Option Int→Nat
 | none=>d
 | some v=>if v<0 then (v+(n:Int)).toNat else min v.toNat n
theorem sIx_none (n d:Nat):sIx n d none=d:=rfl
theorem sIx_nat (n d k:Nat):sIx n d (some (k:Int))=min k n:=by
 show (if (k:Int)<0 then ((k:Int)+(n:Int)).toNat else min (k:Int).toNat n)=min k n
 rw [if_neg (by omega),Int.toNat_natCast]
end
end HT
namespace L2
open PySem PySem.Spec PyProof.Rows
abbrev TO:=St→Hp→(Option Int→Hp→Prop)→Prop
def PO (X:Cx) (e:Option Expr) (t:TO):Prop :=
 ∀ (pins:List (Addr×Obj)) (s:Shared) (σ:St) (H:Hp) (Q:Option Int→Hp→Prop),Inv X pins σ H s→t σ H Q →
  wpAny (model X.prog X.w) X.A (evalPart e X.env) (fun u s'=>∃ o H',Inv X pins σ H' s'∧IsPart u o∧Q o H') X.xe s
def wz:TO:=fun _ H Q=>Q none H
def yw (t:TE):TO:=fun σ H Q=>t σ H fun x H1=>∃ i,x=.int i∧Q (some i) H1
section
variable {X:Cx} {e:Expr} {te:TE} {lo hi:Option Expr} {tl th:TO} {pos p2:Pos}
theorem rA:PO X none wz:=by
 intro pins s σ H Q I h
 rw [evalPart_none]
 exact wpAny_pure ⟨none,H,I,.none,h⟩
theorem rk (h:PE X e te):PO X (some e) (yw te):=by
 intro pins s σ H Q I hw
 rw [evalPart_some]
 refine thn (h pins s σ H _ I hw) fun u s1 ⟨x,H1,I1,r1,q1⟩=>?_
 obtain ⟨i,rfl,q⟩:=q1
 obtain ⟨t,rfl⟩:=r1
 exact ⟨some i,H1,I1,.int i t,q⟩
def SlR (X:Cx) (r:V→Option Int→Option Int→Hp→VK→Prop):Prop :=
 ∀ (pins:List (Addr×Obj)) (s:Shared) (σ:St) (H:Hp) (x:V) (v vl vu:Value) (lo hi:Option Int) (sl:Addr) (Q:VK),Inv X pins σ H s→aJ x v→s.heap.IsSliceOf sl vl vu .none→IsPart vl lo→IsPart vu hi→r x lo hi H Q →
  ∃ T id,typeLookup (.type T) "__getitem__"=pure (some (.builtin id))∧s.TypeIs v T∧wpAny (model X.prog X.w) X.A (getItem v (.ref sl)) (EP X pins σ Q) X.xe s
def tSl (r:V→Option Int→Option Int→Hp→VK→Prop) (te:TE) (tl th:TO):TE:=fun σ H Q=>te σ H fun x H1=>tl σ H1 fun l H2=>th σ H2 fun u H3=>r x l u H3 Q
theorem oA {r:V→Option Int→Option Int→Hp→VK→Prop} (hr:SlR X r) (he:PE X e te) (hl:PO X lo tl) (hu:PO X hi th):PE X (.Subscript e (.Slice lo hi none p2) pos) (tSl r te tl th):=by
 intro pins s σ H Q I h
 refine Subscript_ (thn (he pins s σ H _ I h) fun v s1 ⟨x,H1,I1,r1,q1⟩=>?_)
 refine wpAny_Slice (thn (hl pins s1 σ H1 _ I1 q1) fun vl s2 ⟨l,H2,I2,pl,q2⟩=>thn (hu pins s2 σ H2 _ I2 q2) fun vu s3 ⟨u,H3,I3,pu,q3⟩=>?_)
 rw [evalPart_none]
 refine wpAny_pure ?_
 have I4:Inv X pins σ H3 { s3 with heap:=s3.heap.push { cls:=.type "slice",data:=.fields #[vl,vu,.none] } }:=I3.kept (t':=s3.toks) fun b ob q=>Heap.get?_push_of_some _ q
 obtain ⟨T,id,hT,ht,hg⟩:=hr pins { s3 with heap:=s3.heap.push { cls:=.type "slice",data:=.fields #[vl,vu,.none] } } σ H3 x v vl vu l u s3.heap.objs.size Q I4 r1 (Heap.IsSliceOf.new ..) pl pu q3
 show wpAny (model X.prog X.w) X.A (subscriptTail e (.Slice lo hi none p2) v (.ref s3.heap.objs.size)) (EP X pins σ Q) X.xe { s3 with heap:=s3.heap.push { cls:=.type "slice",data:=.fields #[vl,vu,.none] } }
 exact tail_any (ops:=[.ref s3.heap.objs.size,v]) ht hT hg (by with_unfolding_all rfl)
def ik (xs:List V) (lo hi:Option Int):List V:=(xs.drop (HT.sIx xs.length 0 lo)).take (HT.sIx xs.length xs.length hi - HT.sIx xs.length 0 lo)
theorem oB (xs:List V) (lo hi:Option Int):(ik xs lo hi).length≤xs.length:=by
 unfold ik
 rw [List.length_take,List.length_drop]
 omega
def xh (K:Frag):R2:=fun x y H Q=>∃ a b xs ys,x=.ref a∧y=.ref b∧SqT K H a xs∧SqT K H b ys∧xs≠[]∧xs.length+ys.length≤sizeLine ∧
 (ys=[]→Q (.ref a) H)∧(ys≠[]→∀ p,H p=none→Q (.ref p) (upd H p (.tup (xs++ys))))
theorem aD.nil_iff {xs:List V} {us:List Value} (r:aD xs us):us=[]↔xs=[]:=by
 cases r with
 | nil=>simp
 | cons _ _=>simp
theorem wA:OpR X (binaryOp .Add) (xh X.K):=by
 intro pins s σ H x y v u Q I rx ry h
 obtain ⟨a,b,xs,ys,rfl,rfl,ha,hb,hx,hz,q1,q2⟩:=h
 cases rx
 cases ry
 obtain ⟨its,r1,p1,_⟩:=I.tuple ha
 obtain ⟨its2,r2,p2,_⟩:=I.tuple hb
 refine HT.cat_tup p1 p2 (fun z=>hx (r1.nil_iff.mp z)) (fun z=>⟨.ref a,H,I,rfl,q1 (r2.nil_iff.mp z)⟩) (fun z=>?_) (by rw [← r1.length,← r2.length]; exact hz)
 refine ⟨.ref s.heap.objs.size,_,I.laid (t':=s.toks) (o:=.tup (xs++ys)) (fun b ob q=>Heap.get?_push_of_some _ q) (Nat.le_refl _) ?_,rfl,q2 (fun w=>z (r2.nil_iff.mpr w)) _ (I.hok.fresh (Nat.le_refl _))⟩
 exact ⟨by rw [List.length_append]; exact hz,_,r1.append r2,IsTup.new _ _,_,Heap.get?_push_size _ rfl,rfl⟩
end
open PySem PySem.Spec PyProof.Rows
def ixN (n:Nat) (i:Int):Option Nat:=if 0≤i then (if i<n then some i.toNat else none) else if -(n:Int)≤i then some (i+n).toNat else none
def atI {α:Type} (xs:List α) (i:Int):Option α:=(ixN xs.length i).bind fun j=>xs[j]?
theorem rG {n:Nat} {i:Int} {j:Nat} (h:ixN n i=some j):seqIndex? i n=some j∧j<n∧-(n:Int)≤i∧i<n:=by
 unfold ixN at h
 by_cases h0:0≤i
 ·rw [if_pos h0] at h
  by_cases h1:i<n
  ·rw [if_pos h1] at h
   have e:i.toNat=j:=Option.some.inj h
   exact ⟨by rw [seqIndex_of h0 h1,e],by omega,by omega,h1⟩
  ·rw [if_neg h1] at h; cases h
 ·rw [if_neg h0] at h
  by_cases h1:-(n:Int)≤i
  ·rw [if_pos h1] at h
   have e:(i+n).toNat=j:=Option.some.inj h
   exact ⟨by rw [seqIndex_neg (by omega) h1,e],by omega,h1,by omega⟩
  ·rw [if_neg h1] at h; cases h
theorem rR {α:Type} {xs:List α} {i:Int} {v:α} (h:atI xs i=some v):∃ j,seqIndex? i xs.length=some j∧xs[j]?=some v∧j<xs.length∧-(xs.length:Int)≤i∧i<xs.length:=by
 unfold atI at h
 cases e:ixN xs.length i with
 | none=>rw [e] at h; cases h
 | some j =>
  rw [e] at h
  obtain ⟨h1,h2,h3,h4⟩:=rG e
  exact ⟨j,h1,h,h2,h3,h4⟩
theorem rY {α:Type} {xs:List α} {j:Nat} {v:α} (h:xs[j]?=some v):atI xs (j:Int)=some v:=by
 have hj:j<xs.length:=(List.getElem?_eq_some_iff.mp h).1
 have e:ixN xs.length (j:Int)=some j:=by
  unfold ixN
  rw [if_pos (by omega),if_pos (by omega)]; simp
 unfold atI; rw [e]; exact h
theorem nR {α:Type} (xs:List α) (v:α):atI (xs++[v]) (-1)=some v:=by
 have hl:(xs++[v]).length=xs.length+1:=by simp
 have e:ixN (xs++[v]).length (-1)=some xs.length:=by
  unfold ixN
  rw [hl,if_neg (by decide),if_pos (by omega)]
  congr 1
  omega
 unfold atI
 rw [e]
 show (xs++[v])[xs.length]?=some v
 simp
def wq (b:Expr):Prop:=∀ o i,subscripted b false o i=operate [o,i] (getItem o i)
def IxR (X:Cx) (r:R2):Prop :=
 ∀ (value slice:Expr) (pins:List (Addr×Obj)) (s:Shared) (σ:St) (H:Hp) (x y:V) (v u:Value) (Q:VK),Inv X pins σ H s→aJ x v→aJ y u→r x y H Q →
  subscripted slice false v u=operate [v,u] (getItem v u)→wpAny (model X.prog X.w) X.A (subscriptTail value slice v u) (EP X pins σ Q) X.xe s
def MtR (X:Cx) (id:String) (r:V→List V→Hp→VK→Prop):Prop :=
 ∀ (pins:List (Addr×Obj)) (s:Shared) (σ:St) (H:Hp) (x:V) (xs:List V) (v:Value) (us:List Value) (Q:VK),Inv X pins σ H s→aJ x v→aD xs us→r x xs H Q →
  wpAny (model X.prog X.w) X.A (call (.builtin id) (v::us)) (EP X pins σ Q) X.xe s
section
variable {X:Cx} {a b:Expr} {ta tb:TE} {pos:Pos}
theorem ay {r:R2} (hr:IxR X r) (ha:PE X a ta) (hb:PE X b tb) (hs:wq b):PE X (.Subscript a b pos) (tOp r ta tb):=by
 intro pins s σ H Q I h
 exact Subscript_ (yl ha hb I h fun v u s2 x y H2 I2 rx ry q=>hr a b pins s2 σ H2 x y v u Q I2 rx ry q (hs _ _))
def AJ (K:Frag):R2:=fun x y H Q=>∃ p xs i v,x=.ref p∧y=.int i∧SqL K H p xs∧atI xs i=some v∧Q v H
def Af (K:Frag):R2:=fun x y H Q=>∃ p xs i v,x=.ref p∧y=.int i∧SqT K H p xs∧atI xs i=some v∧Q v H
theorem aK:IxR X (AJ X.K):=by
 intro value slice pins s σ H x y v u Q I rx ry h hs
 obtain ⟨p,xs,i,z,rfl,rfl,hq,he,q⟩:=h
 cases rx
 obtain ⟨t,rfl⟩:=ry
 obtain ⟨its,r,pl,hz⟩:=I.list hq
 obtain ⟨j,h1,h2,h3,h4,h5⟩:=rR he
 obtain ⟨w,ew,rw'⟩:=r.get h2
 have hl:=r.length
 have hn:=ju
 have fin:EP X pins σ Q w s:=⟨z,H,I,rw',q⟩
 by_cases h0:0≤i
 ·have hj:i.toNat=j:=by
   rw [seqIndex_of h0 h5] at h1
   exact Option.some.inj h1
  exact item_listR pl.isList h0 (by omega) (by rw [hj]; simpa using ew) fin hs
 ·have hj:(i+(its.toArray.size:Int)).toNat=j:=by
   rw [seqIndex_neg (by omega) h4] at h1
   rw [List.size_toArray,← hl]
   exact Option.some.inj h1
  exact subscriptTail_builtinR (x:=w) pl.isList.typeIs slot_list_getitem.lookup
   (wpAny_getItem_list_neg (Q:=fun r s'=>r=w∧EP X pins σ Q r s') pl.isList (by omega) (by rw [List.size_toArray]<;>omega) (by omega) (by rw [hj]; simpa using ew) ⟨rfl,fin⟩) hs
theorem aH:IxR X (Af X.K):=by
 intro value slice pins s σ H x y v u Q I rx ry h hs
 obtain ⟨p,xs,i,z,rfl,rfl,hq,he,q⟩:=h
 cases rx
 obtain ⟨t,rfl⟩:=ry
 obtain ⟨its,r,pl,hz⟩:=I.tuple hq
 obtain ⟨j,h1,h2,h3,h4,h5⟩:=rR he
 obtain ⟨w,ew,rw'⟩:=r.get h2
 have hl:=r.length
 have hn:=ju
 have fin:EP X pins σ Q w s:=⟨z,H,I,rw',q⟩
 exact subscriptTail_builtinR (x:=w) pl.typeIs slot_tuple_getitem.lookup
  (getItem_tuple (j:=j) (Q:=fun r s'=>r=w∧EP X pins σ Q r s') pl (by omega) (by omega) (by rw [List.size_toArray,← hl]; exact h1) (by simpa using ew) ⟨rfl,fin⟩) hs
theorem qS (its:List Value) (n j:Nat) (u:Value):Obj.mapSeq (·.setIfInBounds j u) { cls:=.type "list",data:=.seq its.toArray n }={ cls:=.type "list",data:=.seq (its.set j u).toArray n }:=by
 simp [Obj.mapSeq]
theorem Inv.lst {pins:List (Addr×Obj)} {σ:St} {H:Hp} {s:Shared} {p:Addr} {xs:List V} (I:Inv X pins σ H s) (h:H p=some (.lst xs)) :
  ∃ (its:List Value) (n:Nat),aD xs its∧s.heap.get? p=some { cls:=.type "list",data:=.seq its.toArray n }∧xs.length≤sizeLine:=by
 obtain ⟨z,its,n,r,e⟩:=I.hok p _ h
 exact ⟨its,n,r,e,z⟩
theorem Inv.lstUpd {pins:List (Addr×Obj)} {σ:St} {H:Hp} {s:Shared} {p:Addr} {xs ys:List V} {its its':List Value} {n n':Nat} {f:Obj→Obj} (I:Inv X pins σ H s) (h:H p=some (.lst xs))
  (ho:s.heap.get? p=some { cls:=.type "list",data:=.seq its.toArray n }) (hf:f { cls:=.type "list",data:=.seq its.toArray n }={ cls:=.type "list",data:=.seq its'.toArray n' }) (r:aD ys its') (hz:ys.length≤sizeLine) (t:Nat) :
  Inv X pins σ (upd H p (.lst ys)) { s with heap:=s.heap.update p f,toks:=t }:=by
 have e:(s.heap.update p f).get? p=some { cls:=.type "list",data:=.seq its'.toArray n' }:=by
  rw [Heap.get?_update_self f ho (by rw [hf]<;>rfl),hf]
 refine I.write (x:=p) (e:=p) (by rw [h]; trivial) (.inl rfl) (fun b u hb q=>(Heap.get?_update_other _ _ (Ne.symm hb)).trans q) ⟨_,e⟩ ?_
 exact ⟨hz,its',n',r,e⟩
def yU:V→V→V→Hp→(Hp→Prop)→Prop:=fun o i v H Q=>∃ p xs k j,o=.ref p∧i=.int k∧H p=some (.lst xs)∧ixN xs.length k=some j∧Q (upd H p (.lst (xs.set j v)))
theorem eF:zk X yU:=by
 intro pins s σ H o i v ov iv u Q I ro ri rv h
 obtain ⟨p,xs,k,j,rfl,rfl,hp,hj,q⟩:=h
 cases ro
 obtain ⟨t,rfl⟩:=ri
 obtain ⟨its,n,r,ho,hz⟩:=I.lst hp
 obtain ⟨h1,h2,h3,h4⟩:=rG hj
 have hl:=r.length
 have hn:=ju
 have I':Inv X pins σ (upd H p (.lst (xs.set j v))) { s with heap:=s.heap.update p (Obj.mapSeq (·.setIfInBounds j u)) } :=
  I.lstUpd hp ho (qS its n j u) (r.set rv j) (by rw [List.length_set]; exact hz) s.toks
 by_cases h0:0≤k
 ·have hk:k.toNat=j:=by
   rw [seqIndex_of h0 h4] at h1
   exact Option.some.inj h1
  exact PySem.W.ki_setAt ho h0 (by omega) (by rw [List.size_toArray,← hl]; exact h4) (by rw [hk]; exact ⟨_,I',q⟩)
 ·have hk:(k+(its.toArray.size:Int)).toNat=j:=by
   rw [seqIndex_neg (by omega) h3] at h1
   rw [List.size_toArray,← hl]
   exact Option.some.inj h1
  exact PySem.W.ki_setBack ho (by omega) (by rw [List.size_toArray,← hl]; exact h3) (by omega) (by rw [hk]; exact ⟨_,I',q⟩)
theorem nu (lo hi:Option Int) (n:Nat):(sliceBounds lo hi none n).1=((HT.sIx n 0 lo:Nat):Int)∧(sliceBounds lo hi none n).2.1=((HT.sIx n n hi:Nat):Int)∧(sliceBounds lo hi none n).2.2=1:=by
 refine ⟨?_,?_,rfl⟩
 ·cases lo with
  | none=>simp [sliceBounds,HT.sIx]
  | some i =>
   simp only [sliceBounds,HT.sIx,Option.getD_none,show (1:Int) > 0 by decide,if_true]
   by_cases h:i<0
   ·simp only [h,if_true]<;>omega
   ·simp only [h,if_false]<;>omega
 ·cases hi with
  | none=>simp [sliceBounds,HT.sIx]
  | some i =>
   simp only [sliceBounds,HT.sIx,Option.getD_none,show (1:Int) > 0 by decide,if_true]
   by_cases h:i<0
   ·simp only [h,if_true]<;>omega
   ·simp only [h,if_false]<;>omega
theorem kl (its:List Value) (lo hi:Option Int):slicePick its.toArray lo hi none=((its.drop (HT.sIx its.length 0 lo)).take (HT.sIx its.length its.length hi - HT.sIx its.length 0 lo)).toArray:=by
 obtain ⟨h1,h2,h3⟩:=nu lo hi its.toArray.size
 unfold slicePick
 rw [h1,h2,h3]
 simp only [sliceRange_one,pick_run,List.size_toArray]<;>rfl
def Ak (K:Frag):V→Option Int→Option Int→Hp→VK→Prop:=fun x lo hi H Q=>∃ a xs,x=.ref a∧SqL K H a xs∧∀ p,H p=none→Q (.ref p) (upd H p (.lst (ik xs lo hi)))
theorem rC:SlR X (Ak X.K):=by
 intro pins s σ H x v vl vu lo hi sl Q I rx hs pl pu h
 obtain ⟨a,xs,rfl,hx,q⟩:=h
 cases rx
 obtain ⟨its,r,ht,hz⟩:=I.list hx
 have hlen:=r.length
 refine ⟨"list",_,slot_list_getitem.lookup,ht.isList.typeIs,?_⟩
 refine wpAny_getItem_list_slice ht.isList hs pl pu .none (by simp) ?_ (by rw [List.size_toArray]<;>omega)
 rw [kl,← hlen]
 refine ⟨.ref s.heap.objs.size,_,I.laid (t':=s.toks) (o:=.lst (ik xs lo hi)) (fun b ob q=>Heap.get?_push_of_some _ q) (Nat.le_refl _) ?_,rfl,q _ (I.hok.fresh (Nat.le_refl _))⟩
 exact ⟨Nat.le_trans (oB xs lo hi) hz,_,0,(r.drop (HT.sIx xs.length 0 lo)).take (HT.sIx xs.length xs.length hi - HT.sIx xs.length 0 lo),Heap.get?_push_size _ rfl⟩
def gS:V→Bool
 | .non=>true
 | .bl _=>true
 | .int _=>true
 | .str _=>true
 | _=>false
def eqV:V→V→Bool
 | .non,.non=>true
 | .bl a,.bl b=>a==b
 | .bl a,.int b=>(if a then 1 else 0)==b
 | .int a,.bl b=>a==(if b then 1 else 0)
 | .int a,.int b=>a==b
 | .str a,.str b=>a==b
 | _,_=>false
theorem yc {A:Around} {s:Shared} {y x:V} {u v:Value} (ry:aJ y u) (rx:aJ x v) (fy:gS y=true) (fx:gS x=true):SeqAt.EqAt A s u v (eqV y x):=by
 cases y with
 | non =>
  cases ry
  cases x with
  | non=>cases rx; exact SeqAt.EqAt.same _
  | bl b=>cases rx; exact SeqAt.EqAt.none_bool b
  | int b=>obtain ⟨t,rfl⟩:=rx; exact SeqAt.EqAt.none_int b t
  | str b=>obtain ⟨t,rfl⟩:=rx; exact SeqAt.EqAt.none_str b t
  | _=>exact absurd (show false=true from fx) Bool.false_ne_true
 | bl a =>
  cases ry
  cases x with
  | non=>cases rx; exact SeqAt.EqAt.bool_none a
  | bl b=>cases rx; exact SeqAt.EqAt.bool_bool a b
  | int b=>obtain ⟨t,rfl⟩:=rx; exact SeqAt.EqAt.bool_int a b t
  | str b=>obtain ⟨t,rfl⟩:=rx; exact SeqAt.EqAt.bool_str a b t
  | _=>exact absurd (show false=true from fx) Bool.false_ne_true
 | int a =>
  obtain ⟨t',rfl⟩:=ry
  cases x with
  | non=>cases rx; exact SeqAt.EqAt.int_none a t'
  | bl b=>cases rx; exact SeqAt.EqAt.int_bool a t' b
  | int b=>obtain ⟨t,rfl⟩:=rx; exact SeqAt.EqAt.int_int a t' b t
  | str b=>obtain ⟨t,rfl⟩:=rx; exact SeqAt.EqAt.int_str a t' b t
  | _=>exact absurd (show false=true from fx) Bool.false_ne_true
 | str a =>
  obtain ⟨t',rfl⟩:=ry
  cases x with
  | non=>cases rx; exact SeqAt.EqAt.str_none a t'
  | bl b=>cases rx; exact SeqAt.EqAt.str_bool a t' b
  | int b=>obtain ⟨t,rfl⟩:=rx; exact SeqAt.EqAt.str_int a t' b t
  | str b=>obtain ⟨t,rfl⟩:=rx; exact SeqAt.EqAt.str_str a t' b t
  | _=>exact absurd (show false=true from fx) Bool.false_ne_true
 | _=>exact absurd (show false=true from fy) Bool.false_ne_true
def eqU (x:V) (u:Value):Bool:=match u with
 | .none=>eqV .non x
 | .bool b=>eqV (.bl b) x
 | .int i _=>eqV (.int i) x
 | .str z _=>eqV (.str z) x
 | _=>false
theorem ul {x y:V} {u:Value} (r:aJ y u) (f:gS y=true):eqU x u=eqV y x:=by
 cases y with
 | non=>cases r; rfl
 | bl b=>cases r; rfl
 | int i=>obtain ⟨t,rfl⟩:=r; rfl
 | str z=>obtain ⟨t,rfl⟩:=r; rfl
 | _=>exact absurd (show false=true from f) Bool.false_ne_true
theorem mT {x:V}:∀ {xs:List V} {us:List Value},aD xs us→xs.all gS=true→us.any (eqU x)=xs.any fun y=>eqV y x
 | _,_,.nil,_=>rfl
 | y::xs,u::us,.cons r t,f=>by
  rw [List.all_cons,Bool.and_eq_true] at f
  rw [List.any_cons,List.any_cons,ul r f.1,mT t f.2]
theorem iz {A:Around} {s:Shared} {x:V} {v:Value} (rx:aJ x v) (fx:gS x=true):∀ {xs:List V} {us:List Value},aD xs us→xs.all gS=true→∀ u∈us,SeqAt.EqAt A s u v (eqU x u)
 | _,_,.nil,_=>fun u hu=>by cases hu
 | y::xs,u::us,.cons r t,f=>fun u' hu=>by
  rw [List.all_cons,Bool.and_eq_true] at f
  rcases List.mem_cons.mp hu with rfl | hu
  ·rw [ul r f.1]; exact yc r rx f.1 fx
  ·exact iz rx fx t f.2 u' hu
def inV (x:V) (xs:List V):Bool:=xs.any fun y=>eqV y x
def rIn (K:Frag) (neg:Bool):R2:=fun x y H Q=>∃ p xs,y=.ref p∧(SqL K H p xs∨SqT K H p xs)∧gS x=true∧xs.all gS=true∧Q (.bl (if neg then !inV x xs else inV x xs)) H
theorem cg:OpR X (compareOp .In) (rIn X.K false):=by
 intro pins s σ H x y v u Q I rx ry h
 obtain ⟨p,xs,rfl,hq,fx,fs,q⟩:=h
 cases ry
 rcases hq with hq | hq
 ·obtain ⟨its,r,pl,hz⟩:=I.list hq
  refine SeqAt.in_listAt (eqU x) pl.isList (fun w hw=>iz rx fx r fs w (by simpa using hw)) ⟨.bl _,H,I,rfl,?_⟩
  rw [show its.toArray.any (eqU x)=its.any (eqU x) by simp,mT r fs]
  exact q
 ·obtain ⟨its,r,pl,hz⟩:=I.tuple hq
  refine SeqAt.in_tupleAt (eqU x) pl (fun w hw=>iz rx fx r fs w (by simpa using hw)) ⟨.bl _,H,I,rfl,?_⟩
  rw [show its.toArray.any (eqU x)=its.any (eqU x) by simp,mT r fs]
  exact q
theorem bL:dE X (.builtin "len") (fun xs H Q=>∃ p ys,xs=[.ref p]∧(SqL X.K H p ys∨SqT X.K H p ys)∧Q (.int ys.length) H):=by
 intro pins s σ H xs us Q I r h
 obtain ⟨p,ys,rfl,hq,q⟩:=h
 obtain ⟨u,rfl,rx⟩:=dj r
 cases rx
 have hn:=ju
 rcases hq with hq | hq
 ·obtain ⟨its,r',pl,hz⟩:=I.list hq
  have hlen:=r'.length
  exact Calls.call_len_list pl.isList (by simp only [List.size_toArray]<;>omega) ⟨.int ys.length,H,I.tok _,⟨s.toks+1,by rw [List.size_toArray,hlen]⟩,q⟩
 ·obtain ⟨its,r',pl,hz⟩:=I.tuple hq
  have hlen:=r'.length
  exact len_tuple pl (by simp only [List.size_toArray]<;>omega) ⟨.int ys.length,H,I.tok _,⟨s.toks+1,by rw [List.size_toArray,hlen]⟩,q⟩
theorem ml:dE X (.type "list") (fun xs H Q=>∃ p ys,xs=[.ref p]∧(SqL X.K H p ys∨SqT X.K H p ys)∧∀ l,H l=none→Q (.ref l) (upd H l (.lst ys))):=by
 intro pins s σ H xs us Q I r h
 obtain ⟨p,ys,rfl,hq,q⟩:=h
 obtain ⟨u,rfl,rx⟩:=dj r
 cases rx
 have fin:∀ (its:List Value),aD ys its→ys.length≤sizeLine→∀ (h':Heap) (c':Nat),(∀ b o',s.heap.get? b=some o'→h'.get? b=some o') →
   h'.get? s.heap.objs.size=some { cls:=.type "list",dict:=none,data:=.seq its.toArray c',slots:=#[] }→EP X pins σ Q (.ref s.heap.objs.size) { s with heap:=h' }:=fun its r' hz h' c' kp e =>
  ⟨.ref s.heap.objs.size,_,I.laid (t':=s.toks) kp (Nat.le_refl _) (show bx X.prog X.w _ h' _ (.lst ys) from ⟨hz,its,c',r',e⟩),rfl,q _ (I.hok.fresh (Nat.le_refl _))⟩
 rcases hq with hq | hq
 ·obtain ⟨its,r',pl,hz⟩:=I.list hq
  have hlen:=r'.length
  obtain ⟨o,ho,hc,n,hd⟩:=pl.isList
  exact call_list_seq p (.inl rfl) ho hc hd (fun h' c' kp e=>fin its r' hz h' c' kp e) (by simp only [List.size_toArray]<;>omega)
 ·obtain ⟨its,r',pl,hz⟩:=I.tuple hq
  have hlen:=r'.length
  obtain ⟨o,ho,hc,n,hd⟩:=pl
  exact call_list_seq p (.inr rfl) ho hc hd (fun h' c' kp e=>fin its r' hz h' c' kp e) (by simp only [List.size_toArray]<;>omega)
def tyV (K:Frag) (T:String) (x:V) (H:Hp):Prop:=match x with
 | .str _=>T = "str"
 | .int _=>T = "int"
 | .ref p=>(T = "list"∧∃ xs,SqL K H p xs)∨(T = "tuple"∧∃ o,K.lookup p=some o∧o.cls=.type "tuple"∧o.dict=none) ∨
   (T = "dict"∧((∃ kvs,H p=some (.dK kvs))∨∃ kvs,H p=some (.dT kvs)))∨(T = "set"∧∃ S n,H p=some (.set S n))
 | _=>False
theorem uG {pins:List (Addr×Obj)} {σ:St} {H:Hp} {s:Shared} {T:String} {x:V} {v:Value} (I:Inv X pins σ H s) (r:aJ x v) (ty:tyV X.K T x H) :
  s.TypeIs v T∧∀ a,v=.ref a→∃ ob,s.heap.get? a=some ob∧ob.dict=none:=by
 cases x with
 | str z =>
  obtain ⟨t,rfl⟩:=r
  cases (show T = "str" from ty)
  exact ⟨typeIs_str s z t,fun _ e=>nomatch e⟩
 | int i =>
  obtain ⟨t,rfl⟩:=r
  cases (show T = "int" from ty)
  exact ⟨typeIs_int s i t,fun _ e=>nomatch e⟩
 | ref p =>
  cases r
  rcases ty with ⟨rfl,xs,hq⟩ | ⟨rfl,o,hk,hc,hd⟩ | ⟨rfl,hk⟩ | ⟨rfl,S,n,hk⟩
  ·obtain ⟨its,_,pl,_⟩:=I.list hq
   refine ⟨pl.isList.typeIs,fun a e=>?_⟩
   cases e
   obtain ⟨o,n,e,c,hd,_⟩:=pl
   exact ⟨o,e,hd⟩
  ·refine ⟨⟨o,I.kIn p o hk,hc⟩,fun a e=>?_⟩
   cases e
   exact ⟨o,I.kIn _ o hk,hd⟩
  ·have z:∃ o,s.heap.get? p=some o∧o.ExactDict:=by
    rcases hk with ⟨kvs,hk⟩ | ⟨kvs,hk⟩
    ·obtain ⟨_,_,_,_,o,_,_,e,ex,_⟩:=I.hok p _ hk
     exact ⟨o,e,ex⟩
    ·obtain ⟨_,_,_,_,o,_,_,e,ex,_⟩:=I.hok p _ hk
     exact ⟨o,e,ex⟩
   obtain ⟨o,e,ex⟩:=z
   refine ⟨⟨o,e,ex.1⟩,fun a e2=>?_⟩
   cases e2
   exact ⟨o,e,ex.2.1⟩
  ·obtain ⟨o,_,_,_,e,ex,_⟩:=I.hok p _ hk
   refine ⟨⟨o,e,ex.1⟩,fun a e2=>?_⟩
   cases e2
   exact ⟨o,e,ex.2.1⟩
 | _=>exact False.elim ty
def Aj (K:Frag) (T:String) (r:V→List V→Hp→VK→Prop) (to:TE):TE:=fun σ H Q=>to σ H fun x H1=>tyV K T x H1∧r x [] H1 Q
def tBM (K:Frag) (T:String) (r:V→List V→Hp→VK→Prop) (to:TE) (t:TA):TE:=fun σ H Q=>to σ H fun x H1=>tyV K T x H1∧t σ H1 fun xs H2=>r x xs H2 Q
variable {o e:Expr} {es:List Expr} {to:TE} {t:TA} {name:Str} {apos cpos:Pos} {T id:String} {r:V→List V→Hp→VK→Prop}
theorem pk (pa:PlainAttrs T) (slot:Slot T name id) (hty:typeOf (.builtin id)=pure (.type "method_descriptor")) (hm:MtR X id r) (ho:PE X o to)
  (hbase:attributeBase o name X.env (eval o X.env)=eval o X.env:=by rfl) (hline:(apos.endLine==cpos.line)=true:=by rfl):PE X (.Call (.Attribute o name apos) [] [] cpos) (Aj X.K T r to):=by
 intro pins s σ H Q I h
 refine wpAny_Call_method0_late hbase hline (thn (ho pins s σ H _ I h) fun v s1 ⟨x,H1,I1,r1,ty,q1⟩=>?_)
 obtain ⟨h1,h2⟩:=uG I1 r1 ty
 exact ⟨T,id,pa,slot,hty,h1,h2,Calls.callWith_builtin rfl (PySem.evalArgs_none (hm pins s1 σ H1 x [] v [] Q I1 r1 .nil q1))⟩
theorem dS (pa:PlainAttrs T) (slot:Slot T name id) (hty:typeOf (.builtin id)=pure (.type "method_descriptor")) (hm:MtR X id r) (ho:PE X o to) (ha:PA X (e::es) t)
  (hbase:attributeBase o name X.env (eval o X.env)=eval o X.env:=by rfl)
  (hfew:((backTo cpos (starEach (e::es) X.env)).all (fun x=>!x.1)&&(backToKw cpos (keywordEach [] X.env)).all (fun x=>x.1.isSome)
  &&decide ((e::es).length+([]:List Keyword).length+(if ([]:List Keyword).isEmpty then 0 else 1)<30))=true:=by exact cm rfl rfl)
  (hline:(apos.endLine==cpos.line)=true:=by rfl) (hs:starEach (e::es) X.env=(false,eval e X.env)::starEach es X.env:=by exact ab rfl) (hplain:(backTo cpos (starEach es X.env)).any (·.1)=false:=by exact am rfl) :
  PE X (.Call (.Attribute o name apos) (e::es) [] cpos) (tBM X.K T r to t):=by
 intro pins s σ H Q I h
 refine wpAny_Call_method_late hbase hfew hline rfl (thn (ho pins s σ H _ I h) fun v s1 ⟨x,H1,I1,r1,ty,q1⟩=>?_)
 obtain ⟨h1,h2⟩:=uG I1 r1 ty
 refine ⟨T,id,pa,slot,hty,h1,h2,?_⟩
 have hA:=ha cpos pins s1 σ H1 _ I1 q1
 rw [hs] at hA ⊢
 refine Calls.callWith_builtin (by show (false||(backTo cpos (starEach es X.env)).any (·.1))=false; rw [hplain]<;>rfl) (Calls.evalArgs_plain ?_)
 exact thn hA fun us s2 ⟨vs,H2,I2,r2,q2⟩=>hm pins s2 σ H2 x vs v us Q I2 r1 r2 q2
end
open PySem PySem.Spec PyProof.Rows
def MtM (X:Cx) (id:String) (r:V→List V→Hp→VK→Prop):Prop :=
 ∀ (pins:List (Addr×Obj)) (s:Shared) (σ:St) (H:Hp) (x:V) (xs:List V) (v:Value) (us:List Value) (Q:VK),Inv X pins σ H s→aJ x v→aD xs us→r x xs H Q →
  wpAny (model X.prog X.w) X.A (call (.builtin id) (v::us)) (EP X pins σ Q) X.xe s
theorem aD.one:∀ {x:V} {us:List Value},aD [x] us→∃ u,us=[u]∧aJ x u
 | _,_,.cons r .nil=>⟨_,rfl,r⟩
theorem aD.zero:∀ {us:List Value},aD [] us→us=[]
 | _,.nil=>rfl
theorem aD.dropLast {xs:List V} {us:List Value} (h:aD xs us):aD xs.dropLast us.dropLast:=by
 induction h with
 | nil=>exact .nil
 | cons r t ih =>
  cases t with
  | nil=>exact .nil
  | cons q t'=>exact .cons r ih
theorem aD.reverse {xs:List V} {us:List Value} (h:aD xs us):aD xs.reverse us.reverse:=by
 induction h with
 | nil=>exact .nil
 | cons r t ih=>rw [List.reverse_cons,List.reverse_cons]; exact aD.append ih (.cons r .nil)
theorem aD.rep {xs:List V} {us:List Value} (h:aD xs us):∀ k:Nat,aD (List.replicate k xs).flatten (List.replicate k us).flatten
 | 0=>.nil
 | k+1=>by
  rw [List.replicate_succ,List.replicate_succ,List.flatten_cons,List.flatten_cons]
  exact aD.append h (aD.rep h k)
theorem qi {α:Type} (l:List α):l.eraseIdx (l.length - 1)=l.dropLast:=by
 induction l with
 | nil=>rfl
 | cons a r ih =>
  cases r with
  | nil=>rfl
  | cons b r =>
   have e:(a::b::r).length - 1=((b::r).length - 1)+1:=by
    have h1:(a::b::r).length=r.length+2:=rfl
    have h2:(b::r).length=r.length+1:=rfl
    omega
   rw [e,List.eraseIdx_cons_succ,ih]
   all_goals rfl
theorem kI (its:List Value):∀ (k:Nat) (acc:List Value),
  List.foldl (fun x1 x2=>x1++x2) acc.toArray (List.replicate k its.toArray)=(acc++(List.replicate k its).flatten).toArray
 | 0,acc=>by simp
 | k+1,acc=>by
  have e:acc.toArray++its.toArray=(acc++its).toArray:=by simp
  have e2:(acc++its)++(List.replicate k its).flatten=acc++(List.replicate (k+1) its).flatten:=by
   rw [List.replicate_succ,List.flatten_cons,List.append_assoc]
  rw [← e2,← kI its k (acc++its),← e,List.replicate_succ,List.foldl_cons]
section
variable {X:Cx} {pins:List (Addr×Obj)} {σ:St} {H:Hp} {s:Shared} {l b:Addr} {xs ys zs:List V}
theorem Inv.lset {its its':List Value} {n:Nat} {f:Array Value→Array Value} {t':Nat} (I:Inv X pins σ H s) (hH:H l=some (.lst xs))
  (e:s.heap.get? l=some { cls:=.type "list",data:=.seq its.toArray n }) (hf:f its.toArray=its'.toArray) (hv:aD ys its') (hz:ys.length≤sizeLine) :
  Inv X pins σ (upd H l (.lst ys)) { s with heap:=s.heap.update l (Obj.mapSeq f),toks:=t' }:=by
 have q:=PySem.IsL.update e f
 rw [hf] at q
 refine I.write (x:=l) (e:=l) (by rw [hH]; exact trivial) (.inl rfl) (fun b' u hb hu=>(Heap.get?_update_other s.heap (Obj.mapSeq f) (Ne.symm hb)).trans hu) ⟨_,q⟩ ?_
 exact ⟨hz,its',_,hv,q⟩
theorem Inv.lnew {its:List Value} {t':Nat} (I:Inv X pins σ H s) (hv:aD ys its) (hz:ys.length≤sizeLine) :
  Inv X pins σ (upd H s.heap.objs.size (.lst ys)) { s with heap:=s.heap.push { cls:=.type "list",data:=.seq its.toArray },toks:=t' } :=
 I.laid (fun _ _ q=>Heap.get?_push_of_some _ q) (Nat.le_refl _) ⟨hz,its,0,hv,Heap.get?_push_size _ rfl⟩
theorem Inv.fresh (I:Inv X pins σ H s):H s.heap.objs.size=none:=I.hok.fresh (Nat.le_refl _)
theorem Inv.lstM (I:Inv X pins σ H s) (hH:H l=some (.lst xs)):xs.length≤sizeLine∧∃ (its:List Value) (n:Nat),aD xs its∧xs.length=its.length∧s.heap.get? l=some { cls:=.type "list",data:=.seq its.toArray n }:=by
 obtain ⟨z,its,n,r,e⟩:=I.hok l _ hH
 exact ⟨z,its,n,r,r.length,e⟩
theorem oz {n:Nat} (h:n≤sizeLine):Builtin.List.listTooLong n=false:=by
 unfold Builtin.List.listTooLong
 exact decide_eq_false (by omega)
end
section
variable {X:Cx}
def wa:V→List V→Hp→VK→Prop:=fun x vs H Q=>∃ l xs y,x=.ref l∧vs=[y]∧H l=some (.lst xs)∧xs.length<sizeLine∧Q .non (upd H l (.lst (xs++[y])))
theorem bQ:MtM X "list.append" wa:=by
 intro pins s σ H x vs v us Q I rx rv h
 obtain ⟨l,xs,y,rfl,rfl,hH,hz,q⟩:=h
 cases rx
 obtain ⟨u,rfl,ru⟩:=rv.one
 obtain ⟨z,its,n,r,hl,e⟩:=I.lstM hH
 refine call_meets F.slot_list_append ⟨_,e,rfl⟩ F.entry_list_append (F.args_list_append_2 _ _) (PySem.list_append l its.toArray n u (by rw [List.size_toArray]; omega)) ⟨e,?_⟩
 refine ⟨.non,_,I.lset (its':=its++[u]) hH e (by simp) (r.append (.cons ru .nil)) ?_,rfl,q⟩
 rw [List.length_append,List.length_singleton]
 omega
def wy:V→List V→Hp→VK→Prop:=fun x vs H Q=>∃ l b xs zs,x=.ref l∧vs=[.ref b]∧H l=some (.lst xs)∧H b=some (.lst zs)∧xs.length+zs.length≤sizeLine∧Q .non (upd H l (.lst (xs++zs)))
theorem fB:MtM X "list.extend" wy:=by
 intro pins s σ H x vs v us Q I rx rv h
 obtain ⟨l,b,xs,zs,rfl,rfl,hH,hB,hz,q⟩:=h
 cases rx
 obtain ⟨u,rfl,ru⟩:=rv.one
 cases ru
 obtain ⟨z,its,n,r,hl,e⟩:=I.lstM hH
 obtain ⟨z2,its2,n2,r2,hl2,e2⟩:=I.lstM hB
 have hsz:its.toArray.size+its2.toArray.size≤sizeLine:=by rw [List.size_toArray,List.size_toArray]; omega
 have hlong:¬ (!its.toArray.isEmpty&&Builtin.List.listTooLong (its.toArray.size+its2.toArray.size))=true:=by
  rw [oz hsz,Bool.and_false]
  exact Bool.false_ne_true
 refine call_meets F.slot_list_extend ⟨_,e,rfl⟩ F.entry_list_extend (F.args_list_extend_2 _ _)
  (AutoSeq1.list_extend_list_list_0 l its.toArray n b its2.toArray n2 hlong (by rw [List.size_toArray]; omega) (by omega)) ⟨e,e2,?_⟩
 refine ⟨.non,_,I.lset (its':=its++its2) hH e (by simp) (r.append r2) ?_,rfl,q⟩
 rw [List.length_append]
 omega
def AK:V→List V→Hp→VK→Prop:=fun x vs H Q=>∃ l xs y,x=.ref l∧vs=[]∧H l=some (.lst xs)∧xs[xs.length - 1]?=some y∧Q y (upd H l (.lst xs.dropLast))
theorem qW:MtM X "list.pop" AK:=by
 intro pins s σ H x vs v us Q I rx rv h
 obtain ⟨l,xs,y,rfl,rfl,hH,hy,q⟩:=h
 cases rx
 have hus:=rv.zero
 subst hus
 obtain ⟨z,its,n,r,hl,e⟩:=I.lstM hH
 obtain ⟨u,hu,ru⟩:=r.get hy
 have hy':its.toArray[its.toArray.size - 1]?=some u:=by
  show its.toArray[its.length - 1]?=some u
  rw [← Array.getElem?_toList,← hl]
  exact hu
 refine call_meets F.slot_list_pop ⟨_,e,rfl⟩ F.entry_list_pop (F.args_list_pop_1 _) (MeetsSeq.list_pop_last l its.toArray n u hy' (by rw [List.size_toArray]; omega)) ⟨e,?_⟩
 refine ⟨y,_,I.lset (its':=its.dropLast) hH e ?_ r.dropLast ?_,ru,q⟩
 ·show its.toArray.eraseIdxIfInBounds (its.toArray.size - 1)=its.dropLast.toArray
  rw [List.size_toArray,List.eraseIdxIfInBounds_toArray,qi]
 ·rw [List.length_dropLast]
  omega
def Aw:R2:=fun x y H Q=>∃ l b xs zs,x=.ref l∧y=.ref b∧H l=some (.lst xs)∧H b=some (.lst zs)∧xs.length+zs.length≤sizeLine∧∀ p,H p=none→Q (.ref p) (upd H p (.lst (xs++zs)))
theorem jJ:OpR X (binaryOp .Add) Aw:=by
 intro pins s σ H x y v u Q I rx ry h
 obtain ⟨l,b,xs,zs,rfl,rfl,hH,hB,hz,q⟩:=h
 cases rx
 cases ry
 obtain ⟨z,its,n,r,hl,e⟩:=I.lstM hH
 obtain ⟨z2,its2,n2,r2,hl2,e2⟩:=I.lstM hB
 refine PySem.P.add_list e e2 ?_ (by rw [List.size_toArray,List.size_toArray]; omega)
 have ea:its.toArray++its2.toArray=(its++its2).toArray:=by simp
 rw [ea]
 exact ⟨.ref _,_,I.lnew (t':=s.toks) (r.append r2) (by rw [List.length_append]; omega),rfl,q _ I.fresh⟩
def AL:R2:=fun x y H Q=>∃ l k xs,x=.ref l∧y=.int k∧H l=some (.lst xs)∧-(2 ^ 63)≤k∧k<2 ^ 63∧xs.length*k.toNat≤sizeLine ∧
 ∀ p,H p=none→Q (.ref p) (upd H p (.lst (List.replicate k.toNat xs).flatten))
theorem len_rep {α:Type} (xs:List α) (k:Nat):(List.replicate k xs).flatten.length=k*xs.length:=by
 induction k with
 | zero=>simp
 | succ k ih=>rw [List.replicate_succ,List.flatten_cons,List.length_append,ih,Nat.succ_mul,Nat.add_comm]
theorem qI:OpR X (binaryOp .Mult) AL:=by
 intro pins s σ H x y v u Q I rx ry h
 obtain ⟨l,k,xs,rfl,rfl,hH,h1,h2,hz,q⟩:=h
 cases rx
 obtain ⟨t,rfl⟩:=ry
 obtain ⟨z,its,n,r,hl,e⟩:=I.lstM hH
 have hlen:its.toArray.size*k.toNat≤sizeLine:=by rw [List.size_toArray,← hl]; exact hz
 have hcap:¬ its.toArray.size*k.toNat > (2 ^ 63 - 1) / 8:=by
  have:(sizeLine:Nat)≤(2 ^ 63 - 1) / 8:=by decide
  omega
 have hfit:¬ (!Builtin.List.listFitsIndex k)=true:=by
  rw [fitsIndex_both h1 h2]
  exact Bool.false_ne_true
 have hlong:¬ Builtin.List.listTooLong (its.toArray.size*k.toNat)=true:=by
  rw [oz hlen]
  exact Bool.false_ne_true
 have hnew:List.foldl (fun x1 x2=>x1++x2) #[] (List.replicate (if its.toArray.isEmpty=true then 0 else k.toNat) its.toArray)=(List.replicate k.toNat its).flatten.toArray:=by
  have f0:∀ m:Nat,List.foldl (fun x1 x2=>x1++x2) #[] (List.replicate m its.toArray)=(List.replicate m its).flatten.toArray:=fun m=>by
   have:=kI its m []
   rw [List.nil_append] at this
   exact this
  rw [f0]
  cases its with
  | nil=>simp
  | cons a r'=>rw [if_neg (by simp)]
 refine wpAny_binaryOp_repeat_ref (T := "list") (U := "int") (by decide) ⟨_,e,rfl⟩ (fun s'=>typeIs_int s' k t) noFill_list_mul F.fills_int_mul F.slot_int_rmul repeat_list F.slot_int_index.lookup
  (call_meets F.slot_int_rmul (typeIs_int s k t) F.entry_int_rmul (F.args_int_rmul_2 _ _) (int___rmul___int_list k t l its.toArray n)
   ⟨e,rfl,⟨_,e,rfl⟩,call_meets F.slot_list_mul ⟨_,e,rfl⟩ F.entry_list_mul (F.args_list_mul_2 _ _) (AutoListH.list___mul___list_int_3 l its.toArray n k t hfit hcap hlong) ⟨e,?_⟩⟩)
 rw [hnew]
 exact ⟨.ref _,_,I.lnew (t':=s.toks) (r.rep k.toNat) (by rw [len_rep,Nat.mul_comm]; exact hz),rfl,q _ I.fresh⟩
end
section
variable {prog:Program} {w:World} {A:Around} {E:Value→Shared→Prop} {s:Shared}
end
section
variable {X:Cx}
end
end L2
namespace Att
open PySem PySem.W PySem.Calls PyProof.Rows
theorem gY {P:Params} {h:Heap}:∀ (ns:List Int) (vs:List Value),WellAll P h vs (ns.map WData.int)→IntsAre vs ns:=by
 intro ns
 induction ns with
 | nil =>
  intro vs w
  rw [List.map_nil] at w
  cases w
  exact .nil
 | cons n ns ih =>
  intro vs w
  rw [List.map_cons] at w
  cases w with
  | cons a b =>
   cases a
   exact .cons _ _ (ih _ b)
theorem sk {l:OpenLaw} {n:Nat} (hn:l.most=some n) {P:Params} {h:Heap} {args:List WData} {vals:List Value}
  (hpre:l.row.toRowW.claim.pre args=true) (hwl:WellAll P h vals args) :
  ∃ a vs ns,vals=[Value.ref a]∧args=[WData.list (ns.map WData.int)]∧h.get? a=some { cls:=.type "list",data:=.seq vs.toArray }∧IntsAre vs ns∧ns.length≤n:=by
 have hsh:WShape.hasAll [] args [.list .int]=true:=(pre_splitW hpre).1
 have hc:l.pre.holds [] { args:=args }=true:=(pre_splitW hpre).2
 obtain ⟨d,r,rfl,h1,h2⟩:=hasAllW_cons hsh
 obtain rfl:=hasAllW_nil h2
 obtain ⟨xs,rfl,h3⟩:=hasW_list h1
 obtain ⟨ns,rfl⟩:=items_int h3
 have hlen:ns.length≤n:=by
  unfold OpenLaw.pre at hc
  have h4:(WTm.not (.lt (.lit (.int (n:Int))) (.len (.arg 0)))).holds [] { args:=[.list (ns.map .int)] }=true:=by
   have h4:=(holds_andW hc).1
   rw [hn] at h4
   exact h4
  have h5:=condW_of h4 (w_not (w_lt w_lit (w_len_list (w_arg rfl))))
  rw [List.length_map] at h5
  refine Nat.le_of_not_lt fun q=>?_
  have q':(n:Int)<((ns.length:Nat):Int):=by omega
  first
   | (rw [decide_eq_true q'] at h5; exact absurd h5 (by decide))
   | (simp at h5; omega)
 cases hwl with
 | cons w1 w2 =>
  cases w2
  cases w1 with
  | list ho hall=>exact ⟨_,_,ns,rfl,rfl,ho,gY ns _ hall,hlen⟩
theorem sB (l:OpenLaw) (args:List WData):l.row.toRowW.claim.post args (.bool true) args=true :=
 postW_of (r:=l.row.toRowW) (X:=(true==true))
  (show WShape.has [] (.bool true) .bool=true by first | rfl | decide | simp [WShape.has,WShape.arms,WShape.armsAll])
  (show (WTm.eq .res (.lit (.bool true))).value [] { args:=args,res:=some (.bool true),after:=args }=some (.bool (true==true)) from w_eq_bool (w_res rfl) w_lit) rfl
theorem attach_call {l:OpenLaw} {n:Nat} {q:Program} {loose:List Str} {XP:(Str→Option Value)→Heap→Prop} {YP:World→Heap→Prop} {d:DefRec}
  (hn:l.most=some n) (hdf:d.params.defaults=[])
  (call:∀ (w:World) (s₀ s₁:Shared) (mg mb:Str→Option Value) (fa:Addr) (o:Obj) (pm cd doc:Value) (a:Addr) (vs:List Value) (ns:List Int),
   Ground q loose [] XP w s₀ mg mb s₁.heap→YP w s₁.heap →
   s₁.heap.get? fa=some o→o.data=.func (docDef d.name d.params d.body d.scope pm cd doc)→s₁.heap.CodeRec cd d.name→mg d.name=some (.ref fa) →
   s₁.heap.get? a=some { cls:=.type "list",data:=.seq vs.toArray }→IntsAre vs ns→ns.length≤n→s₁.gens=#[] →
   codeAny (model l.prog w) callerA (.call (.ref fa) ⟨[.ref a],[]⟩) (fun r s'=>r=.ok (.ret (.bool true))∧OldK s₁.heap s'.heap∧s'.os=s₁.os∧AllBare s'.gens) s₁) :
  WalkO q loose XP YP l.row.toRowW d [] (fun f vs=>PySem.call f vs):=by
 intro w s₀ s₁ mg mb G Y fa o pm cd doc dV kV ho hd hcd hD hmg hg args vals as hpre hlay hrd hwl hlo
 obtain rfl:dV=.none:=Dflts.none hD hdf
 obtain rfl:kV=.none:=Dflts.noKw hD
 obtain ⟨a,vs,ns,rfl,rfl,hobj,hints,hlen⟩:=sk hn hpre hwl
 refine enter_call (codeAny_mono (call w s₀ s₁ mg mb fa o pm cd doc a vs ns G Y ho (fd_plain hd) hcd hmg hobj hints hlen hg) fun r s' hq=>?_)
 obtain ⟨rfl,h2,h3,h4⟩:=hq
 exact ⟨.inl ⟨.bool true,.bool true,[],rfl,fun _=>rfl,.bool true,sB l _,fun _=>⟨List.Pairwise.nil,fun _ hm=>(nomatch hm)⟩⟩,h2,h3,h4⟩
section
variable {prog:Program} {w:World} {A:Around} {E:Value→Shared→Prop} {s:Shared} {K:Frag}
end
end Att
namespace L2
open PySem PySem.Spec PyProof.Rows
theorem kW:∀ {vs:List Value} {ns:List Int},IntsAre vs ns→aD (ns.map V.int) vs
 | _,_,.nil=>.nil
 | _,_,.cons n t h=>.cons ⟨t,rfl⟩ (kW h)
def yu (H:Hp):Prop:=∀ b,H b=none∨∃ o xs,H b=some (.frz o (.lst xs))
theorem vI {P:Program} {w:World} {K:Frag} {mg mb:Str→Option Value} {CX:CXT} {k:Nat} {fa a:Addr} {fd:FuncData} {x:Str} {sp:Sp} {s₁:Shared} {vs:List Value} {ns:List Int}
  (KX:K.In s₁.heap) (hns:s₁.heap.Ns mainGlobals mg) (hb:s₁.heap.Ns builtinsNs mb) (hbb:∀ x:Str,x ≠ "__name__"→mb x=bootBuiltins x) (hlim:s₁.heap.NoLimit) (hg:s₁.gens=#[])
  (ha:s₁.heap.get? a=some { cls:=.type "list",data:=.seq vs.toArray }) (hi:IntsAre vs ns) (hl:ns.length≤sizeLine) (hr:bW k callerA)
  (F:∀ base:Heap,K.In base→base.Ns mainGlobals mg→bg P w K mg base CX k fa fd [x] sp) (hbind:∀ (s:Shared) (u:Value),BindsTo s fd ⟨[u],[]⟩ [(x,u)])
  (hsp:∀ H:Hp,yu H→SqL K H a (ns.map V.int)→sp [.ref a] H (fun v _=>v=.bl true) fun _ _ _=>False)
  (hCX:∀ H e s',CX [] H s₁ (fun _ _ _=>False) e s'→False) :
  codeAny (model P w) callerA (.call (.ref fa) ⟨[.ref a],[]⟩) (fun r s'=>r=.ok (.ret (.bool true))∧OldK s₁.heap s'.heap∧s'.os=s₁.os∧AllBare s'.gens) s₁:=by
 have rv:=kW hi
 have lenV:=hi.length
 -- from an abstract heap in which nothing but the script may be tracked
 have core:∀ H:Hp,yu H→SqL K H a (ns.map V.int)→HOk P w H s₁.heap→(∀ b,H b≠none→b=a)→(H a≠none→K.lookup a=none) →
   codeAny (model P w) callerA (.call (.ref fa) ⟨[.ref a],[]⟩) (fun r s'=>r=.ok (.ret (.bool true))∧OldK s₁.heap s'.heap∧s'.os=s₁.os∧AllBare s'.gens) s₁:=by
  intro H hO hS hok hA hK
  have base_of:∀ {b:Addr} {o:Obj},s₁.heap.get? b=some o→H b=none→(ms s₁.heap H).get? b=some o:=fun e n=>ui e n
  have noA:∀ {b:Addr} {o:Obj} {es:Array DictEntry} {ep:Nat},s₁.heap.get? b=some o→o.data=.dict es ep→H b=none:=fun {b o es ep} e d=>by
   cases q:H b with
   | none=>rfl
   | some u =>
    have e':b=a:=hA b (by rw [q]; simp)
    subst e'
    rw [ha] at e; cases e
    have d':Data.seq vs.toArray _=Data.dict es ep:=d
    cases d'
  have nsK:∀ {b:Addr} {m:Str→Option Value},s₁.heap.Ns b m→(ms s₁.heap H).Ns b m:=fun {b m} ⟨o,es,ep,e,d,r⟩=>⟨o,es,ep,base_of e (noA e d),d,r⟩
  have hKb:K.In (ms s₁.heap H):=fun b o e=>base_of (KX b o e) (by
   cases q:H b with
   | none=>rfl
   | some u =>
    have e':b=a:=hA b (by rw [q]; simp)
    subst e'
    rw [hK (by rw [q]; simp)] at e; cases e)
  have hM:Mod K mg (ms s₁.heap H):=⟨hKb,nsK hns,⟨mb,nsK hb,hbb⟩,let ⟨mc,h1,h2⟩:=hlim; ⟨mc,nsK h1,h2⟩⟩
  have e0:qh P w K mg (ms s₁.heap H) callerA [] s₁ H:=⟨rfl,hM,fun b o e=>wg e,Nat.le_of_eq (sV _ _),trivial,fun b hb=>absurd (show b∈([]:List Addr) from hb) (by simp),hok,.of_eq hg⟩
  refine codeAny_mono ((F _ hKb (nsK hns)).run callerA [] s₁ H ⟨[.ref a],[]⟩ [.ref a] [.ref a] _ _ hr e0 (hbind s₁ (.ref a)) (.cons rfl .nil) (hsp H hO hS)) fun r s' h=>?_
  cases r with
  | error e=>exact (hCX H e s' h).elim
  | ok fl =>
   cases fl with
   | next=>exact False.elim h
   | brk=>exact False.elim h
   | cont=>exact False.elim h
   | ret u =>
    obtain ⟨v,H',os,bare,un,hok',r',q⟩:=h
    have q':v=.bl true:=q
    subst q'
    obtain rfl:u=Value.bool true:=r'
    refine ⟨rfl,OldK.of_keep fun b o e=>?_,os,bare⟩
    cases q:H b with
    | none=>exact un.keep b o e q (by intro z; exact absurd (show b∈([]:List Addr) from z) (by simp)) (by simp)
    | some u =>
     rcases hO b with z | ⟨ob,xs,z⟩
     ·rw [q] at z; cases z
     ·have z2:=un.frzs b ob _ z
      obtain ⟨e1,_⟩:=hok b _ z
      obtain ⟨e2,_⟩:=hok' b _ z2
      rw [e] at e1; cases e1
      exact e2
 cases hk:K.lookup a with
 | some o =>
  -- the script is one of the module's own objects
  have e:=KX a o hk
  rw [ha] at e
  cases e
  refine core (fun _=>none) (fun _=>.inl rfl) (.inr ⟨_,vs.toArray,_,hk,rfl,rfl,rfl,by rw [List.size_toArray,lenV]; exact hl,by simpa using rv⟩) (fun b u z=>by have z':(none:Option HO)=some u:=z; cases z') (fun b z=>absurd rfl z) fun z=>absurd rfl z
 | none =>
  refine core (fun b=>if b=a then some (.frz { cls:=.type "list",data:=.seq vs.toArray } (.lst (ns.map V.int))) else none) (fun b=>?_) (.inl (.inr ⟨{ cls:=.type "list",data:=.seq vs.toArray },if_pos rfl⟩)) (fun b u z=>?_) (fun b z=>?_) fun _=>hk
  ·by_cases hb:b=a
   ·exact .inr ⟨_,_,if_pos hb⟩
   ·exact .inl (if_neg hb)
  ·by_cases hb:b=a
   ·have z':=(if_pos hb).symm.trans z
    cases z'
    subst hb
    exact ⟨ha,by rw [List.length_map]; exact hl,vs,_,rv,ha⟩
   ·have z':=(if_neg hb).symm.trans z
    cases z'
  ·by_cases hb:b=a
   ·exact hb
   ·exact absurd (if_neg hb) z
theorem walk_of {l:PySem.W.OpenLaw} {n k:Nat} {q:Program} {loose:List Str} {XP:(Str→Option Value)→Heap→Prop} {YP:World→Heap→Prop} {d:DefRec} {K:Params→Frag} {CX:World→CXT} {sp:World→Sp} {x:Str}
  (hn:l.most=some n) (hn2:n≤sizeLine) (hdf:d.params.defaults=[]) (hr:bW k callerA)
  (hY:∀ (w:World) (h:Heap),YP w h→(K w.params).In h)
  (F:∀ (w:World) (mg:Str→Option Value) (fa:Addr) (h:Heap),(K w.params).In h→h.Ns mainGlobals mg→mg d.name=some (.ref fa) →
   ∃ fd:FuncData,(∀ (s:Shared) (u:Value),BindsTo s fd ⟨[u],[]⟩ [(x,u)]) ∧
    ∀ base:Heap,(K w.params).In base→base.Ns mainGlobals mg→bg l.prog w (K w.params) mg base (CX w) k fa fd [x] (sp w))
  (hsp:∀ (w:World) (H:Hp) (a:Addr) (ns:List Int),ns.length≤n→yu H→SqL (K w.params) H a (ns.map V.int)→sp w [.ref a] H (fun v _=>v=.bl true) fun _ _ _=>False)
  (hCX:∀ (w:World) (H:Hp) (s:Shared) (e:Value) (s':Shared),CX w [] H s (fun _ _ _=>False) e s'→False) :
  PySem.W.WalkO q loose XP YP l.row.toRowW d [] (fun f vs=>PySem.call f vs):=by
 refine Att.attach_call hn hdf fun w s₀ s₁ mg mb fa o pm cd doc a vs ns G Y ho hd hcd hmg hobj hints hlen hg=>?_
 have KX:=hY w _ Y
 obtain ⟨fd,hb,hF⟩:=F w mg fa _ KX G.T.g hmg
 exact vI KX G.T.g G.T.b G.T.builtins G.T.nolimit hg hobj hints (Nat.le_trans hlen hn2) hr hF hb (fun H hO hS=>hsp w H a ns hlen hO hS) fun H e s'=>hCX w H s₁ e s'
end L2
/- THE LAST THEOREM (shape; LID,My.* are yours):
  My.Adr: a structure of the addresses that your layer names (classes,functions); My.Txt K t: a structure (Prop) of the equations over K;
  My.txt_mk:{K} {implicit addresses ..} (e1:nsIn K mainGlobals "law"=some (some (.ref f))) (e2:K.lookup f=some ⟨oc,od,.func (fnOf "law" "law" params body scope dV kV doc pm an cdv ct),sl⟩) (e3:codeIn K cdv "law"=true) ..:∃ t,My.Txt K t
(the tactic k_is has no namespace: write k_is) -/
namespace L2
open PySem PySem.Spec PyProof.Rows
def defArgs (s:Stmt):Arguments:=match s with
 | .FunctionDef _ a _ _ _ _ _ _ _ _=>a
 | _=>{ posonlyargs:=[],args:=[],vararg:=none,kwonlyargs:=[],kw_defaults:=[],kwarg:=none,defaults:=[] }
def defBody (s:Stmt):List Stmt:=match s with
 | .FunctionDef _ _ b _ _ _ _ _ _ _=>b
 | _=>[]
def defScope (s:Stmt):Scope:=match s with
 | .FunctionDef _ _ _ _ _ _ sc _ _ _=>sc
 | _=>{ kind:=.function,names:=[],isGenerator:=false,isCoroutine:=false }
abbrev CX0:CXT:=fun _ _ _ _ _ _=>False
abbrev E0:XK:=fun _ _ _=>False
theorem aI {X:Cx}:eh CX0 X E0:=fun _ _ _ _ _ _ _ h=>h.elim
structure Fun (K:Frag) (x qual:Str) (st:Stmt) (f:Addr) (fd:FuncData):Prop where
 ex:∃ (oc:Value) (od:Option Addr) (kV doc pm:Value) (an:Option Addr) (cdv ct:Value) (osl:Array (Option Value)),
  fd=PySem.W.fnOf x qual (defArgs st) (defBody st) (defScope st) .none kV doc pm an cdv ct∧K.lookup f=some ⟨oc,od,.func fd,osl⟩∧PySem.W.codeIn K cdv qual=true
 kp:keepIn K (.ref f)=true
section
variable {P:Program} {w:World} {K:Frag} {mg:Str→Option Value} {base:Heap}
theorem Fun.ok {x qual:Str} {st:Stmt} {f:Addr} {fd:FuncData} {N ps:List Str} {k:Nat} {sp:Sp} (F:Fun K x qual st f fd) (S:aF N ps (defScope st)) (len:∀ vs H Q E,sp vs H Q E→vs.length=ps.length)
  (hbody:∀ (cdv:Value) (A:Around) (outer:List Env) (s:Shared) (H:Hp) (vs:List V) (Q:VK) (E:XK),bW k (A.deeper (envOfC qual (defScope st) s.heap.objs.size f cdv))→sp vs H Q E →
   ∃ t,PSs (sO CX0 P w K mg base N qual (defScope st) f cdv A outer s H E).nox (defBody st) t∧t { nx:=fun _ H'=>Q .non H',rt:=Q } (gP N vs) H):bg P w K mg base CX0 (k+1) f fd ps sp:=by
 obtain ⟨oc,od,kV,doc,pm,an,cdv,ct,osl,rfl,lk,hcd⟩:=F.ex
 refine yR lk hcd S len fun A outer s H vs Q E hr hsp=>?_
 obtain ⟨t,h,q⟩:=hbody cdv A outer s H vs Q E hr hsp
 exact ⟨t,h.nox,q⟩
theorem Fun.binds {x qual:Str} {st:Stmt} {f:Addr} {fd:FuncData} {ps:List Str} (F:Fun K x qual st f fd)
  (h:∀ (kV doc pm:Value) (an:Option Addr) (cdv ct:Value) (us:List Value),us.length=ps.length→bindArgs (PySem.W.fnOf x qual (defArgs st) (defBody st) (defScope st) .none kV doc pm an cdv ct) ⟨us,[]⟩=pure (ps.zip us)):bZ K fd ps []:=by
 obtain ⟨oc,od,kV,doc,pm,an,cdv,ct,osl,rfl,lk,hcd⟩:=F.ex
 exact .all (h kV doc pm an cdv ct)
theorem vD {x qual:Str} {st:Stmt} {f:Addr} {oc:Value} {od an:Option Addr} {osl:Array (Option Value)} {kV doc pm cdv ct:Value} (l:K.lookup f=some ⟨oc,od,.func (PySem.W.fnOf x qual (defArgs st) (defBody st) (defScope st) .none kV doc pm an cdv ct),osl⟩)
  (c:PySem.W.codeIn K cdv qual=true) (k:keepIn K (.ref f)=true):Fun K x qual st f (PySem.W.fnOf x qual (defArgs st) (defBody st) (defScope st) .none kV doc pm an cdv ct):=⟨⟨oc,od,kV,doc,pm,an,cdv,ct,osl,rfl,l,c⟩,k⟩
end
theorem lf {A:Around} {k:Nat} (hr:bW k A):A.units+1<cLine:=Nat.lt_of_le_of_lt (Nat.add_le_add_left (by decide:1≤64) _) hr.units
theorem cf {n:Nat} (h:n≤1000):n<sizeLine:=Nat.lt_of_le_of_lt h (by decide)
section
variable {X:Cx}
theorem pv (i:Nat) {x:Str} {pos:Pos} (hN:X.N[i]?=some x:=by rfl) (hv:Vis X.env.scope x:=by first | exact Or.inl rfl | exact Or.inr (Or.inl rfl) | exact Or.inr (Or.inr rfl)) (hd:(x==("__debug__":Str))=false:=by decide)
  (hcd:(x==("__classdict__":Str))=false:=by decide):PE X (.Name x pos) (yH i):=yb hN hv hd hcd
end
theorem zB {A B:Prop} (h:B):if false=true then A else B:=by
 rw [if_neg Bool.false_ne_true]
 exact h
theorem mJ {A B:Prop} (h:A):if true=true then A else B:=by
 rw [if_pos rfl]
 exact h
theorem aY {c A B:Prop} [Decidable c] (h1:c→A) (h2:¬ c→B):if c then A else B:=by
 by_cases h:c
 ·rw [if_pos h]
  exact h1 h
 ·rw [if_neg h]
  exact h2 h
def aE (H H':Hp):Prop:=∀ b o,H b=some o→H' b=some o
theorem aE.refl (H:Hp):aE H H:=fun _ _ h=>h
theorem aE.trans {H H1 H2:Hp} (a:aE H H1) (b:aE H1 H2):aE H H2:=fun c o h=>b c o (a c o h)
theorem aE.free {H H':Hp} (e:aE H H') {l:Addr} (h:H' l=Option.none):H l=Option.none:=by
 cases q:H l with
 | none=>rfl
 | some o =>
  rw [e l o q] at h
  cases h
open PySem PySem.Spec PyProof.Rows
section
variable {prog:Program} {w:World} {A:Around} {R:Result→Shared→Prop} {s:Shared}
theorem oH {elt target iter:Expr} {ifs:List Expr} {scope:Scope} {pos:Pos} {it acc:Value} {env:Env} (I:Nat→Shared→Prop)
  (turn:∀ n s,I n s→wpAny (model prog w) A (pyNext it) (fun r s₁=>match r with
   | none=>R (.ok .next) s₁
   | some v=>wpAny (model prog w) A (letOwnedTupleGo target it v) (fun _ s₁'=>wpAny (model prog w) A (assign target env v) (fun _ s₂ =>
     wpAny (model prog w) A (forIn ifs true fun c r=>if r=true then do let ok ← isTrue c env (eval c env); pure (ForInStep.yield ok) else pure (ForInStep.yield r)) (fun ok s₃ =>
      if ok=true then wpAny (model prog w) A (eval elt env) (fun x s₄ =>
       wpAny (model prog w) A (call (.builtin "list.append") [acc,x]) (fun _ s₅=>∃ m,m<n∧I m s₅) (fun _ _=>False) s₄) (fun _ _=>False) s₃
      else ∃ m,m<n∧I m s₃) (fun _ _=>False) s₂) (fun _ _=>False) s₁') (fun _ _=>False) s₁) (fun _ _=>False) s)
  (n:Nat) (h:I n s) :
  codeAny (model prog w) A (.compLoop (.ListComp elt [⟨target,iter,ifs,0⟩] scope pos) 0 it acc env) R s:=by
 refine codeAny_loop rfl I (fun n s hI=>?_) n h
 show wpAny _ A ((compTurn (.ListComp elt [⟨target,iter,ifs,0⟩] scope pos) 0 it acc env).onRaise (fun x=>do noteFrame x env; theTreesLotGoes x)) _ _ s
 refine wpAny_noted ?_
 rw [compTurn_list]
 refine wpAny_bind (wpAny_standAt (wpAny_bind (wpAny_mono (turn n s hI) (fun r s₁ h₁=>?_) fun _ _ h'=>h'.elim)))
 cases r with
 | none=>exact wpAny_pure h₁
 | some v =>
  refine wpAny_bind (wpAny_mono h₁ (fun _ s₁' h₁'=>?_) fun _ _ h'=>h'.elim)
  refine wpAny_bind (wpAny_mono h₁' (fun _ s₂ h₂=>wpAny_bind (wpAny_mono h₂ (fun ok s₃ h₃=>?_) fun _ _ h'=>h'.elim)) fun _ _ h'=>h'.elim)
  cases ok with
  | false=>exact wpAny_pure ⟨rfl,h₃⟩
  | true =>
   exact wpAny_bind (wpAny_bind (wpAny_mono h₃ (fun x s₄ h₄=>wpAny_bind (wpAny_mono h₄ (fun _ s₅ h₅=>wpAny_pure (wpAny_pure ⟨rfl,h₅⟩)) fun _ _ h'=>h'.elim)) fun _ _ h'=>h'.elim))
end
def clo (env:Env):List (Str×NameKind)→List (Str×Addr)→List (Str×Addr)
 | [],cs=>cs
 | (n,k)::r,cs=>if k==.free then (match env.cells.lookup n with
  | some c=>clo env r ((n,c)::cs)
  | none=>clo env r cs) else clo env r cs
theorem dD {scope:Scope} {env:Env} (h:∀ x∈scope.names,x.2=.free→∃ c,env.cells.lookup x.1=some c):closureFor scope env=pure (clo env scope.names []):=by
 have go:∀ (l:List (Str×NameKind)) (cs:List (Str×Addr)),(∀ x∈l,x.2=.free→∃ c,env.cells.lookup x.1=some c) →
   (forIn (m:=Sem) l cs fun x r=>if (x.2==NameKind.free)=true then do let c ← cellOf env x.1; pure (ForInStep.yield ((x.1,c)::r)) else pure (ForInStep.yield r))=pure (clo env l cs):=by
  intro l
  induction l with
  | nil=>intro cs _; rfl
  | cons x r ih =>
   intro cs hx
   obtain ⟨n,k⟩:=x
   rw [List.forIn_cons]
   unfold clo
   cases hk:k==NameKind.free with
   | true =>
    obtain ⟨c,hc⟩:=hx (n,k) List.mem_cons_self (by simpa using hk)
    simp only [hk,if_true,cellOf,hc]
    exact ih _ fun y hy=>hx y (List.mem_cons_of_mem _ hy)
   | false =>
    simp only [hk,Bool.false_eq_true,if_false]
    exact ih _ fun y hy=>hx y (List.mem_cons_of_mem _ hy)
 have e:=go scope.names [] h
 unfold closureFor
 exact congrArg (fun t:Sem (List (Str×Addr))=>t >>= fun r=>pure r) e
theorem cU {env:Env}:∀ (l:List (Str×NameKind)) (cs:List (Str×Addr)),(∀ p∈cs,env.cells.lookup p.1=some p.2)→∀ p∈clo env l cs,env.cells.lookup p.1=some p.2
 | [],cs,h,p,hp=>h p hp
 | (n,k)::r,cs,h,p,hp=>by
  unfold clo at hp
  split at hp
  ·split at hp
   ·next c hc =>
    refine cU r _ (fun q hq=>?_) p hp
    rcases List.mem_cons.mp hq with e | hq
    ·subst e; exact hc
    ·exact h q hq
   ·exact cU r cs h p hp
  ·exact cU r cs h p hp
theorem eU {env:Env}:∀ (l:List (Str×NameKind)) (cs:List (Str×Addr)),∀ p∈cs,p∈clo env l cs
 | [],_,_,hp=>hp
 | (n,k)::r,cs,p,hp=>by
  unfold clo
  split
  ·split
   ·exact eU r _ p (List.mem_cons_of_mem _ hp)
   ·exact eU r _ p hp
  ·exact eU r _ p hp
theorem hU {env:Env} {x:Str} {c:Addr} (hc:env.cells.lookup x=some c):∀ (l:List (Str×NameKind)) (cs:List (Str×Addr)),(x,NameKind.free)∈l→(x,c)∈clo env l cs
 | [],_,h=>nomatch h
 | (n,k)::r,cs,h=>by
  unfold clo
  rcases List.mem_cons.mp h with e | h
  ·cases e
   simp only [beq_self_eq_true,if_true,hc]
   exact eU r _ _ List.mem_cons_self
  ·split
   ·split
    ·exact hU hc r _ h
    ·exact hU hc r _ h
   ·exact hU hc r _ h
theorem cG {cs:List (Str×Addr)} {f:Str→Option Addr} (h:∀ p∈cs,f p.1=some p.2) {x:Str} {c:Addr} (e:cs.lookup x=some c):f x=some c:=h _ (PySem.mem_of_lookup e)
theorem hX {x:Str} {c:Addr}:∀ {cs:List (Str×Addr)},(∀ p∈cs,p.1=x→p.2=c)→(x,c)∈cs→cs.lookup x=some c
 | [],_,h=>nomatch h
 | (n,d)::r,ha,h=>by
  rw [List.lookup_cons]
  cases e:x==n with
  | true =>
   have e':x=n:=by simpa using e
   have:=ha (n,d) List.mem_cons_self e'.symm
   simp at this ⊢
   exact this
  | false =>
   rcases List.mem_cons.mp h with z | h
   ·cases z; simp at e
   ·exact hX (fun p hp=>ha p (List.mem_cons_of_mem _ hp)) h
theorem jY {env:Env} {names:List (Str×NameKind)} {x:Str} {c:Addr} (hc:env.cells.lookup x=some c) (h:(x,NameKind.free)∈names):(clo env names []).lookup x=some c :=
 hX (fun p hp e=>by have:=cU names [] (fun _ z=>nomatch z) p hp; rw [e,hc] at this; exact (Option.some.inj this).symm) (hU hc names [] h)
def slots (ρ:List (Option Nat)) (σ:St):St:=ρ.map fun o=>o.bind fun j=>(σ[j]?).join
def blk (X:Cx) (scope:Scope) (N':List Str) (C:Addr) (s₀:Shared) (H₀:Hp) (ex:List Addr):Cx :=
 { X with N:=N',s₀:=s₀,H₀:=H₀,env:=compEnvC scope (clo X.env scope.names []) C X.env,outer:=X.stack,stack:=X.stack,ex:=ex,fn:=fun _=>false,pn:=[],xe:=fun _ _=>False }
structure gQ (X:Cx) (scope:Scope) (N':List Str) (ρ:List (Option Nat)) (m:Nat):Prop where
 kind:scope.kind=.function
 nocell:∀ x∈scope.names,x.2≠.cell
 names:∀ x∈scope.names,x.2=.local→scope.names.lookup x.1=some .local
 frees:∀ x∈scope.names,x.2=.free→X.env.kindOf x.1=some .cell∨X.env.kindOf x.1=some .free
 len:ρ.length=N'.length
 own:∀ (i j:Nat),ρ[i]?=some (some j)→m≤i
 slot:∀ (i j:Nat) (x:Str),ρ[i]?=some (some j)→N'[i]?=some x→X.N[j]?=some x∧(x,NameKind.free)∈scope.names
 slotNoLocal:∀ (i j:Nat) (x:Str),ρ[i]?=some (some j)→N'[i]?=some x→(relabel scope X.env).names.lookup x≠some .local
theorem ca {env:Env}:∀ {names:List (Str×NameKind)} {x:Str} {k:NameKind},(names.map fun (n,k)=>if (k==NameKind.free&&env.scope.kind==.function&&env.kindOf n==some .cell) then (n,NameKind.cell) else (n,k)).lookup x=some k→(k=.cell∨k=.free)→(∀ y∈names,y.2≠.cell)→(x,NameKind.free)∈names
 | [],_,_,h,_,_=>by simp at h
 | (n,k0)::r,x,k,h,hk,hn=>by
  rw [List.map_cons] at h
  by_cases hc:(k0==NameKind.free&&env.scope.kind==.function&&env.kindOf n==some .cell)=true
  ·simp only [hc,if_true,List.lookup_cons] at h
   cases e:x==n with
   | true =>
    have e':x=n:=by simpa using e
    have hk0:k0=.free:=by simp [Bool.and_eq_true] at hc; exact hc.1.1
    subst e'; subst hk0
    exact List.mem_cons_self
   | false =>
    rw [e] at h
    exact List.mem_cons_of_mem _ (ca h hk fun y hy=>hn y (List.mem_cons_of_mem _ hy))
  ·simp only [hc,Bool.false_eq_true,if_false,List.lookup_cons] at h
   cases e:x==n with
   | true =>
    rw [e] at h
    have e':x=n:=by simpa using e
    subst e'
    have h':k0=k:=by simpa using h
    subst h'
    rcases hk with z | z
    ·exact absurd z (hn (x,k0) List.mem_cons_self)
    ·subst z; exact List.mem_cons_self
   | false =>
    rw [e] at h
    exact List.mem_cons_of_mem _ (ca h hk fun y hy=>hn y (List.mem_cons_of_mem _ hy))
theorem kz {ρ:List (Option Nat)} {σ:St} {i:Nat} {v:V} (h:(slots ρ σ)[i]?=some (some v)):∃ j,ρ[i]?=some (some j)∧σ[j]?=some (some v):=by
 unfold slots at h
 rw [List.getElem?_map] at h
 cases e:ρ[i]? with
 | none=>rw [e] at h; cases h
 | some o =>
  rw [e] at h
  cases o with
  | none=>simp at h
  | some j =>
   refine ⟨j,rfl,?_⟩
   simp at h
   cases q:σ[j]? with
   | none=>rw [q] at h; simp at h
   | some z=>rw [q] at h; simp at h; rw [h]
section
variable {X:Cx} {pins:List (Addr×Obj)} {σ:St} {H:Hp} {s:Shared} {scope:Scope} {N':List Str} {ρ:List (Option Nat)} {m:Nat}
theorem sf (I:Inv X pins σ H s) (B:gQ X scope N' ρ m) {fp:List Addr} (hfp:∀ b∈fp,eR X pins H b) {C D:Addr} {h1:Heap} {tk:Nat} {oD:Obj} {mC:Str→Option Value} (hC:s.heap.objs.size≤C) (hD:s.heap.objs.size≤D) (hDC:D≠C)
  (hfs:∀ b∈fp,b<s.heap.objs.size) (old:∀ b o,s.heap.get? b=some o→h1.get? b=some o) (hns:h1.Ns C mC) (hoD:h1.get? D=some oD) (hdD:∀ v,oD.data≠.cell v) :
  Inv (blk X scope N' C s H fp) [(D,oD)] (slots ρ σ) H { s with heap:=h1,toks:=tk }:=by
 have hcl:∀ x c,(clo X.env scope.names []).lookup x=some c→X.env.cells.lookup x=some c:=fun x c e=>cG (f:=fun y=>X.env.cells.lookup y) (cU scope.names [] fun _ z=>nomatch z) e
 have nofs:∀ b,s.heap.objs.size≤b→b∉frs X.stack:=fun b hb z=>by
  rcases List.mem_cons.mp (I.stkSub b z) with e | z
  ·exact absurd (Nat.lt_of_lt_of_le I.lt hb) (by rw [e]; exact Nat.lt_irrefl _)
  ·exact I.nofs hb z
 have lk:∀ x,((relabel scope X.env).names.lookup x=some .cell∨(relabel scope X.env).names.lookup x=some .free)→(x,NameKind.free)∈scope.names:=fun x hx=>by
  rcases hx with hx | hx
  ·exact ca hx (.inl rfl) B.nocell
  ·exact ca hx (.inr rfl) B.nocell
 refine ⟨⟨I.ok.mod,B.kind,I.ok.glob,I.ok.blt,hC,fun x y c h1 h2=>I.ok.inj x y c (hcl x c h1) (hcl y c h2),fun x hx=>?_,fun x c hf _=>absurd hf Bool.false_ne_true,I.ok.hd,I.ok.frames,.inl rfl,fun b hb=>⟨Nat.ne_of_lt (Nat.lt_of_lt_of_le (hfs b hb) hC),fun x c e=>(hfp b hb).2.2.2.2.1 x c (hcl x c e)⟩,I.bs,Nat.le_trans I.ok.bsz I.sz,fun b o e hb=>?_,fun b hb z=>?_,I.stack,I.stkFree⟩,
  rfl,I.bare,Un.kept old,⟨mC,hns,fun i x v h1 h2 h3=>?_⟩,fun x c e=>?_,I.hok.fresh hC,fun x c e=>I.freeC x c (hcl x c e),fun p hp=>?_,I.hok.kept old,?_⟩
 ·have hm:=lk x hx
  obtain ⟨c,hc⟩:=I.ok.has x (B.frees _ hm rfl)
  exact ⟨c,jY hc hm⟩
 ·rcases (hfp b hb).2.2.2.1 with z | z
  ·exact I.ok.noex b o e z
  ·exact absurd (Nat.lt_of_lt_of_le (Heap.lt_size (I.ok.bs b o e).1) z) (Nat.lt_irrefl _)
 ·rcases List.mem_cons.mp (I.stkSub b z) with e | z
  ·exact (hfp b hb).2.1 e
  ·exact (hfp b hb).2.2.1 z
 ·obtain ⟨j,hj,hσ⟩:=kz h2
  obtain ⟨hN,hm⟩:=B.slot i j x hj h1
  have hk:=B.frees _ hm rfl
  obtain ⟨m0,hn0,hl⟩:=I.loc
  obtain ⟨u,r,l⟩:=hl j x v hN hσ (hk.elim (fun z=>.inr (.inl z)) fun z=>.inr (.inr z))
  rcases l with ⟨z,_⟩ | ⟨_,c,hc,hcell⟩
  ·rcases hk with q | q
   ·rw [q] at z; cases z
   ·rw [q] at z; cases z
  ·refine ⟨u,r,.inr ⟨?_,c,jY hc hm,?_⟩⟩
   ·rcases h3 with z | z | z
    ·-- a free name is no local of the block
     exfalso
     have q:(relabel scope X.env).names.lookup x=some .local:=z
     exact (B.slotNoLocal i j x hj h1 q)
    ·exact .inl z
    ·exact .inr z
   ·obtain ⟨o,ho,hd⟩:=hcell
    exact ⟨o,old _ _ ho,hd⟩
 ·obtain ⟨v,o,ho,hd⟩:=I.cell x c (hcl x c e)
  exact ⟨v,o,old _ _ ho,hd⟩
 ·have e:p=(D,oD):=by
   have hp':p∈([]:List (Addr×Obj))++[(D,oD)]:=hp
   simpa using hp'
  subst e
  exact ⟨hoD,I.hok.fresh hD,hDC,nofs D hD,hdD⟩
 ·show (slots ρ σ).length=N'.length
  unfold slots
  rw [List.length_map]
  exact B.len
end
def PTs (Y:Cx) (ifs:List Expr) (t:TT):Prop :=
 ∀ (pins:List (Addr×Obj)) (s:Shared) (σ:St) (H:Hp) (Q:Bool→Hp→Prop),Inv Y pins σ H s→t σ H Q →
  wpAny (model Y.prog Y.w) Y.A (forIn ifs true fun c r=>if r=true then do let ok ← isTrue c Y.env (eval c Y.env); pure (ForInStep.yield ok) else pure (ForInStep.yield r)) (TP Y pins σ Q) Y.xe s
def xl:TT:=fun _ H Q=>Q true H
theorem rB {Y:Cx}:PTs Y [] xl:=fun _ _ _ H _ I h=>wpAny_tests_nil ⟨H,I,h⟩
def oF (J:It) (m:Nat) (g:TG) (tt:TT) (te:TE) (σ':St) (Z:List V→Hp→Prop) (H1:Hp):Prop :=
 ∃ W:Nat→Nat→List V→Hp→Prop,(∃ k,W 0 k [] H1)∧∀ i k acc H,W i k acc H→acc.length≤sizeLine ∧
  ((J.stop i H∧Z acc H)∨(J.go i H∧∀ x H',J.yld i H x H'→g x σ' H' fun σ2 H2=>(σ2.drop m=σ'.drop m∧σ2.length=σ'.length) ∧
    tt σ2 H2 fun b H3=>if b=true then te σ2 H3 fun v H4=>acc.length<sizeLine∧∃ k',k'<k∧W (i+1) k' (acc++[v]) H4 else ∃ k',k'<k∧W (i+1) k' acc H3))
def wX (wi:TI) (ρ:List (Option Nat)) (m:Nat) (g:TG) (tt:TT) (te:TE):TE:=fun σ H Q=>wi σ H fun J H1 =>
 oF J m g tt te (slots ρ σ) (fun acc H=>∀ D,H D=none→Q (.ref D) (upd H D (.lst acc))) H1
theorem vF {σ σ':St} {m:Nat} (h:σ.drop m=σ'.drop m) {i:Nat} (hi:m≤i):σ[i]?=σ'[i]?:=by
 have e:(σ.drop m)[i - m]?=(σ'.drop m)[i - m]?:=by rw [h]
 rw [List.getElem?_drop,List.getElem?_drop] at e
 rwa [show m+(i - m)=i by omega] at e
section
variable {X:Cx} {pins:List (Addr×Obj)} {σ:St} {H2:Hp} {s2:Shared} {scope:Scope} {N':List Str} {ρ:List (Option Nat)} {m:Nat} {elt tg iter:Expr} {ifs:List Expr} {g:TG} {tt:TT} {te:TE} {pos:Pos}
theorem rE (hc:X.calm=true) (B:gQ X scope N' ρ m) (hg:∀ C s₀ H₀ ex,PG (blk X scope N' C s₀ H₀ ex) tg g) (ht:∀ C s₀ H₀ ex,PTs (blk X scope N' C s₀ H₀ ex) ifs tt) (he:∀ C s₀ H₀ ex,PE (blk X scope N' C s₀ H₀ ex) elt te)
  {J:It} {fp:List Addr} {it:Addr} {tn:Nat→Heap→Prop} {Z:List V→Hp→Prop} (I:Inv X pins σ H2 s2) (T:oJ X.prog X.w X.K tg J fp it tn) (st:tn 0 s2.heap) (hfp:∀ b∈fp,eR X pins H2 b) (hL:oF J m g tt te (slots ρ σ) Z H2)
  {RR:Value→Addr→Result→Shared→Prop} {E:Value→Shared→Prop}
  (fin:∀ (D C:Addr) (H':Hp) (acc:List V) (s':Shared) (mC:Str→Option Value),s'.heap.Ns C mC→Inv X pins σ (upd H' D (.lst acc)) s'→eR X pins (upd H' D (.lst acc)) C→H' D=none→Z acc H'→RR (.ref D) C (.ok .next) s') :
  wpAny (model X.prog X.w) X.A (newList []) (fun acc s₃=>wpAny (model X.prog X.w) X.A (newFunctionEnv scope X.env.globals (clo X.env scope.names []) [] X.env.qual none .none (some X.env)) (fun cenv s₄ =>
   codeAny (model X.prog X.w) X.A (.compStart (.ListComp elt [⟨tg,iter,ifs,0⟩] scope pos) 0 (.ref it) acc { cenv with scope:=relabel scope X.env }) (RR acc cenv.locals) s₄) E s₃) E s2:=by
 refine wpAny_newObj_type (wpAny_newFunctionEnv B.nocell (by intro y hy; simp at hy) (fun h₁ hns₁ hsb₁=>?_) B.kind)
 dsimp only at hns₁ hsb₁ ⊢
 generalize hHp:s2.heap.push { cls:=.type "list",dict:=none,data:=.seq ([]:List Value).toArray }=Hp2 at hns₁ hsb₁ ⊢
 have hCe:Hp2.objs.size=s2.heap.objs.size+1:=by rw [← hHp,Heap.size_push]
 have hDC:s2.heap.objs.size≠Hp2.objs.size:=by rw [hCe]; exact Nat.ne_of_lt (Nat.lt_succ_self _)
 have hCle:s2.heap.objs.size≤Hp2.objs.size:=by rw [hCe]; exact Nat.le_succ _
 have below:∀ b,b<s2.heap.objs.size→b≠Hp2.objs.size∧b≠s2.heap.objs.size:=fun b hb=>⟨by rw [hCe]; exact Nat.ne_of_lt (Nat.lt_succ_of_lt hb),Nat.ne_of_lt hb⟩
 have old:∀ b o,s2.heap.get? b=some o→h₁.get? b=some o:=fun b o e=>hsb₁.extBut b o (below b (Heap.lt_size e)).1 (Heap.get?_push_of_some _ (hHp ▸ Heap.get?_push_of_some _ e))
 have hfs:∀ b∈fp,b<s2.heap.objs.size:=fun b hb=>let ⟨o,e,_⟩:=T.obj 0 _ st b hb; Heap.lt_size e
 generalize hDn:s2.heap.objs.size=D at *
 generalize hCn:Hp2.objs.size=C at *
 have hacc:h₁.get? D=some { cls:=.type "list",data:=.seq ([]:List Value).toArray }:=hsb₁.extBut _ _ hDC (Heap.get?_push_of_some _ (by rw [← hHp,← hDn]; exact Heap.get?_push_size _ rfl))
 have st₁:tn 0 h₁:=T.keep _ _ _ st fun b _ o e=>old b o e
 obtain ⟨W,⟨k0,w0⟩,turn⟩:=hL
 have cellLt:∀ x c,(clo X.env scope.names []).lookup x=some c→c<s2.heap.objs.size:=fun x c e=>by
  have e':X.env.cells.lookup x=some c:=cG (f:=fun y=>X.env.cells.lookup y) (cU scope.names [] fun _ z=>nomatch z) e
  obtain ⟨v,o,ho,_⟩:=I.cell x c e'
  exact Heap.lt_size ho
 have stat:∀ {H':Hp} {o:Obj},(∀ b∈fp,H' b=none)→∀ b∈fp,eR (blk X scope N' C s2 H2 fp) [(D,o)] H' b:=fun {H' o} hn b hb=>by
  obtain ⟨_,f1,f2,_,f4,_⟩:=hfp b hb
  refine ⟨hn b hb,(below b (hfs b hb)).1,fun z=>?_,.inl hb,fun x c e=>f4 x c (cG (f:=fun y=>X.env.cells.lookup y) (cU scope.names [] fun _ z=>nomatch z) e),fun p hp=>?_⟩
  ·rcases List.mem_cons.mp (I.stkSub b z) with e | z
   ·exact f1 e
   ·exact f2 z
  ·have e:p=(D,o):=by
    have hp':p∈([]:List (Addr×Obj))++[(D,o)]:=hp
    simpa using hp'
   subst e
   exact Ne.symm (below b (hfs b hb)).2
 have loop:∀ s₃:Shared,s₃={ s2 with heap:=h₁,toks:=s2.toks+([]:List (Str×Value)).length } →
   codeAny (model X.prog X.w) X.A (.compLoop (.ListComp elt [⟨tg,iter,ifs,0⟩] scope pos) 0 (.ref it) (.ref D) (compEnvC scope (clo X.env scope.names []) C X.env)) (RR (.ref D) C) s₃:=by
  rintro s₃ rfl
  have I₁:Inv (blk X scope N' C s2 H2 fp) [(D,{ cls:=.type "list",data:=.seq ([]:List Value).toArray })] (slots ρ σ) H2 { s2 with heap:=h₁,toks:=s2.toks+([]:List (Str×Value)).length } :=
   sf I B hfp (by rw [hDn]; exact hCle) (by rw [hDn]; exact Nat.le_refl _) hDC (fun b hb=>by rw [hDn]; exact hfs b hb) old hns₁ hacc (fun v z=>by cases z)
  refine oH (fun n s'=>∃ (i:Nat) (acc:List V) (H':Hp) (its:List Value) (kk:Nat),Inv (blk X scope N' C s2 H2 fp) [(D,{ cls:=.type "list",data:=.seq its.toArray kk })] (slots ρ σ) H' s'∧aD acc its∧tn i s'.heap∧(∀ b∈fp,H' b=none)∧W i n acc H') ?_ k0
   ⟨0,[],H2,[],_,I₁,.nil,st₁,fun b hb=>(hfp b hb).1,w0⟩
  rintro n s3 ⟨i,acc,H3,its,kk,I3,rv,st3,fr3,w3⟩
  obtain ⟨hlen,cs⟩:=turn i n acc H3 w3
  rcases cs with ⟨stop,z⟩ | ⟨go,step⟩
  ·refine thn (T.done (blk X scope N' C s2 H2 fp) rfl rfl rfl hc i _ s3 (slots ρ σ) H3 (fun _ _=>False) I3 (stat fr3) st3 stop) fun r s4 ⟨hr,I4⟩=>?_
   subst hr
   obtain ⟨eD,nD,_,_,_⟩:=I4.pin (D,_) (List.mem_append_right _ (List.mem_singleton.mpr rfl))
   obtain ⟨mC,hnsC,_⟩:=I4.loc
   have hD2:H2 D=none:=I.hok.fresh (by rw [hDn]; exact Nat.le_refl _)
   have u:Un (frs X.stack) fp H2 (upd H3 D (.lst acc)) s2.heap s4.heap :=
    ⟨I4.base.keep,I4.base.slot,fun b o e n hx=>by rw [ax (below b (by rw [← hDn]; exact Heap.lt_size e)).2]; exact I4.base.free b o e n hx,I4.base.there,
     fun b xs e=>by rw [ax (av e hD2)]; exact I4.base.tups b xs e,fun b o u e=>by rw [ax (av e hD2)]; exact I4.base.frzs b o u e,
     fun b ps e=>by rw [ax (av e hD2)]; exact I4.base.tbls b ps e⟩
   have hok:HOk X.prog X.w (upd H3 D (.lst acc)) s4.heap:=fun b o e=>by
    by_cases hb:b=D
    ·subst hb
     rw [ad] at e; cases e
     exact ⟨hlen,its,kk,rv,eD⟩
    ·rw [ax hb] at e
     exact (I4.hok b o e).stay (fun c v _ q=>q) (fun c q=>by rw [ax (av q nD)]; exact q) fun c xs q=>by rw [ax (av q nD)]; exact q
   have IX:Inv X pins σ (upd H3 D (.lst acc)) s4:=Inv.call' (ch:=fp) I I4.os u hok I4.bare fun b hb=>⟨(hfp b hb).2.2.2.1,(hfp b hb).2.1,(hfp b hb).2.2.2.2.1,(hfp b hb).2.2.2.2.2⟩
   have nC:(upd H3 D (.lst acc)) C=none:=by rw [ax (Ne.symm hDC)]; exact I4.free
   exact fin D C H3 acc s4 mC hnsC IX (I.fpOk (by rw [hDn]; exact hCle) nC) nD z
  ·refine thn (T.item (blk X scope N' C s2 H2 fp) rfl rfl rfl hc i _ s3 (slots ρ σ) H3 (fun _ _=>False) I3 (stat fr3) st3 go) fun r s4 ⟨u,hr,h4⟩=>?_
   subst hr
   refine thn h4 fun _ s5 ⟨x,H5,I5,r5,y5,st5,fr5⟩=>?_
   have I5':=I5.pinned (stat fr5) (T.obj _ _ st5)
   refine thn (hg C s2 H2 fp _ s5 (slots ρ σ) H5 x u _ I5' r5 (step x H5 y5)) fun _ s6 ⟨σ6,H6,I6,⟨d6,l6⟩,q6⟩=>?_
   refine thn (ht C s2 H2 fp _ s6 σ6 H6 _ I6 q6) fun b s7 ⟨H7,I7,q7⟩=>?_
   have le6:∀ (j:Nat) v,(slots ρ σ)[j]?=some (some v)→σ6[j]?=some (some v):=fun j v e=>by
    obtain ⟨k,hk,_⟩:=kz e
    rw [vF d6 (B.own j k hk)]
    exact e
   have kept:∀ {H8:Hp} {s8:Shared},Inv (blk X scope N' C s2 H2 fp) ([(D,{ cls:=.type "list",data:=.seq its.toArray kk })]++fi fp s5.heap) σ6 H8 s8 →
     (∀ b∈fp,∀ o,s5.heap.get? b=some o→s8.heap.get? b=some o)∧∀ b∈fp,H8 b=none:=fun {H8 s8} I8 =>
    ⟨fun b hb o e=>(I8.pin (b,o) (List.mem_append_right _ (List.mem_append_right _ (cn hb e)))).1,fun b hb=>by
     obtain ⟨o,e,d⟩:=T.obj _ _ st5 b hb
     exact (I8.pin (b,o) (List.mem_append_right _ (List.mem_append_right _ (cn hb e)))).2.1⟩
   cases b with
   | false =>
    rw [if_neg Bool.false_ne_true] at q7 ⊢
    obtain ⟨k',hk,w7⟩:=q7
    exact ⟨k',hk,i+1,acc,H7,its,kk,I7.unpinned.weak l6.symm le6,rv,T.keep _ _ _ st5 (kept I7).1,(kept I7).2,w7⟩
   | true =>
    rw [if_pos rfl] at q7 ⊢
    refine thn (he C s2 H2 fp _ s7 σ6 H7 _ I7 q7) fun xv s8 ⟨v,H8,I8,r8,q8⟩=>?_
    obtain ⟨hlt,k',hk,w8⟩:=q8
    obtain ⟨eD,nD,neD,nfD,_⟩:=I8.pin (D,_) (List.mem_append_right _ (List.mem_append_left _ (List.mem_singleton.mpr rfl)))
    have hsz:its.toArray.size≤sizeLine:=by rw [List.size_toArray,← rv.length]; exact hlen
    refine wpAny_list_append_plain (hsz:=hsz) ⟨kk,eD⟩ fun h₉ hl₉ hs₉=>?_
    obtain ⟨kk',e9⟩:=hl₉
    have I8':Inv (blk X scope N' C s2 H2 fp) [] σ6 H8 s8:=I8.pins_of fun p hp=>nomatch hp
    have I9:Inv (blk X scope N' C s2 H2 fp) [] σ6 H8 { s8 with heap:=h₉,toks:=s8.toks }:=I8'.turned (it:=D) (fun b o hb e=>hs₉.extBut b o hb e) nD hDC (.inr (Nat.le_of_eq hDn))
     (fun x c e z=>by have q:=cellLt x c e; rw [hDn,z] at q; exact Nat.lt_irrefl _ q) fun p hp=>nomatch (show p∈([]:List (Addr×Obj)) from hp)
    have e9':h₉.get? D=some { cls:=.type "list",data:=.seq (its++[xv]).toArray kk' }:=by rw [e9,List.push_toArray]
    have I9':Inv (blk X scope N' C s2 H2 fp) [(D,{ cls:=.type "list",data:=.seq (its++[xv]).toArray kk' })] (slots ρ σ) H8 { s8 with heap:=h₉,toks:=s8.toks } :=
     (I9.weak l6.symm le6).pins_of fun p hp=>by
      have e:p=(D,_):=List.mem_singleton.mp hp
      subst e
      exact ⟨e9',nD,hDC,nfD,fun v z=>by cases z⟩
    refine ⟨k',hk,i+1,acc++[v],H8,its++[xv],kk',I9',rv.append (.cons r8 .nil),T.keep _ _ _ st5 fun b hb o e=>?_,(kept I8).2,w8⟩
    exact hs₉.extBut b o (below b (hfs b hb)).2 ((kept I8).1 b hb o e)
 exact codeAny_compStart_list (loop _ rfl) (T.self _ 0 _ _ _ st₁ (loop _ rfl))
theorem wP {wi:TI} (B:gQ X scope N' ρ m) (hc:X.calm=true) (hi:PI X tg iter wi) (hg:∀ C s₀ H₀ ex,PG (blk X scope N' C s₀ H₀ ex) tg g) (ht:∀ C s₀ H₀ ex,PTs (blk X scope N' C s₀ H₀ ex) ifs tt) (he:∀ C s₀ H₀ ex,PE (blk X scope N' C s₀ H₀ ex) elt te)
  (hs:∀ x,foldedSetIterable iter X.env x=pure x:=by intro _; rfl):PE X (.ListComp elt [⟨tg,iter,ifs,0⟩] scope pos) (wX wi ρ m g tt te):=by
 intro pins s σ H Q I h
 rw [eval_ListComp]
 refine wpAny_comprehension_free (use:=none) rfl hs (dD fun x hx hf=>I.ok.has x.1 (B.frees x hx hf)) B.kind B.names (thn (hi pins s σ H _ I h) fun v s1 h1=>thn h1 fun itv s2 h2=>?_)
 obtain ⟨it,fp,tn,J,H2,e,I2,T,st2,f2,hL⟩:=h2
 subst e
 refine rE (RR:=fun acc C=>compPost (model X.prog X.w) X.A X.xe none (EP X pins σ Q) acc C) hc B hg ht he I2 T st2 f2 hL fun D C H' acc s' mC hns IX fC nD z=>?_
 refine ⟨mC,hns,fun h' hs'=>⟨.ref D,_,IX.turned (t':=s'.toks) (it:=C) (fun b o hb e=>hs'.extBut b o hb e) fC.1 fC.2.1 fC.2.2.2.1 fC.2.2.2.2.1 fC.2.2.2.2.2,rfl,z D nD⟩⟩
theorem wm {wi:TI} {i:Nat} {y:Str} {py spos:Pos} (B:gQ X scope N' ρ m) (hN:X.N.Nodup) (hi':X.N[i]?=some y) (hy:Loc X.env.scope y) (hc:X.calm=true) (hi:PI X tg iter wi) (hg:∀ C s₀ H₀ ex,PG (blk X scope N' C s₀ H₀ ex) tg g) (ht:∀ C s₀ H₀ ex,PTs (blk X scope N' C s₀ H₀ ex) ifs tt) (he:∀ C s₀ H₀ ex,PE (blk X scope N' C s₀ H₀ ex) elt te)
  (hsw:swapsWith (.ListComp elt [⟨tg,iter,ifs,0⟩] scope pos) (some (.Name y py)) spos.line X.env=pure true:=by rfl)
  (hs:∀ x,foldedSetIterable iter X.env x=pure x:=by intro _; rfl) (hf:X.fn y=true∨X.env.scope.names.lookup y=some .local:=by first | exact .inl rfl | exact .inr rfl | assumption) :
  PS X (.Assign [.Name y py] (.ListComp elt [⟨tg,iter,ifs,0⟩] scope pos) spos) (xX (wX wi ρ m g tt te) (uM i)):=by
 intro pins s σ H D I h
 rw [exec_Assign_Name_used _ _ _ _ hsw]
 refine wpAny_bind (wpAny_standAt (wpAny_bind ?_))
 show wpAny _ X.A (do let _ ← comprehension (.ListComp elt [⟨tg,iter,ifs,0⟩] scope pos) scope X.env _ (newList []) false (eval iter X.env) (some (assign (.Name y py) X.env))) _ _ s
 refine wpAny_bind (wpAny_mono (wpAny_comprehension_free (use:=some (assign (.Name y py) X.env)) (Q:=fun _ s'=>SP X pins D .next s') rfl hs (dD fun x hx hf=>I.ok.has x.1 (B.frees x hx hf)) B.kind B.names
  (thn (hi pins s σ H _ I h) fun v s1 h1=>thn h1 fun itv s2 h2=>?_)) (fun _ s' hq=>wpAny_pure (wpAny_pure hq)) fun _ _ e=>e)
 obtain ⟨it,fp,tn,J,H2,e,I2,T,st2,f2,hL⟩:=h2
 subst e
 refine rE (RR:=fun acc C=>compPost (model X.prog X.w) X.A X.xe (some (assign (.Name y py) X.env)) (fun _ s'=>SP X pins D .next s') acc C) hc B hg ht he I2 T st2 f2 hL fun Dl C H' acc s' mC hns IX fC nD z=>?_
 show wpAny _ X.A (assign (.Name y py) X.env (.ref Dl)) _ _ _
 obtain ⟨oC,es,ep,hoC,hdC,hrC⟩:=id hns
 have IX':Inv X (pins++fi [C] s'.heap) σ (upd H' Dl (.lst acc)) s':=IX.pinned (fp:=[C]) (fun b hb=>by rw [List.mem_singleton.mp hb]; exact fC) fun b hb=>by
  rw [List.mem_singleton.mp hb]
  exact ⟨oC,hoC,fun v q=>by rw [hdC] at q; cases q⟩
 refine wpAny_assign_Name (cJ IX' hN hi' hy (v:=.ref Dl) rfl (fun s'' I''=>?_) hf)
 have pC:=I''.pin (C,oC) (List.mem_append_right _ (List.mem_append_right _ (cn (List.mem_singleton.mpr rfl) hoC)))
 refine ⟨mC,⟨oC,es,ep,pC.1,hdC,hrC⟩,fun h' hs'=>?_⟩
 exact ⟨_,_,I''.unpinned.turned (t':=s''.toks) (it:=C) (fun b o hb e=>hs'.extBut b o hb e) fC.1 fC.2.1 fC.2.2.2.1 fC.2.2.2.2.1 fC.2.2.2.2.2,z Dl nD⟩
end
open PySem PySem.Spec PyProof.Rows
mutual
inductive RdD (K:Frag) (H:Hp):V→PyData→Prop
 | non:RdD K H .non .none
 | bl (b:Bool):RdD K H (.bl b) (.bool b)
 | int (i:Int):RdD K H (.int i) (.int i)
 | str (x:Str):RdD K H (.str x) (.str x)
 | lst {a:Addr} {xs:List V} {ds:List PyData}:SqL K H a xs→cM K H xs ds→RdD K H (.ref a) (.list ds)
 | tup {a:Addr} {xs:List V} {ds:List PyData}:SqT K H a xs→cM K H xs ds→RdD K H (.ref a) (.tuple ds)
inductive cM (K:Frag) (H:Hp):List V→List PyData→Prop
 | nil:cM K H [] []
 | cons {x:V} {xs:List V} {d:PyData} {ds:List PyData}:RdD K H x d→cM K H xs ds→cM K H (x::xs) (d::ds)
end
section
variable {X:Cx} {pins:List (Addr×Obj)} {σ:St} {H:Hp} {s:Shared}
mutual
theorem RdD.reads (I:Inv X pins σ H s):∀ {x:V} {d:PyData} {u:Value},RdD X.K H x d→aJ x u→∃ as,Reads s.heap u d as
 | _,_,_,.non,r=>by cases r; exact ⟨_,.none⟩
 | _,_,_,.bl b,r=>by cases r; exact ⟨_,.bool b⟩
 | _,_,_,.int i,r=>by obtain ⟨t,rfl⟩:=r; exact ⟨_,.int i t⟩
 | _,_,_,.str x,r=>by obtain ⟨t,rfl⟩:=r; exact ⟨_,.str x t⟩
 | _,_,_,.lst h q,r=>by
  cases r
  obtain ⟨its,rv,p,_⟩:=I.list h
  obtain ⟨as,ra⟩:=cM.reads I q rv
  obtain ⟨o,ho,hc,n,hd⟩:=p.isList
  exact ⟨_,.list ho hc hd (by simpa using ra)⟩
 | _,_,_,.tup h q,r=>by
  cases r
  obtain ⟨its,rv,p,_⟩:=I.tuple h
  obtain ⟨as,ra⟩:=cM.reads I q rv
  obtain ⟨o,ho,hc,n,hd⟩:=p
  exact ⟨_,.tuple ho hc hd (by simpa using ra)⟩
theorem cM.reads (I:Inv X pins σ H s):∀ {xs:List V} {ds:List PyData} {us:List Value},cM X.K H xs ds→aD xs us→∃ as,ReadsAll s.heap us ds as
 | _,_,_,.nil,.nil=>⟨_,.nil⟩
 | _,_,_,.cons q r,.cons q' r'=>by
  obtain ⟨as,ra⟩:=RdD.reads I q q'
  obtain ⟨bs,rb⟩:=cM.reads I r r'
  exact ⟨_,.cons ra rb⟩
end
end
section
variable {X:Cx}
def AD (K:Frag) (neg:Bool):R2:=fun x y H Q=>∃ d e,RdD K H x d∧RdD K H y e∧SeqAt.shaped d=true∧SeqAt.shaped e=true∧Q (.bl (if neg then !PyData.eqv d e else PyData.eqv d e)) H
theorem xt (hu:X.A.units+64<cLine):OpR X (compareOp .Eq) (AD X.K false):=by
 intro pins s σ H x y v u Q I rx ry h
 obtain ⟨d,e,hd,he,sd,se,q⟩:=h
 obtain ⟨as,ra⟩:=hd.reads I rx
 obtain ⟨bs,rb⟩:=he.reads I ry
 exact eq_dataH ra rb sd se hu (aR I q rfl)
def zN (K:Frag):List V→Hp→VK→Prop:=fun xs H Q=>∃ a d,xs=[.ref a]∧RdD K H (.ref a) d∧d.showable=true∧d.hasDict=false∧d.depth≤60∧d.shown.length≤sizeLine∧Q (.str d.shown) H
theorem lT (hu:X.A.units+64<cLine) (hg:X.A.guards=some []):dE X (.builtin "repr") (zN X.K):=by
 intro pins s σ H xs us Q I r h
 obtain ⟨a,d,rfl,hd,hs,hn,hp,hz,q⟩:=h
 obtain ⟨u,rfl,ru⟩:=dj r
 cases ru
 obtain ⟨as,ra⟩:=hd.reads I rfl
 exact repr_of_reads' ra hs (PyData.noDict_hsm hn) hg (by omega) (fun b o e=>e) (fun h' u tk k=>⟨.str d.shown,H,I.kept k,⟨u,rfl⟩,q⟩) hz
def uY (K:Frag):R2:=fun x y H Q=>∃ a b ys,x=.ref a∧y=.ref b∧SqT K H a []∧SqT K H b ys∧Q (.ref b) H
theorem uP:OpR X (binaryOp .Add) (uY X.K):=by
 intro pins s σ H x y v u Q I rx ry h
 obtain ⟨a,b,ys,rfl,rfl,ha,hb,q⟩:=h
 cases rx
 cases ry
 obtain ⟨its,r1,p1,_⟩:=I.tuple ha
 obtain ⟨its2,r2,p2,_⟩:=I.tuple hb
 cases r1
 obtain ⟨⟨cls,dd,data,sl⟩,ho,hc,n,hd⟩:=id p1
 obtain ⟨⟨cls2,dd2,data2,sl2⟩,ho2,hc2,n2,hd2⟩:=id p2
 simp only at hc hd hc2 hd2
 subst hc hd hc2 hd2
 exact concat_meets ⟨_,ho,rfl⟩ ⟨_,ho2,rfl⟩ noFill_tuple_add seq_tuple_add PySem.F.slot_tuple_add PySem.F.entry_tuple_add (PySem.F.args_tuple_add_2 _ _)
  (tuple_addW0 a b _ its2.toArray n n2 dd dd2 sl sl2 rfl) ⟨ho,ho2,⟨.ref b,H,I,rfl,q⟩⟩
end
section
variable {X:Cx} {tg:Expr}
end
open PySem PySem.Spec PyProof.Rows
def eQ (fs scope:Scope):List (Str×NameKind):=scope.names.map fun (n,k)=>if (k==NameKind.free&&fs.kind==.function&&fs.names.lookup n==some .cell) then (n,NameKind.cell) else (n,k)
def zM (fs:Scope) (N:List Str) (scope:Scope) (N':List Str) (ρ:List (Option Nat)) (m:Nat):Bool :=
 (scope.kind==.function)&&scope.names.all (fun x=>x.2 != .cell)&&scope.names.all (fun x=>x.2 != .local||scope.names.lookup x.1==some .local)
 &&scope.names.all (fun x=>x.2 != .free||fs.names.lookup x.1==some .cell||fs.names.lookup x.1==some .free)&&(ρ.length==N'.length)
 &&(List.range ρ.length).all fun i=>match ρ[i]?,N'[i]? with
   | some (some j),some x=>decide (m≤i)&&N[j]?==some x&&scope.names.any (fun y=>y.1==x&&y.2==.free)&&(eQ fs scope).lookup x != some .local
   | some (some _),none=>false
   | _,_=>true
theorem gQ.of {X:Cx} {fs scope:Scope} {N N':List Str} {ρ:List (Option Nat)} {m:Nat} (hs:X.env.scope=fs) (hN:X.N=N) (h:zM fs N scope N' ρ m=true):gQ X scope N' ρ m:=by
 unfold zM at h
 simp only [Bool.and_eq_true] at h
 obtain ⟨⟨⟨⟨⟨h1,h2⟩,h3⟩,h4⟩,h5⟩,h6⟩:=h
 have at6:∀ (i j:Nat),ρ[i]?=some (some j)→∃ x,N'[i]?=some x∧m≤i∧N[j]?=some x∧(x,NameKind.free)∈scope.names∧(eQ fs scope).lookup x≠some .local:=fun i j e=>by
  have hi:i<ρ.length:=(List.getElem?_eq_some_iff.mp e).1
  have q:=List.all_eq_true.mp h6 i (List.mem_range.mpr hi)
  rw [e] at q
  cases e2:N'[i]? with
  | none=>rw [e2] at q; cases q
  | some x =>
   rw [e2] at q
   simp only [Bool.and_eq_true,decide_eq_true_eq,beq_iff_eq,bne_iff_ne,List.any_eq_true] at q
   obtain ⟨⟨⟨q1,q2⟩,⟨y,hy,q3,q4⟩⟩,q5⟩:=q
   refine ⟨x,rfl,q1,q2,?_,q5⟩
   obtain ⟨a,b⟩:=y
   simp only at q3 q4
   subst q3 q4
   exact hy
 refine ⟨by simpa using h1,fun x hx=>by simpa using List.all_eq_true.mp h2 x hx,fun x hx hl=>?_,fun x hx hf=>?_,by simpa using h5,fun i j e=>?_,fun i j x e e2=>?_,fun i j x e e2=>?_⟩
 ·have q:=List.all_eq_true.mp h3 x hx
  simpa [hl] using q
 ·have q:=List.all_eq_true.mp h4 x hx
  show X.env.scope.names.lookup x.1=_∨X.env.scope.names.lookup x.1=_
  rw [hs]
  simpa [hf] using q
 ·obtain ⟨_,_,q,_⟩:=at6 i j e; exact q
 ·obtain ⟨y,q1,_,q2,q3,_⟩:=at6 i j e
  rw [e2] at q1; cases q1
  exact ⟨by rw [hN]; exact q2,q3⟩
 ·obtain ⟨y,q1,_,_,_,q4⟩:=at6 i j e
  rw [e2] at q1; cases q1
  have e3:(relabel scope X.env).names=eQ fs scope:=by
   unfold relabel eQ Env.kindOf
   rw [hs]
  rw [e3]
  exact q4
section
variable {X:Cx} {K:Frag}
theorem wQ (h:X.K=K):IxR X (Af K):=h ▸ aH
end
section
variable {m:Nat} {g:TG} {tt:TT} {te:TE} {σ':St} {Z:List V→Hp→Prop} {H1:Hp} {K:Frag}
def NxT (n:Nat) (Pv:Nat→List V→Hp→Prop) (i:Nat) (acc:List V) (v:V) (H:Hp):Prop:=acc.length<sizeLine∧∃ k',k'<n - i∧(k'=n - (i+1)∧i+1≤n∧(acc++[v]).length≤i+1∧Pv (i+1) (acc++[v]) H)
def NxF (n:Nat) (Pv:Nat→List V→Hp→Prop) (i:Nat) (acc:List V) (H:Hp):Prop:=∃ k',k'<n - i∧(k'=n - (i+1)∧i+1≤n∧acc.length≤i+1∧Pv (i+1) acc H)
theorem nxT {n:Nat} {Pv:Nat→List V→Hp→Prop} {i:Nat} {acc:List V} {v:V} {H:Hp} (hn:n≤1000) (hi:i<n) (hl:acc.length≤i) (p:Pv (i+1) (acc++[v]) H):NxT n Pv i acc v H :=
 ⟨cf (by omega),n - (i+1),by omega,rfl,hi,by rw [List.length_append,List.length_singleton]; omega,p⟩
theorem rJ {J:It} (n:Nat) (hn:n≤1000) (Pv:Nat→List V→Hp→Prop) (h0:Pv 0 [] H1)
  (hs:∀ i acc H,i<n→acc.length≤i→Pv i acc H→J.go i H∧∀ x H',J.yld i H x H'→g x σ' H' fun σ2 H2=>(σ2.drop m=σ'.drop m∧σ2.length=σ'.length)∧tt σ2 H2 fun b H3=>if b=true then te σ2 H3 fun v H4=>NxT n Pv i acc v H4 else NxF n Pv i acc H3)
  (hd:∀ acc H,Pv n acc H→acc.length≤n→J.stop n H∧Z acc H):oF J m g tt te σ' Z H1:=by
 refine ⟨fun i k acc H=>k=n - i∧i≤n∧acc.length≤i∧Pv i acc H,⟨n,by simp,Nat.zero_le _,Nat.le_refl _,h0⟩,?_⟩
 rintro i k acc H ⟨rfl,hi,la,p⟩
 refine ⟨Nat.le_of_lt (cf (by omega)),?_⟩
 by_cases hlt:i<n
 ·exact .inr (hs i acc H hlt la p)
 ·have e:i=n:=by omega
  subst e
  exact .inl (hd acc H p la)
theorem uk {a:Addr} {xs:List V} (n:Nat) (hz:n=xs.length) (hn:n≤1000) (Pv:Nat→List V→Hp→Prop) (h0:Pv 0 [] H1) (hq:∀ i acc H,Pv i acc H→SqT K H a xs)
  (hs:∀ i acc H x,i<n→acc.length≤i→xs[i]?=some x→Pv i acc H→g x σ' H fun σ2 H2=>(σ2.drop m=σ'.drop m∧σ2.length=σ'.length)∧tt σ2 H2 fun b H3=>if b=true then te σ2 H3 fun v H4=>NxT n Pv i acc v H4 else NxF n Pv i acc H3)
  (hd:∀ acc H,Pv n acc H→acc.length≤n→Z acc H):oF (Itt K a) m g tt te σ' Z H1 :=
 rJ n hn Pv h0 (fun i acc H hi la p=>by
  have hx:xs[i]?=some (xs[i]'(by omega)):=List.getElem?_eq_getElem (by omega)
  exact ⟨⟨xs,_,hq i acc H p,hx⟩,fun x H' y=>by obtain ⟨e,y⟩:=y; subst e; exact hs i acc _ x hi la (y xs (hq i acc _ p)) p⟩) fun acc H p la=>⟨⟨xs,hq n acc H p,by omega⟩,hd acc H p la⟩
end
theorem rT {σ:St} {H:Hp} {A B:Hp→Prop} (h:A H):xl σ H (fun b H3=>if b=true then A H3 else B H3):=by
 show if true=true then A H else B H
 exact mJ h
end L2
namespace PySem
open Sem (wp)
section
variable {prog:Program} {w:World} {A:Around} {E:Value→Shared→Prop} {h:Heap} {g:Array GenState} {d:Drawn} {t:Nat} {os:OsState} {a:Addr} {items:Array Value} {n:Nat} {sl:Array (Option Value)}
theorem ki:typeLookup (.type "tuple") "keys"=pure none:=am_miss_of_fast (by decide +kernel)
theorem fF:typeLookup (.type "tuple") "__getattr__"=pure none:=by rw [typeLookup_type,builtinLookup_eq_fast]; kernel_rfl
theorem ga {tk:Tok} {Q:Fin→Shared→Prop} (hx:h.get? a=some ⟨.type "tuple",none,.seq items n,sl⟩) (hA:A.handled=none)
  (hQ:∀ h' tk' e,Heap.NewAttrErr h h' e (.ref a) "keys"→E (.ref e) ⟨h',g,d,tk',os⟩) :
  wpAny (model prog w) A (Builtin.«object.__getattribute__» ⟨[.ref a,.str "keys" tk],[]⟩) Q E ⟨h,g,d,t,os⟩:=by
 have hT:(⟨h,g,d,t,os⟩:Shared).TypeIs (.ref a) "tuple":=⟨_,hx,rfl⟩
 have f4:=ki
 unfold Builtin.«object.__getattribute__»
 repeat (any_goals (first | assumption | wp_step))
 exact wpAny_raiseAttrError (s:=⟨h,g,d,t,os⟩) hA hQ (attrMsg_fits (by decide +kernel) (by decide))
theorem gT {tk:Tok} {R:Result→Shared→Prop} (hx:h.get? a=some ⟨.type "tuple",none,.seq items n,sl⟩) (hA:A.handled=none)
  (hQ:∀ h' tk' e,Heap.NewAttrErr h h' e (.ref a) "keys"→R (.error (.ref e)) ⟨h',g,d,tk',os⟩) :
  codeAny (model prog w) A (.call (.builtin "tuple.__getattribute__") ⟨[.ref a,.str "keys" tk],[]⟩) R ⟨h,g,d,t,os⟩ :=
 codeAny_call_builtin F.slot_tuple_getattribute.plain F.entry_tuple_ga (F.slot_tuple_getattribute.check _ _ _ _ _ _ _ _ (show (⟨h,g,d,t,os⟩:Shared).TypeIs (.ref a) "tuple" from ⟨_,hx,rfl⟩) (F.args_tuple_getattribute_2 _ _) (ga hx hA hQ))
theorem km {tk:Tok} {Q:Value→Shared→Prop} (hx:h.get? a=some ⟨.type "tuple",none,.seq items n,sl⟩) (hA:A.handled=none)
  (hQ:∀ h' tk' e,Heap.NewAttrErr h h' e (.ref a) "keys"→E (.ref e) ⟨h',g,d,tk',os⟩):wpAny (model prog w) A (getAttrBy (.ref a) (.str "keys" tk) false) Q E ⟨h,g,d,t,os⟩:=by
 have hT:(⟨h,g,d,t,os⟩:Shared).TypeIs (.ref a) "tuple":=⟨_,hx,rfl⟩
 have f1:=sub_AttributeError
 have f2:=F.slot_tuple_getattribute.lookup
 have f3:=F.slot_tuple_getattribute.bind (.ref a)
 have f5:=fF
 unfold getAttrBy
 repeat (any_goals (first | assumption | wp_step))
 refine gT hx hA fun h' tk' e hx'=>?_
 obtain ⟨t',u',he⟩:=hx'.there
 show wpAny _ _ (getattributeRaised _ _ _ _ _ _ _) _ _ _
 unfold getattributeRaised
 repeat (any_goals (first | assumption | wp_step))
 exact hQ _ _ _ hx'
theorem gU {Q:Option Value→Shared→Prop} (hx:h.get? a=some ⟨.type "tuple",none,.seq items n,sl⟩) (hA:A.handled=none)
  (hQ:∀ h' tk',(∀ b o,h.get? b=some o→h'.get? b=some o)→Q none ⟨h',g,d,tk',os⟩):wpAny (model prog w) A (getAttr? (.ref a) "keys") Q E ⟨h,g,d,t,os⟩:=by
 have f1:=sub_AttributeError
 unfold getAttr? getAttrBy?
 refine wpAny_bind (wpAny_mkText (wpAny_bind (wpAny_attempt (km hx hA fun h' tk' e hx'=>?_))))
 obtain ⟨t',u',he⟩:=hx'.there
 have hT:(⟨h',g,d,tk',os⟩:Shared).TypeIs (.ref e) "AttributeError":=⟨_,he,rfl⟩
 refine wpAny_bind (wpAny_isInstance hT f1 ?_)
 exact wpAny_pure (hQ h' tk' hx'.keeps)
end
end PySem
namespace L2
open PySem PySem.Spec PyProof.Rows
theorem kR:entryFor table "dict.update.loop"=some Builtin.«dict.update.loop»:=entryFor_of_tree (by kernel_rfl)
theorem dI:plainId "dict.update.loop"=true:=by decide +kernel
theorem pe {κ:Type} [DecidableEq κ] {kvs:List (κ×Value)} {k:κ} {v:Value} (h:k∉kvs.map (·.1)):stored kvs k v=kvs++[(k,v)]:=by
 unfold stored
 rw [if_neg]
 intro q
 obtain ⟨x,hx,e⟩:=List.any_eq_true.mp q
 exact h (List.mem_map.mpr ⟨x,hx,of_decide_eq_true e⟩)
section
variable {prog:Program} {w:World} {A:Around} {R:Result→Shared→Prop} {dd it tp:Addr} {items:List Value} {ps:List (Str×Value)}
def xz (h:Heap) (it dd:Addr) (v:Value) (p:Str×Value):Prop:=∃ q t,v=.ref q∧q≠it∧q≠dd∧IsTup h q #[.str p.1 t,p.2]
theorem tj (hh:A.handled=none) (hid:it≠dd) (hti:tp≠it) (htd:tp≠dd) (hlen:items.length=ps.length) (hsz:items.length≤1000) (hnd:(ps.map (·.1)).Nodup) :
  ∀ (k i:Nat) (s:Shared),items.length - i=k→i≤items.length→s.heap.IsTupleIter it tp i→s.heap.IsTuple tp items.toArray→s.heap.DictOf (bc prog w) dd ((ps.take i).map fun p=>(Sum.inr p.1,p.2)) →
  (∀ (j:Nat) v p,items[j]?=some v→ps[j]?=some p→xz s.heap it dd v p) →
  (∀ h' tk,h'.DictOf (bc prog w) dd (ps.map fun p=>(Sum.inr p.1,p.2))→(∀ b o,b≠it→b≠dd→s.heap.get? b=some o→h'.get? b=some o)→R (.ok (.ret .none)) { s with heap:=h',toks:=tk }) →
  codeAny (model prog w) A (.builtin "dict.update.loop" ⟨[.ref dd,.ref it,rawInt i,.none],[]⟩) R s:=by
 intro k
 induction k with
 | zero =>
  intro i s hk hi st tpl hd hp hR
  have hin:i=items.length:=by omega
  subst hin
  refine codeAny_builtin kR ?_
  rw [Around.under_plainId dI _]
  show wpAny _ A.in1 (pyNext (.ref it) >>= _) _ _ s
  refine wpAny_bind (wpAny_pyNext_tuple_end hh st tpl (by simp) fun h' eb=>?_)
  refine wpAny_bind (wpAny_pure (wpAny_pure ?_))
  refine hR h' s.toks ?_ fun b o hb _ e=>eb b o hb e
  rw [hlen,List.take_length] at hd
  exact hd.extBut (fun b o hb e=>eb b o hb e) (Ne.symm hid)
 | succ k ih =>
  intro i s hk hi st tpl hd hp hR
  have hlt:i<items.length:=by omega
  have hv:items[i]?=some items[i]:=List.getElem?_eq_getElem hlt
  have hq:ps[i]?=some (ps[i]'(by omega)):=List.getElem?_eq_getElem (by omega)
  obtain ⟨q,t,ev,hqi,hqd,tq⟩:=hp i _ _ hv hq
  refine codeAny_builtin kR ?_
  rw [Around.under_plainId dI _]
  show wpAny _ A.in1 (pyNext (.ref it) >>= _) _ _ s
  refine wpAny_bind (wpAny_pyNext_tuple_item st tpl (x:=items[i]) (by simpa using hv) fun h1 st1 sb1=>?_)
  rw [ev]
  have tq1:IsTup h1 q #[.str (ps[i]'(by omega)).1 t,(ps[i]'(by omega)).2]:=let ⟨o,e,r⟩:=tq; ⟨o,(sb1.2 q hqi).trans e,r⟩
  obtain ⟨oq,eq,cq,nq,dq⟩:=id tq1
  refine wpAny_bind (wpAny_holding (wpAny_bind (wpAny_tryCatch ?_)))
  unfold Builtin.Dict.pairItems
  refine wpAny_bind (wpAny_typeOf (T := "tuple") ⟨oq,eq,cq⟩ ?_)
  rw [if_pos (by decide)]
  refine wpAny_bind (wpAny_seqItems eq dq (wpAny_pure ?_))
  show wpAny _ _ (holding [_,_] (dictSet dd (.str (ps[i]'(by omega)).1 t) (ps[i]'(by omega)).2)) _ _ _
  have hd1:h1.DictOf (bc prog w) dd ((ps.take i).map fun p=>(Sum.inr p.1,p.2)):=hd.extBut sb1.extBut (Ne.symm hid)
  refine wpAny_holding (wpAny_dictSet_pairs (knd:=bc prog w) (k:=Sum.inr (ps[i]'(by omega)).1) (gN _ _ _ _) hd1 (fun h2 hd2 sb2=>?_) (Nat.le_of_lt (cf (by rw [List.length_map,List.length_take]; omega))))
  have nw:stored ((ps.take i).map fun p=>((Sum.inr p.1:Key),p.2)) (Sum.inr (ps[i]'(by omega)).1) (ps[i]'(by omega)).2=(ps.take (i+1)).map fun p=>(Sum.inr p.1,p.2):=by
   rw [pe,List.take_add_one,hq,List.map_append]
   ·rfl
   ·intro z
    rw [List.map_map] at z
    obtain ⟨p,hp',e⟩:=List.mem_map.mp z
    have e':p.1=(ps[i]'(by omega)).1:=Sum.inr.inj e
    obtain ⟨j,hj,ej⟩:=List.mem_take_iff_getElem.mp hp'
    have hj':j<ps.length:=by omega
    have:(ps.map (·.1))[j]'(by simpa using hj')=(ps.map (·.1))[i]'(by rw [List.length_map]; omega):=by simp only [List.getElem_map]; rw [ej]; exact e'
    have:=(List.getElem_inj hnd).mp this
    omega
  rw [nw] at hd2
  have up:∀ b o,b≠it→b≠dd→s.heap.get? b=some o→h2.get? b=some o:=fun b o hb hb2 e=>(sb2.2 b hb2).trans ((sb1.2 b hb).trans e)
  refine wpAny_pure ⟨plainId_quiet dI _,?_⟩
  have nx:=ih (i+1) { s with heap:=h2,toks:=s.toks+1 } (by omega) hlt (by obtain ⟨o,e,r⟩:=st1; exact ⟨o,(sb2.2 it hid).trans e,r⟩) (by obtain ⟨o,e,r⟩:=tpl; exact ⟨o,up _ _ hti htd e,r⟩) hd2
   (fun j v p ej ep=>by obtain ⟨q,t,e,n1,n2,o,e2,r⟩:=hp j v p ej ep; exact ⟨q,t,e,n1,n2,o,up _ _ n1 n2 e2,r⟩)
   fun h' tk hd' up'=>hR h' tk hd' fun b o hb hb2 e=>up' b o hb hb2 (up b o hb hb2 e)
  exact nx
end
open PySem PySem.Spec PyProof.Rows
section
variable {X:Cx}
def rL (K:Frag) (H:Hp) (y:V) (p:Str×V):Prop:=∃ q,y=.ref q∧SqT K H q [.str p.1,p.2]
theorem jW {α β:Type} {F:α→β→Prop}:∀ {l:List α} {m:List β},Paired F l m→∀ (j:Nat) a b,l[j]?=some a→m[j]?=some b→F a b
 | _,_,.nil,_,_,_,h,_=>by simp at h
 | _,_,.cons h t,0,_,_,h1,h2=>by simp at h1 h2; subst h1 h2; exact h
 | _,_,.cons h t,j+1,_,_,h1,h2=>jW t j _ _ (by simpa using h1) (by simpa using h2)
theorem aD.vals_pairs {I:Unit} {X:Cx} {pins:List (Addr×Obj)} {σ:St} {H:Hp} {s:Shared} (J:Inv X pins σ H s):∀ {ys:List V} {ps:List (Str×V)} {its:List Value},Paired (rL X.K H) ys ps→aD ys its →
  ∃ qs:List (Str×Value),Paired (fun (p:Str×V) (q:Str×Value)=>p.1=q.1∧aJ p.2 q.2) ps qs∧Paired (fun v (p:Str×Value)=>∃ q t,v=.ref q∧q<s.heap.objs.size∧IsTup s.heap q #[.str p.1 t,p.2]) its qs
 | _,_,_,.nil,.nil=>⟨[],.nil,.nil⟩
 | _,_,_,.cons h t,.cons r rr=>by
  obtain ⟨qs,h1,h2⟩:=aD.vals_pairs (I:=I) J t rr
  obtain ⟨q,e,hq⟩:=h
  subst e
  cases r
  obtain ⟨it2,rv,p,_⟩:=J.tuple hq
  obtain ⟨u1,u2,e2,r1,r2⟩:=ur rv
  subst e2
  obtain ⟨t,e3⟩:=(show ∃ t,u1=Value.str _ t from r1)
  subst e3
  exact ⟨(_,u2)::qs,.cons ⟨rfl,r2⟩ h1,.cons ⟨q,t,rfl,p.lt,p⟩ h2⟩
theorem ub:∀ {ps:List (Str×V)} {qs:List (Str×Value)},Paired (fun (p:Str×V) (q:Str×Value)=>p.1=q.1∧aJ p.2 q.2) ps qs→KV (ps.map fun p=>((Sum.inr p.1:Key),p.2)) (qs.map fun p=>(Sum.inr p.1,p.2))
 | _,_,.nil=>.nil
 | _,_,.cons h t=>.cons ⟨by show Sum.inr _=Sum.inr _; rw [h.1],h.2⟩ (ub t)
theorem rF:∀ {ps:List (Str×V)} {qs:List (Str×Value)},Paired (fun (p:Str×V) (q:Str×Value)=>p.1=q.1∧aJ p.2 q.2) ps qs→ps.map (·.1)=qs.map (·.1)
 | _,_,.nil=>rfl
 | _,_,.cons h t=>by rw [List.map_cons,List.map_cons,h.1,rF t]
def xK (K:Frag):List V→Hp→VK→Prop:=fun xs H Q=>∃ p ys ps,xs=[.ref p]∧H p=some (.tup ys)∧ys.length≤1000∧(List.map (fun q:Str×V=>q.1) ps).Nodup∧Paired (rL K H) ys ps ∧
 ∀ l,H l=none→Q (.ref l) (upd H l (.dK (ps.map fun p=>(Sum.inr p.1,p.2))))
theorem oR (hc:X.calm=true):dE X (.type "dict") (xK X.K):=by
 intro pins s σ H xs us Q I r h
 obtain ⟨p,ys,ps,rfl,hp,hl,hnd,hpr,q⟩:=h
 obtain ⟨u,rfl,ru⟩:=dj r
 cases ru
 obtain ⟨hz,its,rv,tp,o2,e2,d2⟩:=(show bx X.prog X.w H s.heap p (.tup ys) from I.hok p _ hp)
 obtain ⟨qs,k1,k2⟩:=aD.vals_pairs (I:=()) I hpr rv
 obtain ⟨⟨cls,dct,data,sl⟩,ho,hcl,n,hdt⟩:=id tp
 rw [ho] at e2
 cases e2
 simp only at hcl hdt d2
 subst hcl hdt d2
 have hlt:p<s.heap.objs.size:=Heap.lt_size ho
 refine callType_codes (Q₁:=fun obj s₁=>obj=.ref s.heap.objs.size∧s₁={ s with heap:=s.heap.push { cls:=.type "dict",data:=.dict #[] } }) F.kt_called_dict (F.kt_typeCall_dict_1 _) F.entry_dict_init (kt_code_dict_new _ ⟨rfl,rfl⟩) ?_
 rintro obj s₁ ⟨rfl,rfl⟩
 have hnew:(s.heap.push { cls:=.type "dict",data:=.dict #[] }).DictOf (bc X.prog X.w) s.heap.objs.size []:=Heap.DictOf.new s.heap
 refine ⟨hnew.typeIs,F.args_dict_init_2 _ _,?_⟩
 unfold Builtin.«dict.__init__»
 refine wpAny_bind ?_
 unfold Builtin.Dict.selfAndRest
 refine wpAny_bind (wpAny_notOrdered_dict hnew.typeIs ?_)
 show wpAny _ _ (pure (s.heap.objs.size,[Value.ref p])) _ _ _
 refine wpAny_pure ?_
 show wpAny _ _ (Builtin.Dict.updateFrom "dict.__init__" s.heap.objs.size (.ref p) [] .none) _ _ _
 unfold Builtin.Dict.updateFrom
 have ho1:(s.heap.push { cls:=.type "dict",data:=.dict #[] }).get? p=some ⟨.type "tuple",none,.seq its.toArray n,sl⟩:=Heap.get?_push_of_some _ ho
 refine wpAny_bind (wpAny_typeOf (T := "tuple") ⟨_,ho1,rfl⟩ ?_)
 rw [if_pos (by decide)]
 refine wpAny_bind (gU (h:=s.heap.push { cls:=.type "dict",data:=.dict #[] }) (g:=s.gens) (d:=s.drawn) (t:=s.toks) (os:=s.os) ho1 (I.ok.hd hc) fun h1 tk1 kp1=>?_)
 rw [if_pos (show (none:Option Value).isNone=true from rfl)]
 refine wpAny_bind (wpAny_rule (wpAny_bind (wpAny_pyIter_tuple (show h1.IsTuple p its.toArray from ⟨_,kp1 _ _ ho1,rfl,n,rfl⟩) ?_)))
 have old:∀ b o,s.heap.get? b=some o→(h1.push { cls:=.type "tuple_iterator",data:=.fields #[.ref p,.int 0 0] }).get? b=some o:=fun b o e=>Heap.get?_push_of_some _ (kp1 b o (Heap.get?_push_of_some _ e))
 have hnew1:h1.DictOf (bc X.prog X.w) s.heap.objs.size []:=by obtain ⟨o,es,ep,e,rr⟩:=hnew; exact ⟨o,es,ep,kp1 _ _ e,rr⟩
 have hdl:s.heap.objs.size<h1.objs.size:=by obtain ⟨o,es,ep,e,rr⟩:=hnew1; exact Heap.lt_size e
 refine wpAny_pure ⟨plainId_quiet dI _,?_⟩
 refine tj (A:=X.A.in1) (prog:=X.prog) (w:=X.w) (dd:=s.heap.objs.size) (it:=h1.objs.size) (tp:=p) (items:=its) (ps:=qs) (I.ok.hd hc) (Nat.ne_of_gt hdl) (Nat.ne_of_lt (Nat.lt_trans hlt hdl)) (Nat.ne_of_lt hlt) (Paired.length k2) (by rw [← rv.length]; exact hl) (by rw [← rF k1]; exact hnd)
  its.length 0 ⟨h1.push { cls:=.type "tuple_iterator",data:=.fields #[.ref p,.int 0 0] },s.gens,s.drawn,tk1,s.os⟩ rfl (Nat.zero_le _) ⟨_,Heap.get?_push_size _ rfl,rfl,rfl⟩ ⟨_,old _ _ ho,rfl,n,rfl⟩ (by exact hnew1.push _) (fun j v pr ej ep=>?_) fun h' tk hd' up=>?_
 ·obtain ⟨q',t,e,hlq,o,e3,r3⟩:=jW k2 j v pr ej ep
  exact ⟨q',t,e,Nat.ne_of_lt (Nat.lt_trans hlq hdl),Nat.ne_of_lt hlq,o,old _ _ e3,r3⟩
 ·refine ⟨rfl,.ref s.heap.objs.size,upd H s.heap.objs.size (.dK (ps.map fun p=>(Sum.inr p.1,p.2))),?_,rfl,q _ (I.hok.fresh (Nat.le_refl _))⟩
  refine I.laid (h':=h') (t':=tk) (fun b o e=>up b o (Nat.ne_of_lt (Nat.lt_trans (Heap.lt_size e) hdl)) (Nat.ne_of_lt (Heap.lt_size e)) (old b o e)) (Nat.le_refl _) ?_
  refine ⟨?_,?_,_,ub k1,hd'⟩
  ·rw [List.length_map,Paired.length k1,← Paired.length k2,← rv.length]; exact Nat.le_of_lt (cf hl)
  ·have hbig:mainGlobals<s.heap.objs.size:=(I.mod.glob.keeps I.bk).lt
   exact beq_eq_false_iff_ne.mpr (Nat.ne_of_gt (Nat.lt_trans (by decide) hbig))
end
end L2
namespace PySem
open Sem (wp)
section
variable {prog:Program} {w:World} {A:Around} {E:Value→Shared→Prop} {s:Shared}
theorem iD {it t:Addr} {i:Nat} {items:Array Value} {Q:Value→Shared→Prop} (hh:A.handled=none) (hit:s.heap.IsTupleIter it t i) (ht:s.heap.IsTuple t items)
  (hQ:∀ x,items[i]?=some x→∀ h',h'.IsTupleIter it t (i+1)→Heap.SameBut it s.heap h'→Q x { s with heap:=h' })
  (hE:items[i]?=none→∀ h' e,Heap.ExtBut it s.heap h'→(∃ o,h'.get? e=some o∧o.cls=.type "StopIteration")→E (.ref e) { s with heap:=h' }) :
  wpAny (model prog w) A (Builtin.SmallTypes.nextOf (.ref it)) Q E s:=by
 obtain ⟨oi,gi,ci,di⟩:=id hit
 obtain ⟨ot,gt,_,m,dt⟩:=ht
 have sl:=F.slot_tuple_iterator_next
 unfold Builtin.SmallTypes.nextOf
 refine wpAny_bind (wpAny_callSpecial?_slot (name:=Str.ofString "__next__") hit.typeIs sl (wpAny_call_entry sl hit.typeIs F.entry_tuple_iterator_next ?_ (F.args_tuple_iterator_next_1 _)))
 refine wpAny_bind (m:=field (.ref it) 0) (wpAny_field gi di (x:=.ref t) rfl ?_)
 have nn:¬ ((Value.ref t==Value.none)=true):=Bool.false_ne_true
 show wpAny _ _ (if (Value.ref t==Value.none)=true then _ else _) _ _ _
 rw [if_neg nn]
 refine wpAny_bind (m:=field (.ref it) 1) (wpAny_field gi di (x:=.int i 0) rfl (wpAny_bind (m:=seqItems? (.ref t)) (wpAny_seqItems gt dt ?_)))
 cases q:items[i]? with
 | some x =>
  simp only [Int.toNat_natCast,q]
  refine wpAny_bind (wpAny_setField gi di (by simp) (wpAny_pure ⟨x,rfl,wpAny_pure (hQ x q _ ⟨_,Heap.get?_update_self _ gi ?_,?_,?_⟩ (Heap.SameBut.update ..))⟩))
  ·exact Obj.isFreed_of_fields (Obj.data_mapFields di _)
  ·exact (Obj.cls_mapFields ..).trans ci
  ·rw [Obj.data_mapFields di]
   simp [rawInt]
 | none =>
  simp only [Int.toNat_natCast,q]
  refine wpAny_bind (wpAny_rule (wpAny_bind (wpAny_setField gi di (by simp) (wpAny_bind (m:=newExc (.type "StopIteration") []) ?_))))
  simp only [newExc,newTuple]
  refine wpAny_bind (wpAny_newObj_type (wpAny_bind (m:=firstArgMember _ _) (wpAny_of_eq (a:=Value.none) (by first | rfl | (simp only [firstArgMember]; rfl)) (wpAny_newObj_type ?_ (by size_fits)))) (by size_fits))
  simp only [raiseNew]
  refine wpAny_bind (wpAny_handled ?_)
  rw [show A.in1.handled=none from hh]
  exact wpAny_bind (wpAny_pure (wpAny_throw (hE q _ _ (((Heap.SameBut.update ..).extBut.push _).push _) ⟨_,Heap.get?_push_size _ rfl,rfl⟩)))
end
theorem Draws.tup {prog:Program} {w:World} {A:Around} (hh:A.handled=none) (it l:Addr) (hne:l≠it) (items:Array Value) :
  Draws prog w A it [it,l] items.size (fun i v=>items[i]?=some v) (fun i h=>h.IsTupleIter it l i∧h.IsTuple l items) where
 live:=fun _ _ st=>let ⟨o,ho,_⟩:=st.1; ⟨o,ho⟩
 frame:=fun _ _ _ st hk=>⟨st.1.at fun o e=>hk it (by simp) o e,let ⟨o,e,r⟩:=st.2; ⟨o,hk l (by simp) o e,r⟩⟩
 item:=fun i s Q E hi st hQ=>iD hh st.1 st.2 (fun x ex h' st' sb=>hQ x h' s.toks ex ⟨st',st.2.extBut sb.extBut hne⟩ sb) fun e=>by simp at e; omega
 done:=fun s Q E st hE=>iD hh st.1 st.2 (fun x ex=>by simp at ex) fun _=>hE
def ItS (k:Bool) (h:Heap) (it l:Addr) (i:Nat):Prop:=match k with | true=>h.IsTupleIter it l i | false=>h.IsListIter it l i
def SqS (k:Bool) (h:Heap) (l:Addr) (items:Array Value):Prop:=match k with | true=>h.IsTuple l items | false=>h.IsList l items
def jm (k:Bool) (l:Addr):Obj:={ cls:=.type (match k with | true => "tuple_iterator" | false => "list_iterator"),data:=.fields #[.ref l,.int 0 0] }
theorem ItS.new {k:Bool} {h:Heap} {l a:Addr} (e:h.get? a=some (jm k l)):ItS k h a l 0:=by
 cases k with
 | true=>exact ⟨_,e,rfl,rfl⟩
 | false=>exact ⟨_,e,rfl,rfl⟩
theorem ItS.at {k:Bool} {h h':Heap} {a l:Addr} {i:Nat} (x:ItS k h a l i) (e:∀ o,h.get? a=some o→h'.get? a=some o):ItS k h' a l i:=by
 cases k with
 | true=>obtain ⟨o,ho,r⟩:=x; exact ⟨o,e _ ho,r⟩
 | false=>obtain ⟨o,ho,r⟩:=x; exact ⟨o,e _ ho,r⟩
theorem SqS.at {k:Bool} {h h':Heap} {a:Addr} {xs:Array Value} (x:SqS k h a xs) (e:∀ o,h.get? a=some o→h'.get? a=some o):SqS k h' a xs:=by
 cases k with
 | true=>obtain ⟨o,ho,r⟩:=x; exact ⟨o,e _ ho,r⟩
 | false=>obtain ⟨o,ho,r⟩:=x; exact ⟨o,e _ ho,r⟩
theorem ItS.live {k:Bool} {h:Heap} {a l:Addr} {i:Nat} (x:ItS k h a l i):∃ o,h.get? a=some o∧∀ v,o.data≠.cell v:=by
 cases k with
 | true=>obtain ⟨o,ho,c,d⟩:=x; exact ⟨o,ho,fun v z=>by rw [d] at z; cases z⟩
 | false=>obtain ⟨o,ho,c,d⟩:=x; exact ⟨o,ho,fun v z=>by rw [d] at z; cases z⟩
theorem Draws.sq {prog:Program} {w:World} {A:Around} (hh:A.handled=none) (it l:Addr) (hne:l≠it) (items:Array Value) (k:Bool) :
  Draws prog w A it [it,l] items.size (fun i v=>items[i]?=some v) (fun i h=>ItS k h it l i∧SqS k h l items):=by
 cases k with
 | true=>exact Draws.tup hh it l hne items
 | false=>exact Draws.list hh it l hne items
theorem lh {prog:Program} {w:World} {A:Around} {E:Value→Shared→Prop} {s:Shared} {k:Bool} {l:Addr} {items} {Q:Value→Shared→Prop} (ht:SqS k s.heap l items)
  (hQ:Q (.ref s.heap.objs.size) { s with heap:=s.heap.push (jm k l) }):wpAny (model prog w) A (pyIter (.ref l)) Q E s:=by
 cases k with
 | true=>exact wpAny_pyIter_tuple ht hQ
 | false=>exact wpAny_pyIter_list ht hQ
structure ZA (z TI TO i1 i2:Addr) (f1 f2:List Addr):Prop where
 TIz:TI≠z
 TOz:TO≠z
 i1z:i1≠z
 i2z:i2≠z
 TITO:TI≠TO
 TIi1:TI≠i1
 TIi2:TI≠i2
 TOi1:TO≠i1
 TOi2:TO≠i2
 i12:i1≠i2
 z1:z∉f1
 z2:z∉f2
 t1:TO∉f1
 t2:TO∉f2
 m1:i1∉f2
 m2:i2∉f1
section
variable {prog:Program} {w:World} {A:Around} {E:Value→Shared→Prop} {s:Shared} {z TI TO i1 i2:Addr} {f1 f2:List Addr} {n1 n2 k1 k2:Nat} {P1 P2:Nat→Value→Prop} {S1 S2:Nat→Heap→Prop} {a b:Value}
theorem ndI {c d:Addr} {f:List Addr} (h:d∉f) (hc:c∈f):c≠d:=fun q=>h (q ▸ hc)
theorem rZ {Q:Value→Shared→Prop} (D1:Draws prog w A i1 f1 n1 P1 S1) (D2:Draws prog w A i2 f2 n2 P2 S2) (D:ZA z TI TO i1 i2 f1 f2)
  (hz:IsZip s.heap z TI TO .none) (hTI:IsPair s.heap TI (.ref i1) (.ref i2)) (hTO:IsPair s.heap TO a b) (h1:S1 k1 s.heap) (h2:S2 k2 s.heap) (b1:k1≤n1) (b2:k2≤n2)
  (hQ:k1<n1→k2<n2→∀ x y h' tk,P1 k1 x→P2 k2 y→IsZip h' z TI TO (rawInt s.heap.objs.size)→IsPair h' TO x y→S1 (k1+1) h'→S2 (k2+1) h'→IsPair h' s.heap.objs.size x y →
   (∀ c o,c≠z→c≠TO→c≠i1→c≠i2→s.heap.get? c=some o→h'.get? c=some o)→Q (.ref s.heap.objs.size) { s with heap:=h',toks:=tk })
  (hE:k1=n1∨k2=n2→∀ h' tk e,(∀ c o,c≠z→c≠TO→c≠i1→c≠i2→s.heap.get? c=some o→h'.get? c=some o)→(∃ o,h'.get? e=some o∧o.cls=.type "StopIteration")→E (.ref e) { s with heap:=h',toks:=tk }) :
  wpAny (model prog w) A (Builtin.«zip.__next__» ⟨[.ref z],[]⟩) (fun fin s'=>∃ v,fin=.done (.ret v)∧Q v s') E s:=by
 refine wpAny_bind (m:=field (.ref z) 2) (wpAny_field hz rfl (x:=.bool false) rfl (wpAny_bind (m:=field (.ref z) 3) (wpAny_field hz rfl (x:=.ref TI) rfl (wpAny_bind (wpAny_seqItems hTI rfl (wpAny_bind (m:=Builtin.SmallTypes.ownedTupleIsFree (.ref z)) ?_))))))
 unfold Builtin.SmallTypes.ownedTupleIsFree
 refine wpAny_bind (wpAny_field hz rfl (x:=.none) rfl (wpAny_pure ?_))
 simp only [if_true]
 refine wpAny_bind (wpAny_rule (wpAny_bind (wpAny_field hz rfl (x:=.ref TO) rfl (wpAny_bind (wpAny_setField_rec hz (by simp) fun ha (za:IsZip ha z TI TO .ellipsis) ea=>wpAny_bind ?_)))))
 simp only [List.zipIdx_cons,List.zipIdx_nil,List.forIn_cons,List.forIn_nil]
 refine wpAny_bind (wpAny_bind (wpAny_onRaise (wpAny_bind (m:=Builtin.SmallTypes.nextOf (.ref i1)) ?_)))
 have fa:S1 k1 ha:=D1.frame _ _ _ h1 fun c hc o e=>ea.extBut _ _ (ndI D.z1 hc) e
 rcases Nat.lt_or_eq_of_le b1 with l1 | e1
 ·refine D1.item k1 _ _ _ l1 fa fun x hb tk hx s1b eb=>wpAny_pure ?_
  have tb:IsPair hb TO a b:=eb.extBut _ _ D.TOi1 (ea.extBut _ _ D.TOz hTO)
  refine wpAny_bind (wpAny_seqItems tb rfl (wpAny_bind (wpAny_updateSeq_pair tb fun hc (tc:IsPair hc TO x b) ec=>wpAny_bind (wpAny_letGo (wpAny_pure ?_)))))
  refine wpAny_bind (wpAny_bind (wpAny_onRaise (wpAny_bind (m:=Builtin.SmallTypes.nextOf (.ref i2)) ?_)))
  have fc:S2 k2 hc:=D2.frame _ _ _ h2 fun c hc o e=>ec.extBut _ _ (ndI D.t2 hc) (eb.extBut _ _ (ndI D.m1 hc) (ea.extBut _ _ (ndI D.z2 hc) e))
  have zc:IsZip hc z TI TO .ellipsis:=ec.extBut _ _ D.TOz.symm (eb.extBut _ _ D.i1z.symm za)
  have kc:∀ c o,c≠z→c≠TO→c≠i1→s.heap.get? c=some o→hc.get? c=some o:=fun c o c1 c2 c3 e=>ec.extBut _ _ c2 (eb.extBut _ _ c3 (ea.extBut _ _ c1 e))
  rcases Nat.lt_or_eq_of_le b2 with l2 | e2
  ·refine D2.item k2 _ _ _ l2 fc fun y hd tk' hy s2d ed=>wpAny_pure ?_
   have td:IsPair hd TO x b:=ed.extBut _ _ D.TOi2 tc
   refine wpAny_bind (wpAny_seqItems td rfl (wpAny_bind (wpAny_updateSeq_pair td fun he (te:IsPair he TO x y) ee=>wpAny_bind (wpAny_letGo (wpAny_pure (wpAny_pure ?_))))))
   refine wpAny_bind (wpAny_seqItems te rfl (wpAny_bind (wpAny_newTuple ?_)))
   have sz:he.objs.size=s.heap.objs.size:=by rw [ee.1,ed.1,ec.1,eb.1,ea.1]
   have ze:IsZip he z TI TO .ellipsis:=ee.extBut _ _ D.TOz.symm (ed.extBut _ _ D.i2z.symm zc)
   have s1e:S1 (k1+1) he:=D1.frame _ _ _ s1b fun c hc o e=>ee.extBut _ _ (ndI D.t1 hc) (ed.extBut _ _ (ndI D.m2 hc) (ec.extBut _ _ (ndI D.t1 hc) e))
   have s2e:S2 (k2+1) he:=D2.frame _ _ _ s2d fun c hc o e=>ee.extBut _ _ (ndI D.t2 hc) e
   refine wpAny_bind (m:=Builtin.SmallTypes.ownedTupleHandOut (.ref z) (.ref he.objs.size)) ?_
   unfold Builtin.SmallTypes.ownedTupleHandOut
   have zf:IsZip (he.push { cls:=.type "tuple",data:=.seq #[x,y] }) z TI TO .ellipsis:=Heap.get?_push_of_some _ ze
   refine wpAny_bind (wpAny_setField_rec zf (by simp) fun hg (zg:IsZip hg z TI TO (rawInt he.objs.size)) eg=>wpAny_setField_rec zg (by simp) fun hi (zi:IsZip hi z TI TO (rawInt he.objs.size)) ei=>wpAny_pure ⟨_,rfl,?_⟩)
   have up:∀ c o,c≠z→(he.push { cls:=.type "tuple",data:=.seq #[x,y] }).get? c=some o→hi.get? c=some o:=fun c o c1 e=>ei.extBut _ _ c1 (eg.extBut _ _ c1 e)
   have up':∀ c o,c≠z→he.get? c=some o→hi.get? c=some o:=fun c o c1 e=>up c o c1 (Heap.get?_push_of_some _ e)
   have pi:IsPair hi he.objs.size x y:=up _ _ (Nat.ne_of_gt (Heap.lt_size ze)) (Heap.get?_push_size _ rfl)
   show Q (.ref he.objs.size) _
   rw [sz] at zi pi ⊢
   exact hQ l1 l2 x y hi tk' hx hy zi (up' _ _ D.TOz te) (D1.frame _ _ _ s1e fun c hc o e=>up' _ o (ndI D.z1 hc) e) (D2.frame _ _ _ s2e fun c hc o e=>up' _ o (ndI D.z2 hc) e) pi
    fun c o c1 c2 c3 c4 e=>up' c o c1 (ee.extBut _ _ c2 (ed.extBut _ _ c4 (kc c o c1 c2 c3 e)))
  ·subst e2
   refine D2.done _ _ _ fc fun hd x ed ⟨oe,ge,ce⟩=>?_
   have zd:IsZip hd z TI TO .ellipsis:=ed _ _ D.i2z.symm zc
   have ne:x≠z:=fun q=>by subst q; rw [zd] at ge; cases ge; simp at ce
   exact wpAny_setField_rec zd (by simp) fun he _ ee=>hE (.inr rfl) he _ x (fun c o c1 c2 c3 c4 q=>ee.extBut _ _ c1 (ed _ _ c4 (kc c o c1 c2 c3 q))) ⟨oe,ee.extBut _ _ ne ge,ce⟩
 ·subst e1
  refine D1.done _ _ _ fa fun hb x eb ⟨oe,ge,ce⟩=>?_
  have zb:IsZip hb z TI TO .ellipsis:=eb _ _ D.i1z.symm za
  have ne:x≠z:=fun q=>by subst q; rw [zb] at ge; cases ge; simp at ce
  exact wpAny_setField_rec zb (by simp) fun he _ ee=>hE (.inl rfl) he _ x (fun c o c1 _ c3 _ q=>ee.extBut _ _ c1 (eb _ _ c3 (ea.extBut _ _ c1 q))) ⟨oe,ee.extBut _ _ ne ge,ce⟩
theorem gL {Q:Option Value→Shared→Prop} (D1:Draws prog w A.in1 i1 f1 n1 P1 S1) (D2:Draws prog w A.in1 i2 f2 n2 P2 S2) (D:ZA z TI TO i1 i2 f1 f2)
  (hz:IsZip s.heap z TI TO .none) (hTI:IsPair s.heap TI (.ref i1) (.ref i2)) (hTO:IsPair s.heap TO a b) (h1:S1 k1 s.heap) (h2:S2 k2 s.heap) (b1:k1≤n1) (b2:k2≤n2)
  (hQ:k1<n1→k2<n2→∀ x y h' tk,P1 k1 x→P2 k2 y→IsZip h' z TI TO (rawInt s.heap.objs.size)→IsPair h' TO x y→S1 (k1+1) h'→S2 (k2+1) h'→IsPair h' s.heap.objs.size x y →
   (∀ c o,c≠z→c≠TO→c≠i1→c≠i2→s.heap.get? c=some o→h'.get? c=some o)→Q (some (.ref s.heap.objs.size)) { s with heap:=h',toks:=tk })
  (hN:k1=n1∨k2=n2→∀ h' tk,(∀ c o,c≠z→c≠TO→c≠i1→c≠i2→s.heap.get? c=some o→h'.get? c=some o)→Q none { s with heap:=h',toks:=tk }) :
  wpAny (model prog w) A (pyNext (.ref z)) Q E s:=by
 have ty:s.TypeIs (.ref z) "zip":=⟨_,hz,rfl⟩
 have sl:=F.slot_zip_next
 unfold pyNext
 refine wpAny_bind (wpAny_attempt (wpAny_callSpecial?_slot (name:=Str.ofString "__next__") ty sl (wpAny_call_entry sl ty F.entry_zip_next ?_ (F.args_zip_next_1 _))))
 refine rZ D1 D2 D hz hTI hTO h1 h2 b1 b2 (fun l1 l2 x y h' tk p1 p2 a1 a2 a3 a4 a5 a6=>wpAny_pure (hQ l1 l2 x y h' tk p1 p2 a1 a2 a3 a4 a5 a6)) fun en h' tk e hk ⟨o,ho,hc⟩=>?_
 exact wpAny_bind (wpAny_isInstance (T := "StopIteration") (b:=true) ⟨o,ho,hc⟩ isSubtype_stop (wpAny_pure (hN en _ _ hk)))
end
open Sem (wp)
theorem mF (k1 k2:Bool) (l1 l2:Addr) (xs ys:Array Value) :
  Meets (Builtin.«zip.__new__» ⟨[.type "zip",.ref l1,.ref l2],[]⟩) (fun _ R s=>SqS k1 s.heap l1 xs∧SqS k2 s.heap l2 ys ∧
   R (.ok (.ret (.ref (s.heap.objs.size+4)))) { s with heap:=((((s.heap.push (jm k1 l1)).push (jm k2 l2)).push { cls:=.type "tuple",data:=.seq #[.ref s.heap.objs.size,.ref (s.heap.objs.size+1)] }).push { cls:=.type "tuple",data:=.seq #[.none,.none] }).push { cls:=.type "zip",data:=.fields #[.none,.bool false,.bool false,.ref (s.heap.objs.size+2),.ref (s.heap.objs.size+3)] } }) :=
 .of_wp fun prog w A R s h=>by
  obtain ⟨hp,g,d,tk,os⟩:=s
  obtain ⟨a1,a2,h⟩:=h
  have sub:=sub_zip
  have b1:SqS k1 (Shared.heap ⟨hp,g,d,tk,os⟩) l1 xs:=a1
  have b2:SqS k2 (Shared.heap ⟨hp.push (jm k1 l1),g,d,tk,os⟩) l2 ys:=SqS.at (show SqS k2 hp l2 ys from a2) fun o e=>Heap.get?_push_of_some _ e
  wp_walk using lh b1,lh b2
  refine ⟨_,rfl,?_⟩
  simp only [Heap.size_push] at *
  exact h
end PySem
namespace L2
open PySem PySem.Spec PyProof.Rows
def SqX (k:Bool) (K:Frag) (H:Hp) (a:Addr) (xs:List V):Prop:=match k with | true=>SqT K H a xs | false=>SqL K H a xs
section
variable {X:Cx} {pins:List (Addr×Obj)} {σ:St} {H:Hp} {s:Shared} {a:Addr} {xs ys:List V} {h':Heap}
theorem Inv.sq {k:Bool} (I:Inv X pins σ H s) (h:SqX k X.K H a xs):∃ its:List Value,aD xs its∧SqS k s.heap a its.toArray∧xs.length≤sizeLine:=by
 cases k with
 | true=>obtain ⟨its,r,p,z⟩:=I.tuple h; exact ⟨its,r,p,z⟩
 | false=>obtain ⟨its,r,p,z⟩:=I.list h; exact ⟨its,r,p.isList,z⟩
theorem Inv.sq_inj {k:Bool} (I:Inv X pins σ H s) (h:SqX k X.K H a xs) (h':SqX k X.K H a ys):xs=ys:=by
 cases k with
 | true=>exact I.tuple_inj h h'
 | false=>exact I.list_inj h h'
theorem Rd.ne {u:HO} {c:Addr} (r:Rd H a u) (h:H c=none):a≠c:=fun e=>by
 subst e
 rcases r with r | ⟨o,r⟩<;>(rw [h] at r; cases r)
theorem zT {o:Obj} {c:Addr} (I:Inv X pins σ H s) (e:X.K.lookup a=some o) (f:eR X pins H c):a≠c:=fun q=>by
 subst q
 have hb:=I.ok.mod.kin a o e
 rcases f.2.2.2.1 with m | m
 ·exact I.ok.noex a o hb m
 ·exact absurd (Nat.lt_of_lt_of_le (Heap.lt_size hb) (Nat.le_trans I.ok.bsz m)) (Nat.lt_irrefl _)
theorem Inv.sq_ne {k:Bool} {c:Addr} (I:Inv X pins σ H s) (h:SqX k X.K H a xs) (f:eR X pins H c):a≠c:=by
 cases k with
 | true=>rcases h with r | ⟨o,_,_,e,_⟩; exact r.ne f.1; exact zT I e f
 | false=>rcases h with r | ⟨o,_,_,e,_⟩; exact r.ne f.1; exact zT I e f
theorem Inv.turnedL {t':Nat} {its:List Addr} (I:Inv X pins σ H s) (k:∀ b o,b∉its→s.heap.get? b=some o→h'.get? b=some o) (hf:∀ b∈its,eR X pins H b) :
  Inv X pins σ H { s with heap:=h',toks:=t' }:=by
 have nit:∀ b u,H b=some u→b∉its:=fun b u e z=>by rw [(hf b z).1] at e; cases e
 refine I.step (g':=s.gens) (d':=s.drawn) (ch:=its) (fun b hb=>⟨(hf b hb).2.2.2.1,(hf b hb).2.1,(hf b hb).2.2.2.2.1,(hf b hb).2.2.2.2.2⟩) (fun b o _ _ hc e _=>k b o hc e) (fun b o _ _ hc e _=>⟨o.slots,k b o hc e⟩) (fun _ _ _ _ n=>n)
  (fun b o hc e=>⟨o,k b o hc e⟩) (fun _ _ e=>e) (fun _ _ _ e=>e) (fun b ps e=>⟨#[],by rw [e]; simp⟩) (fun m hm=>?_) (fun b u e=>?_) I.bare
 ·obtain ⟨o,es,ep,ho,r⟩:=hm
  exact ⟨o,es,ep,k _ o (fun z=>(hf _ z).2.1 rfl) ho,r⟩
 ·refine (I.hok b u e).stay (fun c v hc q=>k c v ?_ q) (fun _ q=>q) fun _ _ q=>q
  rcases hc with z | z
  ·rw [z]; exact nit b u e
  ·exact nit c _ z
end
def Itz (K:Frag) (k1 k2:Bool) (a b:Addr):It :=
 ⟨fun i H=>∃ xs ys x y,SqX k1 K H a xs∧SqX k2 K H b ys∧xs[i]?=some x∧ys[i]?=some y,
  fun i H v H'=>∃ p x y,H p=none∧v=.ref p∧H'=upd H p (.tup [x,y])∧(∀ xs,SqX k1 K H a xs→xs[i]?=some x)∧(∀ ys,SqX k2 K H b ys→ys[i]?=some y),
  fun i H=>∃ xs ys,SqX k1 K H a xs∧SqX k2 K H b ys∧i≤xs.length∧i≤ys.length∧(xs.length=i∨ys.length=i)⟩
structure ZN (z TI TO i1 i2:Addr):Prop where
 TIz:TI≠z
 TOz:TO≠z
 i1z:i1≠z
 i2z:i2≠z
 TITO:TI≠TO
 TIi1:TI≠i1
 TIi2:TI≠i2
 TOi1:TO≠i1
 TOi2:TO≠i2
 i12:i1≠i2
theorem ZN.new (n:Nat):ZN (n+4:Nat) (n+2:Nat) (n+3:Nat) n (n+1:Nat) :=
 ⟨show (n+2:Nat)≠(n+4:Nat) by omega,show (n+3:Nat)≠(n+4:Nat) by omega,show (n:Nat)≠(n+4:Nat) by omega,show (n+1:Nat)≠(n+4:Nat) by omega,show (n+2:Nat)≠(n+3:Nat) by omega,show (n+2:Nat)≠n by omega,show (n+2:Nat)≠(n+1:Nat) by omega,show (n+3:Nat)≠n by omega,show (n+3:Nat)≠(n+1:Nat) by omega,show (n:Nat)≠(n+1:Nat) by omega⟩
theorem ZN.za {z TI TO i1 i2 a b:Addr} (D:ZN z TI TO i1 i2) (az:a≠z) (bz:b≠z) (aT:a≠TO) (bT:b≠TO) (ai:a≠i2) (bi:b≠i1):ZA z TI TO i1 i2 [i1,a] [i2,b] :=
 ⟨D.TIz,D.TOz,D.i1z,D.i2z,D.TITO,D.TIi1,D.TIi2,D.TOi1,D.TOi2,D.i12,by simp [D.i1z.symm,az.symm],by simp [D.i2z.symm,bz.symm],by simp [D.TOi1,aT.symm],by simp [D.TOi2,bT.symm],by simp [D.i12,bi.symm],by simp [D.i12.symm,ai.symm]⟩
theorem vL {P:Program} {w:World} {K:Frag} {elts:List Expr} {x1} {pos:Pos} {z TI TO i1 i2:Addr} (D:ZN z TI TO i1 i2) (k1 k2:Bool) (a b:Addr) :
  oJ P w K (.Tuple elts x1 pos) (Itz K k1 k2 a b) [z,TI,TO,i1,i2] z (fun i h=>IsZip h z TI TO .none∧IsPair h TI (.ref i1) (.ref i2)∧(∃ u v,IsPair h TO u v)∧ItS k1 h i1 a i∧ItS k2 h i2 b i) where
 mem:=by simp
 obj:=fun i h st c hc=>by
  obtain ⟨hz,hI,⟨u,v,hO⟩,s1,s2⟩:=st
  simp at hc
  rcases hc with rfl | rfl | rfl | rfl | rfl
  ·exact ⟨_,hz,fun v z=>by have z':Data.fields _=Data.cell v:=z; cases z'⟩
  ·exact ⟨_,hI,fun v z=>by have z':Data.seq _ _=Data.cell v:=z; cases z'⟩
  ·exact ⟨_,hO,fun v z=>by have z':Data.seq _ _=Data.cell v:=z; cases z'⟩
  ·exact s1.live
  ·exact s2.live
 keep:=fun i h h' st k=>by
  obtain ⟨hz,hI,⟨u,v,hO⟩,s1,s2⟩:=st
  exact ⟨k z (by simp) _ hz,k TI (by simp) _ hI,⟨u,v,k TO (by simp) _ hO⟩,s1.at fun o e=>k i1 (by simp) o e,s2.at fun o e=>k i2 (by simp) o e⟩
 item:=by
  intro X hP hw hK hc i pins s σ H E I hf st hg
  subst hP hw hK
  obtain ⟨xs,ys,x,y,q1,q2,ex,ey⟩:=hg
  obtain ⟨hz,hI,⟨u0,v0,hO⟩,s1,s2⟩:=st
  obtain ⟨its1,r1,p1,_⟩:=I.sq q1
  obtain ⟨its2,r2,p2,_⟩:=I.sq q2
  obtain ⟨ux,hux,rx⟩:=r1.get ex
  obtain ⟨uy,huy,ry⟩:=r2.get ey
  have fz:=hf z (by simp); have fO:=hf TO (by simp); have f1:=hf i1 (by simp); have f2:=hf i2 (by simp)
  have hh:X.A.in1.handled=none:=I.ok.hd hc
  have l1:i<its1.toArray.size:=by simpa using (List.getElem?_eq_some_iff.mp hux).1
  have l2:i<its2.toArray.size:=by simpa using (List.getElem?_eq_some_iff.mp huy).1
  refine gL (Draws.sq hh i1 a (I.sq_ne q1 f1) its1.toArray k1) (Draws.sq hh i2 b (I.sq_ne q2 f2) its2.toArray k2) (D.za (I.sq_ne q1 fz) (I.sq_ne q2 fz) (I.sq_ne q1 fO) (I.sq_ne q2 fO) (I.sq_ne q1 f2) (I.sq_ne q2 f1)) hz hI hO ⟨s1,p1⟩ ⟨s2,p2⟩ (Nat.le_of_lt l1) (Nat.le_of_lt l2) (fun _ _ gx gy h' tk px py a1 a2 a3 a4 a5 a6=>?_) (fun en=>by omega)
  have egx:gx=ux:=by
   have px':its1[i]?=some gx:=by simpa using px
   rw [hux] at px'
   exact (Option.some.inj px').symm
  have egy:gy=uy:=by
   have py':its2[i]?=some gy:=by simpa using py
   rw [huy] at py'
   exact (Option.some.inj py').symm
  subst egx egy
  refine ⟨_,rfl,wpAny_letOwnedTupleGo_zip (s:={ s with heap:=h',toks:=tk }) a1 fun h2 b1 b2=>?_⟩
  have lt:∀ {c:Addr} {o:Obj},s.heap.get? c=some o→c≠s.heap.objs.size:=fun e=>Nat.ne_of_lt (Heap.lt_size e)
  have fr:H s.heap.objs.size=none:=I.hok.fresh (Nat.le_refl _)
  have I1:Inv X pins σ (upd H s.heap.objs.size (.tup [x,y])) { s with heap:=s.heap.push { cls:=.type "tuple",data:=.seq #[gx,gy] },toks:=tk }:=by
   refine I.laid (t':=tk) (fun b u e=>Heap.get?_push_of_some _ e) (Nat.le_refl _) ⟨by simp [sizeLine],[gx,gy],.cons rx (.cons ry .nil),⟨_,Heap.get?_push_size _ rfl,rfl,_,rfl⟩,_,Heap.get?_push_size _ rfl,rfl⟩
  have nl:∀ c∈[z,TI,TO,i1,i2],c≠s.heap.objs.size:=fun c hc=>by
   simp at hc
   rcases hc with rfl | rfl | rfl | rfl | rfl
   ·exact lt hz
   ·exact lt hI
   ·exact lt hO
   ·obtain ⟨o,e,_⟩:=s1.live; exact lt e
   ·obtain ⟨o,e,_⟩:=s2.live; exact lt e
  have hf':∀ c∈[z,TI,TO,i1,i2],eR X pins (upd H s.heap.objs.size (.tup [x,y])) c:=fun c hc=>⟨by rw [ax (nl c hc)]; exact (hf c hc).1,(hf c hc).2⟩
  have I2:Inv X pins σ (upd H s.heap.objs.size (.tup [x,y])) { s with heap:=h2,toks:=tk }:=by
   refine Inv.turnedL (s:={ s with heap:=s.heap.push { cls:=.type "tuple",data:=.seq #[gx,gy] },toks:=tk }) (t':=tk) (its:=[z,TI,TO,i1,i2]) I1 (fun c o hc e=>?_) hf'
   simp at hc
   refine b2.extBut _ _ hc.1 ?_
   rcases Heap.get?_push_cases e with ⟨q,q'⟩ | q
   ·rw [q,q']
    exact a5
   ·exact a6 c o hc.1 hc.2.2.1 hc.2.2.2.1 hc.2.2.2.2 q
  refine ⟨.ref s.heap.objs.size,_,I2,rfl,⟨_,x,y,fr,rfl,rfl,fun zs hz'=>by rw [I.sq_inj hz' q1]; exact ex,fun zs hz'=>by rw [I.sq_inj hz' q2]; exact ey⟩,⟨b1,?_,⟨_,_,b2.extBut _ _ D.TOz a2⟩,a3.1.at fun o e=>b2.extBut _ _ D.i1z e,a4.1.at fun o e=>b2.extBut _ _ D.i2z e⟩,fun c hc=>(hf' c hc).1⟩
  exact b2.extBut _ _ D.TIz (a6 _ _ D.TIz D.TITO D.TIi1 D.TIi2 hI)
 done:=by
  intro X hP hw hK hc i pins s σ H E I hf st hg
  subst hP hw hK
  obtain ⟨xs,ys,q1,q2,m1,m2,en⟩:=hg
  obtain ⟨hz,hI,⟨u0,v0,hO⟩,s1,s2⟩:=st
  obtain ⟨its1,r1,p1,_⟩:=I.sq q1
  obtain ⟨its2,r2,p2,_⟩:=I.sq q2
  have e1:=r1.length
  have e2:=r2.length
  have fz:=hf z (by simp); have fO:=hf TO (by simp); have f1:=hf i1 (by simp); have f2:=hf i2 (by simp)
  have hh:X.A.in1.handled=none:=I.ok.hd hc
  refine gL (Draws.sq hh i1 a (I.sq_ne q1 f1) its1.toArray k1) (Draws.sq hh i2 b (I.sq_ne q2 f2) its2.toArray k2) (D.za (I.sq_ne q1 fz) (I.sq_ne q2 fz) (I.sq_ne q1 fO) (I.sq_ne q2 fO) (I.sq_ne q1 f2) (I.sq_ne q2 f1)) hz hI hO ⟨s1,p1⟩ ⟨s2,p2⟩ (by simp; omega) (by simp; omega) (fun l1 l2=>?_) (fun _ h' tk k=>⟨rfl,?_⟩)
  ·simp at l1 l2
   omega
  ·exact I.turnedL (its:=[z,TI,TO,i1,i2]) (fun c o hc e=>by simp at hc; exact k c o hc.1 hc.2.2.1 hc.2.2.2.1 hc.2.2.2.2 e) hf
 self:=fun _ _ _ _ _ st h=>wpAny_pyIter_zip st.1 h
section
variable {X:Cx}
def AO (K:Frag) (k1 k2:Bool) (ta:TA):TI:=fun σ H R=>ta σ H fun vs H1=>∃ a b,vs=[.ref a,.ref b]∧(∃ xs,SqX k1 K H1 a xs)∧(∃ ys,SqX k2 K H1 b ys)∧R (Itz K k1 k2 a b) H1
theorem xE {elts:List Expr} {x1} {tp:Pos} {a b:Expr} {ta:TA} {p pos:Pos} (k1 k2:Bool) (hg:Gl X "zip") (hm:X.mg "zip"=none) (ha:PA X [a,b] ta) (hs:starEach [a,b] X.env=[(false,eval a X.env),(false,eval b X.env)]:=by rfl) (hs2:starEach [b] X.env=[(false,eval b X.env)]:=by rfl) :
  PI X (.Tuple elts x1 tp) (.Call (.Name "zip" p) [a,b] [] pos) (AO X.K k1 k2 ta):=by
 intro pins s σ H R I h
 refine Call_ (eu I hg hm boot_zip (PyProof.Rows.callWith_type1 (thn (ha pos pins s σ H _ I h) fun us s1 ⟨vs,H1,I1,r1,q1⟩=>?_) (by rw [hs,hs2]) (by rw [hs2]; rfl)))
 obtain ⟨l1,l2,e,⟨xs,h1⟩,⟨ys,h2⟩,q⟩:=q1
 subst e
 cases r1 with
 | cons r rr =>
  cases rr with
  | cons r' rr =>
   cases rr
   cases r
   cases r'
   obtain ⟨its1,v1,p1,_⟩:=I1.sq h1
   obtain ⟨its2,v2,p2,_⟩:=I1.sq h2
   refine callType_new F.called_zip (by decide) (F.typeCall_zip_2 _ _) (F.newCall_zip_2 _ _) (fun obj=>F.args_object_init_3 obj _ _) F.entry_zip_new (mF k1 k2 l1 l2 its1.toArray its2.toArray) ⟨p1,p2,?_⟩
   have key:∀ (n:Nat) (o1 o2 o3 o4 o5:Obj) (hp:Heap),o1.isFreed=false→o2.isFreed=false→o3.isFreed=false→o4.isFreed=false→o5.isFreed=false→n=hp.objs.size →
     (((((hp.push o1).push o2).push o3).push o4).push o5).get? n=some o1∧(((((hp.push o1).push o2).push o3).push o4).push o5).get? (n+1)=some o2∧(((((hp.push o1).push o2).push o3).push o4).push o5).get? (n+2)=some o3 ∧
     (((((hp.push o1).push o2).push o3).push o4).push o5).get? (n+3)=some o4∧(((((hp.push o1).push o2).push o3).push o4).push o5).get? (n+4)=some o5:=by
    intro n o1 o2 o3 o4 o5 hp f1 f2 f3 f4 f5 e
    subst e
    have z1:(hp.push o1).objs.size=hp.objs.size+1:=Heap.size_push ..
    have z2:((hp.push o1).push o2).objs.size=hp.objs.size+2:=by rw [Heap.size_push,z1]
    have z3:(((hp.push o1).push o2).push o3).objs.size=hp.objs.size+3:=by rw [Heap.size_push,z2]
    have z4:((((hp.push o1).push o2).push o3).push o4).objs.size=hp.objs.size+4:=by rw [Heap.size_push,z3]
    refine ⟨?_,?_,?_,?_,?_⟩
    ·exact Heap.get?_push_of_some _ (Heap.get?_push_of_some _ (Heap.get?_push_of_some _ (Heap.get?_push_of_some _ (Heap.get?_push_size _ f1))))
    ·rw [← z1]
     exact Heap.get?_push_of_some _ (Heap.get?_push_of_some _ (Heap.get?_push_of_some _ (Heap.get?_push_size _ f2)))
    ·rw [← z2]
     exact Heap.get?_push_of_some _ (Heap.get?_push_of_some _ (Heap.get?_push_size _ f3))
    ·rw [← z3]
     exact Heap.get?_push_of_some _ (Heap.get?_push_size _ f4)
    ·rw [← z4]
     exact Heap.get?_push_size _ f5
   obtain ⟨g1,g2,g3,g4,g5⟩:=key s1.heap.objs.size (jm k1 l1) (jm k2 l2) { cls:=.type "tuple",data:=.seq #[.ref s1.heap.objs.size,.ref (s1.heap.objs.size+1)] } { cls:=.type "tuple",data:=.seq #[.none,.none] } { cls:=.type "zip",data:=.fields #[.none,.bool false,.bool false,.ref (s1.heap.objs.size+2),.ref (s1.heap.objs.size+3)] } s1.heap rfl rfl rfl rfl rfl rfl
   refine ⟨⟨_,g5,rfl⟩,wpAny_pyIter_zip (f0:=.none) g5 ?_⟩
   refine ⟨s1.heap.objs.size+4,[s1.heap.objs.size+4,s1.heap.objs.size+2,s1.heap.objs.size+3,s1.heap.objs.size,s1.heap.objs.size+1],_,_,H1,rfl,I1.kept (t':=s1.toks) fun b o e=>?_,vL (TI:=s1.heap.objs.size+2) (TO:=s1.heap.objs.size+3) (i1:=s1.heap.objs.size) (i2:=s1.heap.objs.size+1) (ZN.new _) k1 k2 l1 l2,⟨g5,g3,⟨_,_,g4⟩,ItS.new g1,ItS.new g2⟩,fun b hb=>?_,q⟩
   ·exact Heap.get?_push_of_some _ (Heap.get?_push_of_some _ (Heap.get?_push_of_some _ (Heap.get?_push_of_some _ (Heap.get?_push_of_some _ e))))
   ·have le:s1.heap.objs.size≤b:=by
     simp only [List.mem_cons,List.not_mem_nil,or_false] at hb
     rcases hb with rfl | rfl | rfl | rfl | rfl
     ·exact Nat.le_add_right _ _
     ·exact Nat.le_add_right _ _
     ·exact Nat.le_add_right _ _
     ·exact Nat.le_refl _
     ·exact Nat.le_add_right _ _
    exact I1.fpOk le (I1.hok.fresh le)
end
open PySem PySem.Spec PyProof.Rows
section
variable {κ:Type} [DecidableEq κ]
def bO (kvs:List (κ×V)) (k:κ):Option V:=(kvs.find? fun kv=>decide (kv.1=k)).map (·.2)
def cY (kvs:List (κ×V)) (k:κ) (v:V):List (κ×V) :=
 if (kvs.any fun kv=>decide (kv.1=k))=true then kvs.map (fun kv=>if kv.1=k then (kv.1,v) else kv) else kvs++[(k,v)]
theorem bB {p:κ×V} {r:List (κ×V)} {k:κ} (e:p.1=k):bO (p::r) k=some p.2:=by simp [bO,List.find?_cons,e]
theorem bt {p:κ×V} {r:List (κ×V)} {k:κ} (e:¬ p.1=k):bO (p::r) k=bO r k:=by simp [bO,List.find?_cons,e]
theorem cL (k:κ):∀ kvs:List (κ×V),(kvs.any fun kv=>decide (kv.1=k))=(bO kvs k).isSome
 | []=>rfl
 | p::r=>by
  rw [List.any_cons]
  by_cases e:p.1=k
  ·simp only [bB e,decide_eq_true e,Bool.true_or,Option.isSome_some]
  ·rw [bt e,decide_eq_false e,Bool.false_or]; exact cL k r
theorem og (k j:κ) (y:V):∀ kvs:List (κ×V),bO (kvs.map fun kv=>if kv.1=k then (kv.1,y) else kv) j=(bO kvs j).map fun x=>if j=k then y else x
 | []=>rfl
 | p::r=>by
  have ih:=og k j y r
  rw [List.map_cons]
  by_cases h:p.1=k
  ·rw [if_pos h]
   by_cases e:p.1=j
   ·rw [bB (p:=(p.1,y)) e,bB e,Option.map_some,if_pos (e.symm.trans h)]
   ·rw [bt (p:=(p.1,y)) e,bt e,ih]
  ·rw [if_neg h]
   by_cases e:p.1=j
   ·rw [bB (p:=p) e,bB e,Option.map_some,if_neg (fun z=>h (e.trans z))]
   ·rw [bt (p:=p) e,bt e,ih]
theorem kP (k j:κ) (y:V):∀ kvs:List (κ×V),bO kvs k=none→bO (kvs++[(k,y)]) j=if j=k then some y else bO kvs j
 | [],_=>by
  by_cases e:k=j
  ·rw [if_pos e.symm]; exact bB (p:=(k,y)) e
  ·rw [if_neg (fun z=>e z.symm)]; exact bt (p:=(k,y)) e
 | p::r,hn=>by
  rw [List.cons_append]
  have hk:¬ p.1=k:=fun z=>by rw [bB z] at hn; cases hn
  rw [bt hk] at hn
  have ih:=kP k j y r hn
  by_cases e:p.1=j
  ·rw [bB e,bB e,if_neg (fun z=>hk (e.trans z))]
  ·rw [bt e,bt e,ih]
theorem vG (kvs:List (κ×V)) (k j:κ) (y:V):bO (cY kvs k y) j=if j=k then some y else bO kvs j:=by
 unfold cY
 by_cases a:(kvs.any fun kv=>decide (kv.1=k))=true
 ·rw [if_pos a,og]
  rw [cL] at a
  by_cases e:j=k
  ·obtain ⟨x,hx⟩:=Option.isSome_iff_exists.mp a
   rw [if_pos e,e,hx,Option.map_some,if_pos rfl]
  ·rw [if_neg e]
   cases bO kvs j with
   | none=>rfl
   | some x=>rw [Option.map_some,if_neg e]
 ·rw [if_neg a]
  refine kP k j y kvs ?_
  rw [cL] at a
  cases q:bO kvs k with
  | none=>rfl
  | some x=>rw [q] at a; exact (a rfl).elim
theorem nL (kvs:List (κ×V)) (k:κ) (v:V):(cY kvs k v).length≤kvs.length+1:=by
 unfold cY
 split
 ·rw [List.length_map]; omega
 ·rw [List.length_append,List.length_cons,List.length_nil]; omega
theorem vw {kvs:List (κ×V)} {k:κ} (v:V) (h:bO kvs k=none):cY kvs k v=kvs++[(k,v)]:=by
 unfold cY
 rw [cL,h]
 exact if_neg (by decide)
theorem dm.isSome_eq {o:Option V} {u:Option Value} (r:dm o u):o.isSome=u.isSome:=by
 cases o with
 | none=>cases u with
  | none=>rfl
  | some _=>exact (show False from r).elim
 | some _=>cases u with
  | none=>exact (show False from r).elim
  | some _=>rfl
theorem KV.val {kvs:List (κ×V)} {vs:List (κ×Value)} (r:KV kvs vs) (k:κ):dm (bO kvs k) (valueAt vs k):=by
 unfold KV at r
 induction r with
 | nil=>exact True.intro
 | @cons p q ps qs h t ih =>
  obtain ⟨h1,h2⟩:=h
  by_cases e:p.1=k
  ·have e':q.1=k:=h1.symm.trans e
   have b:valueAt (q::qs) k=some q.2:=by simp [valueAt,List.find?_cons,e']
   rw [bB e,b]; exact h2
  ·have e':¬ q.1=k:=fun z=>e (h1.trans z)
   have b:valueAt (q::qs) k=valueAt qs k:=by simp [valueAt,List.find?_cons,e']
   rw [bt e,b]; exact ih
theorem KV.any {kvs:List (κ×V)} {vs:List (κ×Value)} (r:KV kvs vs) (k:κ):(kvs.any fun kv=>decide (kv.1=k))=vs.any fun kv=>decide (kv.1=k):=by
 unfold KV at r
 induction r with
 | nil=>rfl
 | cons h t ih=>rw [List.any_cons,List.any_cons,ih,h.1]
theorem KV.repl {kvs:List (κ×V)} {vs:List (κ×Value)} (r:KV kvs vs) (k:κ) {y:V} {u:Value} (ry:aJ y u) :
  KV (kvs.map fun kv=>if kv.1=k then (kv.1,y) else kv) (vs.map fun kv=>if kv.1=k then (kv.1,u) else kv):=by
 unfold KV at r ⊢
 induction r with
 | nil=>exact .nil
 | @cons p q ps qs h t ih =>
  rw [List.map_cons,List.map_cons]
  refine .cons ?_ ih
  obtain ⟨h1,h2⟩:=h
  by_cases e:p.1=k
  ·rw [if_pos e,if_pos (h1.symm.trans e)]; exact ⟨h1,ry⟩
  ·rw [if_neg e,if_neg (fun z=>e (h1.trans z))]; exact ⟨h1,h2⟩
theorem KV.put {kvs:List (κ×V)} {vs:List (κ×Value)} (r:KV kvs vs) (k:κ) {y:V} {u:Value} (ry:aJ y u):KV (cY kvs k y) (stored vs k u):=by
 unfold cY stored
 rw [r.any k]
 by_cases e:(vs.any fun kv=>decide (kv.1=k))=true
 ·rw [if_pos e,if_pos e]; exact r.repl k ry
 ·rw [if_neg e,if_neg e]; exact Paired.snoc r ⟨rfl,ry⟩
theorem KV.length {kvs:List (κ×V)} {vs:List (κ×Value)} (r:KV kvs vs):kvs.length=vs.length:=Paired.length r
end
theorem wZ {P:Program} {w:World} {k:Key} {u:Value} (r:aJ (kV k) u):(bc P w).is k u=true:=by
 cases k with
 | inl i=>obtain ⟨t,e⟩:=(show ∃ t,u=Value.int i t from r); subst e; exact nY P w i t
 | inr x=>obtain ⟨t,e⟩:=(show ∃ t,u=Value.str x t from r); subst e; exact gN P w x t
theorem yN {P:Program} {w:World} {v:V} {u:Value} (r:aJ v u) (h:isK v=true):(bc P w).is (cK v) u=true:=by
 cases v with
 | int i=>obtain ⟨t,e⟩:=(show ∃ t,u=Value.int i t from r); subst e; exact lN i t
 | str x=>obtain ⟨t,e⟩:=(show ∃ t,u=Value.str x t from r); subst e; exact kZ x t
 | bl b=>have e:u=Value.bool b:=r; subst e; exact qA b
 | _=>cases h
theorem iU {P:Program} {w:World}:∀ {vs:List V} {us:List Value},aD vs us→vs.all isK=true→ItemsAre (bc P w) (vs.map cK) us
 | [],_,r,_=>by cases r; exact .nil
 | v::vs,_,r,h=>by
  simp only [List.all_cons,Bool.and_eq_true] at h
  cases r with
  | cons r t=>exact .cons (yN r h.1) (iU t h.2)
def ckv (kvs:List (List V×V)):List (List Key×V):=kvs.map fun p=>(p.1.map cK,p.2)
def gc (kvs:List (List V×V)) (vs:List V) (v:V):List (List V×V) :=
 if (kvs.any fun kv=>decide (kv.1.map cK=vs.map cK))=true then kvs.map (fun kv=>if kv.1.map cK=vs.map cK then (kv.1,v) else kv) else kvs++[(vs,v)]
theorem nX (kvs:List (List V×V)) (vs:List V) (v:V):(gc kvs vs v).length≤kvs.length+1:=by
 unfold gc
 split
 ·rw [List.length_map]; omega
 ·rw [List.length_append]; simp
abbrev KT (H:Hp):List (List V×V)→List (List Key×Addr×Value)→Prop:=Paired fun p q=>p.1.map cK=q.1∧(H q.2.1=some (.tup p.1)∧p.1.all isK=true)∧aJ p.2 q.2.2
theorem KT.val {H:Hp} {kvs:List (List V×V)} {xs:List (List Key×Addr×Value)} (r:KT H kvs xs) (k:List Key):dm (bO (ckv kvs) k) ((atKey xs k).map (·.2)):=by
 induction r with
 | nil=>exact True.intro
 | @cons p q ps qs h t ih =>
  obtain ⟨h1,_,h2⟩:=h
  show dm (bO ((p.1.map cK,p.2)::ckv ps) k) _
  by_cases e:p.1.map cK=k
  ·have e':q.1=k:=h1.symm.trans e
   have b:atKey (q::qs) k=some q.2:=by simp [atKey,List.find?_cons,e']
   rw [bB (show (p.1.map cK,p.2).1=k from e),b]; exact h2
  ·have e':¬ q.1=k:=fun z=>e (h1.trans z)
   have b:atKey (q::qs) k=atKey qs k:=by simp [atKey,List.find?_cons,e']
   rw [bt (show ¬ (p.1.map cK,p.2).1=k from e),b]; exact ih
theorem KT.repl {H:Hp} {kvs:List (List V×V)} {xs:List (List Key×Addr×Value)} (r:KT H kvs xs) (k:List Key) {y:V} {u:Value} (ry:aJ y u) :
  KT H (kvs.map fun kv=>if kv.1.map cK=k then (kv.1,y) else kv) (xs.map (putAt k u)):=by
 induction r with
 | nil=>exact .nil
 | @cons p q ps qs h t ih =>
  rw [List.map_cons,List.map_cons]
  refine .cons ?_ ih
  obtain ⟨h1,h2,h3⟩:=h
  unfold putAt
  by_cases e:p.1.map cK=k
  ·rw [if_pos e,if_pos (h1.symm.trans e)]; exact ⟨h1,h2,ry⟩
  ·rw [if_neg e,if_neg (fun z=>e (h1.trans z))]; exact ⟨h1,h2,h3⟩
theorem KT.put {H:Hp} {kvs:List (List V×V)} {xs:List (List Key×Addr×Value)} (r:KT H kvs xs) (vs:List V) {b:Addr} {y:V} {u:Value} (hb:H b=some (.tup vs)∧vs.all isK=true) (ry:aJ y u) :
  KT H (gc kvs vs y) (storedH xs (vs.map cK) b u):=by
 have e:(kvs.any fun kv=>decide (kv.1.map cK=vs.map cK))=(atKey xs (vs.map cK)).isSome:=by
  have e1:(kvs.any fun kv=>decide (kv.1.map cK=vs.map cK))=((ckv kvs).any fun kv=>decide (kv.1=vs.map cK)):=by
   unfold ckv
   rw [List.any_map]
   rfl
  rw [e1,cL,(r.val (vs.map cK)).isSome_eq,Option.isSome_map]
 unfold gc storedH
 rw [e]
 by_cases q:(atKey xs (vs.map cK)).isSome=true
 ·rw [if_pos q,if_pos q]; exact r.repl (vs.map cK) ry
 ·rw [if_neg q,if_neg q]; exact Paired.snoc r ⟨rfl,hb,ry⟩
theorem KT.keeps {H H':Hp} {kvs:List (List V×V)} {xs:List (List Key×Addr×Value)} (r:KT H kvs xs) (ht:∀ b ys,H b=some (.tup ys)→H' b=some (.tup ys)):KT H' kvs xs :=
 Paired.mapP r fun _ _ z=>⟨z.1,⟨ht _ _ z.2.1.1,z.2.1.2⟩,z.2.2⟩
section
variable {P:Program} {w:World} {H:Hp} {h:Heap} {a:Addr}
theorem wY {u:HO} (ok:HOk P w H h) (e:Rd H a u):bx P w H h a u:=e.ok ok
theorem uF {kvs:List (Key×V)} (ok:HOk P w H h) (e:Rd H a (.dK kvs)):kvs.length≤sizeLine∧(a==sysModules)=false∧∃ vs,KV kvs vs∧h.DictOf (bc P w) a vs :=
 show bx P w H h a (.dK kvs) from wY ok e
theorem zo {kvs:List (Key×V)} (ok:HOk P w H h) (e:H a=some (.dK kvs)):kvs.length≤sizeLine∧(a==sysModules)=false∧∃ vs,KV kvs vs∧h.DictOf (bc P w) a vs:=uF ok (.inl e)
theorem qj {vs:List V} (ok:HOk P w H h) (e:H a=some (.tup vs)∧vs.all isK=true):(tupleKind (bc P w)).is h (vs.map cK) a:=by
 obtain ⟨_,its,r,⟨o,h1,h2,n,h3⟩,_⟩:=(show bx P w H h a (.tup vs) from ok a _ e.1)
 exact ⟨o,its.toArray,n,h1,h2,h3,by simpa using iU r e.2⟩
theorem uv {kvs:List (List V×V)} (ok:HOk P w H h) (e:Rd H a (.dT kvs)):kvs.length≤sizeLine∧(a==sysModules)=false ∧
  ∃ xs,KT H kvs xs∧h.DictOfH (tupleKind (bc P w)) a xs:=by
 obtain ⟨z,y,xs,r,o,es,ep,h1,h2,h3,h4,h5⟩:=(show bx P w H h a (.dT kvs) from wY ok e)
 refine ⟨z,y,xs,r,o,es,ep,h1,h2,h3,h4,fun x hx=>?_,h5⟩
 have all:∀ {l:List (List V×V)} {m:List (List Key×Addr×Value)},KT H l m→∀ x∈m,(tupleKind (bc P w)).is h x.1 x.2.1:=by
  intro l m q
  induction q with
  | nil=>intro x hx; exact nomatch hx
  | @cons p q ps qs hq t ih =>
   intro x hx
   rcases List.mem_cons.mp hx with e | hx
   ·subst e
    rw [← hq.1]; exact qj ok hq.2.1
   ·exact ih x hx
 exact all r x hx
theorem wR {kvs:List (List V×V)} (ok:HOk P w H h) (e:H a=some (.dT kvs)):kvs.length≤sizeLine∧(a==sysModules)=false ∧
  ∃ xs,KT H kvs xs∧h.DictOfH (tupleKind (bc P w)) a xs:=uv ok (.inl e)
end
def sH (H:Hp) (a:Addr) (y:V) (r:Option V):Prop :=
 (∃ kvs k,Rd H a (.dK kvs)∧y=kV k∧r=bO kvs k)∨∃ kvs vs b,Rd H a (.dT kvs)∧y=.ref b∧(H b=some (.tup vs)∧vs.all isK=true)∧r=bO (ckv kvs) (vs.map cK)
def gW (H:Hp) (a:Addr) (y v:V) (H':Hp):Prop :=
 (∃ kvs k,H a=some (.dK kvs)∧y=kV k∧kvs.length<sizeLine∧H'=upd H a (.dK (cY kvs k v))) ∨
 ∃ kvs vs b,H a=some (.dT kvs)∧y=.ref b∧(H b=some (.tup vs)∧vs.all isK=true)∧kvs.length<sizeLine∧H'=upd H a (.dT (gc kvs vs v))
theorem sH.k {H:Hp} {a:Addr} {kvs:List (Key×V)} {k:Key} (e:H a=some (.dK kvs)):sH H a (kV k) (bO kvs k):=.inl ⟨kvs,k,.inl e,rfl,rfl⟩
theorem gW.k {H:Hp} {a:Addr} {kvs:List (Key×V)} {k:Key} {v:V} (e:H a=some (.dK kvs)) (hl:kvs.length<sizeLine):gW H a (kV k) v (upd H a (.dK (cY kvs k v))):=.inl ⟨kvs,k,e,rfl,hl,rfl⟩
theorem gW.t {H:Hp} {a b:Addr} {kvs:List (List V×V)} {vs:List V} {v:V} (e:H a=some (.dT kvs)) (eb:H b=some (.tup vs)) (hk:vs.all isK=true) (hl:kvs.length<sizeLine) :
  gW H a (.ref b) v (upd H a (.dT (gc kvs vs v))):=.inr ⟨kvs,vs,b,e,rfl,⟨eb,hk⟩,hl,rfl⟩
section
variable {X:Cx} {pins:List (Addr×Obj)} {σ:St} {H:Hp} {s:Shared} {a:Addr} {y v:V} {u r:Value} {o:Option V} {A:Around} {E:Value→Shared→Prop}
theorem Inv.big (I:Inv X pins σ H s):sysModules<s.heap.objs.size:=by
 have h:mainGlobals<s.heap.objs.size:=(I.mod.glob.keeps I.bk).lt
 exact Nat.lt_trans (by decide) h
theorem su {Q:Value→Shared→Prop} (hu:A.units+1<cLine) (I:Inv X pins σ H s) (g:sH H a y (some v)) (ry:aJ y u) (h:∀ w' s',Inv X pins σ H s'→aJ v w'→Q w' s') :
  wpAny (model X.prog X.w) A (getItem (.ref a) u) Q E s:=by
 rcases g with ⟨kvs,k,e,ey,l⟩ | ⟨kvs,k,b,e,ey,eb,l⟩
 ·subst ey
  obtain ⟨z,hd,vs,rel,dd⟩:=uF I.hok e
  obtain ⟨w',hw,rw'⟩:=dm.some_of (v:=v) (o:=valueAt vs k) (by rw [l]; exact rel.val k)
  exact wpAny_getItem_of (wZ ry) dd.mapOf hw (h w' _ (I.tok _) rw')
 ·subst ey
  cases (show u=Value.ref b from ry)
  obtain ⟨z,hd,xs,rel,dd⟩:=uv I.hok e
  obtain ⟨w',hw,rw'⟩:=dm.some_of (v:=v) (o:=(atKey xs (k.map cK)).map (·.2)) (by rw [l]; exact rel.val (k.map cK))
  obtain ⟨p,hp,hp2⟩:=Option.map_eq_some_iff.mp hw
  refine wpAny_getItem_heap (tupleKind_room_in1 hu) (qj I.hok eb) dd hp ?_
  rw [hp2]
  exact h w' _ (I.tok _) rw'
theorem rN {h':Heap} {t':Nat} {ob:HO} (I:Inv X pins σ H s) (mu:Mut (H a)) (hs:Heap.SameBut a s.heap h') (he:∃ q,h'.get? a=some q) (new:bx X.prog X.w (upd H a ob) h' a ob) :
  Inv X pins σ (upd H a ob) { s with heap:=h',toks:=t' } :=
 I.write (x:=a) (e:=a) mu (.inl rfl) (fun b q hb z=>(hs.2 b hb).trans z) he new
theorem xH {P:Program} {w:World} {H':Hp} {h':Heap} {kvs:List (Key×V)} {vs:List (Key×Value)} (z:kvs.length≤sizeLine) (hd:(a==sysModules)=false) (rel:KV kvs vs) (dd:h'.DictOf (bc P w) a vs) :
  bx P w H' h' a (.dK kvs):=⟨z,hd,vs,rel,dd⟩
theorem si {H':Hp} {Q:Unit→Shared→Prop} (hu:A.units+1<cLine) (I:Inv X pins σ H s) (g:gW H a y v H') (ry:aJ y u) (rv:aJ v r) (h:∀ s',Inv X pins σ H' s'→Q () s') :
  wpAny (model X.prog X.w) A (setItem (.ref a) u r) Q E s:=by
 rcases g with ⟨kvs,k,e,ey,l,eH⟩ | ⟨kvs,k,b,e,ey,eb,l,eH⟩
 ·subst ey eH
  obtain ⟨z,hd,vs,rel,dd⟩:=zo I.hok e
  have hz:vs.length≤sizeLine:=by rw [← rel.length]; exact z
  have hl:(cY kvs k v).length≤sizeLine:=by have:=nL kvs k v; omega
  refine wpAny_setItem_pairs (hsz:=hz) (wZ ry) dd fun h' dd' hs=>h _ ?_
  have he:∃ q,h'.get? a=some q:=let ⟨q,_,_,hq,_⟩:=dd'; ⟨q,hq⟩
  exact rN I (by rw [e]; exact True.intro) hs he (xH hl hd (rel.put k rv) dd')
 ·subst ey eH
  cases (show u=Value.ref b from ry)
  obtain ⟨z,hd,xs,rel,dd⟩:=wR I.hok e
  have hz:xs.length≤sizeLine:=by rw [← Paired.length rel]; exact z
  have hl:(gc kvs k v).length≤sizeLine:=by have:=nX kvs k v; omega
  refine wpAny_setItem_heap (hsz:=hz) (tupleKind_room_in1 hu) (qj I.hok eb) dd fun h' dd' hs=>h _ ?_
  obtain ⟨q,es,ep,hq,h2,h3,h4,_,h5⟩:=dd'
  refine rN I (by rw [e]; exact True.intro) hs ⟨q,hq⟩ ⟨hl,hd,_,(rel.put k eb rv).keeps fun c ys ec=>?_,q,es,ep,hq,h2,h3,h4,h5⟩
  rw [ax (aX ec e (fun z=>nomatch z))]
  exact ec
end
section
variable {X:Cx} {pins:List (Addr×Obj)} {σ:St} {H:Hp} {s:Shared} {a:Addr} {kvs:List (Key×V)} {k:Key} {u:Value} {A:Around} {E:Value→Shared→Prop}
end
def Ah (i:Expr):Prop:=∀ ov iv,subscripted i false ov iv=operate [ov,iv] (getItem ov iv)
theorem wv {prog:Program} {w:World} {A:Around} {E:Value→Shared→Prop} {s:Shared} {env:Env} {value slice:Expr} {pos:Pos} {T id:String} {Q:Value→Shared→Prop}
  (hl:typeLookup (.type T) "__getitem__"=pure (some (.builtin id))) (hs:Ah slice)
  (h:wpAny (model prog w) A (eval value env) (fun o s₁=>wpAny (model prog w) A (eval slice env) (fun i s₂=>s₂.TypeIs o T∧wpAny (model prog w) A (getItem o i) Q E s₂) E s₁) E s) :
  wpAny (model prog w) A (eval (.Subscript value slice pos) env) Q E s:=by
 refine Subscript_ (wpAny_mono h (fun o s₁ h₁=>wpAny_mono h₁ (fun i s₂ h₂=>?_) fun _ _ x=>x) fun _ _ x=>x)
 obtain ⟨hT,h₂⟩:=h₂
 unfold subscriptTail
 refine wpAny_bind ?_
 rw [getitemInPython_of_ne hT.not_modules]
 refine wpAny_bind (wpAny_specialOf hT hl ?_)
 have fin:wpAny (model prog w) A (subscripted slice false o i) (fun r s₃=>wpAny (model prog w) A (letTemporaryGo value o r >>= fun _=>pure r) Q E s₃) E s₂:=by
  rw [hs o i]
  exact wpAny_operating (wpAny_mono h₂ (fun r s₃ h₃=>wpAny_bind (wpAny_letTemporaryGo (wpAny_pure h₃))) fun _ _ x=>x)
 first
  | exact wpAny_pure (wpAny_bind fin)
  | exact wpAny_bind (wpAny_pure (wpAny_bind fin))
  | exact wpAny_bind fin
theorem nU {X:Cx} {pins:List (Addr×Obj)} {σ:St} {H:Hp} {s:Shared} {a:Addr} {y:V} {o:Option V} (I:Inv X pins σ H s) (g:sH H a y o):s.TypeIs (.ref a) "dict":=by
 rcases g with ⟨kvs,k,e,_,_⟩ | ⟨kvs,k,b,e,_,_,_⟩
 ·obtain ⟨_,_,vs,_,dd⟩:=uF I.hok e
  exact dd.typeIs
 ·obtain ⟨_,_,xs,_,dd⟩:=uv I.hok e
  exact dd.typeIs
def zD (td ty:TE):TE:=fun σ H Q=>td σ H fun x H1=>ty σ H1 fun y H2=>∃ a v,x=.ref a∧sH H2 a y (some v)∧Q v H2
def yz (td ty tv:TE):TS:=fun D σ H=>tv σ H fun v H1=>td σ H1 fun x H2=>ty σ H2 fun y H3=>∃ a H4,x=.ref a∧gW H3 a y v H4∧D.nx σ H4
section
variable {X:Cx} {o i e value:Expr} {pos pos' tpos:Pos} {td ty tv:TE}
theorem wh (hu:X.A.units+1<cLine) (ho:PE X o td) (hi:PE X i ty) (hs:Ah i):PE X (.Subscript o i pos) (zD td ty):=by
 intro pins s σ H Q I h
 refine wv PySem.F.slot_dict_getitem.lookup hs (thn (ho pins s σ H _ I h) fun u s1 ⟨x,H1,I1,rx,q1⟩=>thn (hi pins s1 σ H1 _ I1 q1) fun iv s2 ⟨y,H2,I2,ry,a,v,ex,g,q2⟩=>?_)
 subst ex
 obtain rfl:u=Value.ref a:=rx
 exact ⟨nU I2 g,su hu I2 g ry fun w' s3 I3 rw'=>⟨v,H2,I3,rw',q2⟩⟩
theorem eE (hu:X.A.units+1<cLine) (ho:PE X o td) (hi:PE X i ty) (hv:PE X value tv) (hs:swapsWith value (some (.Subscript o i pos')) pos.line X.env=pure false) :
  PS X (.Assign [.Subscript o i pos'] value pos) (yz td ty tv):=by
 intro pins s σ H D I h
 refine wpAny_Assign_Subscript (thn (hv pins s σ H _ I h) fun r s1 ⟨v,H1,I1,rv,q1⟩=>thn (ho pins s1 σ H1 _ I1 q1) fun u s2 ⟨x,H2,I2,rx,q2⟩=>thn (hi pins s2 σ H2 _ I2 q2) fun iv s3 ⟨y,H3,I3,ry,a,H4,ex,g,q3⟩=>?_) hs
 subst ex
 obtain rfl:u=Value.ref a:=rx
 exact si hu I3 g ry rv fun s4 I4=>⟨σ,H4,I4,q3⟩
end
theorem vK {P:Program} {w:World} {H:Hp} (h:Heap) (hb:sysModules<h.objs.size):bx P w H (h.push { cls:=.type "dict",data:=.dict #[] }) h.objs.size (.dK []) :=
 ⟨Nat.zero_le _,beq_eq_false_iff_ne.mpr (Ne.symm (Nat.ne_of_lt hb)),[],.nil,Heap.DictOf.new h⟩
theorem uf {P:Program} {w:World} {H:Hp} (h:Heap) (hb:sysModules<h.objs.size):bx P w H (h.push { cls:=.type "dict",data:=.dict #[] }) h.objs.size (.dT []) :=
 ⟨Nat.zero_le _,beq_eq_false_iff_ne.mpr (Ne.symm (Nat.ne_of_lt hb)),[],.nil,_,#[],0,Heap.get?_push_size _ rfl,⟨rfl,rfl,rfl⟩,rfl,rfl,List.nodup_nil⟩
def xx:TE:=fun _ H Q=>∀ p,H p=none→Q (.ref p) (upd H p (.dK []))
def xY:TE:=fun _ H Q=>∀ p,H p=none→Q (.ref p) (upd H p (.dT []))
section
variable {X:Cx} {pos:Pos}
theorem vN:PE X (.Dict [] [] pos) xx:=fun pins s σ H Q I h =>
 wpAny_Dict_empty ⟨.ref s.heap.objs.size,_,I.laid (a:=s.heap.objs.size) (o:=.dK []) (t':=s.toks) (fun _ _ q=>Heap.get?_push_of_some _ q) (Nat.le_refl _) (vK s.heap I.big),rfl,h _ (I.hok.fresh (Nat.le_refl _))⟩
theorem vh:PE X (.Dict [] [] pos) xY:=fun pins s σ H Q I h =>
 wpAny_Dict_empty ⟨.ref s.heap.objs.size,_,I.laid (a:=s.heap.objs.size) (o:=.dT []) (t':=s.toks) (fun _ _ q=>Heap.get?_push_of_some _ q) (Nat.le_refl _) (uf s.heap I.big),rfl,h _ (I.hok.fresh (Nat.le_refl _))⟩
end
structure M1 (X:Cx) (o:Expr) (m:Str) (apos:Pos) (e:Expr) (cpos:Pos):Prop where
 base:attributeBase o m X.env (eval o X.env)=eval o X.env
 few:((backTo cpos (starEach [e] X.env)).all (fun x=>!x.1)&&(backToKw cpos (keywordEach [] X.env)).all (fun x=>x.1.isSome)
 &&decide (([e]:List Expr).length+([]:List Keyword).length+(if ([]:List Keyword).isEmpty then 0 else 1)<30))=true
 line:(apos.endLine==cpos.line)=true
 trees:backTo cpos (starEach [e] X.env)=[(false,eval e X.env)]
structure M2 (X:Cx) (o:Expr) (m:Str) (apos:Pos) (e f:Expr) (cpos:Pos):Prop where
 base:attributeBase o m X.env (eval o X.env)=eval o X.env
 few:((backTo cpos (starEach [e,f] X.env)).all (fun x=>!x.1)&&(backToKw cpos (keywordEach [] X.env)).all (fun x=>x.1.isSome)
 &&decide (([e,f]:List Expr).length+([]:List Keyword).length+(if ([]:List Keyword).isEmpty then 0 else 1)<30))=true
 line:(apos.endLine==cpos.line)=true
 trees:backTo cpos (starEach [e,f] X.env)=[(false,eval e X.env),(false,eval f X.env)]
section
variable {X:Cx} {pins:List (Addr×Obj)} {σ:St} {H:Hp} {s:Shared} {a:Addr} {y d:V} {u r:Value} {o:Option V} {A:Around} {E:Value→Shared→Prop}
end
section
variable {X:Cx} {o e f:Expr} {apos cpos:Pos} {td ty tx:TE}
end
section
variable {X:Cx} {pins:List (Addr×Obj)} {σ:St} {H:Hp} {s:Shared} {a:Addr} {kvs:List (Key×V)} {A:Around} {E:Value→Shared→Prop}
end
section
variable {X:Cx} {pins:List (Addr×Obj)} {σ:St} {H:Hp} {s:Shared} {a:Addr} {y:V} {u:Value} {A:Around} {E:Value→Shared→Prop}
end
section
variable {X:Cx}
end
section
variable {κ:Type} [DecidableEq κ]
end
open PySem PySem.Spec PyProof.Rows
section
variable {m:Nat} {g:TG} {tt:TT} {te:TE} {σ':St} {Z:List V→Hp→Prop} {H1:Hp} {K:Frag}
theorem sI {a:Addr} {xs:List V} (n:Nat) (hz:n=xs.length) (hn:n≤1000) (Pv:Nat→List V→Hp→Prop) (h0:Pv 0 [] H1) (hq:∀ i acc H,Pv i acc H→SqL K H a xs)
  (hs:∀ i acc H x,i<n→acc.length≤i→xs[i]?=some x→Pv i acc H→g x σ' H fun σ2 H2=>(σ2.drop m=σ'.drop m∧σ2.length=σ'.length)∧tt σ2 H2 fun b H3=>if b=true then te σ2 H3 fun v H4=>NxT n Pv i acc v H4 else NxF n Pv i acc H3)
  (hd:∀ acc H,Pv n acc H→acc.length≤n→Z acc H):oF (Itl K a) m g tt te σ' Z H1 :=
 rJ n hn Pv h0 (fun i acc H hi la p=>by
  have hx:xs[i]?=some (xs[i]'(by omega)):=List.getElem?_eq_getElem (by omega)
  exact ⟨⟨xs,_,hq i acc H p,hx⟩,fun x H' y=>by obtain ⟨e,y⟩:=y; subst e; exact hs i acc _ x hi la (y xs (hq i acc _ p)) p⟩) fun acc H p la=>⟨⟨xs,hq n acc H p,by omega⟩,hd acc H p la⟩
end
section
variable {X:Cx}
open PySem PySem.Spec PyProof.Rows
structure KD (K:Frag) (w:World) (a:Addr) (kvs:List (Str×Str)):Prop where
 ex:∃ es n,K.lookup a=some ⟨.type "dict",none,.dict es n,#[]⟩∧KeysLit w.params es.toList
 at_:∀ p∈kvs,∃ t,PySem.W.nsIn K a p.1=some (some (.str p.2 t))
end
end L2
namespace PySem
open Sem (wp)
namespace F
theorem no_tuple_reversed:typeLookup (.type "tuple") "__reversed__"=pure none:=by rw [typeLookup_type,builtinLookup_eq_fast]; kernel_rfl
theorem cv:Manifest.owners.lookup (String.ofList ['d','e','s','r','e','v','e','r'].reverse)=some Manifest.sig_reversed:=by kernel_rfl
theorem ez:Slot "reversed" "__init__" "object.__init__" :=
 .of (owner := "object") (n := "__init__") (by rw [typeLookup_type,builtinLookup_eq_fast]; kernel_rfl) (by decide +kernel) (by decide +kernel) (by decide +kernel)
  (by first | exact .inl (by decide +kernel) | exact .inr (by decide +kernel)) (by rw [isSubtype_type]; kernel_rfl)
theorem slot_reversed_next:Slot "reversed" "__next__" "reversed.__next__" :=
 .of (owner := "reversed") (n := "__next__") (by rw [typeLookup_type,builtinLookup_eq_fast]; kernel_rfl) (by decide +kernel) (by decide +kernel) (by decide +kernel)
  (by first | exact .inl (by decide +kernel) | exact .inr (by decide +kernel)) (by rw [isSubtype_type]; kernel_rfl)
theorem slot_reversed_iter:Slot "reversed" "__iter__" "reversed.__iter__" :=
 .of (owner := "reversed") (n := "__iter__") (by rw [typeLookup_type,builtinLookup_eq_fast]; kernel_rfl) (by decide +kernel) (by decide +kernel) (by decide +kernel)
  (by first | exact .inl (by decide +kernel) | exact .inr (by decide +kernel)) (by rw [isSubtype_type]; kernel_rfl)
theorem entry_reversed_next:entryFor table "reversed.__next__"=some Builtin.«reversed.__next__»:=entryFor_of_tree (by kernel_rfl)
theorem args_reversed_next_1 (a:Value):argsOk "reversed.__next__" ⟨[a],[]⟩:=by
 unfold argsOk; rw [signature?_of (id := "reversed.__next__") (n:=['_','_','t','x','e','n','_','_']) (o:=['d','e','s','r','e','v','e','r']) (by kernel_rfl) cv]; kernel_rfl
theorem args_reversed_iter_1 (a:Value):argsOk "reversed.__iter__" ⟨[a],[]⟩:=by
 unfold argsOk; rw [signature?_of (id := "reversed.__iter__") (n:=['_','_','r','e','t','i','_','_']) (o:=['d','e','s','r','e','v','e','r']) (by kernel_rfl) cv]; kernel_rfl
theorem entry_reversed_iter:entryFor table "reversed.__iter__"=some Builtin.«dict_keyiterator.__iter__» :=
 entryFor_alias (id' := "dict_keyiterator.__iter__") (by kernel_rfl) (by first | rfl | decide +kernel | (unfold String.splitOn; simp +decide [String.splitOnAux])) (by decide +kernel) (by kernel_rfl)
theorem called_reversed:TypeCalled "reversed" "reversed.__new__" "object.__init__" :=
 ⟨by decide +kernel,by decide +kernel,⟨_,_,mro_reversed⟩,made_reversed,by decide +kernel,by rw [isSubtype_type]; kernel_rfl,ez⟩
theorem no_lri_len:typeLookup (.type "list_reverseiterator") "__len__"=pure none:=by rw [typeLookup_type,builtinLookup_eq_fast]; kernel_rfl
theorem no_reversed_len:typeLookup (.type "reversed") "__len__"=pure none:=by rw [typeLookup_type,builtinLookup_eq_fast]; kernel_rfl
end F
section
variable {prog:Program} {w:World} {A:Around} {E:Value→Shared→Prop} {s:Shared}
def mZ (t:Addr) (i:Int):Obj:={ cls:=.type "reversed",data:=.fields #[.ref t,rawInt i] }
theorem dZ (t:Addr) (items:Array Value) (hz:¬ (items.size:Int) ≥ 2 ^ 63) :
  Meets (Builtin.«reversed.__new__» ⟨[.type "reversed",.ref t],[]⟩) (fun _ R s=>PyProof.Rows.IsTup s.heap t items ∧
   R (.ok (.ret (.ref s.heap.objs.size))) { s with heap:=s.heap.push (mZ t ((items.size:Int) - 1)),toks:=s.toks+1+1 }) :=
 .of_wp fun prog w A R s h=>by
  obtain ⟨ht,h⟩:=h
  have hT:s.TypeIs (.ref t) "tuple":=ht.typeIs
  unfold Builtin.«reversed.__new__»
  refine wpAny_bind (wpAny_of_eq (newClass_reversed _) ?_)
  try dsimp only
  refine wpAny_bind (wpAny_of_eq (a:=()) (by first | rfl | kernel_rfl) ?_)
  refine wpAny_bind (wpAny_of_eq (a:=()) (by first | rfl | kernel_rfl) ?_)
  try dsimp only
  refine wpAny_bind (wpAny_specialOf hT F.no_tuple_reversed ?_)
  try dsimp only
  refine wpAny_bind ?_
  show wpAny _ _ (isInstance (.ref t) (.type "dict") >>= _) _ _ _
  refine wpAny_bind (wpAny_isInstance hT F.sub_tuple_dict ?_)
  rw [if_neg (by decide)]
  refine wpAny_bind (wpAny_specialOf hT F.slot_tuple_getitem.lookup ?_)
  dsimp only
  rw [if_pos (by decide +kernel)]
  refine wpAny_pure ?_
  rw [if_neg (by decide)]
  refine wpAny_bind (PyProof.Rows.len_tuple ht (by omega) ?_)
  refine wpAny_bind (wpAny_of_eq (a:=some ((items.size:Nat):Int)) rfl ?_)
  dsimp only
  unfold Builtin.SmallTypes.newRecord
  exact wpAny_bind (wpAny_newObj_type (wpAny_pure ⟨_,rfl,h⟩))
theorem dQ {t:Addr} {items:Array Value} {Q:Value→Shared→Prop} (ht:PyProof.Rows.IsTup s.heap t items) (hz:¬ (items.size:Int) ≥ 2 ^ 63)
  (h:Q (.ref s.heap.objs.size) { s with heap:=s.heap.push (mZ t ((items.size:Int) - 1)),toks:=s.toks+1+1 }):wpAny (model prog w) A (call (.type "reversed") [.ref t]) Q E s:=by
 refine callType_new F.called_reversed (by decide) (F.typeCall_reversed_1 _) (F.newCall_reversed_1 _) (fun obj=>F.args_object_init_2 obj _) F.entry_reversed_new (dZ t items hz) ⟨ht,?_⟩
 exact ⟨⟨_,Heap.get?_push_size _ rfl,rfl⟩,h⟩
def Heap.IsRvt (h:Heap) (a t:Addr) (i:Int):Prop:=∃ o,h.get? a=some o∧o.cls=.type "reversed"∧o.data=.fields #[.ref t,rawInt i]
theorem Heap.IsRvt.typeIs {a l:Addr} {i:Int} (x:s.heap.IsRvt a l i):s.TypeIs (.ref a) "reversed":=let ⟨o,ho,hc,_⟩:=x; ⟨o,ho,hc⟩
theorem Heap.IsRvt.at {h h':Heap} {a l:Addr} {i:Int} (x:h.IsRvt a l i) (e:∀ o,h.get? a=some o→h'.get? a=some o):h'.IsRvt a l i:=let ⟨o,ho,r⟩:=x; ⟨o,e _ ho,r⟩
theorem gX {it t:Addr} {i:Nat} {items:Array Value} {x:Value} {Q:Option Value→Shared→Prop} (hit:s.heap.IsRvt it t (i:Int)) (ht:PyProof.Rows.IsTup s.heap t items) (hb:(i:Int)<2 ^ 63) (hx:items[i]?=some x)
  (hQ:∀ h' tk,h'.IsRvt it t ((i:Int) - 1)→Heap.SameBut it s.heap h'→Q (some x) { s with heap:=h',toks:=tk }):wpAny (model prog w) A (pyNext (.ref it)) Q E s:=by
 obtain ⟨o,ho,hc,hd⟩:=id hit
 have hT:s.TypeIs (.ref t) "tuple":=ht.typeIs
 unfold pyNext
 refine wpAny_bind (wpAny_attempt (wpAny_callSpecial?_slot (name:=Str.ofString "__next__") hit.typeIs F.slot_reversed_next
  (wpAny_call_entry F.slot_reversed_next hit.typeIs F.entry_reversed_next ?_ (F.args_reversed_next_1 _))))
 unfold Builtin.«reversed.__next__»
 refine wpAny_bind (wpAny_of_eq (a:=(Value.ref it,[])) rfl ?_)
 try dsimp only
 refine wpAny_bind (wpAny_field ho hd (x:=.ref t) rfl ?_)
 refine wpAny_bind (wpAny_field ho hd (x:=rawInt (i:Int)) rfl ?_)
 show wpAny _ _ (if (i:Int)<0 then _ else _) _ _ s
 rw [if_neg (by omega)]
 refine wpAny_bind (wpAny_specialOf hT F.slot_tuple_getitem.lookup ?_)
 rw [if_neg (by simp)]
 refine wpAny_bind (wpAny_mkInt ?_)
 have hi:i<items.size:=(Array.getElem?_eq_some_iff.mp hx).1
 refine wpAny_bind (wpAny_attempt (PyProof.Rows.getItem_tuple ht (by omega) hb (j:=i) (by simp [seqIndex?]; omega) hx ?_))
 dsimp only
 refine wpAny_bind (wpAny_field ho hd (x:=rawInt (i:Int)) rfl ?_)
 show wpAny _ _ (setField (.ref it) 1 (rawInt ((i:Int) - 1)) >>= _) _ _ _
 refine wpAny_bind (wpAny_setField ho hd (by simp) ?_)
 refine wpAny_pure ⟨x,rfl,wpAny_pure (hQ _ _ ?_ (Heap.SameBut.update ..))⟩
 exact ⟨_,Heap.get?_update_self _ ho (Obj.isFreed_of_fields (Obj.data_mapFields hd _)),(Obj.cls_mapFields ..).trans hc,by
  rw [Obj.data_mapFields hd]; simp⟩
theorem jT {it t:Addr} {Q:Option Value→Shared→Prop} (hh:A.handled=none) (hit:s.heap.IsRvt it t (-1))
  (hQ:∀ h',Heap.ExtBut it s.heap h'→Q none { s with heap:=h' }):wpAny (model prog w) A (pyNext (.ref it)) Q E s:=by
 obtain ⟨o,ho,hc,hd⟩:=id hit
 unfold pyNext
 refine wpAny_bind (wpAny_attempt (wpAny_callSpecial?_slot (name:=Str.ofString "__next__") hit.typeIs F.slot_reversed_next
  (wpAny_call_entry F.slot_reversed_next hit.typeIs F.entry_reversed_next ?_ (F.args_reversed_next_1 _))))
 unfold Builtin.«reversed.__next__»
 refine wpAny_bind (wpAny_of_eq (a:=(Value.ref it,[])) rfl ?_)
 try dsimp only
 refine wpAny_bind (wpAny_field ho hd (x:=.ref t) rfl ?_)
 refine wpAny_bind (wpAny_field ho hd (x:=rawInt (-1)) rfl ?_)
 show wpAny _ _ (if (-1:Int)<0 then _ else _) _ _ s
 rw [if_pos (by decide)]
 refine wpAny_bind (wpAny_rule ?_)
 refine wpAny_bind ?_
 show wpAny _ _ (setField (.ref it) 1 (rawInt (-1)) >>= fun _=>setField (.ref it) 0 .none) _ _ _
 refine wpAny_bind (wpAny_setField ho hd (by simp) ?_)
 have ho2:=Heap.get?_update_self (Obj.mapFields fun f=>f.set! 1 (rawInt (-1))) ho (Obj.isFreed_of_fields (Obj.data_mapFields hd _))
 refine wpAny_setField ho2 (Obj.data_mapFields hd _) (by simp) ?_
 have eb:Heap.ExtBut it s.heap ((s.heap.update it (Obj.mapFields fun x=>x.setIfInBounds 1 (rawInt (-1)))).update it (Obj.mapFields fun x=>x.setIfInBounds 0 Value.none)):=fun b o hb e=>(Heap.get?_update_other _ _ (Ne.symm hb)).trans ((Heap.get?_update_other _ _ (Ne.symm hb)).trans e)
 refine wpAny_bind ?_
 show wpAny _ _ (newExc (.type "StopIteration") [] >>= _) _ _ _
 refine wpAny_bind ?_
 simp only [newExc,newTuple]
 refine wpAny_bind (wpAny_newObj_type ?_ (by size_fits))
 refine wpAny_bind (m:=firstArgMember _ _) (wpAny_of_eq (a:=Value.none) (by first | rfl | (simp only [firstArgMember]; rfl)) ?_)
 refine wpAny_newObj_type ?_ (by size_fits)
 simp only [raiseNew]
 refine wpAny_bind (wpAny_handled ?_)
 first | rw [show A.in1.handled=none from hh] | rw [hh]
 refine wpAny_bind (wpAny_pure (wpAny_throw ?_))
 refine wpAny_bind (wpAny_isInstance (T := "StopIteration") (b:=true) ⟨_,Heap.get?_push_size _ rfl,rfl⟩ isSubtype_stop ?_)
 exact wpAny_pure (hQ _ ((eb.push _).push _))
theorem pB {it t:Addr} {i:Int} {Q:Value→Shared→Prop} (hit:s.heap.IsRvt it t i) (h:Q (.ref it) s):wpAny (model prog w) A (pyIter (.ref it)) Q E s:=by
 refine wpAny_pyIter_slot hit.typeIs F.slot_reversed_iter (wpAny_call_entry F.slot_reversed_iter hit.typeIs F.entry_reversed_iter ?_ (F.args_reversed_iter_1 _))
 show wpAny _ _ (ret (.ref it)) _ _ s
 exact wpAny_pure ⟨_,rfl, "reversed",_,hit.typeIs,F.slot_reversed_next.lookup,h⟩
end
theorem Walks.tupRev {prog:Program} {w:World} {A:Around} (hh:A.handled=none) (I t:Addr) (hne:t≠I) (items:Array Value) (hz:items.size≤sizeLine) :
  Walks prog w A I [I,t] [I] items.size (fun i v=>items[items.size - 1 - i]?=some v) (fun i h=>i≤items.size∧h.IsRvt I t ((items.size:Int) - 1 - (i:Int))∧PyProof.Rows.IsTup h t items) where
 sub:=fun b hb=>by simp at hb; simp [hb]
 frame:=fun _ _ _ x hk=>⟨x.1,x.2.1.at fun o e=>hk I (by simp) o e,let ⟨o,e,r⟩:=x.2.2; ⟨o,hk t (by simp) o e,r⟩⟩
 item:=fun i s Q E hi x hQ=>by
  have e:(items.size:Int) - 1 - (i:Int)=((items.size - 1 - i:Nat):Int):=by omega
  have hit:=x.2.1
  rw [e] at hit
  have hx:items[items.size - 1 - i]?=some (items[items.size - 1 - i]'(by omega)):=Array.getElem?_eq_getElem (by omega)
  have hs:sizeLine=16777216:=sizeLine_eq
  refine gX hit x.2.2 (by omega) hx fun h' tk hit' hs'=>?_
  have e2:((items.size - 1 - i:Nat):Int) - 1=(items.size:Int) - 1 - ((i+1:Nat):Int):=by omega
  rw [e2] at hit'
  exact hQ _ h' tk hx ⟨hi,hit',x.2.2.extBut hs'.extBut hne⟩ fun b o hb eo=>hs'.extBut b o (fun h=>hb (by simp [h])) eo
 done:=fun s Q E x hQ=>by
  have e:(items.size:Int) - 1 - (items.size:Int)=-1:=by omega
  have hit:=x.2.1
  rw [e] at hit
  exact jT hh hit fun h' he'=>hQ h' s.toks fun b o hb eo=>he' b o (fun h=>hb (by simp [h])) eo
 self:=fun _ _ _ _ x hQ=>pB x.2.1 hQ
open Sem (wp)
namespace F
theorem slot_lri_hint:Slot "list_reverseiterator" "__length_hint__" "list_reverseiterator.__length_hint__" :=
 .of (owner := "list_reverseiterator") (n := "__length_hint__") (by rw [typeLookup_type,builtinLookup_eq_fast]; kernel_rfl) (by decide +kernel) (by decide +kernel) (by decide +kernel)
  (by first | exact .inl (by decide +kernel) | exact .inr (by decide +kernel)) (by rw [isSubtype_type]; kernel_rfl)
theorem slot_reversed_hint:Slot "reversed" "__length_hint__" "reversed.__length_hint__" :=
 .of (owner := "reversed") (n := "__length_hint__") (by rw [typeLookup_type,builtinLookup_eq_fast]; kernel_rfl) (by decide +kernel) (by decide +kernel) (by decide +kernel)
  (by first | exact .inl (by decide +kernel) | exact .inr (by decide +kernel)) (by rw [isSubtype_type]; kernel_rfl)
theorem entry_reversed_hint:entryFor table "reversed.__length_hint__"=some Builtin.«reversed.__length_hint__»:=entryFor_of_tree (by kernel_rfl)
theorem args_reversed_hint_1 (a:Value):argsOk "reversed.__length_hint__" ⟨[a],[]⟩:=by
 unfold argsOk; rw [signature?_of (id := "reversed.__length_hint__") (n:=['_','_','t','n','i','h','_','h','t','g','n','e','l','_','_']) (o:=['d','e','s','r','e','v','e','r']) (by kernel_rfl) cv]; kernel_rfl
end F
section
variable {prog:Program} {w:World} {A:Around} {E:Value→Shared→Prop} {s:Shared}
theorem vg {it l:Addr} {i:Int} {Q:Bool→Shared→Prop} (hit:s.heap.IsRevIter it l i) (h:∀ b tk,Q b { s with toks:=tk }):wpAny (model prog w) A (Builtin.List.listLengthHint (.ref it)) Q E s:=by
 unfold Builtin.List.listLengthHint
 refine wpAny_bind (wpAny_specialOf hit.typeIs F.no_lri_len ?_)
 dsimp only
 refine wpAny_ite_split (fun hab=>absurd hab (by decide +kernel)) (fun _=>?_)
 refine wpAny_ite_split (fun hab=>absurd hab (by decide)) (fun _=>?_)
 refine wpAny_bind (wpAny_specialOf hit.typeIs F.slot_lri_hint.lookup ?_)
 dsimp only
 generalize hid:("list_reverseiterator.__length_hint__":String)=id0
 rw [show splitId id0=some ("list_reverseiterator", "__length_hint__") from by subst hid; decide +kernel]
 subst hid
 dsimp only
 refine wpAny_bind (wpAny_isInstance (T := "list_reverseiterator") (b:=true) hit.typeIs (by rw [isSubtype_type]; kernel_rfl) ?_)
 refine wpAny_ite_split (fun hab=>absurd hab (by decide)) (fun _=>?_)
 refine wpAny_ite_split (fun _=>?_) (fun hab=>absurd (by decide +kernel) hab)
 refine wpAny_ite_split (fun hab=>absurd hab (by decide +kernel)) (fun _=>?_)
 exact wpAny_pure (h _ s.toks)
theorem uD {it t:Addr} {items:Array Value} {Q:Bool→Shared→Prop} (hit:s.heap.IsRvt it t ((items.size:Int) - 1)) (ht:PyProof.Rows.IsTup s.heap t items) (hz:items.size≤sizeLine) (h:∀ b tk,Q b { s with toks:=tk }):wpAny (model prog w) A (Builtin.List.listLengthHint (.ref it)) Q E s:=by
 have hsz:sizeLine=16777216:=sizeLine_eq
 obtain ⟨o,ho,hc,hd⟩:=id hit
 unfold Builtin.List.listLengthHint
 refine wpAny_bind (wpAny_specialOf hit.typeIs F.no_reversed_len ?_)
 dsimp only
 refine wpAny_ite_split (fun hab=>absurd hab (by decide +kernel)) (fun _=>?_)
 refine wpAny_ite_split (fun hab=>absurd hab (by decide)) (fun _=>?_)
 refine wpAny_bind (wpAny_specialOf hit.typeIs F.slot_reversed_hint.lookup ?_)
 dsimp only
 generalize hid:("reversed.__length_hint__":String)=id0
 rw [show splitId id0=some ("reversed", "__length_hint__") from by subst hid; decide +kernel]
 subst hid
 dsimp only
 refine wpAny_bind (wpAny_isInstance (T := "reversed") (b:=true) hit.typeIs (by rw [isSubtype_type]; kernel_rfl) ?_)
 refine wpAny_ite_split (fun hab=>absurd hab (by decide)) (fun _=>?_)
 refine wpAny_ite_split (fun hab=>absurd hab (by decide +kernel)) (fun _=>?_)
 refine wpAny_bind (wpAny_rule ?_)
 refine wpAny_bind (wpAny_of_eq (F.slot_reversed_hint.bind _) ?_)
 dsimp only
 refine wpAny_bind (wpAny_attempt (wpAny_call_entry F.slot_reversed_hint hit.typeIs F.entry_reversed_hint ?_ (F.args_reversed_hint_1 _)))
 unfold Builtin.«reversed.__length_hint__»
 refine wpAny_bind (wpAny_of_eq (a:=Value.ref it) rfl ?_)
 refine wpAny_bind (wpAny_field ho hd (x:=.ref t) rfl ?_)
 rw [if_neg (show ¬ ((Value.ref t==Value.none)=true) from Bool.false_ne_true)]
 refine wpAny_bind (PyProof.Rows.len_tuple ht (by omega) ?_)
 refine wpAny_bind (wpAny_of_eq (a:=some ((items.size:Nat):Int)) rfl ?_)
 dsimp only
 refine wpAny_bind (wpAny_field (s:={ s with toks:=s.toks+1+1 }) ho hd (x:=rawInt ((items.size:Int) - 1)) rfl ?_)
 show wpAny _ _ (if ((items.size:Nat):Int)<(items.size:Int) - 1+1 then _ else _) _ _ _
 rw [if_neg (by omega)]
 unfold retInt
 refine wpAny_bind (wpAny_mkInt (wpAny_pure ⟨_,rfl,?_⟩))
 dsimp only
 refine wpAny_bind (wpAny_of_eq (a:=some ((items.size:Int) - 1+1)) rfl ?_)
 dsimp only
 refine wpAny_ite_split (fun hab=>absurd hab (by simp [Builtin.List.listFitsIndex]; omega)) (fun _=>?_)
 refine wpAny_ite_split (fun hab=>absurd hab (by omega)) (fun _=>?_)
 refine wpAny_ite_split (fun hab=>absurd hab (by simp [Builtin.List.listTooLong]; omega)) (fun _=>?_)
 exact wpAny_pure (h _ _)
end
section
variable {prog:Program} {w:World} {A:Around} {s:Shared} {R:Result→Shared→Prop}
variable {I:Addr} {fp wr:List Addr} {n:Nat} {P:Nat→Value→Prop} {St:Nat→Heap→Prop}
theorem nM (W:Walks prog w A.in1 I fp wr n P St) {T:String} (hT:s.TypeIs (.ref I) T) (h2:(Value.type T==Value.type "list")=false) (h3:(Value.type T==Value.type "tuple")=false) (S:Addr) (res:Value) (c₀:Nat) (hst:St 0 s.heap) (hSf:S∉fp) (hI:I∈fp)
  (hint:∀ (E:Value→Shared→Prop) (Q:Bool→Shared→Prop),(∀ b tk,Q b { s with toks:=tk })→wpAny (model prog w) A.in1 (Builtin.List.listLengthHint (.ref I)) Q E s)
  (hS:s.heap.get? S=some { cls:=.type "list",data:=.seq #[] c₀ })
  (hR:∀ h' tk acc' c',(∀ b o,b∉S::wr→s.heap.get? b=some o→h'.get? b=some o)→h'.get? S=some { cls:=.type "list",dict:=none,data:=.seq acc' c',slots:=#[] }→ItemsOf P acc' n→R (.ok (.ret res)) { s with heap:=h',toks:=tk }) (hn:n≤sizeLine) :
  wpAny (model prog w) A.in1 (Builtin.List.listExtendWith (.ref S) (.ref I) res)
   (fun fin s'=>match fin with | .done f=>R (.ok f) s' | .again c'=>c'.quiet=true∧codeAny (model prog w) A c' R s') (fun e s'=>R (.error e) s') s:=by
 have hSI:S≠I:=fun e=>hSf (e ▸ hI)
 have key:∀ (h:Heap) (c₁ tk:Nat),St 0 h→(∀ b o,b≠S→s.heap.get? b=some o→h.get? b=some o) →
   h.get? S=some { cls:=.type "list",data:=.seq #[] c₁ }→codeAny (model prog w) A (.builtin "list.extend.loop" ⟨[.ref S,.ref I,res],[]⟩) R { s with heap:=h,toks:=tk }:=by
  intro h c₁ tk hit hk hS₁
  refine codeAny_extend_loopS W.toS hn S hSf res n 0 _ #[] c₁ rfl (Nat.zero_le _) hit hS₁ (ItemsOf.nil _) fun s' acc' c' hm hS' hacc=>?_
  rw [Moved.eq_with hm]
  exact hR s'.heap s'.toks acc' c' (fun b o hb e=>hm.heap b o hb (hk b o (fun z=>hb (z ▸ List.mem_cons_self)) e)) hS' hacc
 unfold Builtin.List.listExtendWith
 refine wpAny_bind (wpAny_typeOf hT ?_)
 have h1:Builtin.List.listSameRef (.ref S) (.ref I)=false:=by simp [Builtin.List.listSameRef,hSI]
 simp only [h1,h2,h3,Bool.or_false,Bool.false_eq_true,if_false]
 refine wpAny_bind (W.self 0 _ _ _ hst ?_)
 refine wpAny_bind (wpAny_holding (hint _ _ fun b tk=>?_))
 refine wpAny_ite_split (fun _=>?_) (fun _=>wpAny_pure ⟨plainId_quiet F.plain_extend_loop _,key _ c₀ _ hst (fun b o _ e=>e) hS⟩)
 refine wpAny_bind (wpAny_rule ?_)
 refine wpAny_bind ?_
 show wpAny _ _ (updateSeq S (·.push .none) >>= fun _=>updateSeq S (·.pop)) _ _ _
 refine wpAny_bind (wpAny_updateSeq hS rfl ?_)
 have hS₂:=Heap.get?_update_self (Obj.mapSeq (·.push Value.none)) hS rfl
 refine wpAny_updateSeq (hz:=by seq_fits) hS₂ rfl ?_
 have hS₃:=Heap.get?_update_self (Obj.mapSeq (·.pop)) hS₂ rfl
 have oth:∀ b o,b≠S→s.heap.get? b=some o→((s.heap.update S (Obj.mapSeq (·.push Value.none))).update S (Obj.mapSeq (·.pop))).get? b=some o :=
  fun b o hb e=>(Heap.get?_update_other _ _ (Ne.symm hb)).trans ((Heap.get?_update_other _ _ (Ne.symm hb)).trans e)
 exact wpAny_pure ⟨plainId_quiet F.plain_extend_loop _,key _ _ _ (W.frame 0 _ _ hst fun b hb o e=>oth b o (fun z=>hSf (z ▸ hb)) e) oth hS₃⟩
end
section
variable {prog:Program} {w:World} {A:Around} {E:Value→Shared→Prop} {s:Shared}
variable {I:Addr} {fp wr:List Addr} {n:Nat} {P:Nat→Value→Prop} {St:Nat→Heap→Prop}
theorem df {Q:Value→Shared→Prop} (W:Walks prog w A.in1.in1 I fp wr n P St) {T:String} (hT:s.TypeIs (.ref I) T) (h2:(Value.type T==Value.type "list")=false) (h3:(Value.type T==Value.type "tuple")=false) (hst:St 0 s.heap) (hfp:∀ b∈fp,b<s.heap.objs.size) (hI:I∈fp)
  (hint:∀ (h:Heap),St 0 h→∀ (E:Value→Shared→Prop) (Q:Bool→Shared→Prop),(∀ b tk,Q b { s with heap:=h,toks:=tk })→wpAny (model prog w) A.in1.in1 (Builtin.List.listLengthHint (.ref I)) Q E { s with heap:=h })
  (hQ:∀ h' tk acc' c',(∀ b o,b∉wr→s.heap.get? b=some o→h'.get? b=some o)→h'.get? s.heap.objs.size=some { cls:=.type "list",dict:=none,data:=.seq acc' c',slots:=#[] }→ItemsOf P acc' n→Q (.ref s.heap.objs.size) { s with heap:=h',toks:=tk }) (hn:n≤sizeLine) :
  wpAny (model prog w) A (call (.type "list") [.ref I]) Q E s:=by
 have hSf:s.heap.objs.size∉fp:=fun hm=>Nat.lt_irrefl _ (hfp _ hm)
 refine callType_codes (Q₁:=fun obj s₁=>obj=.ref s.heap.objs.size∧s₁={ s with heap:=s.heap.push { cls:=.type "list",data:=.seq #[] } }) F.called_list (F.typeCall_list_1 _) F.entry_list_init
  (code_list_new _ ⟨rfl,rfl⟩) fun obj s₁ h₁=>?_
 obtain ⟨rfl,rfl⟩:=h₁
 have hS:(s.heap.push { cls:=.type "list",data:=.seq #[] }).get? s.heap.objs.size=some { cls:=.type "list",data:=.seq #[] }:=Heap.get?_push_size _ rfl
 refine ⟨⟨_,hS,rfl⟩,F.args_list_init_2 _ _,?_⟩
 have st1:St 0 (s.heap.push { cls:=.type "list",data:=.seq #[] }):=W.frame 0 _ _ hst fun b _ o e=>Heap.get?_push_of_some _ e
 show wpAny _ A.in1.in1 (do let old ← Builtin.List.listItems (.ref s.heap.objs.size); Builtin.List.listUpdate (.ref s.heap.objs.size) (fun _=>#[]); letGo old.toList.reverse; Builtin.List.listExtendWith (.ref s.heap.objs.size) (.ref I) .none) _ _ _
 refine wpAny_bind ?_
 unfold Builtin.List.listItems
 refine wpAny_bind (wpAny_seqItems hS rfl (wpAny_pure ?_))
 show wpAny _ A.in1.in1 (updateSeq s.heap.objs.size (fun _=>#[]) >>= fun _=>letGo (#[]:Array Value).toList.reverse >>= fun _=>Builtin.List.listExtendWith (.ref s.heap.objs.size) (.ref I) .none) _ _ _
 refine wpAny_bind (wpAny_updateSeq hS rfl ?_)
 have hS₂:=Heap.get?_update_self (Obj.mapSeq (fun _=>(#[]:Array Value))) hS rfl
 have oth:∀ b o,b≠s.heap.objs.size→(s.heap.push { cls:=.type "list",data:=.seq #[] }).get? b=some o→((s.heap.push { cls:=.type "list",data:=.seq #[] }).update s.heap.objs.size (Obj.mapSeq (fun _=>(#[]:Array Value)))).get? b=some o :=
  fun b o hb e=>(Heap.get?_update_other _ _ (Ne.symm hb)).trans e
 have st2:=W.frame 0 _ _ st1 fun b hb o e=>oth b o (fun z=>hSf (z ▸ hb)) e
 have hT2:({ s with heap:=((s.heap.push { cls:=.type "list",data:=.seq #[] }).update s.heap.objs.size (Obj.mapSeq (fun _=>(#[]:Array Value)))) }:Shared).TypeIs (.ref I) T:=by
  obtain ⟨o,e,c⟩:=hT
  exact ⟨o,oth I o (fun z=>hSf (z ▸ hI)) (Heap.get?_push_of_some _ e),c⟩
 refine wpAny_bind (wpAny_letGo ?_)
 refine nM (A:=A.in1) W hT2 h2 h3 _ .none _ st2 hSf hI (fun E Q q=>hint _ st2 E Q q) hS₂ (fun h' tk acc' c' hk hS' hacc=>?_) hn
 exact ⟨rfl,hQ h' tk acc' c' (fun b o hb e=>hk b o (fun z=>(List.mem_cons.mp z).elim (fun z2=>absurd (Heap.lt_size e) (by rw [z2]; exact Nat.lt_irrefl _)) hb) (oth b o (fun z2=>absurd (Heap.lt_size e) (by rw [z2]; exact Nat.lt_irrefl _)) (Heap.get?_push_of_some _ e))) hS' hacc⟩
end
end PySem
namespace L2
open PySem PySem.Spec PyProof.Rows
theorem sR:bootBuiltins "list"=some (.type "list"):=by decide +kernel
theorem dR:bootBuiltins "reversed"=some (.type "reversed"):=by decide +kernel
theorem sn {its:List Value} {acc:Array Value} (h:ItemsOf (fun i v=>its.toArray[its.toArray.size - 1 - i]?=some v) acc its.toArray.size):acc=its.reverse.toArray:=by
 obtain ⟨h1,h2⟩:=h
 apply Array.ext_getElem?
 intro i
 by_cases hi:i<acc.size
 ·have e:=h2 i acc[i] (Array.getElem?_eq_getElem hi)
  rw [Array.getElem?_eq_getElem hi,← e]
  have hi2:i<its.length:=by rw [h1] at hi; simpa using hi
  simp only [List.getElem?_toArray,List.size_toArray]
  rw [List.getElem?_reverse hi2]
 ·rw [Array.getElem?_eq_none (by omega),Array.getElem?_eq_none (by rw [h1] at hi; simpa using hi)]
section
variable {X:Cx}
def vy (K:Frag) (te:TE):TE:=fun σ H Q=>te σ H fun x H1=>∃ a xs,x=.ref a∧(SqL K H1 a xs∨SqT K H1 a xs)∧∀ l,H1 l=none→Q (.ref l) (upd H1 l (.lst xs.reverse))
theorem cV {e:Expr} {te:TE} {p1 p2 p3 p4:Pos} (hc:X.calm=true) (hgl:Gl X "list") (hml:X.mg "list"=none) (hgr:Gl X "reversed") (hmr:X.mg "reversed"=none) (he:PE X e te)
  (hs1:starEach [.Call (.Name "reversed" p2) [e] [] p3] X.env=(false,eval (.Call (.Name "reversed" p2) [e] [] p3) X.env)::starEach [] X.env:=by exact ab rfl) (hs2:starEach [e] X.env=(false,eval e X.env)::starEach [] X.env:=by exact ab rfl) :
  PE X (.Call (.Name "list" p1) [.Call (.Name "reversed" p2) [e] [] p3] [] p4) (vy X.K te):=by
 intro pins s σ H Q I h
 refine wpAny_Call_Name_kw (eu I hgl hml sR ?_)
 refine PyProof.Rows.callWith_type1 ?_ hs1 rfl
 rw [hs1]
 show wpAny _ _ (spliced ((false,eval (.Call (.Name "reversed" p2) [e] [] p3) X.env)::[])) _ _ s
 refine Calls.spliced_cons ?_
 refine wpAny_Call_Name_kw (eu I hgr hmr dR ?_)
 refine PyProof.Rows.callWith_type1 ?_ hs2 rfl
 rw [hs2]
 show wpAny _ _ (spliced ((false,eval e X.env)::[])) _ _ s
 refine Calls.spliced_cons (thn (he pins s σ H _ I h) fun u s1 ⟨x,H1,I1,r1,q1⟩=>?_)
 obtain ⟨a,xs,rfl,hq,q⟩:=q1
 cases r1
 refine Calls.spliced_nil ?_
 have hh:=I1.ok.hd hc
 have hszl:sizeLine=16777216:=sizeLine_eq
 have fin:∀ (its:List Value) (o:Obj),aD xs its→xs.length≤sizeLine→∀ (h':Heap) (tk c':Nat) (acc:Array Value),(∀ b o',b∉[s1.heap.objs.size]→(s1.heap.push o).get? b=some o'→h'.get? b=some o') →
   h'.get? (s1.heap.push o).objs.size=some { cls:=.type "list",dict:=none,data:=.seq acc c',slots:=#[] }→ItemsOf (fun i v=>its.toArray[its.toArray.size - 1 - i]?=some v) acc its.toArray.size→EP X pins σ Q (.ref (s1.heap.push o).objs.size) { s1 with heap:=h',toks:=tk }:=by
  intro its o r' hz h' tk c' acc kp e hit
  have ea:=sn hit
  subst ea
  refine ⟨.ref (s1.heap.push o).objs.size,_,I1.laid (t':=tk) (fun b u eb=>kp b u (fun z=>?_) (Heap.get?_push_of_some _ eb)) (by rw [Heap.size_push]; omega) (show bx X.prog X.w _ h' _ (.lst xs.reverse) from ⟨by rw [List.length_reverse]; exact hz,its.reverse,c',r'.reverse,e⟩),rfl,q _ (I1.hok.fresh (by rw [Heap.size_push]; omega))⟩
  rw [List.mem_singleton.mp z] at eb
  exact absurd (Heap.lt_size eb) (Nat.lt_irrefl _)
 rcases hq with hq | hq
 ·obtain ⟨its,r',pl,hz⟩:=I1.list hq
  have hlen:=r'.length
  refine call_reversed_list pl.isList ?_
  refine Calls.spliced_nil ?_
  have hal:a<s1.heap.objs.size:=by obtain ⟨o,ho,_⟩:=pl.isList; exact Heap.lt_size ho
  have hit:(s1.heap.push (revObj a ((its.toArray.size:Int) - 1))).IsRevIter s1.heap.objs.size a ((its.toArray.size:Int) - 1):=⟨_,Heap.get?_push_size _ rfl,rfl,rfl⟩
  have hl2:(s1.heap.push (revObj a ((its.toArray.size:Int) - 1))).IsList a its.toArray:=by obtain ⟨o,ho,r⟩:=pl.isList; exact ⟨o,Heap.get?_push_of_some _ ho,r⟩
  have z0:(its.toArray.size:Int) - 1 - ((0:Nat):Int)=(its.toArray.size:Int) - 1:=by omega
  refine df (T := "list_reverseiterator") (Walks.listRev (A:=X.A.in1.in1) hh s1.heap.objs.size a (Nat.ne_of_lt hal) its.toArray) ⟨_,Heap.get?_push_size _ rfl,rfl⟩ (by decide) (by decide) ⟨Nat.zero_le _,by rw [z0]; exact hit,hl2⟩ (fun b hb=>?_) (by simp) (fun hp st E Q qq=>?_) (fun h' tk acc c' kp e hi=>fin its _ r' hz h' tk c' acc kp e hi) (by simp only [List.size_toArray]; omega)
  ·rw [Heap.size_push]
   simp only [List.mem_cons,List.not_mem_nil,or_false] at hb
   rcases hb with hb | hb
   ·rw [hb]; exact Nat.lt_succ_self _
   ·rw [hb]; exact Nat.lt_succ_of_lt hal
  ·exact vg (s:={ s1 with heap:=hp }) st.2.1 qq
 ·obtain ⟨its,r',pl,hz⟩:=I1.tuple hq
  have hlen:=r'.length
  have hz2:its.toArray.size≤sizeLine:=by simp only [List.size_toArray]; omega
  refine dQ pl (by omega) ?_
  refine Calls.spliced_nil ?_
  have hal:=pl.lt
  have hit:(s1.heap.push (mZ a ((its.toArray.size:Int) - 1))).IsRvt s1.heap.objs.size a ((its.toArray.size:Int) - 1):=⟨_,Heap.get?_push_size _ rfl,rfl,rfl⟩
  have z0:(its.toArray.size:Int) - 1 - ((0:Nat):Int)=(its.toArray.size:Int) - 1:=by omega
  refine df (s:={ s1 with heap:=s1.heap.push (mZ a ((its.toArray.size:Int) - 1)),toks:=s1.toks+1+1 }) (T := "reversed") (Walks.tupRev (A:=X.A.in1.in1) hh s1.heap.objs.size a (Nat.ne_of_lt hal) its.toArray hz2) ⟨_,Heap.get?_push_size _ rfl,rfl⟩ (by decide) (by decide) ⟨Nat.zero_le _,by rw [z0]; exact hit,pl.push _⟩ (fun b hb=>?_) (by simp) (fun hp st E Q qq=>?_) (fun h' tk acc c' kp e hi=>fin its _ r' hz h' tk c' acc kp e hi) hz2
  ·rw [Heap.size_push]
   simp only [List.mem_cons,List.not_mem_nil,or_false] at hb
   rcases hb with hb | hb
   ·rw [hb]; exact Nat.lt_succ_self _
   ·rw [hb]; exact Nat.lt_succ_of_lt hal
  ·have h1:=st.2.1
   rw [z0] at h1
   exact uD (s:={ s1 with heap:=hp,toks:=s1.toks+1+1 }) h1 st.2.2 hz2 qq
end
open PySem PySem.Spec PyProof.Rows
def Itv (K:Frag) (a:Addr) (n:Nat):It :=
 ⟨fun i H=>i<n∧∃ xs,SqL K H a xs∧xs.length=n,fun i H x H'=>H'=H∧∀ xs,SqL K H a xs→xs[n - 1 - i]?=some x,fun i _=>i=n⟩
theorem tJ {P:Program} {w:World} {K:Frag} {tg:Expr} (a it:Addr) (n:Nat):oJ P w K tg (Itv K a n) [it] it (fun i h=>h.IsRevIter it a ((n:Int) - 1 - (i:Int))) where
 mem:=by simp
 obj:=fun i h st b hb=>by
  have e:b=it:=by simpa using hb
  subst e
  obtain ⟨o,e,c,d⟩:=st
  exact ⟨o,e,fun v z=>by rw [d] at z; cases z⟩
 keep:=fun i h h' st k=>st.at fun o e=>k it (by simp) o e
 item:=by
  intro X hP hw hK hc i pins s σ H E I hf st hg
  subst hP hw hK
  obtain ⟨hi,xs,hq,hn⟩:=hg
  obtain ⟨its,rv,p,hz⟩:=I.list hq
  have hx:xs[n - 1 - i]?=some (xs[n - 1 - i]'(by omega)):=List.getElem?_eq_getElem (by omega)
  obtain ⟨u,hu,ru⟩:=rv.get hx
  obtain ⟨f0,f1,f2,f3,f4,f5⟩:=hf it (by simp)
  have e:(n:Int) - 1 - (i:Int)=((n - 1 - i:Nat):Int):=by omega
  have st1:=st
  rw [e] at st1
  refine wpAny_pyNext_rev_item st1 p.isList (x:=u) (by simpa using hu) fun h' st' sb=>?_
  have e2:((n - 1 - i:Nat):Int) - 1=(n:Int) - 1 - ((i+1:Nat):Int):=by omega
  rw [e2] at st'
  have I1:Inv X pins σ H { s with heap:=h' }:=I.turned (t':=s.toks) (fun b o hb e=>(sb.2 b hb).trans e) f0 f1 f3 f4 f5
  obtain ⟨o,eo,c,d⟩:=id st'
  exact ⟨u,rfl,rq (s:={ s with heap:=h' }) eo c d (by decide) ⟨_,H,I1,ru,⟨rfl,fun ys hy=>by rw [I.list_inj hy hq]; exact hx⟩,st',fun b hb=>(hf b hb).1⟩⟩
 done:=by
  intro X hP hw hK hc i pins s σ H E I hf st hg
  subst hP hw hK
  obtain ⟨f0,f1,f2,f3,f4,f5⟩:=hf it (by simp)
  have hg2:i=n:=hg
  have e:(n:Int) - 1 - (i:Int)=-1:=by omega
  have st1:=st
  rw [e] at st1
  exact wpAny_pyNext_rev_end (I.ok.hd hc) st1 fun h' eb=>⟨rfl,I.turned (t':=s.toks) (fun b o hb e=>eb b o hb e) f0 f1 f3 f4 f5⟩
 self:=fun _ _ _ _ _ st h=>wpAny_pyIter_revIter st h
section
variable {X:Cx} {tg:Expr}
def AH (K:Frag) (te:TE):TI:=fun σ H R=>te σ H fun x H1=>∃ a xs,x=.ref a∧SqL K H1 a xs∧R (Itv K a xs.length) H1
theorem ym {e:Expr} {te:TE} {p pos:Pos} (hg:Gl X "reversed") (hm:X.mg "reversed"=none) (he:PE X e te)
  (hs:starEach [e] X.env=(false,eval e X.env)::starEach [] X.env:=by exact ab rfl):PI X tg (.Call (.Name "reversed" p) [e] [] pos) (AH X.K te):=by
 intro pins s σ H R I h
 refine wpAny_Call_Name_kw (eu I hg hm dR ?_)
 refine PyProof.Rows.callWith_type1 ?_ hs rfl
 rw [hs]
 show wpAny _ _ (spliced ((false,eval e X.env)::[])) _ _ s
 refine Calls.spliced_cons (thn (he pins s σ H _ I h) fun u s1 ⟨x,H1,I1,r1,q1⟩=>?_)
 obtain ⟨a,xs,rfl,hq,q⟩:=q1
 cases r1
 refine Calls.spliced_nil ?_
 obtain ⟨its,r',pl,hz⟩:=I1.list hq
 have hlen:=r'.length
 refine call_reversed_list pl.isList ?_
 have hit:(s1.heap.push (revObj a ((its.toArray.size:Int) - 1))).IsRevIter s1.heap.objs.size a ((its.toArray.size:Int) - 1):=⟨_,Heap.get?_push_size _ rfl,rfl,rfl⟩
 refine wpAny_pyIter_revIter (s:={ s1 with heap:=s1.heap.push (revObj a ((its.toArray.size:Int) - 1)) }) hit ?_
 refine ⟨s1.heap.objs.size,[s1.heap.objs.size],_,_,H1,rfl,I1.kept (t':=s1.toks) fun b o e=>Heap.get?_push_of_some _ e,tJ a _ xs.length,?_,fun b hb=>?_,q⟩
 ·have z:(xs.length:Int) - 1 - ((0:Nat):Int)=(its.toArray.size:Int) - 1:=by simp only [List.size_toArray]; omega
  show Heap.IsRevIter _ _ _ ((xs.length:Int) - 1 - ((0:Nat):Int))
  rw [z]
  exact hit
 ·have e:b=s1.heap.objs.size:=by simpa using hb
  subst e
  exact I1.fpOk (Nat.le_refl _) (I1.hok.fresh (Nat.le_refl _))
end
theorem wj {K:Frag} {a:Addr} {xs:List V} {g:TG} {tb:TS} {D:kq} {σ:St} {H:Hp} (Pv:Nat→St→Hp→Prop) (h0:Pv 0 σ H) (hl:∀ i σ H,i≤xs.length→Pv i σ H→SqL K H a xs)
  (hs:∀ i x σ H,xs.reverse[i]?=some x→Pv i σ H→g x σ H fun σ2 H2=>tb { D with nx:=Pv (i+1),ct:=Pv (i+1),bk:=D.nx } σ2 H2) (hd:∀ σ H,Pv xs.length σ H→D.nx σ H) :
  ∃ W:Nat→Nat→St→Hp→Prop,(∃ m,W 0 m σ H)∧∀ i m σ H,W i m σ H →
   ((Itv K a xs.length).stop i H∧D.nx σ H)∨((Itv K a xs.length).go i H∧∃ N:St→Hp→Prop,(∀ σ' H',N σ' H'→∃ m',m'<m∧W (i+1) m' σ' H')∧∀ x H',(Itv K a xs.length).yld i H x H'→g x σ H' fun σ2 H2=>tb { D with nx:=N,ct:=N,bk:=D.nx } σ2 H2):=by
 refine ⟨fun i m σ H=>m=xs.length - i∧i≤xs.length∧Pv i σ H,⟨xs.length,by simp,Nat.zero_le _,h0⟩,?_⟩
 rintro i m σ H ⟨rfl,hi,p⟩
 have q:=hl i σ H hi p
 by_cases hlt:i<xs.length
 ·refine .inr ⟨⟨hlt,xs,q,rfl⟩,Pv (i+1),fun σ' H' p'=>⟨xs.length - (i+1),by omega,rfl,hlt,p'⟩,fun x H' y=>?_⟩
  obtain ⟨e,y⟩:=y
  subst e
  exact hs i x σ _ (by rw [List.getElem?_reverse hlt]; exact y xs q) p
 ·have e:i=xs.length:=by omega
  subst e
  exact .inl ⟨rfl,hd σ H p⟩
end L2
namespace PySem
open Sem (wp)
open AutoSeq1 (wpAny_loadPart')
end PySem
namespace L2
open PySem PySem.Spec PyProof.Rows
section
variable {X:Cx}
end
open PySem PySem.Spec PyProof.Rows
section
variable {X:Cx} {tg:Expr}
end
section
variable {m:Nat} {g:TG} {tt:TT} {te:TE} {σ':St} {Z:List V→Hp→Prop} {H1:Hp} {K:Frag}
end
open PySem PySem.W PySem.Spec PyProof.Rows
def im (h:Heap) (d:Addr) (es:Array DictEntry) (ep:Nat):Prop:=∃ o,h.get? d=some o∧o.ExactDict∧o.data=.dict es ep
section
variable {prog:Program} {w:World} {A:Around} {E:Value→Shared→Prop} {s:Shared} {d it:Addr} {es:Array DictEntry} {ep i:Nat}
theorem im.ty (x:im s.heap d es ep):s.TypeIs (.ref d) "dict":=let ⟨o,h,c,_⟩:=x; ⟨o,h,c.1⟩
theorem vk {Q:Value→Shared→Prop} (hd:(d==sysModules)=false) (hm:im s.heap d es ep)
  (hQ:Q (.ref s.heap.objs.size) { s with heap:=s.heap.push { cls:=.type "dict_keyiterator",data:=.fields #[.ref d,.int 0 0,.int es.size 0,.int ep 0] } }):wpAny (model prog w) A (pyIter (.ref d)) Q E s:=by
 have hT:=hm.ty
 obtain ⟨o,ho,_,hdat⟩:=hm
 refine wpAny_pyIter_slot hT F.slot_dict_iter (wpAny_call_entry F.slot_dict_iter hT F.entry_dict_iter ?_ (F.args_dict_iter_1 _))
 unfold Builtin.«dict.__iter__» Builtin.Dict.dictSlotNone
 refine wpAny_bind (wpAny_bind (wpAny_notOrdered_dict hT (wpAny_pure ?_)))
 show wpAny _ _ (Builtin.Dict.showsAll d >>= _) _ _ s
 unfold Builtin.Dict.showsAll
 rw [if_neg (by rw [hd]; exact Bool.false_ne_true)]
 refine wpAny_bind (wpAny_pure (wpAny_bind (wpAny_dictEntries ho hdat (wpAny_bind (wpAny_dictEpoch ho hdat ?_)))))
 refine wpAny_bind (wpAny_newObj_type (wpAny_pure ⟨_,rfl, "dict_keyiterator",_,⟨_,Heap.get?_push_size _ rfl,rfl⟩,F.slot_dict_keyiterator_next.lookup,?_⟩))
 simpa [rawInt] using hQ
theorem tQ {Q:Option Value→Shared→Prop} (hit:s.heap.IsKeyIter it d i es.size ep) (hm:im s.heap d es ep) (hlt':i<es.size)
  (hQ:∀ h',h'.IsKeyIter it d (i+1) es.size ep→Heap.SameBut it s.heap h'→Q (some es[i].key) { s with heap:=h' }):wpAny (model prog w) A (pyNext (.ref it)) Q E s:=by
 obtain ⟨o,ho,hc,hd⟩:=id hit
 obtain ⟨od,hod,hcd,hdd⟩:=hm
 unfold pyNext
 refine wpAny_bind (wpAny_attempt (wpAny_callSpecial?_slot (name:=Str.ofString "__next__") hit.typeIs F.slot_dict_keyiterator_next (wpAny_call_entry F.slot_dict_keyiterator_next hit.typeIs F.entry_dict_keyiterator_next ?_ (F.args_dict_keyiterator_next_1 _))))
 refine wpAny_bind (wpAny_pure (wpAny_bind (wpAny_bind ?_)))
 first | refine wpAny_bind (wpAny_typeNameOfWhole_keyiter hit.typeIs (wpAny_pure ?_)) | refine wpAny_bind (wpAny_typeNameOf_keyiter hit.typeIs (wpAny_pure ?_))
 refine wpAny_bind (wpAny_fieldsOf ho hd ?_)
 simp only [show Builtin.Dict_items.ownsTuple "dict_keyiterator"=false by decide,Bool.false_eq_true,if_false]
 show wpAny _ _ (if (Value.ref d==Value.none)=true then _ else _) _ _ s
 rw [if_neg (show ¬ ((Value.ref d==Value.none)=true) from Bool.false_ne_true)]
 refine wpAny_bind (wpAny_pure (wpAny_bind (wpAny_dictEntries hod hdd ?_)))
 rw [if_neg (by simp)]
 refine wpAny_bind (wpAny_pure (wpAny_bind (wpAny_dictEpoch hod hdd ?_)))
 rw [if_neg (by simp)]
 refine wpAny_pure ?_
 simp only [show ¬ ((i:Int)<0) from by omega,if_false,Int.toNat_natCast,Array.getElem?_eq_getElem hlt']
 refine wpAny_bind ?_
 first | refine wpAny_bind (wpAny_typeNameOfWhole_keyiter hit.typeIs (wpAny_pure ?_)) | refine wpAny_bind (wpAny_typeNameOf_keyiter hit.typeIs (wpAny_pure ?_))
 refine wpAny_bind (wpAny_isOneOf_keyiter hit.typeIs ?_)
 show wpAny _ _ (setField (.ref it) 1 (rawInt ((i:Int)+1)) >>= _) _ _ s
 refine wpAny_bind (wpAny_setField ho hd (by simp) ?_)
 have hit':(s.heap.update it (Obj.mapFields (·.setIfInBounds 1 (rawInt ((i:Int)+1))))).IsKeyIter it d (i+1) es.size ep :=
  ⟨_,Heap.get?_update_self _ ho (Obj.isFreed_of_fields (Obj.data_mapFields hd _)),(Obj.cls_mapFields ..).trans hc,by rw [Obj.data_mapFields hd]; simp [rawInt]⟩
 refine wpAny_bind (wpAny_holding (wpAny_bind (wpAny_isOneOf_keyiter (s:={ s with heap:=s.heap.update it (Obj.mapFields (·.setIfInBounds 1 (rawInt ((i:Int)+1)))) }) hit'.typeIs ?_)))
 show wpAny _ _ (pure es[i].key) _ _ _
 exact wpAny_pure (wpAny_pure ⟨_,rfl,wpAny_pure (hQ _ hit' (Heap.SameBut.update ..))⟩)
theorem wd {Q:Option Value→Shared→Prop} (hh:A.handled=none) (hit:s.heap.IsKeyIter it d es.size es.size ep) (hm:im s.heap d es ep)
  (hQ:∀ h',Heap.ExtBut it s.heap h'→Q none { s with heap:=h' }):wpAny (model prog w) A (pyNext (.ref it)) Q E s:=by
 obtain ⟨o,ho,hc,hd⟩:=id hit
 obtain ⟨od,hod,hcd,hdd⟩:=hm
 unfold pyNext
 refine wpAny_bind (wpAny_attempt (wpAny_callSpecial?_slot (name:=Str.ofString "__next__") hit.typeIs F.slot_dict_keyiterator_next (wpAny_call_entry F.slot_dict_keyiterator_next hit.typeIs F.entry_dict_keyiterator_next ?_ (F.args_dict_keyiterator_next_1 _))))
 refine wpAny_bind (wpAny_pure (wpAny_bind (wpAny_bind ?_)))
 first | refine wpAny_bind (wpAny_typeNameOfWhole_keyiter hit.typeIs (wpAny_pure ?_)) | refine wpAny_bind (wpAny_typeNameOf_keyiter hit.typeIs (wpAny_pure ?_))
 refine wpAny_bind (wpAny_fieldsOf ho hd ?_)
 simp only [show Builtin.Dict_items.ownsTuple "dict_keyiterator"=false by decide,Bool.false_eq_true,if_false]
 show wpAny _ _ (if (Value.ref d==Value.none)=true then _ else _) _ _ s
 rw [if_neg (show ¬ ((Value.ref d==Value.none)=true) from Bool.false_ne_true)]
 refine wpAny_bind (wpAny_pure (wpAny_bind (wpAny_dictEntries hod hdd ?_)))
 rw [if_neg (by simp)]
 refine wpAny_bind (wpAny_pure (wpAny_bind (wpAny_dictEpoch hod hdd ?_)))
 rw [if_neg (by simp)]
 refine wpAny_pure ?_
 simp only [show ¬ ((es.size:Int)<0) from by omega,if_false,Int.toNat_natCast,Array.getElem?_eq_none (Nat.le_refl es.size)]
 refine wpAny_bind ?_
 first | refine wpAny_bind (wpAny_typeNameOfWhole_keyiter hit.typeIs (wpAny_pure ?_)) | refine wpAny_bind (wpAny_typeNameOf_keyiter hit.typeIs (wpAny_pure ?_))
 show wpAny _ _ (setField (.ref it) 0 .none >>= _) _ _ s
 refine wpAny_bind (wpAny_setField ho hd (by simp) ?_)
 show wpAny _ _ (newExc (.type "StopIteration") [] >>= _) _ _ _
 refine wpAny_bind ?_
 simp only [newExc,newTuple]
 refine wpAny_bind (wpAny_newObj_type ?_ (by size_fits))
 refine wpAny_bind (m:=firstArgMember _ _) (wpAny_of_eq (a:=Value.none) (by first | rfl | (simp only [firstArgMember]; rfl)) ?_)
 refine wpAny_newObj_type ?_ (by size_fits)
 simp only [raiseNew]
 refine wpAny_bind (wpAny_handled ?_)
 rw [show A.in1.handled=none from hh]
 refine wpAny_bind (wpAny_pure (wpAny_throw ?_))
 refine wpAny_bind (wpAny_isInstance (T := "StopIteration") (b:=true) ⟨_,Heap.get?_push_size _ rfl,rfl⟩ isSubtype_stop ?_)
 exact wpAny_pure (hQ _ (((Heap.SameBut.update ..).extBut.push _).push _))
theorem im.at {h h':Heap} (x:im h d es ep) (k:∀ o,h.get? d=some o→h'.get? d=some o):im h' d es ep:=let ⟨o,e,r⟩:=x; ⟨o,k o e,r⟩
theorem sK (hh:A.handled=none) (I d:Addr) (hne:d≠I) (es:Array DictEntry) (ep:Nat) :
  Walks prog w A I [I,d] [I] es.size (fun i v=>∃ e,es[i]?=some e∧v=e.key) (fun i h=>h.IsKeyIter I d i es.size ep∧im h d es ep) where
 sub:=fun b hb=>by simp at hb; simp [hb]
 frame:=fun _ _ _ st hk=>⟨st.1.at fun o e=>hk I (by simp) o e,st.2.at fun o e=>hk d (by simp) o e⟩
 item:=fun i s Q E hi st hQ=>tQ st.1 st.2 hi fun h' hit' hs'=>hQ _ h' s.toks ⟨_,Array.getElem?_eq_getElem hi,rfl⟩ ⟨hit',st.2.at fun o e=>hs'.extBut d o hne e⟩ fun b o hb e=>hs'.extBut b o (fun h=>hb (by simp [h])) e
 done:=fun s Q E st hQ=>wd hh st.1 st.2 fun h' he'=>hQ h' s.toks fun b o hb e=>he' b o (fun h=>hb (by simp [h])) e
 self:=fun _ _ _ _ st hQ=>wpAny_pyIter_keyiter st.1 hQ
theorem we (lo:(d==sysModules)=false):KdlSrc prog w "dict" d d es.size (fun i v=>∃ e,es[i]?=some e∧v=e.key) (fun h=>im h d es ep) where
 type:=fun _ hm=>hm.ty
 there:=fun _ hm=>let ⟨_,e,_⟩:=hm; ⟨Heap.lt_size e,Heap.lt_size e⟩
 keep:=fun _ _ hm hk=>hm.at fun o e=>hk d (.inl rfl) o e
 notList:=by decide
 notTuple:=by decide
 hint:=fun _ _ _ _ hm hq=>kdl_hint_dict hm.ty hq
 iter:=fun _ _ hh hm=>⟨_,_,(fun _ _ hq=>vk lo hm hq),sK hh _ d (let ⟨_,e,_⟩:=hm; Nat.ne_of_lt (Heap.lt_size e)) es ep,⟨⟨_,Heap.get?_push_size _ rfl,rfl,rfl⟩,hm.at fun o e=>Heap.get?_push_of_some _ e⟩⟩
end
section
variable {X:Cx}
theorem rH:∀ {vs:List V} {us:List Value},vs.length=us.length→(∀ (j:Nat) (u:Value),us[j]?=some u→∃ v,vs[j]?=some v∧aJ v u)→aD vs us
 | [],[],_,_=>.nil
 | [],_::_,h,_=>by simp at h
 | _::_,[],h,_=>by simp at h
 | v::vs,u::us,h,k=>by
  obtain ⟨v',e,r⟩:=k 0 u rfl
  have e':v=v':=by simpa using e
  subst e'
  exact .cons r (rH (by simpa using h) fun j u' hu=>by simpa using k (j+1) u' (by simpa using hu))
theorem zy {H:Hp} {kvs:List (List V×V)} {ys:List (List Key×Addr×Value)} (rel:KT H kvs ys):Paired (fun (b:Addr) (p:List V×V)=>H b=some (.tup p.1)) (ys.map (·.2.1)) kvs:=by
 induction rel with
 | nil=>exact .nil
 | cons h _ ih=>exact .cons h.2.1.1 ih
theorem pz (hc:X.calm=true):dE X (.type "list") (fun xs H Q=>∃ a kvs,xs=[.ref a]∧H a=some (.dT kvs)∧∀ as l,Paired (fun (b:Addr) (p:List V×V)=>H b=some (.tup p.1)) as kvs→H l=none→Q (.ref l) (upd H l (.lst (as.map V.ref)))):=by
 intro pins s σ H xs us Q I r h
 obtain ⟨a,kvs,rfl,ha,q⟩:=h
 obtain ⟨u,rfl,rx⟩:=dj r
 cases rx
 obtain ⟨z,hd,ys,rel,o,es,ep,h1,h2,h3,h4,_,_⟩:=wR I.hok ha
 have ly:kvs.length=ys.length:=Paired.length rel
 have le:es.size=ys.length:=by rw [← Array.length_toList,h4,List.length_map]
 refine kdl_call (we hd) (I.ok.hd hc) (⟨o,h1,h2,h3⟩:im s.heap a es ep) (by omega) fun h' tk acc' c' kp e hacc=>?_
 have hv:aD ((ys.map (·.2.1)).map V.ref) acc'.toList:=by
  refine rH (by have:=hacc.1; rw [List.length_map,List.length_map]; simp only [Array.length_toList]; omega) fun j u hu=>?_
  obtain ⟨en,he,rfl⟩:=hacc.2 j u (by rw [← Array.getElem?_toList]; exact hu)
  rw [← Array.getElem?_toList,h4,List.getElem?_map] at he
  obtain ⟨y,hy,rfl⟩:=Option.map_eq_some_iff.mp he
  exact ⟨.ref y.2.1,by rw [List.getElem?_map,List.getElem?_map,hy]; rfl,rfl⟩
 have pr:=zy rel
 exact ⟨.ref s.heap.objs.size,_,I.laid (t':=tk) kp (Nat.le_refl _) (show bx X.prog X.w _ h' _ (.lst ((ys.map (·.2.1)).map V.ref)) from ⟨by rw [List.length_map,List.length_map]; omega,acc'.toList,c',hv,by simpa using e⟩),rfl,q _ _ pr (I.hok.fresh (Nat.le_refl _))⟩
end
end L2
namespace K6
open PySem L2
def Tk (H H':Hp):Prop:=∀ b xs,H b=some (.tup xs)→H' b=some (.tup xs)
theorem Tk.trans {H H1 H2:Hp} (a:Tk H H1) (b:Tk H1 H2):Tk H H2:=fun c xs h=>b c xs (a c xs h)
theorem aa {H H':Hp} (g:aE H H'):Tk H H':=fun b xs h=>g b _ h
theorem ae {H:Hp} {p:Addr} (h:H p=none) (o:HO):aE H (upd H p o):=fun b u q=>by rw [ax (av q h)]; exact q
theorem oZ {H:Hp} {p:Addr} (h:H p=none) (o:HO):Tk H (upd H p o):=aa (ae h o)
theorem bI {H:Hp} {p:Addr} {xs:List V} (h:H p=some (.lst xs)) (o:HO):Tk H (upd H p o):=fun b ys e=>by rw [ax (aX e h (fun z=>by cases z))]; exact e
def Ext (tp:Addr) (H H':Hp):Prop:=∀ b o,b≠tp→H b=some o→H' b=some o
theorem Ext.refl (tp:Addr) (H:Hp):Ext tp H H:=fun _ _ _ h=>h
theorem Ext.trans {tp:Addr} {H H1 H2:Hp} (a:Ext tp H H1) (b:Ext tp H1 H2):Ext tp H H2:=fun c o n h=>b c o n (a c o n h)
theorem aE.ext {tp:Addr} {H H':Hp} (a:aE H H'):Ext tp H H':=fun c o _ h=>a c o h
theorem Ext.upd {tp:Addr} {H:Hp} {o:HO}:Ext tp H (L2.upd H tp o):=fun b u n h=>by rw [ax n]; exact h
theorem rj {H H':Hp} {t:Addr} {ys:List V} (g:Ext t H H') (h:H t=some (.lst ys)):Tk H H':=fun b xs e=>g b _ (aX e h (fun z=>by cases z)) e
def TT (K:Frag) (H:Hp) (a:Addr) (xs:List V):Prop:=H a=some (.tup xs)∨False
theorem TT.mono {K:Frag} {H H':Hp} (t:Tk H H') {a:Addr} {xs:List V} (h:TT K H a xs):TT K H' a xs:=h.imp (t _ _) id
theorem TT.sq {K:Frag} {H:Hp} {a:Addr} {xs:List V} (h:TT K H a xs):SqT K H a xs:=h.elim SqT.of False.elim
theorem TT.hp {K:Frag} {H:Hp} {a:Addr} {xs:List V} (h:TT K H a xs):H a=some (.tup xs):=h.elim id False.elim
mutual
inductive DT (K:Frag) (H:Hp):V→PyData→Prop
 | int (i:Int):DT K H (.int i) (.int i)
 | str (x:Str):DT K H (.str x) (.str x)
 | tup {a:Addr} {xs:List V} {ds:List PyData}:TT K H a xs→DTs K H xs ds→DT K H (.ref a) (.tuple ds)
inductive DTs (K:Frag) (H:Hp):List V→List PyData→Prop
 | nil:DTs K H [] []
 | cons {x:V} {xs:List V} {d:PyData} {ds:List PyData}:DT K H x d→DTs K H xs ds→DTs K H (x::xs) (d::ds)
end
mutual
theorem DT.mono {K:Frag} {H H':Hp} (e:Tk H H'):∀ {v:V} {d:PyData},DT K H v d→DT K H' v d
 | _,_,.int i=>.int i
 | _,_,.str x=>.str x
 | _,_,.tup h r=>.tup (h.mono e) (DTs.mono e r)
theorem DTs.mono {K:Frag} {H H':Hp} (e:Tk H H'):∀ {v:List V} {d:List PyData},DTs K H v d→DTs K H' v d
 | _,_,.nil=>.nil
 | _,_,.cons h r=>.cons (DT.mono e h) (DTs.mono e r)
end
mutual
theorem DT.rd {K:Frag} {H:Hp}:∀ {v:V} {d:PyData},DT K H v d→RdD K H v d
 | _,_,.int i=>.int i
 | _,_,.str x=>.str x
 | _,_,.tup h r=>.tup h.sq (DTs.rd r)
theorem DTs.rd {K:Frag} {H:Hp}:∀ {v:List V} {d:List PyData},DTs K H v d→cM K H v d
 | _,_,.nil=>.nil
 | _,_,.cons h r=>.cons (DT.rd h) (DTs.rd r)
end
theorem DTs.len {K:Frag} {H:Hp}:∀ {v:List V} {d:List PyData},DTs K H v d→v.length=d.length
 | _,_,.nil=>rfl
 | _,_,.cons h r=>by rw [List.length_cons,List.length_cons,DTs.len r]
theorem DTs.snoc {K:Frag} {H:Hp} {x:V} {d:PyData} (q:DT K H x d):∀ {v:List V} {ds:List PyData},DTs K H v ds→DTs K H (v++[x]) (ds++[d])
 | _,_,.nil=>.cons q .nil
 | _,_,.cons h r=>.cons h (DTs.snoc q r)
theorem DTs.append {K:Frag} {H:Hp}:∀ {v v':List V} {ds ds':List PyData},DTs K H v ds→DTs K H v' ds'→DTs K H (v++v') (ds++ds')
 | _,_,_,_,.nil,q=>q
 | _,_,_,_,.cons h r,q=>.cons h (DTs.append r q)
theorem DTs.get {K:Frag} {H:Hp}:∀ {v:List V} {d:List PyData},DTs K H v d→∀ (i:Nat) (x:V),v[i]?=some x→∃ e,d[i]?=some e∧DT K H x e
 | _,_,.nil,i,x,h=>by simp at h
 | _,_,.cons h r,0,x,q=>by simp at q; subst q; exact ⟨_,rfl,h⟩
 | _,_,.cons h r,i+1,x,q=>by
  obtain ⟨e,e1,e2⟩:=DTs.get r i x (by simpa using q)
  exact ⟨e,by simpa using e1,e2⟩
def top (i:Nat):Stmt:=PySem.Challenge.pw_everyfork_k20_deep_calls.main.body.getD i (.Pass ⟨0,0,0,0⟩)
abbrev cX:Stmt:=top 15
abbrev cH:Stmt:=top 22
abbrev bN:Stmt:=top 23
abbrev dw:Stmt:=top 24
abbrev ek:Stmt:=top 25
abbrev iM:Stmt:=top 26
abbrev dY:Stmt:=top 27
abbrev bH:Stmt:=top 28
abbrev cT:Stmt:=top 33
abbrev cP:Stmt:=top 34
abbrev cW:Stmt:=top 35
abbrev iG:Stmt:=top 38
abbrev rX:Stmt:=top 42
abbrev iE:Stmt:=top 44
abbrev jg:Stmt:=top 45
abbrev dA:Stmt:=top 46
abbrev eA:Stmt:=top 47
abbrev my:Stmt:=top 48
abbrev rn:Stmt:=top 49
abbrev gm (i j:Nat):Stmt:=match top i with | .ClassDef (body:=b) ..=>b.getD j (.Pass ⟨0,0,0,0⟩) | _=>.Pass ⟨0,0,0,0⟩
abbrev jt:Stmt:=gm 40 0
abbrev eT:Stmt:=gm 41 0
abbrev eP:Stmt:=gm 41 1
abbrev mP:Stmt:=gm 41 2
abbrev er:Stmt:=gm 41 3
abbrev gK:Stmt:=gm 41 4
abbrev eX:Stmt:=gm 41 5
abbrev eM:Stmt:=gm 41 6
abbrev eI:Stmt:=gm 41 7
theorem yX:bootBuiltins "int"=some (.type "int"):=by decide +kernel
theorem vT:bootBuiltins "list"=some (.type "list"):=by decide +kernel
theorem xF:bootBuiltins "dict"=some (.type "dict"):=by decide +kernel
theorem ol:bootBuiltins "len"=some (.builtin "len"):=by decide +kernel
theorem gE:bootBuiltins "repr"=some (.builtin "repr"):=by decide +kernel
structure G0 (mg:Str→Option Value):Prop where
 isi:mg "isinstance"=none
 int:mg "int"=none
 bool:mg "bool"=none
 str:mg "str"=none
 tuple:mg "tuple"=none
 list:mg "list"=none
 dict:mg "dict"=none
 all:mg "all"=none
 ord:mg "ord"=none
 len:mg "len"=none
 repr:mg "repr"=none
 range:mg "range"=none
structure Cal (P:Program) (w:World) (K:Frag) (mg:Str→Option Value) (base:Heap) (k:Nat) (x:Str) (ps:List Str) (sp:Sp):Prop where
 ex:∃ g gd,bg P w K mg base CX0 k g gd ps sp∧bZ K gd ps []∧keepIn K (.ref g)=true∧mg x=some (.ref g)
open PySem L2
end K6
namespace HT
open PySem PySem.Spec PyProof.Rows
section
variable {prog:Program} {w:World} {A:Around} {E:Value→Shared→Prop} {s:Shared}
end
end HT
namespace L2
open PySem PySem.Spec PyProof.Rows
section
variable {X:Cx}
def xC (K:Frag):List V→Hp→VK→Prop:=fun xs H Q=>∃ x d,xs=[x]∧RdD K H x d∧d.showable=true∧d.hasDict=false∧d.depth≤60∧d.shown.length≤sizeLine∧Q (.str d.shown) H
theorem bR (hu:X.A.units+64<cLine) (hg:X.A.guards=some []):dE X (.builtin "repr") (xC X.K):=by
 intro pins s σ H xs us Q I r h
 obtain ⟨x,d,rfl,hd,hs,hn,hp,hz,q⟩:=h
 cases hd with
 | non =>
  obtain ⟨u,rfl,ru⟩:=dj r
  cases ru
  exact PySem.P.repr_of_none ⟨.str (PyData.shown .none),H,I.tok _,⟨s.toks,by simp only [PyData.shown]⟩,q⟩
 | bl b =>
  obtain ⟨u,rfl,ru⟩:=dj r
  cases ru
  exact PySem.P.repr_of_bool ⟨.str (PyData.shown (.bool b)),H,I.tok _,⟨s.toks,by simp only [PyData.shown]⟩,q⟩
 | int i =>
  obtain ⟨u,rfl,ru⟩:=dj r
  obtain ⟨t,rfl⟩:=ru
  exact PySem.P.repr_of_int (by simpa [PyData.showable] using hs) ⟨.str (PyData.shown (.int i)),H,I.tok _,⟨s.toks,by simp only [PyData.shown]⟩,q⟩
 | str z =>
  obtain ⟨u,rfl,ru⟩:=dj r
  obtain ⟨t,rfl⟩:=ru
  exact PySem.P.repr_of_str ⟨.str (PyData.shown (.str z)),H,I.tok _,⟨s.toks,by simp only [PyData.shown]⟩,q⟩ (by simpa only [PyData.shown] using hz)
 | lst h ra=>exact lT hu hg pins s σ H _ us Q I r ⟨_,_,rfl,.lst h ra,hs,hn,hp,hz,q⟩
 | tup h ra=>exact lT hu hg pins s σ H _ us Q I r ⟨_,_,rfl,.tup h ra,hs,hn,hp,hz,q⟩
theorem xM {K:Frag} {H:Hp} {a b:Addr} {xs ys:List V} {Q:VK} (ha:H a=some (.tup xs)) (hb:H b=some (.tup ys)) (hl:xs.length+ys.length≤1000)
  (q:∀ p H',aE H H'→H' p=some (.tup (xs++ys))→Q (.ref p) H'):xh K (.ref a) (.ref b) H Q∨uY K (.ref a) (.ref b) H Q:=by
 cases xs with
 | nil=>exact .inr ⟨a,b,ys,rfl,rfl,SqT.of ha,SqT.of hb,q b H (aE.refl _) hb⟩
 | cons x r =>
  refine .inl ⟨a,b,_,_,rfl,rfl,SqT.of ha,SqT.of hb,by simp,Nat.le_of_lt (cf hl),fun e=>?_,fun e p hp=>?_⟩
  ·subst e
   exact q a H (aE.refl _) (by rw [List.append_nil]; exact ha)
  ·exact q p _ (fun c o e=>by rw [ax (av e hp)]; exact e) ad
end
end L2
namespace K6
open PySem L2
mutual
def W:PyData→Nat
 | .list xs=>WS xs+3
 | .tuple xs=>WS xs+3
 | .none=>4
 | .bool _=>5
 | .int i=>(PyData.shown (.int i)).length
 | .str x=>(PyData.shown (.str x)).length
 | .dict _=>0
def WS:List PyData→Nat
 | []=>0
 | x::xs=>W x+2+WS xs
end
theorem jG (t:Str) (r:List Str):piled (t::r)=t.length+2+piled r:=by simp [piled]
theorem nQ (ts:List Str):(tupleText ts).length≤piled ts+3:=by
 unfold tupleText
 rw [strLen_append,strLen_append]
 have e1:(("(":Str)).length=1:=by decide
 have e2:(Str.ofString (if ts.length==1 then ",)" else ")")).length≤2:=by split<;>decide
 have e3:(Str.join ", " ts).length≤piled ts:=by
  cases ts with
  | nil=>exact Nat.le_trans (show (Str.join ", " []).length≤0 by decide) (Nat.zero_le _)
  | cons x r =>
   have:=join_length_add (x::r) (by simp)
   omega
 rw [e1]
 have e2':=e2
 omega
theorem jf:∀ (ts:List Str) (k:Nat) (acc:Str),(textFrom k acc ts).length≤acc.length+piled ts
 | [],_,acc=>by simp [textFrom,piled]
 | t::r,k,acc=>by
  have h2:=jf r (k+1) (acc++(if k > 0 then ", " else "":String)++t)
  have e:(Str.ofString (if k > 0 then ", " else "")).length≤2:=by split<;>decide
  rw [strLen_append,strLen_append] at h2
  unfold textFrom
  rw [jG]
  omega
theorem oT (ts:List Str):(listText ts).length≤piled ts+3:=by
 unfold listText
 rw [strLen_append]
 have:=jf ts 0 "["
 have e1:(("[":Str)).length=1:=by decide
 have e2:(("]":Str)).length=1:=by decide
 have e1':=e1
 have e2':=e2
 omega
mutual
theorem nV:∀ d:PyData,d.hasDict=false→d.shown.length≤W d
 | .none,_=>by simp only [W,PyData.shown]; decide
 | .bool b,_=>by cases b<;>simp only [W,PyData.shown]<;>decide
 | .int i,_=>by simp only [W]; exact Nat.le_refl _
 | .str x,_=>by simp only [W]; exact Nat.le_refl _
 | .list xs,h=>by
  have:=dH xs (by simpa [PyData.hasDict] using h)
  simp only [W,PyData.shown]
  exact Nat.le_trans (oT _) (by omega)
 | .tuple xs,h=>by
  have:=dH xs (by simpa [PyData.hasDict] using h)
  simp only [W,PyData.shown]
  exact Nat.le_trans (nQ _) (by omega)
 | .dict _,h=>by simp [PyData.hasDict] at h
theorem dH:∀ ds:List PyData,PyData.hasDictAll ds=false→piled (PyData.shownAll ds)≤WS ds
 | [],_=>by simp [PyData.shownAll,piled]
 | x::xs,h=>by
  have h':x.hasDict=false∧PyData.hasDictAll xs=false:=by simpa [PyData.hasDictAll] using h
  have h1:=nV x h'.1
  have h2:=dH xs h'.2
  simp only [PyData.shownAll,jG,WS]
  omega
end
structure cS (m b:Nat) (d:PyData):Prop where
 sh:d.showable=true
 nd:d.hasDict=false
 dp:d.depth≤m
 sz:W d≤b
structure bp (m b:Nat) (ds:List PyData):Prop where
 sh:PyData.showableAll ds=true
 nd:PyData.hasDictAll ds=false
 dp:PyData.depthAll ds≤m
 sz:WS ds≤b
theorem cS.mono {m b m' b':Nat} {d:PyData} (h:cS m b d) (h1:m≤m') (h2:b≤b'):cS m' b' d:=⟨h.sh,h.nd,Nat.le_trans h.dp h1,Nat.le_trans h.sz h2⟩
theorem bp.mono {m b m' b':Nat} {d:List PyData} (h:bp m b d) (h1:m≤m') (h2:b≤b'):bp m' b' d:=⟨h.sh,h.nd,Nat.le_trans h.dp h1,Nat.le_trans h.sz h2⟩
theorem bp.nil:bp 0 0 []:=⟨by simp [PyData.showableAll],by simp [PyData.hasDictAll],by simp [PyData.depthAll],by simp [WS]⟩
theorem bp.cons {m b c:Nat} {d:PyData} {ds:List PyData} (h:cS m b d) (r:bp m c ds):bp m (b+2+c) (d::ds):=by
 have h1:=h.dp
 have h2:=r.dp
 have h3:=h.sz
 have h4:=r.sz
 exact ⟨by simp [PyData.showableAll,h.sh,r.sh],by simp [PyData.hasDictAll,h.nd,r.nd],by simp only [PyData.depthAll]; omega,by simp only [WS]; omega⟩
theorem bp.tup {m b:Nat} {ds:List PyData} (h:bp m b ds):cS (m+1) (b+3) (.tuple ds):=by
 have h1:=h.dp
 have h2:=h.sz
 exact ⟨by simp only [PyData.showable]; exact h.sh,by simp only [PyData.hasDict]; exact h.nd,by simp only [PyData.depth]; omega,by simp only [W]; omega⟩
theorem bp.lst {m b:Nat} {ds:List PyData} (h:bp m b ds):cS (m+1) (b+3) (.list ds):=by
 have h1:=h.dp
 have h2:=h.sz
 exact ⟨by simp only [PyData.showable]; exact h.sh,by simp only [PyData.hasDict]; exact h.nd,by simp only [PyData.depth]; omega,by simp only [W]; omega⟩
end K6
namespace L2
open PySem
end L2
namespace K6
open PySem L2
inductive E where
 | num (i:Int) | text (z:Str) | var (x:Str) | of_ (e:E) (f:Str) | with_ (e:E) (f:Str) (g:E) | new (r:Str) (es:List E)
 | add (a b:E) | sub (a b:E) | times (n:Int) (e:E) | div (e:E) (n:Int) | rest (e:E) (n:Int) | len (e:E) | at_ (a b:E)
 | rows (es:List E) | put (a b c:E) | more (a b:E) | signs (e:E)
inductive C where
 | less (a b:E) | same (a b:E) | and_ (c d:C) | or_ (c d:C) | not_ (c:C)
inductive S where
 | let_ (x:Str) (e:E) | say (w:Str) (c:C) | if_ (c:C) (a b:List S) | while_ (c:C) (a:List S) | call (x f:Str) (es:List E) | give (e:E)
mutual
def E.d:E→PyData
 | .num i=>.tuple [.str "num",.int i]
 | .text z=>.tuple [.str "text",.str z]
 | .var x=>.tuple [.str "var",.str x]
 | .of_ e f=>.tuple [.str "of",e.d,.str f]
 | .with_ e f g=>.tuple [.str "with",e.d,.str f,g.d]
 | .new r es=>.tuple [.str "new",.str r,.tuple (E.ds es)]
 | .add a b=>.tuple [.str "add",a.d,b.d]
 | .sub a b=>.tuple [.str "sub",a.d,b.d]
 | .times n e=>.tuple [.str "times",.int n,e.d]
 | .div e n=>.tuple [.str "div",e.d,.int n]
 | .rest e n=>.tuple [.str "rest",e.d,.int n]
 | .len e=>.tuple [.str "len",e.d]
 | .at_ a b=>.tuple [.str "at",a.d,b.d]
 | .rows es=>.tuple [.str "rows",.tuple (E.ds es)]
 | .put a b c=>.tuple [.str "put",a.d,b.d,c.d]
 | .more a b=>.tuple [.str "more",a.d,b.d]
 | .signs e=>.tuple [.str "signs",e.d]
def E.ds:List E→List PyData
 | []=>[]
 | e::r=>e.d::E.ds r
end
def C.d:C→PyData
 | .less a b=>.tuple [.str "less",a.d,b.d]
 | .same a b=>.tuple [.str "same",a.d,b.d]
 | .and_ c d=>.tuple [.str "and",c.d,d.d]
 | .or_ c d=>.tuple [.str "or",c.d,d.d]
 | .not_ c=>.tuple [.str "not",c.d]
mutual
def S.d:S→PyData
 | .let_ x e=>.tuple [.str "let",.str x,e.d]
 | .say w c=>.tuple [.str "say",.str w,c.d]
 | .if_ c a b=>.tuple [.str "if",c.d,.tuple (S.ds a),.tuple (S.ds b)]
 | .while_ c a=>.tuple [.str "while",c.d,.tuple (S.ds a)]
 | .call x f es=>.tuple [.str "call",.str x,.str f,.tuple (E.ds es)]
 | .give e=>.tuple [.str "give",e.d]
def S.ds:List S→List PyData
 | []=>[]
 | s::r=>s.d::S.ds r
end
theorem E.ds_len:∀ es:List E,(E.ds es).length=es.length
 | []=>rfl
 | a::r=>by simp [E.ds,E.ds_len r]
theorem S.ds_snoc:∀ (es:List S) (e:S),S.ds (es++[e])=S.ds es++[e.d]
 | [],e=>by simp [S.ds]
 | a::r,e=>by simp [S.ds,S.ds_snoc r e]
theorem S.ds_app:∀ a b:List S,S.ds (a++b)=S.ds a++S.ds b
 | [],b=>rfl
 | s::r,b=>by simp [S.ds,S.ds_app r b]
theorem S.ds_len:∀ es:List S,(S.ds es).length=es.length
 | []=>rfl
 | a::r=>by simp [S.ds,S.ds_len r]
open PySem L2
mutual
def S.cnt:S→Nat
 | .if_ _ a b=>1+S.cnts a+S.cnts b
 | .while_ _ a=>1+S.cnts a
 | _=>1
def S.cnts:List S→Nat
 | []=>0
 | s::r=>s.cnt+S.cnts r
end
theorem S.cnts_app:∀ a b:List S,S.cnts (a++b)=S.cnts a+S.cnts b
 | [],b=>by simp [S.cnts]
 | s::r,b=>by simp only [List.cons_append,S.cnts,S.cnts_app r b]; omega
theorem S.cnt_pos (s:S):1≤s.cnt:=by cases s<;>simp only [S.cnt]<;>omega
theorem at0 {α:Type} (x:α) (ys:List α):atI (x::ys) 0=some x:=rY (j:=0) (show (x::ys)[0]?=some x from rfl)
theorem cN:∀ ss:List S,ss.length≤S.cnts ss
 | []=>Nat.zero_le _
 | s::r=>by
  have:=cN r
  have:=S.cnt_pos s
  simp only [List.length_cons,S.cnts]
  omega
theorem DT.open {K:Frag} {H:Hp} {u:V} {ds:List PyData} (h:DT K H u (.tuple ds)):∃ a xs,u=.ref a∧H a=some (.tup xs)∧DTs K H xs ds:=by
 cases h with
 | tup a b=>exact ⟨_,_,rfl,a.hp,b⟩
theorem DTs.open {K:Frag} {H:Hp} {xs:List V} {d:PyData} {ds:List PyData} (h:DTs K H xs (d::ds)):∃ x r,xs=x::r∧DT K H x d∧DTs K H r ds:=by
 cases h with
 | cons a b=>exact ⟨_,_,rfl,a,b⟩
theorem DT.str_inv {K:Frag} {H:Hp} {u:V} {z:Str} (h:DT K H u (.str z)):u=.str z:=by cases h; rfl
theorem DT.int_inv {K:Frag} {H:Hp} {u:V} {z:Int} (h:DT K H u (.int z)):u=.int z:=by cases h; rfl
section
variable {K:Frag} {H:Hp} {v:V} {z:Str}
theorem op0 {ds:List PyData} (h:DT K H v (.tuple (.str z::ds))):∃ a xs,v=.ref a∧H a=some (.tup (.str z::xs))∧DTs K H xs ds:=by
 obtain ⟨a,xs,rfl,ha,d⟩:=h.open
 obtain ⟨x0,r0,rfl,h0,d1⟩:=d.open
 obtain rfl:=h0.str_inv
 exact ⟨a,r0,rfl,ha,d1⟩
theorem op1 {d1:PyData} (h:DT K H v (.tuple [.str z,d1])):∃ a x1,v=.ref a∧H a=some (.tup [.str z,x1])∧DT K H x1 d1:=by
 obtain ⟨a,xs,rfl,ha,d⟩:=op0 h
 obtain ⟨x1,r1,rfl,h1,d⟩:=d.open
 cases d
 exact ⟨a,x1,rfl,ha,h1⟩
theorem op2 {d1 d2:PyData} (h:DT K H v (.tuple [.str z,d1,d2])):∃ a x1 x2,v=.ref a∧H a=some (.tup [.str z,x1,x2])∧DT K H x1 d1∧DT K H x2 d2:=by
 obtain ⟨a,xs,rfl,ha,d⟩:=op0 h
 obtain ⟨x1,r1,rfl,h1,d⟩:=d.open
 obtain ⟨x2,r2,rfl,h2,d⟩:=d.open
 cases d
 exact ⟨a,x1,x2,rfl,ha,h1,h2⟩
theorem op3 {d1 d2 d3:PyData} (h:DT K H v (.tuple [.str z,d1,d2,d3])):∃ a x1 x2 x3,v=.ref a∧H a=some (.tup [.str z,x1,x2,x3])∧DT K H x1 d1∧DT K H x2 d2∧DT K H x3 d3:=by
 obtain ⟨a,xs,rfl,ha,d⟩:=op0 h
 obtain ⟨x1,r1,rfl,h1,d⟩:=d.open
 obtain ⟨x2,r2,rfl,h2,d⟩:=d.open
 obtain ⟨x3,r3,rfl,h3,d⟩:=d.open
 cases d
 exact ⟨a,x1,x2,x3,rfl,ha,h1,h2,h3⟩
end
mutual
def S.flat:S→List S
 | .if_ c a b=>.if_ c a b::(S.flats a++S.flats b)
 | .while_ c a=>.while_ c a::S.flats a
 | .let_ x e=>[.let_ x e]
 | .say w c=>[.say w c]
 | .call x f es=>[.call x f es]
 | .give e=>[.give e]
def S.flats:List S→List S
 | []=>[]
 | s::r=>s.flat++S.flats r
end
def S.bods:S→List (List S)
 | .if_ _ a b=>[a,b]
 | .while_ _ a=>[a]
 | _=>[]
theorem dO:∀ a b:List S,S.flats (a++b)=S.flats a++S.flats b
 | [],b=>by simp [S.flats]
 | s::r,b=>by simp only [List.cons_append,S.flats,dO r b,List.append_assoc]
theorem wJ (s:S):s.flat=s::S.flats s.bods.flatten:=by
 cases s<;>simp [S.flat,S.bods,S.flats,dO]
theorem ny (s:S):s.cnt=1+S.cnts s.bods.flatten:=by
 cases s<;>simp [S.cnt,S.bods,S.cnts,S.cnts_app,Nat.add_assoc]
mutual
theorem uh:∀ s:S,s.flat.length=s.cnt
 | .if_ c a b=>by simp only [S.flat,S.cnt,List.length_cons,List.length_append,bE a,bE b]; omega
 | .while_ c a=>by simp only [S.flat,S.cnt,List.length_cons,bE a]; omega
 | .let_ x e=>by simp [S.flat,S.cnt]
 | .say w c=>by simp [S.flat,S.cnt]
 | .call x f es=>by simp [S.flat,S.cnt]
 | .give e=>by simp [S.flat,S.cnt]
theorem bE:∀ ss:List S,(S.flats ss).length=S.cnts ss
 | []=>by simp [S.flats,S.cnts]
 | s::r=>by simp only [S.flats,S.cnts,List.length_append,uh s,bE r]
end
theorem S.ds_eq:∀ ss:List S,S.ds ss=ss.map S.d
 | []=>by simp [S.ds]
 | s::r=>by simp [S.ds,S.ds_eq r]
def nG (b:List S):PyData:=.tuple (S.ds b)
theorem DTs.rev {K:Frag} {H:Hp} {xs:List V} {ds:List PyData} (h:DTs K H xs ds):DTs K H xs.reverse ds.reverse:=by
 induction xs generalizing ds with
 | nil=>cases h; exact .nil
 | cons x r ih =>
  cases h with
  | cons h1 h2=>rw [List.reverse_cons,List.reverse_cons]; exact DTs.snoc h1 (ih h2)
theorem aU {t:Addr} {H H1:Hp} {o:HO} (h:H t=none) (g:aE H H1):aE H (upd H1 t o):=fun b u q=>by rw [ax (av q h)]; exact g b u q
theorem vX {K:Frag} {H:Hp} {u:V} {s:S} (h:DT K H u (S.d s)):∃ a z rs,u=.ref a∧H a=some (.tup (.str z::rs)) ∧
  ((∃ c' b1 b2 A B,z = "if"∧rs=[c',b1,b2]∧s.bods=[A,B]∧DT K H b1 (nG A)∧DT K H b2 (nG B))∨(∃ c' b1 A,z = "while"∧rs=[c',b1]∧s.bods=[A]∧DT K H b1 (nG A))∨(z ≠ "if"∧z ≠ "while"∧s.bods=[])):=by
 cases s with
 | if_ c A B =>
  simp only [S.d] at h
  obtain ⟨a,xs,rfl,ha,d0⟩:=h.open
  obtain ⟨x0,r0,rfl,h0,d1⟩:=d0.open
  obtain rfl:=h0.str_inv
  obtain ⟨x1,r1,rfl,h1,d2⟩:=d1.open
  obtain ⟨x2,r2,rfl,h2,d3⟩:=d2.open
  obtain ⟨x3,r3,rfl,h3,d4⟩:=d3.open
  cases d4
  exact ⟨a,_,_,rfl,ha,.inl ⟨x1,x2,x3,A,B,rfl,rfl,rfl,h2,h3⟩⟩
 | while_ c A =>
  simp only [S.d] at h
  obtain ⟨a,xs,rfl,ha,d0⟩:=h.open
  obtain ⟨x0,r0,rfl,h0,d1⟩:=d0.open
  obtain rfl:=h0.str_inv
  obtain ⟨x1,r1,rfl,h1,d2⟩:=d1.open
  obtain ⟨x2,r2,rfl,h2,d3⟩:=d2.open
  cases d3
  exact ⟨a,_,_,rfl,ha,.inr (.inl ⟨x1,x2,A,rfl,rfl,rfl,h2⟩)⟩
 | let_ x e =>
  simp only [S.d] at h
  obtain ⟨a,xs,rfl,ha,d0⟩:=h.open
  obtain ⟨x0,r0,rfl,h0,d1⟩:=d0.open
  obtain rfl:=h0.str_inv
  exact ⟨a,_,_,rfl,ha,.inr (.inr ⟨by decide +kernel,by decide +kernel,rfl⟩)⟩
 | say y c =>
  simp only [S.d] at h
  obtain ⟨a,xs,rfl,ha,d0⟩:=h.open
  obtain ⟨x0,r0,rfl,h0,d1⟩:=d0.open
  obtain rfl:=h0.str_inv
  exact ⟨a,_,_,rfl,ha,.inr (.inr ⟨by decide +kernel,by decide +kernel,rfl⟩)⟩
 | call x y es =>
  simp only [S.d] at h
  obtain ⟨a,xs,rfl,ha,d0⟩:=h.open
  obtain ⟨x0,r0,rfl,h0,d1⟩:=d0.open
  obtain rfl:=h0.str_inv
  exact ⟨a,_,_,rfl,ha,.inr (.inr ⟨by decide +kernel,by decide +kernel,rfl⟩)⟩
 | give e =>
  simp only [S.d] at h
  obtain ⟨a,xs,rfl,ha,d0⟩:=h.open
  obtain ⟨x0,r0,rfl,h0,d1⟩:=d0.open
  obtain rfl:=h0.str_inv
  exact ⟨a,_,_,rfl,ha,.inr (.inr ⟨by decide +kernel,by decide +kernel,rfl⟩)⟩
section
variable {P:Program} {w:World} {K:Frag} {mg:Str→Option Value} {base:Heap} {f g:Addr} {fd gd:FuncData}
abbrev om:List Str:=["statement"]
theorem lZ:aF om ["statement"] (defScope dw):=⟨rfl,rfl,rfl,by decide +kernel,rfl,by decide +kernel,by decide +kernel⟩
def mx (K:Frag):Sp:=fun vs H Q _=>∃ u s,vs=[u]∧DT K H u (S.d s)∧∀ r ys H',aE H H'→H r=none→H' r=some (.lst ys)→DTs K H' ys (s.bods.map nG)→Q (.ref r) H'
theorem wf (F:Fun K "bodies_of" "bodies_of" dw f fd):bg P w K mg base CX0 1 f fd ["statement"] (mx K):=by
 refine F.ok lZ (fun vs H Q EX h=>?_) (fun cdv A outer s H vs Q EX hr h=>?_)
 ·obtain ⟨u,s,rfl,_⟩:=h
  rfl
 obtain ⟨u,s,rfl,hu,q⟩:=h
 obtain ⟨a,z,rs,rfl,ha,hv⟩:=vX hu
 refine ⟨_,(@ah _ _ _ _ _ (@aZ _ _ _ _ _ _ _ _ (@aC _ _ _ _ _ _ _ _ bD (@ay _ _ _ _ _ _ _ aH (pv 0) ak (fun _ _=>rfl)) ao (aQ _)) (@ap _ _ _ (@aP _ _ _ _ (@bm _ _ _ _ (@ac _ _ _ _ _ (@ay _ _ _ _ _ _ _ aH (pv 0) ak (fun _ _=>rfl)) (@ac _ _ _ _ _ (@ay _ _ _ _ _ _ _ aH (pv 0) ak (fun _ _=>rfl)) ag (ab rfl)) (ab rfl))))) aM) (@ah _ _ _ _ _ (@aZ _ _ _ _ _ _ _ _ (@aC _ _ _ _ _ _ _ _ bD (@ay _ _ _ _ _ _ _ aH (pv 0) ak (fun _ _=>rfl)) ao (aQ _)) (@ap _ _ _ (@aP _ _ _ _ (@bm _ _ _ _ (@ac _ _ _ _ _ (@ay _ _ _ _ _ _ _ aH (pv 0) ak (fun _ _=>rfl)) ag (ab rfl))))) aM) (@ap _ _ _ (@aP _ _ _ _ (@bm _ _ _ _ ag))))),?_⟩
 refine ⟨_,rfl,a,_,_,_,rfl,rfl,SqT.of ha,at0 _ _,rfl,_,rfl,?_⟩
 rcases hv with ⟨c',b1,b2,A,B,rfl,rfl,hb,d1,d2⟩ | ⟨c',b1,A,rfl,rfl,hb,d1⟩ | ⟨z1,z2,hb⟩
 ·refine aY (fun c=>?_) (fun c=>absurd (by decide +kernel) c)
  refine ⟨_,rfl,a,_,_,_,rfl,rfl,SqT.of ha,rfl,_,rfl,a,_,_,_,rfl,rfl,SqT.of ha,rfl,(by show 2≤sizeLine; decide),fun l hl=>?_⟩
  exact q l _ _ (ae hl _) hl ad (by rw [hb]; exact .cons (d1.mono (oZ hl _)) (.cons (d2.mono (oZ hl _)) .nil))
 ·refine aY (fun c=>absurd c (by decide +kernel)) (fun c=>?_)
  refine ⟨_,rfl,a,_,_,_,rfl,rfl,SqT.of ha,rfl,rfl,_,rfl,?_⟩
  refine aY (fun c=>?_) (fun c=>absurd (by decide +kernel) c)
  refine ⟨_,rfl,a,_,_,_,rfl,rfl,SqT.of ha,rfl,(by show 1≤sizeLine; decide),fun l hl=>?_⟩
  exact q l _ _ (ae hl _) hl ad (by rw [hb]; exact .cons (d1.mono (oZ hl _)) .nil)
 ·refine aY (fun c=>absurd (V.str.inj (of_decide_eq_true c)) z1) (fun c=>?_)
  refine ⟨_,rfl,a,_,_,_,rfl,rfl,SqT.of ha,at0 _ _,rfl,_,rfl,?_⟩
  refine aY (fun c=>absurd (V.str.inj (of_decide_eq_true c)) z2) (fun c=>?_)
  refine ⟨(by show 0≤sizeLine; decide),fun l hl=>?_⟩
  exact q l _ _ (ae hl _) hl ad (by rw [hb]; exact .nil)
abbrev qf:List Str:=["body", "told", "waiting", "statement", "inner"]
theorem bU:aF qf ["body"] (defScope ek):=⟨rfl,rfl,rfl,by decide +kernel,rfl,by decide +kernel,by decide +kernel⟩
def xS (K:Frag):Sp:=fun vs H Q _=>∃ u b,vs=[u]∧DT K H u (nG b)∧S.cnts b≤1000∧∀ r ys H',aE H H'→H r=none→H' r=some (.lst ys)→DTs K H' ys (S.ds (S.flats b))→Q (.ref r) H'
def yO (K:Frag) (H:Hp) (u:V) (b:List S) (m:Nat) (σ:St) (H':Hp):Prop:=∃ m3 m4 tl wl ys vs ts ws,σ=[some u,some (.ref tl),some (.ref wl),m3,m4]∧aE H H'∧H tl=none∧H wl=none∧tl≠wl∧H' tl=some (.lst ys)∧H' wl=some (.lst vs) ∧
 DTs K H' ys (S.ds ts)∧DTs K H' vs.reverse (S.ds ws)∧S.flats b=ts++S.flats ws∧m=S.cnts ws
theorem yB (T:G0 mg) (TR:mg "reversed"=none) (F:Fun K "lines_in" "lines_in" ek f fd) (D_bodies_of:Cal P w K mg base 1 "bodies_of" ["statement"] (mx K)):bg P w K mg base CX0 2 f fd ["body"] (xS K):=by
 obtain ⟨g_bodies_of,gd_bodies_of,G_bodies_of,b_bodies_of,k_bodies_of,m_bodies_of⟩:=D_bodies_of.ex
 refine F.ok bU (fun vs H Q EX h=>?_) (fun cdv A outer s H vs Q EX hr h=>?_)
 ·obtain ⟨u,b,rfl,_⟩:=h
  rfl
 obtain ⟨u,b,rfl,hu,hc,q⟩:=h
 obtain ⟨bb,xs,rfl,hbb,dxs⟩:=DT.open hu
 refine ⟨_,(@ah _ _ _ _ _ (@aA _ _ 1 _ _ _ _ bU.nd rfl (Or.inl rfl) (@bm _ _ _ _ ag) (aj rfl) (.inr rfl)) (@ah _ _ _ _ _ (@aA _ _ 2 _ _ _ _ bU.nd rfl (Or.inl rfl) (cV rfl rfl T.list rfl TR (pv 0)) (aj rfl) (.inr rfl)) (@ah _ _ _ _ _ (nK PassesOwn.never (uX (pv 2) (fun _=>rfl)) (@ah _ _ _ _ _ (@aA _ _ 3 _ _ _ _ bU.nd rfl (Or.inl rfl) (pk PySem.F.plainAttrs_list PySem.F.slot_list_pop PySem.F.type_list_pop qW (pv 2)) (aj rfl) (.inr rfl)) (@ah _ _ _ _ _ (@bq _ _ _ _ (@dS _ _ _ _ _ _ _ _ _ _ _ _ PySem.F.plainAttrs_list PySem.F.slot_list_append PySem.F.type_list_append bQ (pv 1) (@ac _ _ _ _ _ (pv 3) ag (ab rfl)) rfl (cm rfl rfl) rfl (ab rfl) (am rfl)) (aj rfl)) (@ap _ _ _ (@cr _ _ _ _ _ _ _ _ PassesOwn.never rfl (ym rfl TR (@aB _ _ _ _ _ _ _ _ _ _ _ _ _ _ _ _ G_bodies_of (hr.mono (by omega)) rfl m_bodies_of k_bodies_of b_bodies_of .nil aI (@ac _ _ _ _ _ (pv 3) ag (ab rfl)) (by decide) (ab rfl) (am rfl))) (bC (i:=4) bU.nd rfl (Or.inl rfl)) (@ap _ _ _ (@bq _ _ _ _ (@dS _ _ _ _ _ _ _ _ _ _ _ _ PySem.F.plainAttrs_list PySem.F.slot_list_extend PySem.F.type_list_extend fB (pv 2) (@ac _ _ _ _ _ (cV rfl rfl T.list rfl TR (pv 4)) ag (ab rfl)) rfl (cm rfl rfl) rfl (ab rfl) (am rfl)) (aj rfl))) (fun _=>rfl)))))) (@ap _ _ _ (@aP _ _ _ _ (pv 1)))))),?_⟩
 refine ⟨(by show 0≤sizeLine; decide),fun t0 ht0=>?_⟩
 have g0:=ae ht0 (.lst [])
 refine ⟨_,rfl,bb,xs,rfl,.inr (SqT.of (g0 _ _ hbb)),fun w0 hw0=>?_⟩
 have g1:=g0.trans (ae hw0 (.lst xs.reverse))
 have hw00:H w0=none:=by
  cases e:H w0 with
  | none=>rfl
  | some o=>rw [g0 _ _ e] at hw0; cases hw0
 have htw:t0≠w0:=fun z=>by rw [← z,ad] at hw0; cases hw0
 refine ⟨yO K H (.ref bb) b,⟨_,none,none,t0,w0,[],xs.reverse,[],b,rfl,g1,ht0,hw00,htw,by rw [ax htw]; exact ad,ad,.nil,by rw [List.reverse_reverse]; exact dxs.mono (aa g1),rfl,rfl⟩,?_⟩
 rintro m σ H' ⟨m3,m4,tl,wl,ys,vs,ts,ws,rfl,GH,tl0,wl0,hne,htl,hwl,dy,dv,ef,em⟩
 have lt:ts.length+S.cnts ws=S.cnts b:=by rw [← bE b,ef,List.length_append,bE]
 refine ⟨_,rfl,_,.inl ⟨vs,SqL.of hwl,rfl⟩,?_⟩
 refine aY (fun cc=>?_) (fun cc=>?_)
 ·obtain ⟨zs,y,rfl⟩:∃ zs y,vs=zs++[y]:=by
   rcases List.eq_nil_or_concat vs with rfl | ⟨zs,y,e⟩
   ·exact absurd cc (by decide)
   ·exact ⟨zs,y,by rw [e,List.concat_eq_append]⟩
  rw [List.reverse_append,List.reverse_singleton,List.singleton_append] at dv
  obtain ⟨s1,wr,rfl⟩:∃ s1 wr,ws=s1::wr:=by
   cases ws with
   | nil=>simp only [S.ds] at dv; cases dv
   | cons a r=>exact ⟨a,r,rfl⟩
  simp only [S.ds] at dv
  have ⟨dy1,dz⟩:DT K H' y s1.d∧DTs K H' zs.reverse (S.ds wr):=by
   cases dv with
   | cons a r=>exact ⟨a,r⟩
  refine ⟨fun σ' H'=>∃ m',m'<m∧yO K H (.ref bb) b m' σ' H',fun _ _ z=>z,?_⟩
  refine ⟨_,rfl,.inl ⟨rfl,_,SqL.of hwl⟩,wl,_,y,rfl,rfl,hwl,by simp,?_⟩
  rw [List.dropLast_concat]
  have k1:Tk H' (upd H' wl (.lst zs)):=bI hwl _
  have htl1:(upd H' wl (.lst zs)) tl=some (.lst ys):=by rw [ax hne]; exact htl
  have lys:=dy.len
  rw [S.ds_len] at lys
  have lzs:=dz.len
  rw [S.ds_len,List.length_reverse] at lzs
  have cw:=cN wr
  simp only [S.cnts] at lt em
  have cs:=ny s1
  refine ⟨_,rfl,.inl ⟨rfl,_,SqL.of htl1⟩,_,rfl,tl,_,y,rfl,rfl,htl1,by rw [sizeLine_eq]; omega,?_⟩
  have k2:Tk H' (upd (upd H' wl (.lst zs)) tl (.lst (ys++[y]))):=k1.trans (bI htl1 _)
  have G2:aE H (upd (upd H' wl (.lst zs)) tl (.lst (ys++[y]))):=aU tl0 (aU wl0 GH)
  have hwl2:(upd (upd H' wl (.lst zs)) tl (.lst (ys++[y]))) wl=some (.lst zs):=by rw [ax (Ne.symm hne)]; exact ad
  have htl2:(upd (upd H' wl (.lst zs)) tl (.lst (ys++[y]))) tl=some (.lst (ys++[y])):=ad
  generalize hH2:(upd (upd H' wl (.lst zs)) tl (.lst (ys++[y])))=H2 at k2 G2 hwl2 htl2
  refine ⟨_,rfl,y,s1,rfl,dy1.mono k2,fun r bs H3 g3 hr0 hr3 db=>?_⟩
  have htl3:=g3 _ _ htl2
  have hwl3:=g3 _ _ hwl2
  have hrt:r≠tl:=fun z=>by rw [z,htl2] at hr0; cases hr0
  have hrw:r≠wl:=fun z=>by rw [z,hwl2] at hr0; cases hr0
  have hlb:bs.length=s1.bods.length:=by rw [db.len,List.length_map]
  refine ⟨r,bs,rfl,SqL.of hr3,wj (xs:=bs) (fun i σ H5=>∃ m4' vs5,σ=[some (.ref bb),some (.ref tl),some (.ref wl),some y,m4']∧aE H H5∧Tk H3 H5∧H5 tl=some (.lst (ys++[y]))∧H5 r=some (.lst bs)∧H5 wl=some (.lst vs5) ∧
   DTs K H5 vs5.reverse (S.ds ((s1.bods.reverse.take i).reverse.flatten++wr))) ⟨m4,zs,rfl,G2.trans g3,fun _ _ z=>z,htl3,hr3,hwl3,by simpa using (dz.mono k2).mono (aa g3)⟩ (fun i σ H5 _ p=>?_) (fun i x σ H5 hx p=>?_) (fun σ H5 p=>?_)⟩
  ·obtain ⟨_,_,rfl,_,_,_,h,_⟩:=p
   exact SqL.of h
  ·obtain ⟨m4',vs5,rfl,G5,k5,ht5,hr5,hw5,dv5⟩:=p
   have dbr:=(db.mono k5).rev
   obtain ⟨dd,hdd,dx⟩:=dbr.get i x hx
   rw [← List.map_reverse,List.getElem?_map] at hdd
   obtain ⟨B,hB,rfl⟩:=Option.map_eq_some_iff.mp hdd
   obtain ⟨p,xp,rfl,hp,dp⟩:=DT.open dx
   refine ⟨_,rfl,.inl ⟨rfl,_,SqL.of hw5⟩,_,rfl,p,xp,rfl,.inr (SqT.of hp),fun l hl=>?_⟩
   have gl:=ae hl (.lst xp.reverse)
   have hw6:=gl _ _ hw5
   have es:(s1.bods.reverse.take (i+1)).reverse.flatten=B++(s1.bods.reverse.take i).reverse.flatten:=by
    rw [List.take_add_one,hB]
    simp
   have dn:DTs K H5 (vs5++xp.reverse).reverse (S.ds ((s1.bods.reverse.take (i+1)).reverse.flatten++wr)):=by
    rw [es,List.reverse_append,List.reverse_reverse,List.append_assoc,S.ds_app]
    exact DTs.append dp dv5
   have ln:=dn.len
   rw [S.ds_len,List.length_reverse,List.length_append] at ln
   have cl:=cN ((s1.bods.reverse.take (i+1)).reverse.flatten++wr)
   have cb:S.cnts (s1.bods.reverse.take (i+1)).reverse.flatten≤S.cnts s1.bods.flatten:=by
    have e1:(s1.bods.reverse.take (i+1)).reverse=s1.bods.drop (s1.bods.length - (i+1)):=by rw [List.take_reverse,List.reverse_reverse]
    rw [e1]
    conv=>rhs; rw [← List.take_append_drop (s1.bods.length - (i+1)) s1.bods]
    rw [List.flatten_append,S.cnts_app]
    omega
   rw [S.cnts_app] at cl
   rw [List.length_append] at ln
   refine ⟨wl,l,_,_,rfl,rfl,hw6,ad,by rw [sizeLine_eq]; rw [List.length_append] at cl; omega,?_⟩
   have k6:Tk H5 _:=(aa gl).trans (bI hw6 (.lst (vs5++xp.reverse)))
   have hwr5:wl≠r:=Ne.symm hrw
   refine ⟨_,_,rfl,aU wl0 (G5.trans gl),k5.trans k6,by rw [ax hne]; exact gl _ _ ht5,by rw [ax hrw]; exact gl _ _ hr5,ad,dn.mono k6⟩
  ·obtain ⟨m4',vs5,rfl,G5,k5,ht5,hr5,hw5,dv5⟩:=p
   have ee:(s1.bods.reverse.take bs.length).reverse.flatten=s1.bods.flatten:=by
    rw [hlb,← List.length_reverse (as:=s1.bods),List.take_length,List.reverse_reverse]
   rw [ee] at dv5
   refine ⟨S.cnts (s1.bods.flatten++wr),by rw [S.cnts_app]; omega,_,_,tl,wl,_,vs5,ts++[s1],s1.bods.flatten++wr,rfl,G5,tl0,wl0,hne,ht5,hw5,?_,dv5,?_,rfl⟩
   ·rw [S.ds_snoc]
    exact DTs.snoc (((dy1.mono k2).mono (aa g3)).mono k5) (((dy.mono k2).mono (aa g3)).mono k5)
   ·rw [ef,dO]
    simp only [S.flats,wJ s1,List.append_assoc,List.singleton_append,List.cons_append,List.nil_append]
 ·have hv:vs=[]:=by
   cases vs with
   | nil=>rfl
   | cons a r=>exact absurd rfl cc
  subst hv
  have hw':ws=[]:=by
   cases ws with
   | nil=>rfl
   | cons a r=>simp only [S.ds] at dv; cases dv
  subst hw'
  refine ⟨_,rfl,?_⟩
  refine q tl ys H' GH tl0 htl ?_
  rw [ef]
  simpa [S.flats] using dy
abbrev vB:List Str:=["statement", "told", "body"]
theorem gb:aF vB ["statement"] (defScope iM):=⟨rfl,rfl,rfl,by decide +kernel,rfl,by decide +kernel,by decide +kernel⟩
def oI (K:Frag):Sp:=fun vs H Q _=>∃ u s,vs=[u]∧DT K H u (S.d s)∧s.cnt≤1000∧∀ r ys H',aE H H'→H r=none→H' r=some (.lst ys)→DTs K H' ys (S.ds (S.flats s.bods.flatten))→Q (.ref r) H'
theorem fD:∀ {l:List (List S)} {i:Nat} {B:List S},l[i]?=some B→S.cnts (l.take i).flatten+S.cnts B≤S.cnts l.flatten
 | [],i,B,h=>by simp at h
 | a::r,0,B,h=>by
  have h':a=B:=by simpa using h
  subst h'
  simp [S.cnts,S.cnts_app]
 | a::r,i+1,B,h=>by
  have:=fD (l:=r) (i:=i) (B:=B) (by simpa using h)
  simp only [List.take_succ_cons,List.flatten_cons,S.cnts_app]
  omega
theorem sJ (T:G0 mg) (F:Fun K "within" "within" iM f fd) (D_bodies_of:Cal P w K mg base 1 "bodies_of" ["statement"] (mx K)) (D_lines_in:Cal P w K mg base 2 "lines_in" ["body"] (xS K)):bg P w K mg base CX0 3 f fd ["statement"] (oI K):=by
 obtain ⟨g_bodies_of,gd_bodies_of,G_bodies_of,b_bodies_of,k_bodies_of,m_bodies_of⟩:=D_bodies_of.ex
 obtain ⟨g_lines_in,gd_lines_in,G_lines_in,b_lines_in,k_lines_in,m_lines_in⟩:=D_lines_in.ex
 refine F.ok gb (fun vs H Q EX h=>?_) (fun cdv A outer s H vs Q EX hr h=>?_)
 ·obtain ⟨u,b,rfl,_⟩:=h
  rfl
 obtain ⟨u,s1,rfl,hu,hc,q⟩:=h
 have cs:=ny s1
 refine ⟨_,(@ah _ _ _ _ _ (@aA _ _ 1 _ _ _ _ gb.nd rfl (Or.inl rfl) (@bm _ _ _ _ ag) (aj rfl) (.inr rfl)) (@ah _ _ _ _ _ (@cr _ _ _ _ _ _ _ _ PassesOwn.never rfl (eG (@aB _ _ _ _ _ _ _ _ _ _ _ _ _ _ _ _ G_bodies_of (hr.mono (by omega)) rfl m_bodies_of k_bodies_of b_bodies_of .nil aI (@ac _ _ _ _ _ (pv 0) ag (ab rfl)) (by decide) (ab rfl) (am rfl))) (bC (i:=2) gb.nd rfl (Or.inl rfl)) (@ap _ _ _ (@bq _ _ _ _ (@dS _ _ _ _ _ _ _ _ _ _ _ _ PySem.F.plainAttrs_list PySem.F.slot_list_extend PySem.F.type_list_extend fB (pv 1) (@ac _ _ _ _ _ (@aB _ _ _ _ _ _ _ _ _ _ _ _ _ _ _ _ G_lines_in (hr.mono (by omega)) rfl m_lines_in k_lines_in b_lines_in .nil aI (@ac _ _ _ _ _ (pv 2) ag (ab rfl)) (by decide) (ab rfl) (am rfl)) ag (ab rfl)) rfl (cm rfl rfl) rfl (ab rfl) (am rfl)) (aj rfl))) (fun _=>rfl)) (@ap _ _ _ (@aP _ _ _ _ (pv 1))))),?_⟩
 refine ⟨(by show 0≤sizeLine; decide),fun t0 ht0=>?_⟩
 have g0:=ae ht0 (.lst [])
 refine ⟨_,rfl,u,s1,rfl,hu.mono (aa g0),fun r bs H3 g3 hr0 hr3 db=>?_⟩
 have hrt:r≠t0:=fun z=>by rw [z,ad] at hr0; cases hr0
 have hlb:bs.length=s1.bods.length:=by rw [db.len,List.length_map]
 refine ⟨r,rfl,⟨bs,SqL.of hr3⟩,eL (xs:=bs) (fun i σ H5=>∃ m2 ys,σ=[some u,some (.ref t0),m2]∧aE H H5∧Tk H3 H5∧H5 r=some (.lst bs)∧H5 t0=some (.lst ys)∧DTs K H5 ys (S.ds (S.flats (s1.bods.take i).flatten)))
  ⟨none,[],rfl,g0.trans g3,fun _ _ z=>z,hr3,g3 _ _ ad,.nil⟩ (fun i σ H5 _ p=>?_) (fun i x σ H5 hx p=>?_) (fun σ H5 p=>?_)⟩
 ·obtain ⟨_,_,rfl,_,_,h,_⟩:=p
  exact SqL.of h
 ·obtain ⟨m2,ys,rfl,G5,k5,hr5,ht5,dy⟩:=p
  obtain ⟨dd,hdd,dx⟩:=(db.mono k5).get i x hx
  rw [List.getElem?_map] at hdd
  obtain ⟨B,hB,rfl⟩:=Option.map_eq_some_iff.mp hdd
  have cb:=fD hB
  refine ⟨_,rfl,.inl ⟨rfl,_,SqL.of ht5⟩,_,rfl,x,B,rfl,dx,by omega,fun r2 y2 H6 g6 hr20 h26 d26=>?_⟩
  have ht6:=g6 _ _ ht5
  have ly:=dy.len
  have ly2:=d26.len
  rw [S.ds_len,bE] at ly ly2
  refine ⟨t0,r2,_,_,rfl,rfl,ht6,h26,by rw [sizeLine_eq]; omega,?_⟩
  have k6:Tk H5 (upd H6 t0 (.lst (ys++y2))):=(aa g6).trans (bI ht6 _)
  have e:S.flats (s1.bods.take (i+1)).flatten=S.flats (s1.bods.take i).flatten++S.flats B:=by
   rw [List.take_add_one,hB,List.flatten_append,dO]
   simp
  refine ⟨_,_,rfl,aU ht0 (G5.trans g6),k5.trans k6,by rw [ax hrt]; exact g6 _ _ hr5,ad,?_⟩
  rw [e,S.ds_app]
  exact DTs.append (dy.mono k6) (d26.mono (bI ht6 _))
 ·obtain ⟨m2,ys,rfl,G5,k5,hr5,ht5,dy⟩:=p
  rw [hlb,List.take_length] at dy
  exact ⟨_,rfl,q t0 ys H5 G5 ht0 ht5 dy⟩
end
end K6
namespace L2
open PySem PySem.Spec PyProof.Rows
section
variable {X:Cx} {o e:Expr} {apos cpos:Pos} {td ty:TE}
structure KDv (K:Frag) (w:World) (a:Addr):Prop where
 ex:∃ es n,K.lookup a=some ⟨.type "dict",none,.dict es n,#[]⟩∧KeysLit w.params es.toList
 lo:(a==sysModules)=false
theorem tE {a:Addr} (h:KDv X.K X.w a):OpR X (compareOp .In) (fun x y H Q=>∃ z r,x=.str z∧y=.ref a∧PySem.W.nsIn X.K a z=some r∧Q (.bl r.isSome) H):=by
 intro pins s σ H x y v u Q I rx ry hh
 obtain ⟨z,r,rfl,rfl,e,q⟩:=hh
 obtain ⟨t,rfl⟩:=rx
 cases ry
 obtain ⟨es,n,hl,hk⟩:=h.ex
 have mo:=PySem.W.mapOf_K (prog:=X.prog) (w:=X.w) I.kIn hl hk
 refine wpAny_in_of (strKind_is X.prog X.w z t) h.lo mo ⟨.bl r.isSome,H,I.tok _,?_,q⟩
 rw [PySem.W.find_K hl e]
 rfl
theorem xZ {a:Addr} (h:KDv X.K X.w a):IxR X (fun x y H Q=>∃ z u v,x=.ref a∧y=.str z∧PySem.W.nsIn X.K a z=some (some u)∧aJ v u∧Q v H):=by
 intro value slice pins s σ H x y v u Q I rx ry hh hs
 obtain ⟨z,u',v',rfl,rfl,e,rv,q⟩:=hh
 cases rx
 obtain ⟨t,rfl⟩:=ry
 obtain ⟨es,n,hl,hk⟩:=h.ex
 have mo:=PySem.W.mapOf_K (prog:=X.prog) (w:=X.w) I.kIn hl hk
 have fin:EP X pins σ Q u' { s with toks:=s.toks+1 }:=⟨v',H,I.tok _,rv,q⟩
 exact subscriptTail_builtinR (x:=u') mo.typeIs PySem.F.slot_dict_getitem.lookup (wpAny_getItem_of (Q:=fun r s'=>r=_∧EP X pins σ Q r s') (strKind_is X.prog X.w z t) mo (PySem.W.find_K hl e) ⟨rfl,fin⟩) hs
end
end L2
namespace K6
open PySem L2
def LIT:List (Str×Int):=[("call",3),("new",2),("rows",1)]
def PL8:List (Str×List Int):=[("let",[2]),("say",[2]),("if",[1]),("while",[1]),("give",[1]),("num",[]),("text",[]),("var",[]),("of",[1]),("with",[1,3]),("add",[1,2]),("sub",[1,2]),("times",[2]),("div",[1]),("rest",[1]),("len",[1]),("at",[1,2]),("put",[1,2,3]),("more",[1,2]),("signs",[1]),("less",[1,2]),("same",[1,2]),("and",[1,2]),("or",[1,2]),("not",[1])]
structure GP8 (K:Frag) (w:World) (mg:Str→Option Value):Prop where
 sh:∃ aS,mg "SHAPES"=some (.ref aS)∧KDv K w aS∧∀ p∈PL8,∃ a b s n,PySem.W.nsIn K aS p.1=some (some (.ref a))∧(∀ H,SqT K H a [.str s,.int n,.ref b])∧∀ H,SqT K H b (p.2.map V.int)
 li:∃ aL,mg "LISTED"=some (.ref aL)∧KDv K w aL∧(∀ p∈LIT,∃ t,PySem.W.nsIn K aL p.1=some (some (.int p.2 t)))∧∀ p∈PL8,PySem.W.nsIn K aL p.1=some none
def sY (H:Hp) (z:Str) (rs L:List V):Prop :=
 (∃ ps:List Int,(z,ps)∈PL8∧L.length=ps.length∧ps.length≤3∧∀ (i:Nat) (p:Int),ps[i]?=some p→∃ y,atI (.str z::rs) p=some y∧L[i]?=some y) ∨
 ∃ p al,(z,p)∈LIT∧atI (.str z::rs) p=some (.ref al)∧H al=some (.tup L)
theorem ka {z:Str} {rs L:List V} {ps:List Int} (e:ps.map (fun p=>atI (.str z::rs) p)=L.map some) (i:Nat) (p:Int) (h:ps[i]?=some p):∃ y,atI (.str z::rs) p=some y∧L[i]?=some y:=by
 have h1:=congrArg (fun l=>l[i]?) e
 simp only [List.getElem?_map,h,Option.map_some] at h1
 cases hL:L[i]? with
 | none=>rw [hL] at h1; cases h1
 | some y=>rw [hL] at h1; exact ⟨y,Option.some.inj h1,rfl⟩
section
variable {P:Program} {w:World} {K:Frag} {mg:Str→Option Value} {base:Heap} {f g:Addr} {fd gd:FuncData}
abbrev iF:List Str:=["shaped", "word"]
abbrev dW:List Str:=["place", "shaped"]
theorem iB:dW.Nodup:=by decide +kernel
theorem gO:aF iF ["shaped"] (defScope cX):=⟨rfl,rfl,rfl,by decide +kernel,rfl,by decide +kernel,by decide +kernel⟩
def rV:Sp:=fun vs H Q _=>∃ a z rs L,vs=[.ref a]∧H a=some (.tup (.str z::rs))∧sY H z rs L∧∀ r H',aE H H'→H r=none→H' r=some (.lst L)→Q (.ref r) H'
theorem yi (TP:GP8 K w mg) (T:G0 mg) (F:Fun K "inner_of" "inner_of" cX f fd):bg P w K mg base CX0 1 f fd ["shaped"] rV:=by
 obtain ⟨aS,mS_,kS,hS⟩:=TP.sh
 obtain ⟨aL,mL,kL,hLs,hLn⟩:=TP.li
 refine F.ok gO (fun vs H Q EX h=>?_) (fun cdv A outer s H vs Q EX hr h=>?_)
 ·obtain ⟨a,z,rs,L,rfl,_⟩:=h
  rfl
 obtain ⟨a,z,rs,L,rfl,ha,h,q⟩:=h
 refine ⟨_,(@ah _ _ _ _ _ (@aA _ _ 1 _ _ _ _ gO.nd rfl (Or.inl rfl) (@ay _ _ _ _ _ _ _ aH (pv 0) ak (fun _ _=>rfl)) (aj rfl) (.inr rfl)) (@ah _ _ _ _ _ (@aZ _ _ _ _ _ _ _ _ (@aC _ _ _ _ _ _ _ _ (tE kL) (pv 1) (eS (v:=.ref aL) rfl mL rfl) rfl) (@ap _ _ _ (@aP _ _ _ _ (@dJ _ _ _ _ _ _ _ _ _ ml rfl T.list vT (@ac _ _ _ _ _ (@ay _ _ _ _ _ _ _ aH (pv 0) (@ay _ _ _ _ _ _ _ (xZ kL) (eS (v:=.ref aL) rfl mL rfl) (pv 1) (fun _ _=>rfl)) (fun _ _=>rfl)) ag (ab rfl)) (by decide) (by decide) (ab rfl) (am rfl)))) aM) (@ap _ _ _ (@aP _ _ _ _ (wP (N':=dW) (ρ:=[none,some 0]) (m:=1) (gQ.of (fs:=defScope cX) (N:=iF) rfl rfl (by decide +kernel)) rfl (ja (ay aH (ay (xZ kS) (eS (v:=.ref aS) rfl mS_ rfl) (pv 1) (fun _ _=>rfl)) ak (fun _ _=>rfl))) (fun _ _ _ _=>(bC (i:=0) iB rfl (Or.inl rfl))) (fun _ _ _ _=>rB) (fun _ _ _ _=>(ay (wQ (K:=K) rfl) (pv 1) (pv 0) (fun _ _=>rfl)))))))),?_⟩
 refine ⟨_,rfl,a,_,_,_,rfl,rfl,SqT.of ha,at0 _ _,?_⟩
 rcases h with ⟨ps,hm,lL,lp,hp⟩ | ⟨p,al,hm,hp,hal⟩
 ·obtain ⟨aw,bw,sw,nw,g1,g2,g3⟩:=hS (z,ps) hm
  refine ⟨_,rfl,_,none,rfl,rfl,hLn (z,ps) hm,_,rfl,zB ⟨_,rfl,_,_,.ref aw,rfl,rfl,g1,rfl,aw,_,_,_,rfl,rfl,g2 _,rfl,bw,rfl,⟨_,g3 _⟩,?_⟩⟩
  refine uk (xs:=ps.map V.int) ps.length (by rw [List.length_map]) (by omega) (fun i acc H4=>H4=H∧acc=L.take i) ⟨rfl,rfl⟩ (fun i acc H4 p=>g3 _) (fun i acc H4 x hi la hx p=>?_) (fun acc H4 p la D hD=>?_)
  ·obtain ⟨rfl,rfl⟩:=p
   rw [List.getElem?_map] at hx
   obtain ⟨pp,hpp,rfl⟩:=Option.map_eq_some_iff.mp hx
   obtain ⟨y,hy1,hy2⟩:=hp i pp hpp
   exact ⟨⟨rfl,rfl⟩,rT ⟨_,rfl,_,rfl,a,_,_,_,rfl,rfl,SqT.of ha,hy1,nxT (by omega) hi la ⟨rfl,by rw [List.take_add_one,hy2]; rfl⟩⟩⟩
  ·obtain ⟨rfl,rfl⟩:=p
   rw [← lL,List.take_length]
   exact q D _ (ae hD _) hD ad
 ·obtain ⟨t,ht⟩:=hLs (z,p) hm
  exact ⟨_,rfl,_,_,rfl,rfl,ht,_,rfl,mJ ⟨_,rfl,_,rfl,_,_,.int p,rfl,rfl,ht,⟨_,rfl⟩,a,_,_,_,rfl,rfl,SqT.of ha,hp,al,_,rfl,.inr (SqT.of hal),fun l hl2=>q l _ (ae hl2 _) hl2 ad⟩⟩
end
open PySem L2
theorem eqS {a b:Str} (h:decide (V.str a=V.str b)=true):a=b:=V.str.inj (of_decide_eq_true h)
theorem neS {a b:Str} (h:¬ decide (V.str a=V.str b)=true):¬ a=b:=fun z=>h (decide_eq_true (by rw [z]))
structure Fn where
 nm:Str
 ps:List (Str×Str)
 ls:List (Str×Str)
 gv:Str
 bd:List S
def flD (p:Str×Str):PyData:=.tuple [.str p.1,.str p.2]
def wO (l:List (Str×Str)):PyData:=.tuple (l.map flD)
def Fn.d (F:Fn):PyData:=.tuple [.str F.nm,wO F.ps,wO F.ls,.str F.gv,nG F.bd]
def pgD (FS:List Fn):PyData:=.tuple [.tuple [],.tuple (FS.map Fn.d)]
theorem dP {K:Frag} {H:Hp} {u:V} {F:Fn} (h:DT K H u F.d):∃ a pa la ba,u=.ref a∧H a=some (.tup [.str F.nm,pa,la,.str F.gv,ba])∧DT K H pa (wO F.ps)∧DT K H la (wO F.ls)∧DT K H ba (nG F.bd):=by
 unfold Fn.d at h
 obtain ⟨a,xs,rfl,ha,d⟩:=op0 h
 obtain ⟨x1,r1,rfl,h1,d⟩:=d.open
 obtain ⟨x2,r2,rfl,h2,d⟩:=d.open
 obtain ⟨x3,r3,rfl,h3,d⟩:=d.open
 obtain ⟨x4,r4,rfl,h4,d⟩:=d.open
 cases d
 obtain rfl:=h3.str_inv
 exact ⟨a,x1,x2,x4,rfl,ha,h1,h2,h4⟩
theorem wG {K:Frag} {H:Hp} {u:V} {FS:List Fn} (h:DT K H u (pgD FS)):∃ a r fs xs,u=.ref a∧H a=some (.tup [r,.ref fs])∧H fs=some (.tup xs)∧DTs K H xs (FS.map Fn.d):=by
 unfold pgD at h
 obtain ⟨a,xs,rfl,ha,d⟩:=h.open
 obtain ⟨x1,r1,rfl,h1,d⟩:=d.open
 obtain ⟨x2,r2,rfl,h2,d⟩:=d.open
 cases d
 obtain ⟨fs,ys,rfl,hfs,dys⟩:=h2.open
 exact ⟨a,x1,fs,ys,rfl,ha,hfs,dys⟩
theorem oy {K:Frag} {H:Hp}:∀ {xs:List V} {l:List (Str×Str)},DTs K H xs (l.map flD)→Paired (rL K H) xs (l.map fun p=>(p.1,V.str p.2))
 | _,[],.nil=>.nil
 | _,p::l,h=>by
  rw [List.map_cons] at h
  obtain ⟨x,r,rfl,h1,h2⟩:=h.open
  obtain ⟨a,y,rfl,ha,hy⟩:=op1 h1
  obtain rfl:=hy.str_inv
  exact .cons ⟨a,rfl,SqT.of ha⟩ (oy h2)
def nmb:Int→List S→List (Int×S)
 | _,[]=>[]
 | k,s::r=>(k,s)::nmb (k+(s.cnt:Int)) r
def tkD (t:Int×S):PyData:=.tuple [.int t.1,t.2.d]
def nbs:Int→List (List S)→List (List (Int×S))
 | _,[]=>[]
 | k,b::r=>nmb k b::nbs (k+(S.cnts b:Int)) r
theorem mK:∀ (k:Int) (b:List S),(nmb k b).length=b.length
 | _,[]=>rfl
 | k,s::r=>by simp only [nmb,List.length_cons,mK]
theorem oa:∀ (k:Int) (b:List S) (i:Nat) (s:S),b[i]?=some s→nmb k (b.take (i+1))=nmb k (b.take i)++[(k+(S.cnts (b.take i):Int),s)]
 | k,[],i,s,h=>by simp at h
 | k,a::r,0,s,h=>by
  have:a=s:=by simpa using h
  subst this
  simp [nmb,S.cnts]
 | k,a::r,i+1,s,h=>by
  have:=oa (k+(a.cnt:Int)) r i s (by simpa using h)
  simp only [List.take_succ_cons,nmb,this,S.cnts,List.cons_append,Int.natCast_add]
  rw [Int.add_assoc]
theorem nN:∀ (k:Int) (b:List (List S)) (i:Nat) (s:List S),b[i]?=some s→nbs k (b.take (i+1))=nbs k (b.take i)++[nmb (k+(S.cnts (b.take i).flatten:Int)) s]
 | k,[],i,s,h=>by simp at h
 | k,a::r,0,s,h=>by
  have:a=s:=by simpa using h
  subst this
  simp [nbs,S.cnts]
 | k,a::r,i+1,s,h=>by
  have:=nN (k+(S.cnts a:Int)) r i s (by simpa using h)
  simp only [List.take_succ_cons,nbs,this,List.flatten_cons,S.cnts_app,List.cons_append,Int.natCast_add]
  rw [Int.add_assoc]
theorem lE:∀ (b:List S) (i:Nat) (s:S),b[i]?=some s→S.cnts (b.take (i+1))=S.cnts (b.take i)+s.cnt∧S.cnts (b.take i)+s.cnt≤S.cnts b
 | [],i,s,h=>by simp at h
 | a::r,0,s,h=>by
  have:a=s:=by simpa using h
  subst this
  simp [S.cnts]
 | a::r,i+1,s,h=>by
  have:=lE r i s (by simpa using h)
  simp only [List.take_succ_cons,S.cnts,this.1]
  omega
section
variable {P:Program} {w:World} {K:Frag} {mg:Str→Option Value} {base:Heap} {f g:Addr} {fd gd:FuncData}
abbrev kj:List Str:=["program", "f", "function"]
theorem dG:aF kj ["program", "f"] (defScope cH):=⟨rfl,rfl,rfl,by decide +kernel,rfl,by decide +kernel,by decide +kernel⟩
def wb (K:Frag):Sp:=fun vs H Q _=>∃ v z FS F,vs=[v,.str z]∧DT K H v (pgD FS)∧FS.find? (fun F=>decide (F.nm=z))=some F∧∀ u,DT K H u F.d→Q u H
theorem zR (F:Fun K "function_of" "function_of" cH f fd):bg P w K mg base CX0 1 f fd ["program", "f"] (wb K):=by
 refine F.ok dG (fun vs H Q EX h=>?_) (fun cdv A outer s H vs Q EX hr h=>?_)
 ·obtain ⟨v,z,FS,F,rfl,_⟩:=h
  rfl
 obtain ⟨v,z,FS,F,rfl,hp,hf,q⟩:=h
 obtain ⟨a,r,fs,fx,rfl,ha,hfs,dfx⟩:=wG hp
 refine ⟨_,(@ah _ _ _ _ _ (@cr _ _ _ _ _ _ _ _ PassesOwn.never rfl (ja (@ay _ _ _ _ _ _ _ aH (pv 0) ak (fun _ _=>rfl))) (bC (i:=2) dG.nd rfl (Or.inl rfl)) (@ap _ _ _ (@aZ _ _ _ _ _ _ _ _ (@aC _ _ _ _ _ _ _ _ bD (@ay _ _ _ _ _ _ _ aH (pv 2) ak (fun _ _=>rfl)) (pv 1) (aQ _)) (@ap _ _ _ (@aP _ _ _ _ (pv 2))) aM)) (fun _=>rfl)) (@ap _ _ _ (@aP _ _ _ _ dC))),?_⟩
 refine ⟨_,rfl,a,_,_,_,rfl,rfl,SqT.of ha,rfl,fs,rfl,⟨fx,SqT.of hfs⟩,hJ (xs:=fx) (fun i σ H'=>∃ m,σ=[some (.ref a),some (.str z),m]∧H'=H∧(FS.drop i).find? (fun F=>decide (F.nm=z))=some F) ⟨none,rfl,rfl,hf⟩ (fun i σ H' _ p=>?_) (fun i x σ H' hx p=>?_) (fun σ H' p=>?_)⟩
 ·obtain ⟨_,_,rfl,_⟩:=p
  exact SqT.of hfs
 ·obtain ⟨m,rfl,rfl,e⟩:=p
  obtain ⟨dd,hdd,dx⟩:=dfx.get i x hx
  rw [List.getElem?_map] at hdd
  obtain ⟨G,hG,rfl⟩:=Option.map_eq_some_iff.mp hdd
  obtain ⟨c,p1,q1,bb,rfl,hc,r1,r2,r3⟩:=dP dx
  refine ⟨_,rfl,c,_,_,_,rfl,rfl,SqT.of hc,rfl,_,rfl,rfl,_,rfl,?_⟩
  obtain ⟨hi,ee⟩:=List.getElem?_eq_some_iff.mp hG
  rw [List.drop_eq_getElem_cons hi,ee,List.find?_cons] at e
  refine aY (fun cc=>?_) (fun cc=>?_)
  ·have ck:G.nm=z:=eqS cc
   rw [decide_eq_true ck] at e
   obtain rfl:=Option.some.inj e
   exact ⟨_,rfl,q _ dx⟩
  ·have ck:¬ G.nm=z:=neS cc
   rw [decide_eq_false ck] at e
   exact ⟨_,rfl,rfl,e⟩
 ·obtain ⟨m,rfl,rfl,e⟩:=p
  have lx:=dfx.len
  rw [List.length_map] at lx
  rw [lx,List.drop_length] at e
  cases e
abbrev gI:List Str:=["function"]
theorem eO:aF gI ["function"] (defScope bN):=⟨rfl,rfl,rfl,by decide +kernel,rfl,by decide +kernel,by decide +kernel⟩
abbrev Ay (Vs:List (Str×Str)):List (Key×V):=Vs.map fun p=>(Sum.inr p.1,V.str p.2)
def vo (K:Frag):Sp:=fun vs H Q _=>∃ u F,vs=[u]∧DT K H u (Fn.d F)∧((F.ps++F.ls).map (·.1)).Nodup∧(F.ps++F.ls).length≤10∧∀ kk H',aE H H'→H kk=none→H' kk=some (.dK (Ay (F.ps++F.ls)))→Q (.ref kk) H'
theorem wx (T:G0 mg) (F:Fun K "variable_kinds" "variable_kinds" bN f fd):bg P w K mg base CX0 1 f fd ["function"] (vo K):=by
 refine F.ok eO (fun vs H Q EX h=>?_) (fun cdv A outer s H vs Q EX hr h=>?_)
 ·obtain ⟨u,F,rfl,_⟩:=h
  rfl
 obtain ⟨u,F,rfl,hF,hnd,hl,q⟩:=h
 obtain ⟨a,p,q',bb,rfl,ha,h1,h2,h3⟩:=dP hF
 obtain ⟨pa,px,rfl,hpa,ppx⟩:=h1.open
 obtain ⟨qa,qx,rfl,hqa,pqx⟩:=h2.open
 refine ⟨_,(@ap _ _ _ (@aP _ _ _ _ (@dJ _ _ _ _ _ _ _ _ _ (oR rfl) rfl T.dict xF (@ac _ _ _ _ _ (@aO _ _ _ _ _ _ _ _ (wA.or uP) (@ay _ _ _ _ _ _ _ aH (pv 0) ak (fun _ _=>rfl)) (@ay _ _ _ _ _ _ _ aH (pv 0) ak (fun _ _=>rfl))) ag (ab rfl)) (by decide) (by decide) (ab rfl) (am rfl)))),?_⟩
 have l1:=ppx.len
 have l2:=pqx.len
 rw [List.length_map] at l1 l2
 have lpq:px.length+qx.length≤10:=by rw [l1,l2,← List.length_append]; exact hl
 refine ⟨_,rfl,a,_,_,_,rfl,rfl,SqT.of ha,rfl,_,rfl,a,_,_,_,rfl,rfl,SqT.of ha,rfl,?_⟩
 refine xM hpa hqa (by omega) fun pc H1 g1 hpc=>?_
 have pall:Paired (rL K H1) (px++qx) ((F.ps++F.ls).map fun p=>(p.1,V.str p.2)):=oy (by rw [List.map_append]; exact (ppx.append pqx).mono (aa g1))
 refine ⟨pc,px++qx,(F.ps++F.ls).map fun p:Str×Str=>(p.1,V.str p.2),rfl,hpc,by rw [List.length_append]; omega,by rw [List.map_map]; exact hnd,pall,fun l hl2=>?_⟩
 refine q l _ (g1.trans (ae hl2 _)) (g1.free hl2) ?_
 rw [ad,List.map_map]
 rfl
abbrev pq:List Str:=["body", "first", "told", "number", "statement"]
theorem bV:aF pq ["body", "first"] (defScope dY):=⟨rfl,rfl,rfl,by decide +kernel,rfl,by decide +kernel,by decide +kernel⟩
def uw (K:Frag):Sp:=fun vs H Q _=>∃ u b k,vs=[u,.int k]∧DT K H u (nG b)∧S.cnts b≤1000∧∀ r ys H',aE H H'→H r=none→H' r=some (.lst ys)→DTs K H' ys ((nmb k b).map tkD)→Q (.ref r) H'
theorem xI (T:G0 mg) (F:Fun K "numbered" "numbered" dY f fd) (D_within:Cal P w K mg base 3 "within" ["statement"] (oI K)):bg P w K mg base CX0 4 f fd ["body", "first"] (uw K):=by
 obtain ⟨g_within,gd_within,G_within,b_within,k_within,m_within⟩:=D_within.ex
 refine F.ok bV (fun vs H Q EX h=>?_) (fun cdv A outer s H vs Q EX hr h=>?_)
 ·obtain ⟨u,b,k,rfl,_⟩:=h
  rfl
 obtain ⟨u,b,k,rfl,hu,hc,q⟩:=h
 obtain ⟨bb,xs,rfl,hbb,dxs⟩:=DT.open hu
 refine ⟨_,(@ah _ _ _ _ _ (@aA _ _ 2 _ _ _ _ bV.nd rfl (Or.inl rfl) (@bm _ _ _ _ ag) (aj rfl) (.inr rfl)) (@ah _ _ _ _ _ (@aA _ _ 3 _ _ _ _ bV.nd rfl (Or.inl rfl) (pv 1) (aj rfl) (.inr rfl)) (@ah _ _ _ _ _ (@cr _ _ _ _ _ _ _ _ PassesOwn.never rfl (ja (pv 0)) (bC (i:=4) bV.nd rfl (Or.inl rfl)) (@ah _ _ _ _ _ (@bq _ _ _ _ (@dS _ _ _ _ _ _ _ _ _ _ _ _ PySem.F.plainAttrs_list PySem.F.slot_list_append PySem.F.type_list_append bQ (pv 2) (@ac _ _ _ _ _ (@ar _ _ _ _ _ (@ac _ _ _ _ _ (pv 3) (@ac _ _ _ _ _ (pv 4) ag (ab rfl)) (ab rfl))) ag (ab rfl)) rfl (cm rfl rfl) rfl (ab rfl) (am rfl)) (aj rfl)) (@ap _ _ _ (tm (i:=3) bV.nd rfl (Or.inl rfl) (@aO _ _ _ _ _ _ _ _ bG ak (@br _ _ _ _ _ _ _ _ _ bL rfl T.len ol (@ac _ _ _ _ _ (@aB _ _ _ _ _ _ _ _ _ _ _ _ _ _ _ _ G_within (hr.mono (by omega)) rfl m_within k_within b_within .nil aI (@ac _ _ _ _ _ (pv 4) ag (ab rfl)) (by decide) (ab rfl) (am rfl)) ag (ab rfl)) (by decide) (by decide) (ab rfl) (am rfl))) vc))) (fun _=>rfl)) (@ap _ _ _ (@aP _ _ _ _ (pv 2)))))),?_⟩
 refine ⟨(by show 0≤sizeLine; decide),fun t0 ht0=>?_⟩
 have g0:=ae ht0 (.lst [])
 have lx:=dxs.len
 rw [S.ds_len] at lx
 refine ⟨_,rfl,_,rfl,bb,rfl,⟨xs,SqT.of (g0 _ _ hbb)⟩,hJ (xs:=xs) (fun i σ H5=>∃ m4 ys,σ=[some (.ref bb),some (.int k),some (.ref t0),some (.int (k+(S.cnts (b.take i):Int))),m4]∧aE H H5∧H5 t0=some (.lst ys)∧DTs K H5 ys ((nmb k (b.take i)).map tkD))
  ⟨none,[],by rw [List.take_zero]; simp only [S.cnts]; rw [show (k+((0:Nat):Int))=k from by simp]; rfl,g0,ad,by rw [List.take_zero]; exact .nil⟩ (fun i σ H5 _ p=>?_) (fun i x σ H5 hx p=>?_) (fun σ H5 p=>?_)⟩
 ·obtain ⟨_,_,rfl,G5,_⟩:=p
  exact SqT.of (G5 _ _ hbb)
 ·obtain ⟨m4,ys,rfl,G5,ht5,dy⟩:=p
  obtain ⟨dd,hdd,dx⟩:=(dxs.mono (aa G5)).get i x hx
  rw [S.ds_eq,List.getElem?_map] at hdd
  obtain ⟨s1,hs1,rfl⟩:=Option.map_eq_some_iff.mp hdd
  have ⟨ct1,ct2⟩:=lE b i s1 hs1
  have ly:=dy.len
  rw [List.length_map,mK] at ly
  have cl:=cN b
  have hib:i<b.length:=(List.getElem?_eq_some_iff.mp hs1).1
  refine ⟨_,rfl,.inl ⟨rfl,_,SqL.of ht5⟩,_,rfl,_,rfl,(by show 2≤sizeLine; decide),fun p hp=>?_⟩
  have gp:=ae hp (.tup [.int (k+(S.cnts (b.take i):Int)),x])
  have ht6:=gp _ _ ht5
  refine ⟨t0,_,_,rfl,rfl,ht6,by rw [sizeLine_eq,ly,List.length_take]; omega,?_⟩
  have k6:Tk H5 (upd (upd H5 p (.tup [.int (k+(S.cnts (b.take i):Int)),x])) t0 (.lst (ys++[.ref p]))):=(aa gp).trans (bI ht6 _)
  have G6:aE H (upd (upd H5 p (.tup [.int (k+(S.cnts (b.take i):Int)),x])) t0 (.lst (ys++[.ref p]))):=aU ht0 (G5.trans gp)
  have ht7:(upd (upd H5 p (.tup [.int (k+(S.cnts (b.take i):Int)),x])) t0 (.lst (ys++[.ref p]))) t0=some (.lst (ys++[.ref p])):=ad
  have hp7:(upd (upd H5 p (.tup [.int (k+(S.cnts (b.take i):Int)),x])) t0 (.lst (ys++[.ref p]))) p=some (.tup [.int (k+(S.cnts (b.take i):Int)),x]):=(bI ht6 _) _ _ ad
  generalize (upd (upd H5 p (.tup [.int (k+(S.cnts (b.take i):Int)),x])) t0 (.lst (ys++[.ref p])))=H7 at k6 G6 ht7 hp7
  refine ⟨_,rfl,_,rfl,x,s1,rfl,dx.mono k6,by omega,fun r2 y2 H8 g8 hr20 h28 d28=>?_⟩
  have l28:=d28.len
  rw [S.ds_len,bE] at l28
  have cs:=ny s1
  refine ⟨r2,_,rfl,.inl (SqL.of h28),_,_,rfl,rfl,_,_,rfl,rfl,?_⟩
  refine ⟨some x,_,?_,G6.trans g8,g8 _ _ ht7,?_⟩
  ·rw [show (k+(S.cnts (b.take (i+1)):Int))=(k+(S.cnts (b.take i):Int))+(1+(y2.length:Int)) from by rw [ct1,cs,l28]; simp only [Int.natCast_add]; omega]
   rfl
  ·rw [oa k b i s1 hs1,List.map_append]
   exact DTs.append ((dy.mono k6).mono (aa g8)) (.cons (.tup (.inl (g8 _ _ hp7)) (.cons (.int _) (.cons ((dx.mono k6).mono (aa g8)) .nil))) .nil)
 ·obtain ⟨m4,ys,rfl,G5,ht5,dy⟩:=p
  rw [lx,List.take_length] at dy
  exact ⟨_,rfl,q t0 ys H5 G5 ht0 ht5 dy⟩
end
open PySem L2
theorem rQ {α β:Type} {R:α→β→Prop} {a:α} {b:β} (q:R a b):∀ {l:List α} {m:List β},Paired R l m→Paired R (l++[a]) (m++[b])
 | _,_,.nil=>.cons q .nil
 | _,_,.cons h t=>.cons h (rQ q t)
def tG (K:Frag) (t:Addr) (H:Hp) (v:V) (b:List (Int×S)):Prop:=∃ l ys,v=.ref l∧l≠t∧H l=some (.lst ys)∧DTs K H ys (b.map tkD)
theorem tG.mono {K:Frag} {t:Addr} {H H':Hp} (e:Ext t H H') (k:Tk H H') {v:V} {b:List (Int×S)} (h:tG K t H v b):tG K t H' v b:=by
 obtain ⟨l,ys,e1,n,h1,d⟩:=h
 exact ⟨l,ys,e1,n,e _ _ n h1,d.mono k⟩
structure GNo (K:Frag) (w:World) (mg:Str→Option Value):Prop where
 ex:∃ a,mg "NOUGHTS"=some (.ref a)∧KDv K w a∧∃ t,PySem.W.nsIn K a "num"=some (some (.int 0 t))
section
variable {P:Program} {w:World} {K:Frag} {mg:Str→Option Value} {base:Heap} {f g:Addr} {fd gd:FuncData}
abbrev eJ:List Str:=["k", "statement", "told", "first", "body"]
theorem bj:aF eJ ["k", "statement"] (defScope bH):=⟨rfl,rfl,rfl,by decide +kernel,rfl,by decide +kernel,by decide +kernel⟩
def vP (K:Frag):Sp:=fun vs H Q _=>∃ u s k,vs=[.int k,u]∧DT K H u (S.d s)∧s.cnt≤1000∧∀ r L H',aE H H'→H r=none→H' r=some (.lst L)→Paired (tG K r H') L (nbs (k+1) s.bods)→Q (.ref r) H'
theorem yj (T:G0 mg) (F:Fun K "numbered_bodies" "numbered_bodies" bH f fd) (D_bodies_of:Cal P w K mg base 1 "bodies_of" ["statement"] (mx K)) (D_lines_in:Cal P w K mg base 2 "lines_in" ["body"] (xS K)) (D_numbered:Cal P w K mg base 4 "numbered" ["body", "first"] (uw K)):bg P w K mg base CX0 5 f fd ["k", "statement"] (vP K):=by
 obtain ⟨g_bodies_of,gd_bodies_of,G_bodies_of,b_bodies_of,k_bodies_of,m_bodies_of⟩:=D_bodies_of.ex
 obtain ⟨g_lines_in,gd_lines_in,G_lines_in,b_lines_in,k_lines_in,m_lines_in⟩:=D_lines_in.ex
 obtain ⟨g_numbered,gd_numbered,G_numbered,b_numbered,k_numbered,m_numbered⟩:=D_numbered.ex
 refine F.ok bj (fun vs H Q EX h=>?_) (fun cdv A outer s H vs Q EX hr h=>?_)
 ·obtain ⟨u,b,k,rfl,_⟩:=h
  rfl
 obtain ⟨u,s1,k,rfl,hu,hc,q⟩:=h
 have cs:=ny s1
 refine ⟨_,(@ah _ _ _ _ _ (@aA _ _ 2 _ _ _ _ bj.nd rfl (Or.inl rfl) (@bm _ _ _ _ ag) (aj rfl) (.inr rfl)) (@ah _ _ _ _ _ (@aA _ _ 3 _ _ _ _ bj.nd rfl (Or.inl rfl) (@aO _ _ _ _ _ _ _ _ bG (pv 0) ak) (aj rfl) (.inr rfl)) (@ah _ _ _ _ _ (@cr _ _ _ _ _ _ _ _ PassesOwn.never rfl (eG (@aB _ _ _ _ _ _ _ _ _ _ _ _ _ _ _ _ G_bodies_of (hr.mono (by omega)) rfl m_bodies_of k_bodies_of b_bodies_of .nil aI (@ac _ _ _ _ _ (pv 1) ag (ab rfl)) (by decide) (ab rfl) (am rfl))) (bC (i:=4) bj.nd rfl (Or.inl rfl)) (@ah _ _ _ _ _ (@bq _ _ _ _ (@dS _ _ _ _ _ _ _ _ _ _ _ _ PySem.F.plainAttrs_list PySem.F.slot_list_append PySem.F.type_list_append bQ (pv 2) (@ac _ _ _ _ _ (@aB _ _ _ _ _ _ _ _ _ _ _ _ _ _ _ _ G_numbered (hr.mono (by omega)) rfl m_numbered k_numbered b_numbered .nil aI (@ac _ _ _ _ _ (pv 4) (@ac _ _ _ _ _ (pv 3) ag (ab rfl)) (ab rfl)) (by decide) (ab rfl) (am rfl)) ag (ab rfl)) rfl (cm rfl rfl) rfl (ab rfl) (am rfl)) (aj rfl)) (@ap _ _ _ (tm (i:=3) bj.nd rfl (Or.inl rfl) (@br _ _ _ _ _ _ _ _ _ bL rfl T.len ol (@ac _ _ _ _ _ (@aB _ _ _ _ _ _ _ _ _ _ _ _ _ _ _ _ G_lines_in (hr.mono (by omega)) rfl m_lines_in k_lines_in b_lines_in .nil aI (@ac _ _ _ _ _ (pv 4) ag (ab rfl)) (by decide) (ab rfl) (am rfl)) ag (ab rfl)) (by decide) (by decide) (ab rfl) (am rfl)) vc))) (fun _=>rfl)) (@ap _ _ _ (@aP _ _ _ _ (pv 2)))))),?_⟩
 refine ⟨(by show 0≤sizeLine; decide),fun t0 ht0=>?_⟩
 have g0:=ae ht0 (.lst [])
 refine ⟨_,rfl,_,_,rfl,rfl,?_⟩
 refine ⟨_,rfl,u,s1,rfl,hu.mono (aa g0),fun r bs H3 g3 hr0 hr3 db=>?_⟩
 have hrt:r≠t0:=fun z=>by rw [z,ad] at hr0; cases hr0
 have hlb:bs.length=s1.bods.length:=by rw [db.len,List.length_map]
 refine ⟨r,rfl,⟨bs,SqL.of hr3⟩,eL (xs:=bs) (fun i σ H5=>∃ m4 L,σ=[some (.int k),some u,some (.ref t0),some (.int ((k+1)+(S.cnts (s1.bods.take i).flatten:Int))),m4]∧aE H H5∧Tk H3 H5∧H5 r=some (.lst bs)∧H5 t0=some (.lst L)∧L.length=i∧Paired (tG K t0 H5) L (nbs (k+1) (s1.bods.take i)))
  ⟨none,[],by rw [List.take_zero]; simp only [List.flatten_nil,S.cnts]; rw [show ((k+1)+((0:Nat):Int))=k+1 from by simp]; rfl,g0.trans g3,fun _ _ z=>z,hr3,g3 _ _ ad,rfl,by rw [List.take_zero]; exact .nil⟩ (fun i σ H5 _ p=>?_) (fun i x σ H5 hx p=>?_) (fun σ H5 p=>?_)⟩
 ·obtain ⟨_,_,rfl,_,_,h,_⟩:=p
  exact SqL.of h
 ·obtain ⟨m4,L,rfl,G5,k5,hr5,ht5,lL,pL⟩:=p
  obtain ⟨dd,hdd,dx⟩:=(db.mono k5).get i x hx
  rw [List.getElem?_map] at hdd
  obtain ⟨B,hB,rfl⟩:=Option.map_eq_some_iff.mp hdd
  have cb:=fD hB
  have hib:i<s1.bods.length:=(List.getElem?_eq_some_iff.mp hB).1
  have h2:s1.bods.length≤2:=by cases s1<;>simp [S.bods]
  refine ⟨_,rfl,.inl ⟨rfl,_,SqL.of ht5⟩,_,rfl,_,rfl,x,B,_,rfl,dx,by omega,fun l ys H6 g6 hl0 hl6 d6=>?_⟩
  have ht6:=g6 _ _ ht5
  have hlt:l≠t0:=fun z=>by rw [z,ht5] at hl0; cases hl0
  refine ⟨t0,_,_,rfl,rfl,ht6,by rw [sizeLine_eq,lL]; omega,?_⟩
  have k7:Tk H6 (upd H6 t0 (.lst (L++[.ref l]))):=bI ht6 _
  have e7:Ext t0 H6 (upd H6 t0 (.lst (L++[.ref l]))):=Ext.upd
  have G7:aE H (upd H6 t0 (.lst (L++[.ref l]))):=aU ht0 (G5.trans g6)
  have ht7:(upd H6 t0 (.lst (L++[.ref l]))) t0=some (.lst (L++[.ref l])):=ad
  generalize (upd H6 t0 (.lst (L++[.ref l])))=H7 at k7 e7 G7 ht7
  refine ⟨_,rfl,_,rfl,x,B,rfl,(dx.mono (aa g6)).mono k7,by omega,fun r2 y2 H8 g8 hr20 h28 d28=>?_⟩
  have l28:=d28.len
  rw [S.ds_len,bE] at l28
  refine ⟨r2,_,rfl,.inl (SqL.of h28),_,_,rfl,rfl,?_⟩
  have eB:(s1.bods.take (i+1)).flatten=(s1.bods.take i).flatten++B:=by rw [List.take_add_one,hB,List.flatten_append]; simp
  refine ⟨some x,_,?_,G7.trans g8,((k5.trans (aa g6)).trans k7).trans (aa g8),g8 _ _ (e7 _ _ hrt (g6 _ _ hr5)),g8 _ _ ht7,by rw [List.length_append,lL]; rfl,?_⟩
  ·rw [show ((k+1)+(S.cnts (s1.bods.take (i+1)).flatten:Int))=((k+1)+(S.cnts (s1.bods.take i).flatten:Int))+(y2.length:Int) from by rw [eB,S.cnts_app,l28]; simp only [Int.natCast_add]; omega]
   rfl
  ·rw [nN (k+1) s1.bods i B hB]
   refine rQ ⟨l,ys,rfl,hlt,g8 _ _ (e7 _ _ hlt hl6),(d6.mono k7).mono (aa g8)⟩ (Paired.mapP pL fun _ _ z=>?_)
   exact ((z.mono (aE.ext g6) (aa g6)).mono e7 k7).mono (aE.ext g8) (aa g8)
 ·obtain ⟨m4,L,rfl,G5,k5,hr5,ht5,lL,pL⟩:=p
  rw [hlb,List.take_length] at pL
  exact ⟨_,rfl,q t0 L H5 G5 ht0 ht5 pL⟩
abbrev uZ:List Str:=["program", "kind"]
theorem sD:aF uZ ["program", "kind"] (defScope iG):=⟨rfl,rfl,rfl,by decide +kernel,rfl,by decide +kernel,by decide +kernel⟩
def wM:Sp:=fun vs H Q _=>∃ v,vs=[v,.str "num"]∧Q (.int 0) H
theorem zx (TN:GNo K w mg) (F:Fun K "nought" "nought" iG f fd):bg P w K mg base CX0 1 f fd ["program", "kind"] wM:=by
 obtain ⟨aN,mN,kN,tN,hN⟩:=TN.ex
 refine F.ok sD (fun vs H Q EX h=>?_) (fun cdv A outer s H vs Q EX hr h=>?_)
 ·obtain ⟨v,rfl,_⟩:=h
  rfl
 obtain ⟨v,rfl,q⟩:=h
 refine ⟨_,(@ah _ _ _ _ _ (@aZ _ _ _ _ _ _ _ _ (@aC _ _ _ _ _ _ _ _ (tE kN) (pv 1) (eS (v:=.ref aN) rfl mN rfl) rfl) (@ap _ _ _ (@aP _ _ _ _ (@ay _ _ _ _ _ _ _ (xZ kN) (eS (v:=.ref aN) rfl mN rfl) (pv 1) (fun _ _=>rfl)))) aM) aW),?_⟩
 refine ⟨_,rfl,_,_,rfl,rfl,hN,_,rfl,mJ ?_⟩
 exact ⟨_,rfl,_,_,.int 0,rfl,rfl,hN,⟨_,rfl⟩,q⟩
end
open PySem L2
abbrev Env:=Str→Option PyData
inductive Ev (σ:Env):E→PyData→Prop
 | num {i:Int}:Ev σ (.num i) (.int i)
 | var {x:Str} {d:PyData}:σ x=some d→Ev σ (.var x) d
 | add {a b:E} {i j:Int}:Ev σ a (.int i)→Ev σ b (.int j)→Ev σ (.add a b) (.int (i+j))
 | sub {a b:E} {i j:Int}:Ev σ a (.int i)→Ev σ b (.int j)→Ev σ (.sub a b) (.int (i - j))
inductive Evs (σ:Env):List E→List PyData→Prop
 | nil:Evs σ [] []
 | cons {e:E} {es:List E} {d:PyData} {ds:List PyData}:Ev σ e d→Evs σ es ds→Evs σ (e::es) (d::ds)
theorem Evs.len {σ:Env}:∀ {es:List E} {ds:List PyData},Evs σ es ds→es.length=ds.length
 | _,_,.nil=>rfl
 | _,_,.cons _ h=>by rw [List.length_cons,List.length_cons,h.len]
theorem Evs.at {σ:Env}:∀ {es:List E} {ds:List PyData} {i:Nat} {e:E},Evs σ es ds→es[i]?=some e→∃ d,ds[i]?=some d∧Ev σ e d
 | _,_,i,e,.nil,h=>by simp at h
 | _,_,0,e,.cons q _,h=>by cases h; exact ⟨_,rfl,q⟩
 | _,_,i+1,e,.cons _ r,h=>Evs.at (i:=i) r h
inductive va (σ:Env):Str→List V→List PyData→PyData→Prop
 | num {i:Int}:va σ "num" [.int i] [] (.int i)
 | var {x:Str} {d:PyData}:σ x=some d→va σ "var" [.str x] [] d
 | add {rs:List V} {i j:Int}:va σ "add" rs [.int i,.int j] (.int (i+j))
 | sub {rs:List V} {i j:Int}:va σ "sub" rs [.int i,.int j] (.int (i - j))
theorem wH {K:Frag} {H:Hp} {u:V} {σ:Env} {e:E} {d:PyData} (h:DT K H u e.d) (q:Ev σ e d):∃ a z rs L es ds,u=.ref a∧H a=some (.tup (.str z::rs))∧sY H z rs L∧DTs K H L (E.ds es)∧Evs σ es ds∧va σ z rs ds d∧ds.length≤8∧∀ e1∈es,e1.d.depth<e.d.depth:=by
 cases q with
 | num =>
  simp only [E.d] at h
  obtain ⟨a,x1,rfl,ha,h1⟩:=op1 h
  obtain rfl:=h1.int_inv
  exact ⟨a,_,_,[],[],[],rfl,ha,.inl ⟨[],by decide +kernel,rfl,by decide,ka rfl⟩,.nil,.nil,.num,by decide,fun _ z=>by cases z⟩
 | var q1 =>
  simp only [E.d] at h
  obtain ⟨a,x1,rfl,ha,h1⟩:=op1 h
  obtain rfl:=h1.str_inv
  exact ⟨a,_,_,[],[],[],rfl,ha,.inl ⟨[],by decide +kernel,rfl,by decide,ka rfl⟩,.nil,.nil,.var q1,by decide,fun _ z=>by cases z⟩
 | @add ea eb i j q1 q2 =>
  simp only [E.d] at h
  obtain ⟨a,x1,x2,rfl,ha,h1,h2⟩:=op2 h
  refine ⟨a,_,_,[x1,x2],[ea,eb],_,rfl,ha,.inl ⟨[1,2],by decide +kernel,rfl,by decide,ka rfl⟩,.cons h1 (.cons h2 .nil),.cons q1 (.cons q2 .nil),.add,by simp,fun e1 z=>?_⟩
  simp only [List.mem_cons,List.not_mem_nil,or_false] at z
  simp only [E.d,PyData.depth,PyData.depthAll]
  rcases z with rfl | rfl<;>omega
 | @sub ea eb i j q1 q2 =>
  simp only [E.d] at h
  obtain ⟨a,x1,x2,rfl,ha,h1,h2⟩:=op2 h
  refine ⟨a,_,_,[x1,x2],[ea,eb],_,rfl,ha,.inl ⟨[1,2],by decide +kernel,rfl,by decide,ka rfl⟩,.cons h1 (.cons h2 .nil),.cons q1 (.cons q2 .nil),.sub,by simp,fun e1 z=>?_⟩
  simp only [List.mem_cons,List.not_mem_nil,or_false] at z
  simp only [E.d,PyData.depth,PyData.depthAll]
  rcases z with rfl | rfl<;>omega
theorem sY.mono {H H':Hp} (k:Tk H H') {z:Str} {rs L:List V} (h:sY H z rs L):sY H' z rs L:=by
 rcases h with h | ⟨p,al,h1,h2,h3⟩
 ·exact .inl h
 ·exact .inr ⟨p,al,h1,h2,k _ _ h3⟩
def cO (K:Frag) (H:Hp) (h:Addr) (σ:Env):Prop:=∃ kvs:List (Key×V),H h=some (.dK kvs)∧kvs.length≤20∧∀ x d,σ x=some d→∃ v,bO kvs (Sum.inr x)=some v∧DT K H v d
theorem cO.mono {K:Frag} {H H':Hp} {h:Addr} {σ:Env} (k:Tk H H') (e:∀ o,H h=some o→H' h=some o) (q:cO K H h σ):cO K H' h σ:=by
 obtain ⟨kvs,h1,h2,h3⟩:=q
 refine ⟨kvs,e _ h1,h2,fun x d hx=>?_⟩
 obtain ⟨v,e1,e2⟩:=h3 x d hx
 exact ⟨v,e1,e2.mono k⟩
theorem pj {K:Frag} {H:Hp}:∀ {ys:List V} {es:List E} {i:Nat} {x:V},DTs K H ys (E.ds es)→ys[i]?=some x→∃ e,es[i]?=some e∧DT K H x e.d
 | _,[],i,x,h,q=>by simp only [E.ds] at h; cases h; simp at q
 | _,e::r,0,x,h,q=>by
  simp only [E.ds] at h
  cases h with
  | cons a b=>cases q; exact ⟨e,rfl,a⟩
 | _,e::r,i+1,x,h,q=>by
  simp only [E.ds] at h
  cases h with
  | cons a b=>exact pj (i:=i) b q
theorem DT.nn {K:Frag} {H:Hp} {v:V} {d:PyData} (h:DT K H v d):v≠.non:=fun z=>by subst z; cases h
theorem nE {t:Addr} {H H1 H':Hp} (h:H t=none) (a:aE H H1) (x:Ext t H1 H'):aE H H':=fun b o q=>x b o (av q h) (a b o q)
section
variable {P:Program} {w:World} {K:Frag} {mg:Str→Option Value} {base:Heap} {f g:Addr} {fd gd:FuncData}
abbrev mG:List Str:=["e", "inner", "word"]
theorem dU:aF mG ["e", "inner"] (defScope cT):=⟨rfl,rfl,rfl,by decide +kernel,rfl,by decide +kernel,by decide +kernel⟩
def xP (K:Frag):Sp:=fun vs H Q _=>∃ a l z rs i j k,vs=[.ref a,.ref l]∧H a=some (.tup (.str z::rs))∧H l=some (.lst [.int i,.int j])∧((z = "add"∧k=i+j)∨(z = "sub"∧k=i - j))∧Q (.int k) H
theorem yP (F:Fun K "of_numbers" "of_numbers" cT f fd):bg P w K mg base CX0 1 f fd ["e", "inner"] (xP K):=by
 refine F.ok dU (fun vs H Q EX h=>?_) (fun cdv A outer s H vs Q EX hr h=>?_)
 ·obtain ⟨a,l,z,rs,i,j,k,rfl,_⟩:=h
  rfl
 obtain ⟨a,l,z,rs,i,j,k,rfl,ha,hl,hz,q⟩:=h
 refine ⟨_,(@ah _ _ _ _ _ (@aA _ _ 2 _ _ _ _ dU.nd rfl (Or.inl rfl) (@ay _ _ _ _ _ _ _ aH (pv 0) ak (fun _ _=>rfl)) (aj rfl) (.inr rfl)) (@ah _ _ _ _ _ (@aZ _ _ _ _ _ _ _ _ (@aC _ _ _ _ _ _ _ _ bD (pv 2) ao (aQ _)) (@ap _ _ _ (@aP _ _ _ _ (@aO _ _ _ _ _ _ _ _ bG (@ay _ _ _ _ _ _ _ aK (pv 1) ak (fun _ _=>rfl)) (@ay _ _ _ _ _ _ _ aK (pv 1) ak (fun _ _=>rfl))))) aM) (@ah _ _ _ _ _ (@aZ _ _ _ _ _ _ _ _ (@aC _ _ _ _ _ _ _ _ bD (pv 2) ao (aQ _)) (@ap _ _ _ (@aP _ _ _ _ (@aO _ _ _ _ _ _ _ _ mr (@ay _ _ _ _ _ _ _ aK (pv 1) ak (fun _ _=>rfl)) (@ay _ _ _ _ _ _ _ aK (pv 1) ak (fun _ _=>rfl))))) aM) (@ah _ _ _ _ _ (@aZ _ _ _ _ _ _ _ _ (@aC _ _ _ _ _ _ _ _ bD (pv 2) ao (aQ _)) aW aM) (@ah _ _ _ _ _ (@aZ _ _ _ _ _ _ _ _ (@aC _ _ _ _ _ _ _ _ bD (pv 2) ao (aQ _)) aW aM) aW))))),?_⟩
 refine ⟨_,rfl,a,_,_,_,rfl,rfl,SqT.of ha,at0 _ _,_,rfl,rfl,_,rfl,?_⟩
 rcases hz with ⟨rfl,rfl⟩ | ⟨rfl,rfl⟩
 ·refine aY (fun c=>?_) (fun c=>absurd (by decide +kernel) c)
  exact ⟨_,rfl,l,_,_,_,rfl,rfl,SqL.of hl,rfl,_,rfl,l,_,_,_,rfl,rfl,SqL.of hl,rfl,_,_,rfl,rfl,q⟩
 ·refine aY (fun c=>absurd c (by decide +kernel)) (fun c=>?_)
  refine ⟨_,rfl,rfl,_,rfl,?_⟩
  refine aY (fun c=>?_) (fun c=>absurd (by decide +kernel) c)
  exact ⟨_,rfl,l,_,_,_,rfl,rfl,SqL.of hl,rfl,_,rfl,l,_,_,_,rfl,rfl,SqL.of hl,rfl,_,_,rfl,rfl,q⟩
abbrev ph:List Str:=["program", "kinds", "held", "e", "inner", "one", "value", "word"]
theorem bS:aF ph ["program", "kinds", "held", "e"] (defScope cP):=⟨rfl,rfl,rfl,by decide +kernel,rfl,by decide +kernel,by decide +kernel⟩
abbrev pRe:List Str:=["program", "kinds", "held", "e"]
def sQ (K:Frag) (n:Nat):Sp:=fun vs H Q _=>∃ p kk h u e σ d,vs=[p,kk,.ref h,u]∧cO K H h σ∧DT K H u (E.d e)∧e.d.depth≤n∧Ev σ e d∧∀ v H',aE H H'→DT K H' v d→Q v H'
theorem xi {n r:Nat} {spC:Sp} (hrm:r≤n+1) (hR:∀ m,n=m+1→∀ vs H Q E,sQ K m vs H Q E→spC vs H Q E) (F:Fun K "reckoned" "reckoned" cP f fd) (D_of_numbers:Cal P w K mg base 1 "of_numbers" ["e", "inner"] (xP K)) (D_inner_of:Cal P w K mg base 1 "inner_of" ["shaped"] rV) (D_reckoned:Cal P w K mg base r "reckoned" pRe spC) :
  bg P w K mg base CX0 (n+2) f fd pRe (sQ K n):=by
 obtain ⟨g_of_numbers,gd_of_numbers,G_of_numbers,b_of_numbers,k_of_numbers,m_of_numbers⟩:=D_of_numbers.ex
 obtain ⟨g_inner_of,gd_inner_of,G_inner_of,b_inner_of,k_inner_of,m_inner_of⟩:=D_inner_of.ex
 obtain ⟨g_reckoned,gd_reckoned,G_reckoned,b_reckoned,k_reckoned,m_reckoned⟩:=D_reckoned.ex
 refine F.ok bS (fun vs H Q EX h=>?_) (fun cdv A outer s H vs Q EX hr h=>?_)
 ·obtain ⟨p,kk,h,u,e,σ,d,rfl,_⟩:=h
  rfl
 obtain ⟨p,kk,h,u,e,σ,d,rfl,hh,hu,hd,hev,q⟩:=h
 obtain ⟨a,z,rs,L,es,ds,rfl,ha,hinn,dL,hes,hfin,hd8,hdep⟩:=wH hu hev
 have led:=hes.len
 have lL:=dL.len
 rw [E.ds_len] at lL
 refine ⟨_,(@ah _ _ _ _ _ (@aA _ _ 4 _ _ _ _ bS.nd rfl (Or.inl rfl) (@bm _ _ _ _ ag) (aj rfl) (.inr rfl)) (@ah _ _ _ _ _ (@cr _ _ _ _ _ _ _ _ PassesOwn.never rfl (eG (@aB _ _ _ _ _ _ _ _ _ _ _ _ _ _ _ _ G_inner_of (hr.mono (by omega)) rfl m_inner_of k_inner_of b_inner_of .nil aI (@ac _ _ _ _ _ (pv 3) ag (ab rfl)) (by decide) (ab rfl) (am rfl))) (bC (i:=5) bS.nd rfl (Or.inl rfl)) (@ah _ _ _ _ _ (@aA _ _ 6 _ _ _ _ bS.nd rfl (Or.inl rfl) (@aB _ _ _ _ _ _ _ _ _ _ _ _ _ _ _ _ G_reckoned (hr.mono (by omega)) rfl m_reckoned k_reckoned b_reckoned .nil aI (@ac _ _ _ _ _ (pv 0) (@ac _ _ _ _ _ (pv 1) (@ac _ _ _ _ _ (pv 2) (@ac _ _ _ _ _ (pv 5) ag (ab rfl)) (ab rfl)) (ab rfl)) (ab rfl)) (by decide) (ab rfl) (am rfl)) (aj rfl) (.inr rfl)) (@ah _ _ _ _ _ (@aZ _ _ _ _ _ _ _ _ (@aC _ _ _ _ _ _ _ _ na (pv 6) dC (aQ _)) (@ap _ _ _ (@aP _ _ _ _ dC)) aM) (@ap _ _ _ (@bq _ _ _ _ (@dS _ _ _ _ _ _ _ _ _ _ _ _ PySem.F.plainAttrs_list PySem.F.slot_list_append PySem.F.type_list_append bQ (pv 4) (@ac _ _ _ _ _ (pv 6) ag (ab rfl)) rfl (cm rfl rfl) rfl (ab rfl) (am rfl)) (aj rfl))))) (fun _=>rfl)) (@ah _ _ _ _ _ (@aA _ _ 7 _ _ _ _ bS.nd rfl (Or.inl rfl) (@ay _ _ _ _ _ _ _ aH (pv 3) ak (fun _ _=>rfl)) (aj rfl) (.inr rfl)) (@ah _ _ _ _ _ (@aZ _ _ _ _ _ _ _ _ (@aC _ _ _ _ _ _ _ _ cg (pv 7) (@ar _ _ _ _ _ (@ac _ _ _ _ _ ao (@ac _ _ _ _ _ ao ag (ab rfl)) (ab rfl))) rfl) (@ap _ _ _ (@aP _ _ _ _ (@ay _ _ _ _ _ _ _ aH (pv 3) ak (fun _ _=>rfl)))) aM) (@ah _ _ _ _ _ (@aZ _ _ _ _ _ _ _ _ (@aC _ _ _ _ _ _ _ _ bD (pv 7) ao (aQ _)) (@ap _ _ _ (@aP _ _ _ _ (wh (lf hr) (pv 2) (@ay _ _ _ _ _ _ _ aH (pv 3) ak (fun _ _=>rfl)) (fun _ _=>rfl)))) aM) (@ah _ _ _ _ _ (@aZ _ _ _ _ _ _ _ _ (@aC _ _ _ _ _ _ _ _ cg (pv 7) (@ar _ _ _ _ _ (@ac _ _ _ _ _ ao (@ac _ _ _ _ _ ao ag (ab rfl)) (ab rfl))) rfl) aW aM) (@ah _ _ _ _ _ (@aZ _ _ _ _ _ _ _ _ (@aC _ _ _ _ _ _ _ _ cg (pv 7) (@ar _ _ _ _ _ (@ac _ _ _ _ _ ao (@ac _ _ _ _ _ ao ag (ab rfl)) (ab rfl))) rfl) aW aM) (@ah _ _ _ _ _ (@aZ _ _ _ _ _ _ _ _ (@aC _ _ _ _ _ _ _ _ cg (pv 7) (@ar _ _ _ _ _ (@ac _ _ _ _ _ ao (@ac _ _ _ _ _ ao ag (ab rfl)) (ab rfl))) rfl) aW aM) (@ah _ _ _ _ _ (@aZ _ _ _ _ _ _ _ _ (@aC _ _ _ _ _ _ _ _ bD (pv 7) ao (aQ _)) aW aM) (@ah _ _ _ _ _ (@aZ _ _ _ _ _ _ _ _ (@aC _ _ _ _ _ _ _ _ bD (pv 7) ao (aQ _)) aW aM) (@ah _ _ _ _ _ (@aZ _ _ _ _ _ _ _ _ (@aC _ _ _ _ _ _ _ _ bD (pv 7) ao (aQ _)) aW aM) (@ap _ _ _ (@aP _ _ _ _ (@aB _ _ _ _ _ _ _ _ _ _ _ _ _ _ _ _ G_of_numbers (hr.mono (by omega)) rfl m_of_numbers k_of_numbers b_of_numbers .nil aI (@ac _ _ _ _ _ (pv 3) (@ac _ _ _ _ _ (pv 4) ag (ab rfl)) (ab rfl)) (by decide) (ab rfl) (am rfl))))))))))))))),?_⟩
 refine ⟨(by show 0≤sizeLine; decide),fun il hil=>?_⟩
 have g1:=ae hil (.lst [])
 refine ⟨_,rfl,a,z,rs,L,rfl,g1 _ _ ha,sY.mono (aa g1) hinn,fun r H1 gg hr0 hr1=>?_⟩
 have hne:r≠il:=(av (ad (H:=H) (a:=il) (o:=.lst [])) hr0).symm
 have i1:H1 il=some (.lst []):=gg _ _ ad
 have G1:aE H H1:=g1.trans gg
 refine ⟨r,rfl,⟨L,SqL.of hr1⟩,eL (xs:=L) (fun i ρ H'=>∃ m5 m6 m7 vs,ρ=[some p,some kk,some (.ref h),some (.ref a),some (.ref il),m5,m6,m7]∧Ext il H1 H'∧H' il=some (.lst vs)∧DTs K H' vs (ds.take i)) ⟨none,none,none,[],rfl,Ext.refl _ _,i1,by rw [List.take_zero]; exact .nil⟩ (fun i ρ H' _ p=>?_) (fun i x ρ H' hx p=>?_) (fun ρ H' p=>?_)⟩
 ·obtain ⟨_,_,_,_,rfl,x,_⟩:=p
  exact SqL.of (x _ _ hne hr1)
 ·obtain ⟨m5,m6,m7,vs,rfl,x',hi',dv⟩:=p
  have tk':Tk H1 H':=rj x' i1
  have GH:aE H H':=nE hil G1 x'
  obtain ⟨e1,he1,de1⟩:=pj dL hx
  obtain ⟨d1,hd1,ev1⟩:=hes.at he1
  have dd:=hdep e1 (List.mem_of_getElem? he1)
  have hi8:i<ds.length:=(List.getElem?_eq_some_iff.mp hd1).1
  obtain ⟨m,hm⟩:∃ m,n=m+1:=⟨n - 1,by omega⟩
  refine ⟨_,rfl,_,rfl,_,rfl,_,rfl,hR m hm _ _ _ _ ⟨_,_,h,x,e1,σ,d1,rfl,hh.mono (aa GH) (fun o z=>GH _ _ z),(de1.mono (aa G1)).mono tk',by omega,ev1,fun v2 H2 g2 dv2=>?_⟩⟩
  refine ⟨_,rfl,rfl,_,rfl,?_⟩
  refine aY (fun c=>absurd (of_decide_eq_true c) dv2.nn) (fun c=>?_)
  have lv:=dv.len
  rw [List.length_take] at lv
  refine ⟨_,rfl,.inl ⟨rfl,_,SqL.of (g2 _ _ hi')⟩,_,rfl,il,_,_,rfl,rfl,g2 _ _ hi',?_,?_⟩
  ·rw [sizeLine_eq]; omega
  have k3:Tk H2 (upd H2 il (.lst (vs++[v2]))):=bI (g2 _ _ hi') _
  refine ⟨_,_,_,_,rfl,x'.trans ((aE.ext g2).trans Ext.upd),ad,?_⟩
  rw [List.take_add_one,hd1]
  exact DTs.append ((dv.mono (aa g2)).mono k3) (.cons (dv2.mono k3) .nil)
 ·obtain ⟨m5,m6,m7,vs,rfl,x',hi',dv⟩:=p
  have GH:aE H H':=nE hil G1 x'
  rw [lL,led,List.take_length] at dv
  have ha':=GH _ _ ha
  refine ⟨_,rfl,a,_,_,_,rfl,rfl,SqT.of ha',at0 _ _,?_⟩
  cases hfin with
  | num =>
   refine ⟨_,rfl,(by show 2≤sizeLine; decide),fun p0 hp0=>⟨p0,_,rfl,.inr (SqT.of ad),rfl,rfl,_,rfl,aY (fun c9=>?_) (fun c9=>absurd (by decide +kernel) c9)⟩⟩
   have s0:=ae hp0 (.tup [.str "num",.str "text"])
   exact ⟨_,rfl,a,_,_,_,rfl,rfl,SqT.of (s0 _ _ ha'),rfl,q _ _ (GH.trans s0) (.int _)⟩
  | @var xn _ hx =>
   refine ⟨_,rfl,(by show 2≤sizeLine; decide),fun p0 hp0=>⟨p0,_,rfl,.inr (SqT.of ad),rfl,rfl,_,rfl,aY (fun c9=>absurd c9 (by decide +kernel)) (fun c9=>?_)⟩⟩
   have s0:=ae hp0 (.tup [.str "num",.str "text"])
   refine ⟨_,rfl,rfl,_,rfl,aY (fun c9=>?_) (fun c9=>absurd (by decide +kernel) c9)⟩
   obtain ⟨kvs,hk,_,hkv⟩:=hh.mono (aa (GH.trans s0)) (fun o z=>(GH.trans s0) _ _ z)
   obtain ⟨v,hv,dvv⟩:=hkv _ _ hx
   exact ⟨_,rfl,_,rfl,a,_,_,_,rfl,rfl,SqT.of (s0 _ _ ha'),rfl,h,v,rfl,hv ▸ sH.k (k:=Sum.inr xn) hk,q _ _ (GH.trans s0) dvv⟩
  | add =>
   refine ⟨_,rfl,(by show 2≤sizeLine; decide),fun p0 hp0=>⟨p0,_,rfl,.inr (SqT.of ad),rfl,rfl,_,rfl,aY (fun c9=>absurd c9 (by decide +kernel)) (fun c9=>?_)⟩⟩
   have s0:=ae hp0 (.tup [.str "num",.str "text"])
   refine ⟨_,rfl,rfl,_,rfl,aY (fun c9=>absurd c9 (by decide +kernel)) (fun c9=>?_)⟩
   refine ⟨_,rfl,(by show 2≤sizeLine; decide),fun p1 hp1=>⟨p1,_,rfl,.inr (SqT.of ad),rfl,rfl,_,rfl,aY (fun c9=>absurd c9 (by decide +kernel)) (fun c9=>?_)⟩⟩
   have s1:=s0.trans (ae hp1 (.tup [.str "of",.str "with"]))
   refine ⟨_,rfl,(by show 2≤sizeLine; decide),fun p2 hp2=>⟨p2,_,rfl,.inr (SqT.of ad),rfl,rfl,_,rfl,aY (fun c9=>absurd c9 (by decide +kernel)) (fun c9=>?_)⟩⟩
   have s2:=s1.trans (ae hp2 (.tup [.str "new",.str "rows"]))
   refine ⟨_,rfl,(by show 2≤sizeLine; decide),fun p3 hp3=>⟨p3,_,rfl,.inr (SqT.of ad),rfl,rfl,_,rfl,aY (fun c9=>absurd c9 (by decide +kernel)) (fun c9=>?_)⟩⟩
   have s3:=s2.trans (ae hp3 (.tup [.str "at",.str "put"]))
   refine ⟨_,rfl,rfl,_,rfl,aY (fun c9=>absurd c9 (by decide +kernel)) (fun c9=>?_)⟩
   refine ⟨_,rfl,rfl,_,rfl,aY (fun c9=>absurd c9 (by decide +kernel)) (fun c9=>?_)⟩
   refine ⟨_,rfl,rfl,_,rfl,aY (fun c9=>absurd c9 (by decide +kernel)) (fun c9=>?_)⟩
   obtain ⟨x1,r1,rfl,e1,dv⟩:=dv.open
   obtain ⟨x2,r2,rfl,e2,dv⟩:=dv.open
   cases dv
   obtain rfl:=e1.int_inv
   obtain rfl:=e2.int_inv
   exact ⟨_,rfl,_,rfl,a,il,_,_,_,_,_,rfl,s3 _ _ ha',s3 _ _ hi',.inl ⟨rfl,rfl⟩,q _ _ (GH.trans s3) (.int _)⟩
  | sub =>
   refine ⟨_,rfl,(by show 2≤sizeLine; decide),fun p0 hp0=>⟨p0,_,rfl,.inr (SqT.of ad),rfl,rfl,_,rfl,aY (fun c9=>absurd c9 (by decide +kernel)) (fun c9=>?_)⟩⟩
   have s0:=ae hp0 (.tup [.str "num",.str "text"])
   refine ⟨_,rfl,rfl,_,rfl,aY (fun c9=>absurd c9 (by decide +kernel)) (fun c9=>?_)⟩
   refine ⟨_,rfl,(by show 2≤sizeLine; decide),fun p1 hp1=>⟨p1,_,rfl,.inr (SqT.of ad),rfl,rfl,_,rfl,aY (fun c9=>absurd c9 (by decide +kernel)) (fun c9=>?_)⟩⟩
   have s1:=s0.trans (ae hp1 (.tup [.str "of",.str "with"]))
   refine ⟨_,rfl,(by show 2≤sizeLine; decide),fun p2 hp2=>⟨p2,_,rfl,.inr (SqT.of ad),rfl,rfl,_,rfl,aY (fun c9=>absurd c9 (by decide +kernel)) (fun c9=>?_)⟩⟩
   have s2:=s1.trans (ae hp2 (.tup [.str "new",.str "rows"]))
   refine ⟨_,rfl,(by show 2≤sizeLine; decide),fun p3 hp3=>⟨p3,_,rfl,.inr (SqT.of ad),rfl,rfl,_,rfl,aY (fun c9=>absurd c9 (by decide +kernel)) (fun c9=>?_)⟩⟩
   have s3:=s2.trans (ae hp3 (.tup [.str "at",.str "put"]))
   refine ⟨_,rfl,rfl,_,rfl,aY (fun c9=>absurd c9 (by decide +kernel)) (fun c9=>?_)⟩
   refine ⟨_,rfl,rfl,_,rfl,aY (fun c9=>absurd c9 (by decide +kernel)) (fun c9=>?_)⟩
   refine ⟨_,rfl,rfl,_,rfl,aY (fun c9=>absurd c9 (by decide +kernel)) (fun c9=>?_)⟩
   obtain ⟨x1,r1,rfl,e1,dv⟩:=dv.open
   obtain ⟨x2,r2,rfl,e2,dv⟩:=dv.open
   cases dv
   obtain rfl:=e1.int_inv
   obtain rfl:=e2.int_inv
   exact ⟨_,rfl,_,rfl,a,il,_,_,_,_,_,rfl,s3 _ _ ha',s3 _ _ hi',.inr ⟨rfl,rfl⟩,q _ _ (GH.trans s3) (.int _)⟩
end
open PySem L2
inductive Ec (σ:Env):C→Bool→Prop
 | less {a b:E} {i j:Int}:Ev σ a (.int i)→Ev σ b (.int j)→Ec σ (.less a b) (decide (i<j))
section
variable {P:Program} {w:World} {K:Frag} {mg:Str→Option Value} {base:Heap} {f g:Addr} {fd gd:FuncData}
theorem yA {k:Nat} {ps:List Str} {sp:Sp} (no:∀ vs H Q E,¬ sp vs H Q E):bg P w K mg base CX0 k f fd ps sp :=
 ⟨fun vs H Q E h=>absurd h (no vs H Q E),fun A outer s H args us vs Q E _ _ _ _ h=>absurd h (no vs H Q E)⟩
theorem vO (F:Fun K "reckoned" "reckoned" cP f fd) (b:bZ K fd pRe []) (m:mg "reckoned"=some (.ref f)) (D1:Cal P w K mg base 1 "of_numbers" ["e", "inner"] (xP K)) (D2:Cal P w K mg base 1 "inner_of" ["shaped"] rV):∀ n:Nat,bg P w K mg base CX0 (n+2) f fd pRe (sQ K n)
 | 0=>xi (r:=1) (spC:=fun _ _ _ _=>False) (by omega) (fun m h=>absurd h (by omega)) F D1 D2 ⟨f,fd,yA (fun _ _ _ _ h=>h),b,F.kp,m⟩
 | n+1=>xi (r:=n+2) (spC:=sQ K n) (by omega) (fun m h vs H Q E q=>(Nat.succ.inj h) ▸ q) F D1 D2 ⟨f,fd,vO F b m D1 D2 n,b,F.kp,m⟩
abbrev jN:List Str:=["program", "kinds", "held", "c", "word", "numbers", "truths"]
abbrev dX:List Str:=["e", "program", "kinds", "held"]
theorem ig:dX.Nodup:=by decide +kernel
theorem dF:aF jN ["program", "kinds", "held", "c"] (defScope cW):=⟨rfl,rfl,rfl,by decide +kernel,rfl,by decide +kernel,by decide +kernel⟩
def zh (K:Frag):Sp:=fun vs H Q _=>∃ p kk h u c σ b,vs=[p,kk,.ref h,u]∧cO K H h σ∧DT K H u (C.d c)∧c.d.depth≤4∧Ec σ c b∧∀ H',aE H H'→Q (.bl b) H'
theorem yS (F:Fun K "truth_of" "truth_of" cW f fd) (D_inner_of:Cal P w K mg base 1 "inner_of" ["shaped"] rV) (D_reckoned:Cal P w K mg base 5 "reckoned" pRe (sQ K 3)):bg P w K mg base CX0 6 f fd ["program", "kinds", "held", "c"] (zh K):=by
 obtain ⟨g_inner_of,gd_inner_of,G_inner_of,b_inner_of,k_inner_of,m_inner_of⟩:=D_inner_of.ex
 obtain ⟨g_reckoned,gd_reckoned,G_reckoned,b_reckoned,k_reckoned,m_reckoned⟩:=D_reckoned.ex
 refine F.ok dF (fun vs H Q EX h=>?_) (fun cdv A outer s H vs Q EX hr h=>?_)
 ·obtain ⟨p,kk,h,u,e,σ,d,rfl,_⟩:=h
  rfl
 obtain ⟨p,kk,h,u,c,σ,b,rfl,hh,hu,hd,hev,q⟩:=h
 refine ⟨_,(@ah _ _ _ _ _ (@aA _ _ 4 _ _ _ _ dF.nd rfl (Or.inl rfl) (@ay _ _ _ _ _ _ _ aH (pv 3) ak (fun _ _=>rfl)) (aj rfl) (.inr rfl)) (@ah _ _ _ _ _ (@aZ _ _ _ _ _ _ _ _ (@aC _ _ _ _ _ _ _ _ cg (pv 4) (@ar _ _ _ _ _ (@ac _ _ _ _ _ ao (@ac _ _ _ _ _ ao ag (ab rfl)) (ab rfl))) rfl) (@ah _ _ _ _ _ (wm (i:=5) (N':=dX) (ρ:=[none,some 0,some 1,some 2]) (m:=1) (gQ.of (fs:=defScope cW) (N:=jN) rfl rfl (by decide +kernel)) dF.nd rfl (Or.inl rfl) rfl (eG (aB G_inner_of (hr.mono (by omega)) rfl m_inner_of k_inner_of b_inner_of .nil aI (ac (pv 3) ag))) (fun _ _ _ _=>(bC (i:=0) ig rfl (Or.inl rfl))) (fun _ _ _ _=>rB) (fun _ _ _ _=>(aB G_reckoned (hr.mono (by omega)) rfl m_reckoned k_reckoned b_reckoned .nil aI (ac (pv 1) (ac (pv 2) (ac (pv 3) (ac (pv 0) ag))))))) (@ap _ _ _ (@aP _ _ _ _ (@oG _ _ _ _ _ _ _ _ (@aC _ _ _ _ _ _ _ _ bD (pv 4) ao (aQ _)) (@hW _ _ _ _ _ _ _ _ zF (@ay _ _ _ _ _ _ _ aK (pv 5) ak (fun _ _=>rfl)) (@ay _ _ _ _ _ _ _ aK (pv 5) ak (fun _ _=>rfl)) (aQ _)) (@hW _ _ _ _ _ _ _ _ bD (@ay _ _ _ _ _ _ _ aK (pv 5) ak (fun _ _=>rfl)) (@ay _ _ _ _ _ _ _ aK (pv 5) ak (fun _ _=>rfl)) (aQ _)))))) aM) aW)),?_⟩
 cases hev with
 | @less ea eb i j q1 q2 =>
  simp only [C.d] at hu hd
  simp only [PyData.depth,PyData.depthAll] at hd
  obtain ⟨a,x1,x2,rfl,ha,h1,h2⟩:=op2 hu
  refine ⟨_,rfl,a,_,_,_,rfl,rfl,SqT.of ha,rfl,?_⟩
  refine ⟨_,rfl,(by show 2≤sizeLine; decide),fun p0 hp0=>⟨p0,_,rfl,.inr (SqT.of ad),rfl,rfl,_,rfl,aY (fun c9=>?_) (fun c9=>absurd (by decide +kernel) c9)⟩⟩
  have s0:=ae hp0 (.tup [.str "less",.str "same"])
  refine ⟨_,rfl,a,_,_,[x1,x2],rfl,s0 _ _ ha,.inl ⟨[1,2],by decide +kernel,rfl,by decide,ka rfl⟩,fun r H1 gg hr0 hr1=>?_⟩
  have G1:aE H H1:=s0.trans gg
  refine ⟨r,rfl,⟨_,SqL.of hr1⟩,sI (xs:=[x1,x2]) 2 rfl (by decide) (fun i' acc H2=>aE H1 H2∧acc=[V.int i,V.int j].take i') ⟨aE.refl _,rfl⟩ (fun i' acc H2 p=>SqL.of (p.1 _ _ hr1)) (fun i' acc H2 x hi la hx p=>?_) (fun acc H2 p la D hD=>?_)⟩
  ·obtain ⟨G2,rfl⟩:=p
   have G:=G1.trans G2
   refine ⟨⟨rfl,rfl⟩,rT ?_⟩
   match i',hi,la,hx with
   | 0,hi,la,hx =>
    obtain rfl:x1=x:=by simpa using hx
    exact ⟨_,rfl,_,rfl,_,rfl,_,rfl,_,_,h,_,ea,σ,_,rfl,hh.mono (aa G) (fun o z=>G _ _ z),h1.mono (aa G),by omega,q1,fun v H3 g3 dv=>by
     obtain rfl:=dv.int_inv
     exact nxT (by decide) hi la ⟨G2.trans g3,rfl⟩⟩
   | 1,hi,la,hx =>
    obtain rfl:x2=x:=by simpa using hx
    exact ⟨_,rfl,_,rfl,_,rfl,_,rfl,_,_,h,_,eb,σ,_,rfl,hh.mono (aa G) (fun o z=>G _ _ z),h2.mono (aa G),by omega,q2,fun v H3 g3 dv=>by
     obtain rfl:=dv.int_inv
     exact nxT (by decide) hi la ⟨G2.trans g3,rfl⟩⟩
  ·obtain ⟨G2,rfl⟩:=p
   have G:=(G1.trans G2).trans (ae hD (.lst [V.int i,V.int j]))
   refine ⟨_,rfl,rfl,_,rfl,mJ ?_⟩
   exact ⟨_,rfl,D,_,_,_,rfl,rfl,SqL.of ad,rfl,_,rfl,D,_,_,_,rfl,rfl,SqL.of ad,rfl,_,_,rfl,rfl,q _ G⟩
end
end K6
namespace L2
open PySem PySem.Spec PyProof.Rows
theorem wc {K:Frag} {a b:Addr} {xs ys:List V} {k1 k2:Bool} {g:TG} {tb:TS} {D:kq} {σ:St} {H:Hp} (n:Nat) (e1:n=xs.length) (e2:n=ys.length) (Pv:Nat→St→Hp→Prop) (h0:Pv 0 σ H)
  (hl:∀ i σ H,i≤n→Pv i σ H→SqX k1 K H a xs∧SqX k2 K H b ys)
  (hs:∀ i x y p σ H,xs[i]?=some x→ys[i]?=some y→Pv i σ H→H p=none→g (.ref p) σ (upd H p (.tup [x,y])) fun σ2 H2=>tb { D with nx:=Pv (i+1),ct:=Pv (i+1),bk:=D.nx } σ2 H2) (hd:∀ σ H,Pv n σ H→D.nx σ H) :
  ∃ W:Nat→Nat→St→Hp→Prop,(∃ m,W 0 m σ H)∧∀ i m σ H,W i m σ H →
   ((Itz K k1 k2 a b).stop i H∧D.nx σ H)∨((Itz K k1 k2 a b).go i H∧∃ N:St→Hp→Prop,(∀ σ' H',N σ' H'→∃ m',m'<m∧W (i+1) m' σ' H')∧∀ x H',(Itz K k1 k2 a b).yld i H x H'→g x σ H' fun σ2 H2=>tb { D with nx:=N,ct:=N,bk:=D.nx } σ2 H2):=by
 refine ⟨fun i m σ H=>m=n - i∧i≤n∧Pv i σ H,⟨n,by simp,Nat.zero_le _,h0⟩,?_⟩
 rintro i m σ H ⟨rfl,hi,p⟩
 obtain ⟨q1,q2⟩:=hl i σ H hi p
 by_cases hlt:i<n
 ·have hx:xs[i]?=some (xs[i]'(by omega)):=List.getElem?_eq_getElem (by omega)
  have hy:ys[i]?=some (ys[i]'(by omega)):=List.getElem?_eq_getElem (by omega)
  refine .inr ⟨⟨xs,ys,_,_,q1,q2,hx,hy⟩,Pv (i+1),fun σ' H' p'=>⟨n - (i+1),by omega,rfl,hlt,p'⟩,fun x H' yy=>?_⟩
  obtain ⟨pp,x',y',f1,f2,f3,f4,f5⟩:=yy
  subst f2 f3
  exact hs i x' y' pp σ H (f4 xs q1) (f5 ys q2) p f1
 ·have e:i=n:=by omega
  subst e
  exact .inl ⟨⟨xs,ys,q1,q2,by omega,by omega,by omega⟩,hd σ H p⟩
end L2
namespace K6
open PySem L2
structure Fr where
 fn:Fn
 σ:Env
 tasks:List (Int×S)
 tgt:V
def et (K:Frag) (CF:Addr) (H:Hp) (x hl tl:Addr) (fr:Fr):Prop:=∃ dx fu kk ys,H x=some (.ins CF dx [("function",fu),("kinds",kk),("held",.ref hl),("tasks",.ref tl),("target",fr.tgt)])∧DT K H fu fr.fn.d∧cO K H hl fr.σ∧H tl=some (.lst ys)∧DTs K H ys.reverse (fr.tasks.map tkD)
structure GF (K:Frag) (C:Addr):Prop where
 c:Cls K C
 n:∀ z∈([("function":Str),("kinds":Str),("held":Str),("tasks":Str),("target":Str)]:List Str),cD K C z
def nvs (l:List (Str×V)):List (Key×V):=l.map fun p=>(Sum.inr p.1,p.2)
theorem wF {kvs:List (Key×V)} {k:Key} (h:¬ k∈kvs.map (·.1)):bO kvs k=none:=by
 induction kvs with
 | nil=>rfl
 | cons p r ih =>
  rw [List.map_cons,List.mem_cons,not_or] at h
  rw [bt (fun z=>h.1 z.symm)]
  exact ih h.2
theorem nS {l:List (Str×V)} (hn:(l.map (·.1)).Nodup) {i:Nat} {n:Str} {v:V} (h:l[i]?=some (n,v)):cY (nvs (l.take i)) (Sum.inr n) v=nvs (l.take (i+1)):=by
 rw [vw v (wF ?_)]
 ·rw [List.take_add_one,h]
  unfold nvs
  rw [List.map_append]
  rfl
 ·intro z
  unfold nvs at z
  rw [List.map_map,List.mem_map] at z
  obtain ⟨q,hq,e⟩:=z
  have e':q.1=n:=by simpa using e
  obtain ⟨j,hj⟩:=List.mem_iff_getElem?.mp hq
  have hji:j<i:=by
   have:=(List.getElem?_eq_some_iff.mp hj).1
   rw [List.length_take] at this
   omega
  rw [List.getElem?_take_of_lt hji] at hj
  have h1:(l.map (·.1))[j]?=some n:=by rw [List.getElem?_map,hj]; simp [e']
  have h2:(l.map (·.1))[i]?=some n:=by rw [List.getElem?_map,h]; rfl
  obtain ⟨b1,e1⟩:=List.getElem?_eq_some_iff.mp h1
  obtain ⟨b2,e2⟩:=List.getElem?_eq_some_iff.mp h2
  exact List.pairwise_iff_getElem.mp hn j i b1 b2 hji (e1.trans e2.symm)
def env0 (F:Fn) (ds:List PyData):Env:=fun y=>((F.ps.map (·.1)).zip ds++F.ls.map fun p=>(p.1,PyData.int 0)).lookup y
theorem rl {K:Frag} {H:Hp}:∀ {l:List (Str×V)} {m:List (Str×PyData)},Paired (fun (p:Str×V) (q:Str×PyData)=>p.1=q.1∧DT K H p.2 q.2) l m→∀ y d,m.lookup y=some d→∃ v,bO (nvs l) (Sum.inr y)=some v∧DT K H v d
 | _,_,.nil,y,d,h=>by simp at h
 | _,_,.cons (a:=p) (b:=q) ⟨e,hd⟩ r,y,d,h=>by
  by_cases c:p.1=y
  ·have c2:q.1=y:=by rw [← e]; exact c
   rw [List.lookup_cons,show (y==q.1)=true from by rw [c2]; simp] at h
   obtain rfl:=Option.some.inj h
   exact ⟨p.2,by unfold nvs; rw [List.map_cons]; exact bB (by rw [c]),hd⟩
  ·have c2:¬ y=q.1:=by rw [← e]; exact fun z=>c z.symm
   rw [List.lookup_cons,show (y==q.1)=false from by simpa using c2] at h
   obtain ⟨v,h1,h2⟩:=rl r y d h
   refine ⟨v,?_,h2⟩
   unfold nvs
   rw [List.map_cons,bt (fun z=>c (Sum.inr.inj z))]
   exact h1
theorem nF {K:Frag} {H:Hp}:∀ {ns:List Str} {gs:List V} {ds:List PyData},DTs K H gs ds→ns.length=gs.length→Paired (fun (p:Str×V) (q:Str×PyData)=>p.1=q.1∧DT K H p.2 q.2) (ns.zip gs) (ns.zip ds)
 | [],_,_,.nil,_=>.nil
 | n::ns,_,_,.cons h r,e=>.cons ⟨rfl,h⟩ (nF r (by simpa using e))
 | n::ns,_,_,.nil,e=>by simp at e
 | [],_,_,.cons h r,e=>by simp at e
theorem kU {K:Frag} {H:Hp}:∀ l:List (Str×Str),Paired (fun (p:Str×V) (q:Str×PyData)=>p.1=q.1∧DT K H p.2 q.2) (l.map fun p=>(p.1,V.int 0)) (l.map fun p=>(p.1,PyData.int 0))
 | []=>.nil
 | p::r=>.cons ⟨rfl,.int 0⟩ (kU r)
theorem cu {α β:Type} {R:α→β→Prop} {l1:List α} {m1:List β} (b:Paired R l1 m1):∀ {l:List α} {m:List β},Paired R l m→Paired R (l++l1) (m++m1)
 | _,_,.nil=>b
 | _,_,.cons h t=>.cons h (cu b t)
section
variable {P:Program} {w:World} {K:Frag} {mg:Str→Option Value} {base:Heap} {f g:Addr} {fd gd:FuncData} {CF:Addr}
abbrev tR:List Str:=["self", "program", "function", "given", "target", "param", "value", "pair"]
theorem dM:aF tR ["self", "program", "function", "given", "target"] (defScope jt):=⟨rfl,rfl,rfl,by decide +kernel,rfl,by decide +kernel,by decide +kernel⟩
abbrev pFi:List Str:=["self", "program", "function", "given", "target"]
structure FnG (F:Fn):Prop where
 nd:((F.ps++F.ls).map (·.1)).Nodup
 le:(F.ps++F.ls).length≤10
 nm:∀ p∈F.ls,p.2 = "num"
 bd:S.cnts F.bd≤1000
 gv:F.gv = "num"
def yM (K:Frag) (CF:Addr):Sp:=fun vs H Q _=>∃ x dx H0 p u gv tv F k2 gs ds,vs=[.ref x,p,u,.ref gv,tv]∧H x=some (.ins CF dx [])∧aE H0 H∧H0 x=none∧DT K H0 u (Fn.d F)∧FnG F ∧
 ((k2=true∧H0 gv=some (.tup gs))∨(k2=false∧H0 gv=some (.lst gs)))∧DTs K H0 gs ds∧F.ps.length=gs.length ∧
 ∀ hl tl H',aE H0 H'→H0 hl=none→H0 tl=none→et K CF H' x hl tl ⟨F,env0 F ds,nmb 0 F.bd,tv⟩→Q .non H'
theorem zj (TC:GF K CF) (T:G0 mg) (TZ:mg "zip"=none) (TR:mg "reversed"=none) (F:Fun K "__init__" "Frame.__init__" jt f fd) (D_numbered:Cal P w K mg base 4 "numbered" ["body", "first"] (uw K)) (D_nought:Cal P w K mg base 1 "nought" ["program", "kind"] wM) (D_variable_kinds:Cal P w K mg base 1 "variable_kinds" ["function"] (vo K)):bg P w K mg base CX0 5 f fd pFi (yM K CF):=by
 have cC:=TC.c
 obtain ⟨g_numbered,gd_numbered,G_numbered,b_numbered,k_numbered,m_numbered⟩:=D_numbered.ex
 obtain ⟨g_nought,gd_nought,G_nought,b_nought,k_nought,m_nought⟩:=D_nought.ex
 obtain ⟨g_variable_kinds,gd_variable_kinds,G_variable_kinds,b_variable_kinds,k_variable_kinds,m_variable_kinds⟩:=D_variable_kinds.ex
 refine F.ok dM (fun vs H Q EX h=>?_) (fun cdv A outer s H vs Q EX hr h=>?_)
 ·obtain ⟨x,dx,H0,p,u,gv,tv,F,k2,gs,ds,rfl,_⟩:=h
  rfl
 obtain ⟨x,dx,H0,p,u,gv,tv,F,k2,gs,ds,rfl,hx,G,hx0,hu,hF,hgv,dg,lg,q⟩:=h
 obtain ⟨a,pa,la,ba,rfl,ha,dp,dl,db⟩:=dP hu
 obtain ⟨pp,px,rfl,hpp,dpx⟩:=dp.open
 obtain ⟨lp,lx,rfl,hlp,dlx⟩:=dl.open
 refine ⟨_,(@ah _ _ _ _ _ (bX (pv 0) (pv 2) (aj rfl)) (@ah _ _ _ _ _ (bX (pv 0) (@aB _ _ _ _ _ _ _ _ _ _ _ _ _ _ _ _ G_variable_kinds (hr.mono (by omega)) rfl m_variable_kinds k_variable_kinds b_variable_kinds .nil aI (@ac _ _ _ _ _ (pv 2) ag (ab rfl)) (by decide) (ab rfl) (am rfl)) (aj rfl)) (@ah _ _ _ _ _ (bX (pv 0) vN (aj rfl)) (@ah _ _ _ _ _ (@cr _ _ _ _ _ _ _ _ PassesOwn.never rfl (xE true k2 rfl TZ (@ac _ _ _ _ _ (@ay _ _ _ _ _ _ _ aH (pv 2) ak (fun _ _=>rfl)) (@ac _ _ _ _ _ (pv 3) ag (ab rfl)) (ab rfl))) (xV rfl (nT (bC (i:=5) dM.nd rfl (Or.inl rfl)) (nT (bC (i:=6) dM.nd rfl (Or.inl rfl)) wD))) (@ap _ _ _ (eE (lf hr) (aV (pv 0) rfl) (@ay _ _ _ _ _ _ _ aH (pv 5) ak (fun _ _=>rfl)) (pv 6) (aj rfl))) (fun _=>rfl)) (@ah _ _ _ _ _ (@cr _ _ _ _ _ _ _ _ PassesOwn.never rfl (ja (@ay _ _ _ _ _ _ _ aH (pv 2) ak (fun _ _=>rfl))) (bC (i:=7) dM.nd rfl (Or.inl rfl)) (@ap _ _ _ (eE (lf hr) (aV (pv 0) rfl) (@ay _ _ _ _ _ _ _ aH (pv 7) ak (fun _ _=>rfl)) (@aB _ _ _ _ _ _ _ _ _ _ _ _ _ _ _ _ G_nought (hr.mono (by omega)) rfl m_nought k_nought b_nought .nil aI (@ac _ _ _ _ _ (pv 1) (@ac _ _ _ _ _ (@ay _ _ _ _ _ _ _ aH (pv 7) ak (fun _ _=>rfl)) ag (ab rfl)) (ab rfl)) (by decide) (ab rfl) (am rfl)) (aj rfl))) (fun _=>rfl)) (@ah _ _ _ _ _ (bX (pv 0) (cV rfl rfl T.list rfl TR (@aB _ _ _ _ _ _ _ _ _ _ _ _ _ _ _ _ G_numbered (hr.mono (by omega)) rfl m_numbered k_numbered b_numbered .nil aI (@ac _ _ _ _ _ (@ay _ _ _ _ _ _ _ aH (pv 2) ak (fun _ _=>rfl)) (@ac _ _ _ _ _ ak ag (ab rfl)) (ab rfl)) (by decide) (ab rfl) (am rfl))) (aj rfl)) (@ap _ _ _ (bX (pv 0) (pv 4) (aj rfl))))))))),?_⟩
 have ne0:∀ {b u},H0 b=some u→b≠x:=fun hb z=>by rw [z,hx0] at hb; cases hb
 have sx:∀ {H1:Hp} {o:HO},aE H0 H1→aE H0 (upd H1 x o):=fun g=>aU hx0 g
 refine ⟨_,rfl,_,rfl,x,CF,dx,_,rfl,hx,cC,TC.n "function" (by decide +kernel),by simp,?_⟩
 have G1:aE H0 (upd H x (.ins CF dx [("function",.ref a)])):=sx G
 have hx1:(upd H x (.ins CF dx [("function",.ref a)])) x=some (.ins CF dx [("function",.ref a)]):=ad
 change iS _ _ _ _ (upd H x (.ins CF dx [("function",.ref a)]))
 generalize (upd H x (.ins CF dx [("function",.ref a)]))=H1 at G1 hx1
 refine ⟨_,rfl,.ref a,F,rfl,hu.mono (aa G1),hF.nd,hF.le,fun kk H2 g2 hk0 hk2=>?_⟩
 refine ⟨_,rfl,x,CF,dx,_,rfl,g2 _ _ hx1,cC,TC.n "kinds" (by decide +kernel),by simp,?_⟩
 have G3:aE H0 (upd H2 x (.ins CF dx [("function",.ref a),("kinds",.ref kk)])):=sx (G1.trans g2)
 have hx3:(upd H2 x (.ins CF dx [("function",.ref a),("kinds",.ref kk)])) x=some (.ins CF dx [("function",.ref a),("kinds",.ref kk)]):=ad
 change iS _ _ _ _ (upd H2 x (.ins CF dx [("function",.ref a),("kinds",.ref kk)]))
 generalize (upd H2 x (.ins CF dx [("function",.ref a),("kinds",.ref kk)]))=H3 at G3 hx3
 refine fun hl hl0=>⟨_,rfl,x,CF,dx,_,rfl,(ae hl0 _) _ _ hx3,cC,TC.n "held" (by decide +kernel),by simp,?_⟩
 have hxl:x≠hl:=fun z=>by rw [z,hl0] at hx3; cases hx3
 have hlf:=G3.free hl0
 have G4:aE H0 (upd (upd H3 hl (.dK [])) x (.ins CF dx [("function",.ref a),("kinds",.ref kk),("held",.ref hl)])):=sx (G3.trans (ae hl0 _))
 have hx4:(upd (upd H3 hl (.dK [])) x (.ins CF dx [("function",.ref a),("kinds",.ref kk),("held",.ref hl)])) x=some (.ins CF dx [("function",.ref a),("kinds",.ref kk),("held",.ref hl)]):=ad
 have hh4:(upd (upd H3 hl (.dK [])) x (.ins CF dx [("function",.ref a),("kinds",.ref kk),("held",.ref hl)])) hl=some (.dK []):=by rw [ax hxl.symm]; exact ad
 change iS _ _ _ _ (upd (upd H3 hl (.dK [])) x (.ins CF dx [("function",.ref a),("kinds",.ref kk),("held",.ref hl)]))
 generalize (upd (upd H3 hl (.dK [])) x (.ins CF dx [("function",.ref a),("kinds",.ref kk),("held",.ref hl)]))=H4 at G4 hx4 hh4
 let KN:List (Str×V):=(F.ps.map (·.1)).zip gs++F.ls.map fun p=>(p.1,V.int 0)
 have hKN:KN.map (·.1)=(F.ps++F.ls).map (·.1):=by
  show ((F.ps.map (·.1)).zip gs++F.ls.map fun p=>(p.1,V.int 0)).map (·.1)=_
  rw [List.map_append,List.map_fst_zip (by rw [List.length_map]; omega),List.map_append,List.map_map]
  rfl
 have lKN:KN.length≤10:=by
  have:=congrArg List.length hKN
  rw [List.length_map,List.length_map] at this
  rw [this]
  exact hF.le
 have ndK:(KN.map (·.1)).Nodup:=by rw [hKN]; exact hF.nd
 have lpx:=dpx.len
 rw [List.length_map] at lpx
 have llx:=dlx.len
 rw [List.length_map] at llx
 have sq2:∀ {H':Hp},aE H0 H'→SqX k2 K H' gv gs:=fun {H'} g=>by
  rcases hgv with ⟨rfl,h⟩ | ⟨rfl,h⟩
  ·exact SqT.of (g _ _ h)
  ·exact SqL.of (g _ _ h)
 refine ⟨_,rfl,a,_,_,_,rfl,rfl,SqT.of (G4 _ _ ha),rfl,_,rfl,pp,gv,rfl,⟨px,SqT.of (G4 _ _ hpp)⟩,⟨gs,sq2 G4⟩,wc (k1:=true) (k2:=k2) (xs:=px) (ys:=gs) F.ps.length lpx.symm lg
  (fun i σ H'=>∃ m5 m6 m7,σ=[some (.ref x),some p,some (.ref a),some (.ref gv),some tv,m5,m6,m7]∧aE H0 H'∧H' x=some (.ins CF dx [("function",.ref a),("kinds",.ref kk),("held",.ref hl)])∧H' hl=some (.dK (nvs (KN.take i))))
  ⟨none,none,none,rfl,G4,hx4,hh4⟩ (fun i σ H' _ p=>?_) (fun i y1 y2 pr σ H' hy1 hy2 p hpr=>?_) (fun σ H' p=>?_)⟩
 ·obtain ⟨_,_,_,rfl,G',_⟩:=p
  exact ⟨SqT.of (G' _ _ hpp),sq2 G'⟩
 ·obtain ⟨m5,m6,m7,rfl,G',hx',hh'⟩:=p
  obtain ⟨dd,hdd,dy⟩:=dpx.get i y1 hy1
  rw [List.getElem?_map] at hdd
  obtain ⟨pr1,hpr1,rfl⟩:=Option.map_eq_some_iff.mp hdd
  obtain ⟨ya,yk,rfl,hya,dyk⟩:=op1 dy
  have gp:=ae hpr (.tup [.ref ya,y2])
  have hKi:KN[i]?=some (pr1.1,y2):=by
   have hi:i<F.ps.length:=(List.getElem?_eq_some_iff.mp hpr1).1
   have hz:((F.ps.map (·.1)).zip gs)[i]?=some (pr1.1,y2):=List.getElem?_zip_eq_some.mpr ⟨by rw [List.getElem?_map,hpr1]; rfl,hy2⟩
   show ((F.ps.map (·.1)).zip gs++F.ls.map fun p=>(p.1,V.int 0))[i]?=_
   rw [List.getElem?_append_left (by rw [List.length_zip,List.length_map]; omega),hz]
  refine ⟨pr,_,rfl,SqT.of ad,rfl,_,_,rfl,_,_,rfl,rfl,?_⟩
  refine ⟨_,rfl,_,rfl,x,CF,dx,_,_,rfl,gp _ _ hx',cC,TC.n "held" (by decide +kernel),rfl,_,rfl,ya,_,_,_,rfl,rfl,SqT.of (gp _ _ (G' _ _ hya)),rfl,hl,_,rfl,gW.k (k:=Sum.inr pr1.1) (gp _ _ hh') (by unfold nvs; rw [List.length_map,List.length_take,sizeLine_eq]; omega),?_⟩
  rw [nS ndK hKi]
  exact ⟨_,_,_,rfl,aU hlf (G'.trans gp),by rw [ax hxl]; exact gp _ _ hx',ad⟩
 ·obtain ⟨m5,m6,m7,rfl,G',hx',hh'⟩:=p
  refine ⟨_,rfl,a,_,_,_,rfl,rfl,SqT.of (G' _ _ ha),rfl,lp,rfl,⟨lx,SqT.of (G' _ _ hlp)⟩,hJ (xs:=lx)
   (fun i σ H'=>∃ m5 m6 m7,σ=[some (.ref x),some p,some (.ref a),some (.ref gv),some tv,m5,m6,m7]∧aE H0 H'∧H' x=some (.ins CF dx [("function",.ref a),("kinds",.ref kk),("held",.ref hl)])∧H' hl=some (.dK (nvs (KN.take (F.ps.length+i)))))
   ⟨m5,m6,m7,rfl,G',hx',hh'⟩ (fun i σ H' _ p=>?_) (fun i y1 σ H' hy1 p=>?_) (fun σ H' p=>?_)⟩
  ·obtain ⟨_,_,_,rfl,G',_⟩:=p
   exact SqT.of (G' _ _ hlp)
  ·obtain ⟨m5,m6,m7,rfl,G',hx',hh'⟩:=p
   obtain ⟨dd,hdd,dy⟩:=dlx.get i y1 hy1
   rw [List.getElem?_map] at hdd
   obtain ⟨pr1,hpr1,rfl⟩:=Option.map_eq_some_iff.mp hdd
   obtain ⟨ya,yk,rfl,hya,dyk⟩:=op1 dy
   obtain rfl:=dyk.str_inv
   have enm:=hF.nm pr1 (List.mem_of_getElem? hpr1)
   rw [enm] at hya
   have hKi:KN[F.ps.length+i]?=some (pr1.1,.int 0):=by
    have lz:((F.ps.map (·.1)).zip gs).length=F.ps.length:=by rw [List.length_zip,List.length_map]; omega
    show ((F.ps.map (·.1)).zip gs++F.ls.map fun p=>(p.1,V.int 0))[F.ps.length+i]?=_
    rw [List.getElem?_append_right (by omega),lz,Nat.add_sub_cancel_left,List.getElem?_map,hpr1]
    rfl
   refine ⟨_,rfl,_,rfl,ya,_,_,_,rfl,rfl,SqT.of (G' _ _ hya),rfl,p,rfl,?_⟩
   refine ⟨_,rfl,x,CF,dx,_,_,rfl,hx',cC,TC.n "held" (by decide +kernel),rfl,_,rfl,ya,_,_,_,rfl,rfl,SqT.of (G' _ _ hya),rfl,hl,_,rfl,gW.k (k:=Sum.inr pr1.1) hh' (by unfold nvs; rw [List.length_map,List.length_take,sizeLine_eq]; omega),?_⟩
   rw [nS ndK hKi]
   exact ⟨_,_,_,rfl,aU hlf G',by rw [ax hxl]; exact hx',ad⟩
  ·obtain ⟨m5,m6,m7,rfl,G',hx',hh'⟩:=p
   have eK:KN.take (F.ps.length+lx.length)=KN:=List.take_of_length_le (by
    show ((F.ps.map (·.1)).zip gs++F.ls.map fun p=>(p.1,V.int 0)).length≤_
    rw [List.length_append,List.length_zip,List.length_map,List.length_map]
    omega)
   rw [eK] at hh'
   refine ⟨_,rfl,a,_,_,_,rfl,rfl,SqT.of (G' _ _ ha),rfl,ba,F.bd,0,rfl,db.mono (aa G'),hF.bd,fun r ys H5 g5 hr0 hr5 d5=>?_⟩
   refine ⟨r,ys,rfl,.inl (SqL.of hr5),fun tl htl=>?_⟩
   have g6:=g5.trans (ae htl (.lst ys.reverse))
   have hx6:=g6 _ _ hx'
   have hxt:x≠tl:=fun z=>by rw [← z,g5 _ _ hx'] at htl; cases htl
   have hht:hl≠tl:=fun z=>by rw [← z,g5 _ _ hh'] at htl; cases htl
   refine ⟨_,rfl,x,CF,dx,_,rfl,hx6,cC,TC.n "tasks" (by decide +kernel),by simp,?_⟩
   refine ⟨_,rfl,_,rfl,x,CF,dx,_,rfl,ad,cC,TC.n "target" (by decide +kernel),Nat.lt_of_le_of_lt (cz _ _ _) (by simp),?_⟩
   have htf:=(G'.trans g5).free htl
   have kx:∀ {H1:Hp} {fs fs':List (Str×V)},H1 x=some (.ins CF dx fs)→Tk H1 (upd H1 x (.ins CF dx fs')):=fun h b xs e=>by rw [ax (aX e h (fun z=>by cases z))]; exact e
   have kk2:=(kx (fs':=[("function",.ref a),("kinds",.ref kk),("held",.ref hl),("tasks",.ref tl)]) hx6).trans (kx (fs':=[("function",.ref a),("kinds",.ref kk),("held",.ref hl),("tasks",.ref tl),("target",tv)]) ad)
   refine q hl tl _ (sx (sx (G'.trans g6))) hlf htf ⟨dx,.ref a,.ref kk,ys.reverse,ad,(hu.mono (aa (G'.trans g6))).mono kk2,⟨nvs KN,?_,?_,?_⟩,?_,?_⟩
   ·rw [ax hxl.symm,ax hxl.symm]
    exact g6 _ _ hh'
   ·unfold nvs
    rw [List.length_map]
    omega
   ·exact rl (cu (kU F.ls) (nF (((dg.mono (aa (G'.trans g6)))).mono kk2) (by rw [List.length_map]; exact lg)))
   ·rw [ax hxt.symm,ax hxt.symm]
    exact ad
   ·rw [List.reverse_reverse]
    exact (d5.mono (aa (ae htl _))).mono kk2
end
open PySem L2
inductive au where
 | line (f:Str) (k:Int)
 | way (f:Str) (k:Int) (b:Bool)
deriving DecidableEq
def au.vs:au→List V
 | .line f k=>[.str "line",.str f,.int k]
 | .way f k b=>[.str "way",.str f,.int k,.bl b]
def au.d:au→PyData
 | .line f k=>.tuple [.str "line",.str f,.int k]
 | .way f k b=>.tuple [.str "way",.str f,.int k,.bool b]
def spk (l:List au):List (List V×V):=l.map fun s=>(s.vs,.bl true)
def bn (l:List au) (s:au):List au:=if s∈l then l else l++[s]
theorem uU (s:au):s.vs.all isK=true:=by cases s<;>rfl
theorem vE {s t:au} (h:s.vs.map cK=t.vs.map cK):s=t:=by
 cases s with
 | line f k =>
  cases t with
  | line g j =>
   simp only [au.vs,List.map_cons,List.map_nil,List.cons.injEq,cK,Sum.inr.injEq,Sum.inl.injEq] at h
   obtain ⟨_,rfl,rfl,_⟩:=h
   rfl
  | way g j b=>simp [au.vs] at h
 | way f k b =>
  cases t with
  | line g j=>simp [au.vs] at h
  | way g j c =>
   simp only [au.vs,List.map_cons,List.map_nil,List.cons.injEq,cK,Sum.inr.injEq,Sum.inl.injEq] at h
   obtain ⟨_,rfl,rfl,h,_⟩:=h
   cases b<;>cases c<;>first | rfl | (exact absurd h (by decide))
theorem rD (l:List au) (s:au):gc (spk l) s.vs (.bl true)=spk (bn l s):=by
 have ea:((spk l).any fun kv=>decide (kv.1.map cK=s.vs.map cK))=decide (s∈l):=by
  rw [Bool.eq_iff_iff]
  simp only [spk,List.any_map,List.any_eq_true,Function.comp,decide_eq_true_eq]
  constructor
  ·rintro ⟨t,ht,e⟩
   exact vE e ▸ ht
  ·exact fun h=>⟨s,h,rfl⟩
 unfold gc bn
 rw [ea]
 by_cases c:s∈l
 ·rw [if_pos (decide_eq_true c),if_pos c]
  unfold spk
  rw [List.map_map]
  refine List.map_congr_left fun t _=>?_
  simp only [Function.comp]
  split<;>rfl
 ·rw [if_neg (by simp [c]),if_neg c]
  unfold spk
  rw [List.map_append]
  rfl
theorem bA (l:List au) (s:au):(bn l s).length≤l.length+1:=by
 unfold bn
 split
 ·omega
 ·simp
theorem aG {H:Hp} {a b:Addr} {o u:HO} (h:b≠a) (e:H b=some u):upd H a o b=some u:=by rw [ax h]; exact e
structure RSt where
 ticks:Int
 frs:List Fr
 spots:List au
 fin:Option PyData
inductive bF (K:Frag) (CF:Addr) (H:Hp):List V→List Fr→List Addr→List Addr→Prop
 | nil:bF K CF H [] [] [] []
 | cons {x hl tl:Addr} {fr:Fr} {vs:List V} {frs:List Fr} {hls tls:List Addr}:et K CF H x hl tl fr→bF K CF H vs frs hls tls→bF K CF H (.ref x::vs) (fr::frs) (hl::hls) (tl::tls)
def jl (K:Frag) (H:Hp) (v:V):Option PyData→Prop
 | none=>v=.non
 | some d=>DT K H v d
structure RS (K:Frag) (CR CF:Addr) (FS:List Fn) (H0:Hp) (x:Addr) (H:Hp) (st:RSt):Prop where
 sm:aE H0 H
 ex:∃ dx pgv fl sp ev vs hls tls,H x=some (.ins CR dx [("program",pgv),("ticks",.int st.ticks),("frames",.ref fl),("spots",.ref sp),("end",ev)])∧DT K H pgv (pgD FS)∧H fl=some (.lst vs.reverse)∧bF K CF H vs st.frs hls tls ∧
  H sp=some (.dT (spk st.spots))∧jl K H ev st.fin∧hls.Nodup∧(fl::tls).Nodup∧∀ a∈x::fl::sp::(hls++tls),H0 a=none
structure Bnd (st:RSt):Prop where
 s:st.spots.length≤9000
 f:st.frs.length≤10000
 t:∀ f∈st.frs,f.tasks.length≤10000
structure GR (K:Frag) (C:Addr):Prop where
 c:Cls K C
 n:∀ z∈([("program":Str),("ticks":Str),("frames":Str),("spots":Str),("end":Str)]:List Str),cD K C z
theorem et.keep {K:Frag} {CF:Addr} {H H':Hp} {x hl tl:Addr} {fr:Fr} (k:Tk H H') (e1:∀ o,H x=some o→H' x=some o) (e2:∀ o,H hl=some o→H' hl=some o) (e3:∀ o,H tl=some o→H' tl=some o) (h:et K CF H x hl tl fr):et K CF H' x hl tl fr:=by
 obtain ⟨dx,fu,kk,ys,h1,h2,h3,h4,h5⟩:=h
 exact ⟨dx,fu,kk,ys,e1 _ h1,h2.mono k,h3.mono k e2,e3 _ h4,h5.mono k⟩
theorem bF.same {K:Frag} {CF:Addr} {H H':Hp} (g:aE H H'):∀ {vs:List V} {frs:List Fr} {hls tls:List Addr},bF K CF H vs frs hls tls→bF K CF H' vs frs hls tls
 | _,_,_,_,.nil=>.nil
 | _,_,_,_,.cons h r=>.cons (h.keep (aa g) (fun _ z=>g _ _ z) (fun _ z=>g _ _ z) (fun _ z=>g _ _ z)) (bF.same g r)
theorem bK {H:Hp} {a:Addr} {o o':HO} (ha:H a=some o) (t:∀ ys,o≠.tup ys):Tk H (upd H a o'):=fun b xs e=>by rw [ax (aX e ha (fun z=>t _ z.symm))]; exact e
theorem bF.upd {K:Frag} {CF:Addr} {H:Hp} {a:Addr} {o o':HO} (ha:H a=some o) (t:∀ ys,o≠.tup ys) (c:∀ dx fs,o≠.ins CF dx fs)
  {vs:List V} {frs:List Fr} {hls tls:List Addr} (d:(∀ kvs,o≠.dK kvs)∨a∉hls) (l:(∀ ys,o≠.lst ys)∨a∉tls) (hh:bF K CF H vs frs hls tls):bF K CF (L2.upd H a o') vs frs hls tls:=by
 induction hh with
 | nil=>exact .nil
 | @cons x hl tl fr vs frs hls tls h r ih =>
  refine .cons ?_ (ih (d.imp id fun z y=>z (List.mem_cons_of_mem _ y)) (l.imp id fun z y=>z (List.mem_cons_of_mem _ y)))
  obtain ⟨dx,fu,kk,ys,h1,h2,⟨kvs,h3,h3',h3''⟩,h4,h5⟩:=id h
  have n1:x≠a:=aX h1 ha (fun z=>c _ _ z.symm)
  have n2:hl≠a:=d.elim (fun z=>aX h3 ha (fun y=>z _ y.symm)) (fun z y=>z (by rw [← y]; exact List.mem_cons_self))
  have n3:tl≠a:=l.elim (fun z=>aX h4 ha (fun y=>z _ y.symm)) (fun z y=>z (by rw [← y]; exact List.mem_cons_self))
  exact h.keep (bK ha t) (fun _ z=>by rw [ax n1]; exact z) (fun _ z=>by rw [ax n2]; exact z) (fun _ z=>by rw [ax n3]; exact z)
theorem bF.len {K:Frag} {CF:Addr} {H:Hp}:∀ {vs:List V} {frs:List Fr} {hls tls:List Addr},bF K CF H vs frs hls tls→vs.length=frs.length
 | _,_,_,_,.nil=>rfl
 | _,_,_,_,.cons _ r=>by rw [List.length_cons,List.length_cons,r.len]
theorem jl.mono {K:Frag} {H H':Hp} (k:Tk H H') {v:V}:∀ {d:Option PyData},jl K H v d→jl K H' v d
 | none,h=>h
 | some _,h=>DT.mono k h
def pJ (σ:Env) (z:Str) (d:PyData):Env:=fun y=>if y=z then some d else σ y
theorem nr {kvs:List (Key×V)} {k:Key} {v w:V} (h:bO kvs k=some w):(cY kvs k v).length=kvs.length:=by
 unfold cY
 rw [cL,h]
 simp
theorem cO.put {K:Frag} {H:Hp} {h:Addr} {σ:Env} {z:Str} {d d0:PyData} {v:V} {kvs:List (Key×V)} (hz:σ z=some d0) (h1:H h=some (.dK kvs)) (h2:kvs.length≤20) (h3:∀ x d,σ x=some d→∃ v,bO kvs (Sum.inr x)=some v∧DT K H v d) (dv:DT K H v d):cO K (L2.upd H h (.dK (cY kvs (Sum.inr z) v))) h (pJ σ z d):=by
 obtain ⟨w0,hw0,_⟩:=h3 _ _ hz
 have k:Tk H (L2.upd H h (.dK (cY kvs (Sum.inr z) v))):=bK h1 (fun _ z=>by cases z)
 refine ⟨_,ad,by rw [nr hw0]; exact h2,fun y d' hy=>?_⟩
 unfold pJ at hy
 rw [vG]
 by_cases c:y=z
 ·rw [if_pos c] at hy
  obtain rfl:=Option.some.inj hy
  exact ⟨v,by rw [if_pos (by rw [c])],dv.mono k⟩
 ·rw [if_neg c] at hy
  obtain ⟨v1,e1,e2⟩:=h3 y d' hy
  exact ⟨v1,by rw [if_neg (fun q=>c (Sum.inr.inj q))]; exact e1,e2.mono k⟩
inductive Giv:RSt→PyData→RSt→Prop
 | last {t:Int} {fr:Fr} {ss:List au} {d:PyData}:Giv ⟨t,[fr],ss,none⟩ d ⟨t,[],ss,some (.tuple [.str "back",d])⟩
 | on {t:Int} {fr f2:Fr} {r:List Fr} {ss:List au} {d d0:PyData} {z:Str}:fr.tgt=.str z→f2.σ z=some d0→Giv ⟨t,fr::f2::r,ss,none⟩ d ⟨t,⟨f2.fn,pJ f2.σ z d,f2.tasks,f2.tgt⟩::r,ss,none⟩
section
variable {P:Program} {w:World} {K:Frag} {mg:Str→Option Value} {base:Heap} {f g:Addr} {fd gd:FuncData} {CF CR:Addr} {FS:List Fn}
abbrev tV:List Str:=["self", "value", "frame"]
theorem lq:aF tV ["self", "value"] (defScope eI):=⟨rfl,rfl,rfl,by decide +kernel,rfl,by decide +kernel,by decide +kernel⟩
def oU (K:Frag) (CR CF:Addr) (FS:List Fn):Sp:=fun vs H Q _=>∃ x v H0 st st' d,vs=[.ref x,v]∧RS K CR CF FS H0 x H st∧DT K H v d∧Giv st d st'∧∀ H',RS K CR CF FS H0 x H' st'→Q .non H'
theorem wL (hC:CR≠CF) (TR:GR K CR) (TF:GF K CF) (T:G0 mg) (F:Fun K "give" "Run.give" eI f fd):bg P w K mg base CX0 1 f fd ["self", "value"] (oU K CR CF FS):=by
 have cR:=TR.c
 have cF:=TF.c
 refine F.ok lq (fun vs H Q EX h=>?_) (fun cdv A outer s H vs Q EX hr h=>?_)
 ·obtain ⟨x,v,H0,st,st',d,rfl,_⟩:=h
  rfl
 obtain ⟨x,v,H0,st,st',d,rfl,⟨G,dx,pgv,fl,sp,ev,vs,hls,tls,hx,hpv,hfl,hfr,hsp,hev,hhl,htl,h0⟩,dv,hg,q⟩:=h
 refine ⟨_,(@ah _ _ _ _ _ (@aA _ _ 2 _ _ _ _ lq.nd rfl (Or.inl rfl) (pk PySem.F.plainAttrs_list PySem.F.slot_list_pop PySem.F.type_list_pop qW (aV (pv 0) rfl)) (aj rfl) (.inr rfl)) (@ap _ _ _ (@aZ _ _ _ _ _ _ _ _ (@aC _ _ _ _ _ _ _ _ bD (@br _ _ _ _ _ _ _ _ _ bL rfl T.len ol (@ac _ _ _ _ _ (aV (pv 0) rfl) ag (ab rfl)) (by decide) (by decide) (ab rfl) (am rfl)) ak (aQ _)) (@ap _ _ _ (bX (pv 0) (@ar _ _ _ _ _ (@ac _ _ _ _ _ ao (@ac _ _ _ _ _ (pv 1) ag (ab rfl)) (ab rfl))) (aj rfl))) (@ap _ _ _ (eE (lf hr) (aV (@ay _ _ _ _ _ _ _ aK (aV (pv 0) rfl) (@uo _ _ _ _ _ _ pU ak) (fun _ _=>rfl)) rfl) (aV (pv 2) rfl) (pv 1) (aj rfl)))))),?_⟩
 have f0:=h0 fl (by simp)
 have nfl:=(List.nodup_cons.mp htl).1
 obtain ⟨tk,frs,ss,fin⟩:=st
 simp only at hx hfr hsp hev
 cases hfr with
 | nil=>cases hg
 | @cons xf hl tl fr vs frs hls tls hf hr2 =>
  rw [List.reverse_cons] at hfl
  refine ⟨_,rfl,x,CR,dx,_,_,rfl,hx,cR,TR.n "frames" (by decide +kernel),rfl,.inl ⟨rfl,_,SqL.of hfl⟩,fl,_,.ref xf,rfl,rfl,hfl,by simp,?_⟩
  rw [List.dropLast_concat]
  have hxl:x≠fl:=aX hx hfl (fun z=>by cases z)
  have k1:Tk H (upd H fl (.lst vs.reverse)):=bI hfl _
  have hx1:=aG (o:=.lst vs.reverse) hxl hx
  have hf1:(upd H fl (.lst vs.reverse)) fl=some (.lst vs.reverse):=ad
  have hr1:=bF.upd (o':=.lst vs.reverse) hfl (fun _ z=>by cases z) (fun _ _ z=>by cases z) (.inl fun _ z=>by cases z) (.inr fun z=>nfl (List.mem_cons_of_mem _ z)) hr2
  have hs1:=aG (o:=.lst vs.reverse) (aX hsp hfl (fun z=>by cases z)) hsp
  have G1:aE H0 (upd H fl (.lst vs.reverse)):=aU f0 G
  have dv1:=dv.mono k1
  have hpv1:=hpv.mono k1
  have hev1:=hev.mono k1
  obtain ⟨fdx,fu,fkk,fys,hxf,_⟩:=hf
  have hxf1:=aG (o:=.lst vs.reverse) (aX hxf hfl (fun z=>by cases z)) hxf
  generalize (upd H fl (.lst vs.reverse))=H1 at k1 hx1 hf1 hr1 hs1 G1 dv1 hpv1 hev1 hxf1
  have lv:=hr2.len
  refine ⟨_,rfl,x,CR,dx,_,_,rfl,hx1,cR,TR.n "frames" (by decide +kernel),rfl,fl,_,rfl,.inl (SqL.of hf1),rfl,_,rfl,?_⟩
  cases hg with
  | last =>
   cases hr1
   refine aY (fun c=>?_) (fun c=>absurd rfl c)
   refine ⟨_,rfl,(by show 2≤sizeLine; decide),fun p hp=>?_⟩
   have gp:=ae hp (.tup [.str "back",v])
   refine ⟨_,rfl,x,CR,dx,_,rfl,gp _ _ hx1,cR,TR.n "end" (by decide +kernel),by simp,?_⟩
   have kp:=(aa gp).trans (bK (o':=.ins CR dx [("program",pgv),("ticks",.int tk),("frames",.ref fl),("spots",.ref sp),("end",.ref p)]) (gp _ _ hx1) (fun _ z=>by cases z))
   refine q _ ⟨aU (h0 x (by simp)) (G1.trans gp),dx,pgv,fl,sp,.ref p,[],[],[],ad,hpv1.mono kp,?_,.nil,?_,?_,.nil,by simp,?_⟩
   ·rw [ax hxl.symm]
    exact gp _ _ hf1
   ·rw [ax (aX hs1 hx1 (fun z=>by cases z))]
    exact gp _ _ hs1
   ·exact .tup (.inl ((bK (gp _ _ hx1) (fun _ z=>by cases z)) _ _ ad)) (.cons (.str _) (.cons (dv1.mono kp) .nil))
   ·intro a ha
    refine h0 a ?_
    simp only [List.append_nil,List.mem_cons,List.not_mem_nil,or_false] at ha
    rcases ha with rfl | rfl | rfl<;>simp
  | @on _ _ f2 r _ _ d0 z ht hz =>
   cases hr1 with
   | @cons x2 hl2 tl2 _ vs2 _ hls2 tls2 hf2 hr3 =>
    refine aY (fun c=>absurd c (by simp; omega)) (fun c=>?_)
    obtain ⟨dx2,fu2,kk2,ys2,e1,e2,⟨kvs2,e3,e3',e3''⟩,e4,e5⟩:=id hf2
    rw [List.reverse_cons] at hf1
    refine ⟨_,rfl,_,rfl,x,CR,dx,_,_,rfl,hx1,cR,TR.n "frames" (by decide +kernel),rfl,_,rfl,fl,_,_,_,rfl,rfl,SqL.of hf1,nR _ _,x2,CF,dx2,_,_,rfl,e1,cF,TF.n "held" (by decide +kernel),rfl,_,rfl,xf,CF,fdx,_,_,rfl,hxf1,cF,TF.n "target" (by decide +kernel),rfl,hl2,upd H1 hl2 (.dK (cY kvs2 (Sum.inr z) v)),rfl,?_,?_⟩
    ·show gW _ _ fr.tgt _ _
     rw [ht]
     exact gW.k (k:=Sum.inr z) e3 (by rw [sizeLine_eq]; omega)
    have nh:=List.nodup_cons.mp hhl
    have nh2:=List.nodup_cons.mp nh.2
    have nt:=List.nodup_cons.mp htl
    have k2:Tk H1 (upd H1 hl2 (.dK (cY kvs2 (Sum.inr z) v))):=bK e3 (fun _ z=>by cases z)
    refine q _ ⟨aU (h0 hl2 (by simp)) G1,dx,pgv,fl,sp,ev,.ref x2::vs2,hl2::hls2,tl2::tls2,aG (aX hx1 e3 (fun z=>by cases z)) hx1,hpv1.mono k2,aG (aX hf1 e3 (fun z=>by cases z)) (by rw [List.reverse_cons]; exact hf1),.cons ⟨dx2,fu2,kk2,ys2,aG (aX e1 e3 (fun z=>by cases z)) e1,e2.mono k2,cO.put hz e3 e3' e3'' dv1,aG (aX e4 e3 (fun z=>by cases z)) e4,e5.mono k2⟩ (bF.upd e3 (fun _ z=>by cases z) (fun _ _ z=>by cases z) (.inr nh2.1) (.inl fun _ z=>by cases z) hr3),aG (aX hs1 e3 (fun z=>by cases z)) hs1,jl.mono k2 hev1,nh.2,?_,fun a ha=>?_⟩
    ·have h1:=htl
     simp only [List.nodup_cons,List.mem_cons,not_or] at h1 ⊢
     exact ⟨⟨h1.1.2.1,h1.1.2.2⟩,h1.2.2⟩
    ·refine h0 a ?_
     simp only [List.mem_cons,List.mem_append] at ha ⊢
     rcases ha with h | h | h | (h | h) | h | h<;>simp [h]
end
open PySem L2
structure MCal (P:Program) (w:World) (K:Frag) (mg:Str→Option Value) (base:Heap) (C:Addr) (k:Nat) (m:Str) (ps:List Str) (sp:Sp):Prop where
 ex:∃ g gd,bg P w K mg base CX0 k g gd ps sp∧bZ K gd ps []∧sG K C m g
abbrev rfs (pgv:V) (t:Int) (fl sp:Addr) (ev:V):List (Str×V):=[("program",pgv),("ticks",.int t),("frames",.ref fl),("spots",.ref sp),("end",ev)]
structure RSo (K:Frag) (CR CF:Addr) (FS:List Fn) (H0:Hp) (x:Addr) (H:Hp) (st:RSt) (dx:Addr) (pgv:V) (fl sp:Addr) (ev:V) (vs:List V) (hls tls:List Addr):Prop where
 sm:aE H0 H
 hx:H x=some (.ins CR dx (rfs pgv st.ticks fl sp ev))
 hp:DT K H pgv (pgD FS)
 hf:H fl=some (.lst vs.reverse)
 fr:bF K CF H vs st.frs hls tls
 hs:H sp=some (.dT (spk st.spots))
 en:jl K H ev st.fin
 nh:hls.Nodup
 nt:(fl::tls).Nodup
 h0:∀ a∈x::fl::sp::(hls++tls),H0 a=none
section
variable {K:Frag} {CR CF:Addr} {FS:List Fn} {H0 H H':Hp} {x:Addr} {st:RSt} {dx:Addr} {pgv:V} {fl sp:Addr} {ev:V} {vs:List V} {hls tls:List Addr}
theorem RSo.rs (h:RSo K CR CF FS H0 x H st dx pgv fl sp ev vs hls tls):RS K CR CF FS H0 x H st:=⟨h.sm,dx,pgv,fl,sp,ev,vs,hls,tls,h.hx,h.hp,h.hf,h.fr,h.hs,h.en,h.nh,h.nt,h.h0⟩
theorem RS.op (h:RS K CR CF FS H0 x H st):∃ dx pgv fl sp ev vs hls tls,RSo K CR CF FS H0 x H st dx pgv fl sp ev vs hls tls:=by
 obtain ⟨G,dx,pgv,fl,sp,ev,vs,hls,tls,h1,h2,h3,h4,h5,h6,h7,h8,h9⟩:=h
 exact ⟨dx,pgv,fl,sp,ev,vs,hls,tls,G,h1,h2,h3,h4,h5,h6,h7,h8,h9⟩
theorem RSo.same (h:RSo K CR CF FS H0 x H st dx pgv fl sp ev vs hls tls) (g:aE H H'):RSo K CR CF FS H0 x H' st dx pgv fl sp ev vs hls tls :=
 ⟨h.sm.trans g,g _ _ h.hx,h.hp.mono (aa g),g _ _ h.hf,h.fr.same g,g _ _ h.hs,h.en.mono (aa g),h.nh,h.nt,h.h0⟩
theorem RSo.spot (s:au) (h:RSo K CR CF FS H0 x H st dx pgv fl sp ev vs hls tls):RSo K CR CF FS H0 x (upd H sp (.dT (spk (bn st.spots s)))) ⟨st.ticks,st.frs,bn st.spots s,st.fin⟩ dx pgv fl sp ev vs hls tls:=by
 have k:Tk H (upd H sp (.dT (spk (bn st.spots s)))):=bK h.hs (fun _ z=>by cases z)
 exact ⟨aU (h.h0 sp (by simp)) h.sm,aG (aX h.hx h.hs (fun z=>by cases z)) h.hx,h.hp.mono k,aG (aX h.hf h.hs (fun z=>by cases z)) h.hf,
  bF.upd h.hs (fun _ z=>by cases z) (fun _ _ z=>by cases z) (.inl fun _ z=>by cases z) (.inl fun _ z=>by cases z) h.fr,ad,h.en.mono k,h.nh,h.nt,h.h0⟩
theorem RSo.tasks {xf:Addr} {fr:Fr} {r:List Fr} {t:Int} {ss:List au} {e:Option PyData} {hl tl:Addr} {vs':List V} {hls' tls':List Addr} {ts:List (Int×S)} {zs:List V} (h:RSo K CR CF FS H0 x H ⟨t,fr::r,ss,e⟩ dx pgv fl sp ev (.ref xf::vs') (hl::hls') (tl::tls')) (hd:DTs K H zs.reverse (ts.map tkD)) :
  RSo K CR CF FS H0 x (upd H tl (.lst zs)) ⟨t,⟨fr.fn,fr.σ,ts,fr.tgt⟩::r,ss,e⟩ dx pgv fl sp ev (.ref xf::vs') (hl::hls') (tl::tls'):=by
 have hh:=h.fr
 cases hh with
 | cons hf hr =>
  obtain ⟨fdx,fu,fkk,ys,e1,e2,⟨kvs,e3,e3',e3''⟩,e4,e5⟩:=hf
  have k:Tk H (upd H tl (.lst zs)):=bK e4 (fun _ z=>by cases z)
  have n1:=h.nt
  simp only [List.nodup_cons,List.mem_cons,not_or] at n1
  refine ⟨aU (h.h0 tl (by simp)) h.sm,aG (aX h.hx e4 (fun z=>by cases z)) h.hx,h.hp.mono k,aG n1.1.1 h.hf,.cons ⟨fdx,fu,fkk,zs,aG (aX e1 e4 (fun z=>by cases z)) e1,e2.mono k,⟨kvs,aG (aX e3 e4 (fun z=>by cases z)) e3,e3',fun y d hy=>?_⟩,ad,hd.mono k⟩ (bF.upd e4 (fun _ z=>by cases z) (fun _ _ z=>by cases z) (.inl fun _ z=>by cases z) (.inr n1.2.1) hr),aG (aX h.hs e4 (fun z=>by cases z)) h.hs,h.en.mono k,h.nh,h.nt,h.h0⟩
  obtain ⟨v,q1,q2⟩:=e3'' y d hy
  exact ⟨v,q1,q2.mono k⟩
end
section
variable {P:Program} {w:World} {K:Frag} {mg:Str→Option Value} {base:Heap} {f g:Addr} {fd gd:FuncData} {CF CR:Addr} {FS:List Fn}
abbrev pO:List Str:=["self", "frame", "e"]
theorem nB:aF pO ["self", "frame", "e"] (defScope er):=⟨rfl,rfl,rfl,by decide +kernel,rfl,by decide +kernel,by decide +kernel⟩
def mU (K:Frag) (CR CF:Addr):Sp:=fun vs H Q _=>∃ x dx fs pgv xf hl tl fr u e d,vs=[.ref x,.ref xf,u]∧H x=some (.ins CR dx fs)∧fs.lookup ("program":Str)=some pgv∧et K CF H xf hl tl fr∧DT K H u (E.d e)∧e.d.depth≤3∧Ev fr.σ e d∧∀ v H',aE H H'→DT K H' v d→Q v H'
theorem vY (TR:GR K CR) (TF:GF K CF) (F:Fun K "reckon" "Run.reckon" er f fd) (D_reckoned:Cal P w K mg base 5 "reckoned" pRe (sQ K 3)):bg P w K mg base CX0 6 f fd ["self", "frame", "e"] (mU K CR CF):=by
 have cR:=TR.c
 have cF:=TF.c
 obtain ⟨g_reckoned,gd_reckoned,G_reckoned,b_reckoned,k_reckoned,m_reckoned⟩:=D_reckoned.ex
 refine F.ok nB (fun vs H Q EX h=>?_) (fun cdv A outer s H vs Q EX hr h=>?_)
 ·obtain ⟨x,dx,fs,pgv,xf,hl,tl,fr,u,e,d,rfl,_⟩:=h
  rfl
 obtain ⟨x,dx,fs,pgv,xf,hl,tl,fr,u,e,d,rfl,hx,hp,⟨fdx,fu,fkk,ys,e1,e2,e3,_⟩,hu,hd,hev,q⟩:=h
 refine ⟨_,(@ap _ _ _ (@aP _ _ _ _ (@aB _ _ _ _ _ _ _ _ _ _ _ _ _ _ _ _ G_reckoned (hr.mono (by omega)) rfl m_reckoned k_reckoned b_reckoned .nil aI (@ac _ _ _ _ _ (aV (pv 0) rfl) (@ac _ _ _ _ _ (aV (pv 1) rfl) (@ac _ _ _ _ _ (aV (pv 1) rfl) (@ac _ _ _ _ _ (pv 2) ag (ab rfl)) (ab rfl)) (ab rfl)) (ab rfl)) (by decide) (ab rfl) (am rfl)))),?_⟩
 exact ⟨_,rfl,x,CR,dx,_,_,rfl,hx,cR,TR.n "program" (by decide +kernel),hp,_,rfl,xf,CF,fdx,_,_,rfl,e1,cF,TF.n "kinds" (by decide +kernel),rfl,_,rfl,xf,CF,fdx,_,_,rfl,e1,cF,TF.n "held" (by decide +kernel),rfl,_,rfl,_,_,hl,u,e,fr.σ,d,rfl,e3,hu,hd,hev,q⟩
abbrev sF:List Str:=["self", "frame", "c"]
theorem pw:aF sF ["self", "frame", "c"] (defScope gK):=⟨rfl,rfl,rfl,by decide +kernel,rfl,by decide +kernel,by decide +kernel⟩
def uH (K:Frag) (CR CF:Addr):Sp:=fun vs H Q _=>∃ x dx fs pgv xf hl tl fr u c b,vs=[.ref x,.ref xf,u]∧H x=some (.ins CR dx fs)∧fs.lookup ("program":Str)=some pgv∧et K CF H xf hl tl fr∧DT K H u (C.d c)∧c.d.depth≤4∧Ec fr.σ c b∧∀ H',aE H H'→Q (.bl b) H'
theorem xL (TR:GR K CR) (TF:GF K CF) (F:Fun K "asked" "Run.asked" gK f fd) (D_truth_of:Cal P w K mg base 6 "truth_of" ["program", "kinds", "held", "c"] (zh K)):bg P w K mg base CX0 7 f fd ["self", "frame", "c"] (uH K CR CF):=by
 have cR:=TR.c
 have cF:=TF.c
 obtain ⟨g_truth_of,gd_truth_of,G_truth_of,b_truth_of,k_truth_of,m_truth_of⟩:=D_truth_of.ex
 refine F.ok pw (fun vs H Q EX h=>?_) (fun cdv A outer s H vs Q EX hr h=>?_)
 ·obtain ⟨x,dx,fs,pgv,xf,hl,tl,fr,u,e,d,rfl,_⟩:=h
  rfl
 obtain ⟨x,dx,fs,pgv,xf,hl,tl,fr,u,e,d,rfl,hx,hp,⟨fdx,fu,fkk,ys,e1,e2,e3,_⟩,hu,hd,hev,q⟩:=h
 refine ⟨_,(@ap _ _ _ (@aP _ _ _ _ (@aB _ _ _ _ _ _ _ _ _ _ _ _ _ _ _ _ G_truth_of (hr.mono (by omega)) rfl m_truth_of k_truth_of b_truth_of .nil aI (@ac _ _ _ _ _ (aV (pv 0) rfl) (@ac _ _ _ _ _ (aV (pv 1) rfl) (@ac _ _ _ _ _ (aV (pv 1) rfl) (@ac _ _ _ _ _ (pv 2) ag (ab rfl)) (ab rfl)) (ab rfl)) (ab rfl)) (by decide) (ab rfl) (am rfl)))),?_⟩
 exact ⟨_,rfl,x,CR,dx,_,_,rfl,hx,cR,TR.n "program" (by decide +kernel),hp,_,rfl,xf,CF,fdx,_,_,rfl,e1,cF,TF.n "kinds" (by decide +kernel),rfl,_,rfl,xf,CF,fdx,_,_,rfl,e1,cF,TF.n "held" (by decide +kernel),rfl,_,rfl,_,_,hl,u,e,fr.σ,d,rfl,e3,hu,hd,hev,q⟩
abbrev vb:List Str:=["self", "frame", "k", "statement", "truth", "bodies"]
theorem fZ:aF vb ["self", "frame", "k", "statement"] (defScope eX):=⟨rfl,rfl,rfl,by decide +kernel,rfl,by decide +kernel,by decide +kernel⟩
def tY (K:Frag) (CR CF:Addr) (FS:List Fn):Sp:=fun vs H Q _=>∃ x H0 t fr r ss dx pgv fl sp ev xf hl tl vs' hls tls u c A B b k,vs=[.ref x,.ref xf,.int k,u]∧RSo K CR CF FS H0 x H ⟨t,fr::r,ss,none⟩ dx pgv fl sp ev (.ref xf::vs') (hl::hls) (tl::tls)∧DT K H u (S.d (.if_ c A B))∧c.d.depth≤4∧Ec fr.σ c b∧(S.if_ c A B).cnt≤1000∧ss.length≤10000∧fr.tasks.length≤10000 ∧
 ∀ H',RS K CR CF FS H0 x H' ⟨t,⟨fr.fn,fr.σ,(if b then nmb (k+1) A else nmb (k+1+(S.cnts A:Int)) B)++fr.tasks,fr.tgt⟩::r,bn ss (.way fr.fn.nm k b),none⟩→Q .non H'
theorem wn (T:G0 mg) (TRv:mg "reversed"=none) (TR:GR K CR) (TF:GF K CF) (F:Fun K "fork" "Run.fork" eX f fd) (D_asked:MCal P w K mg base CR 7 "asked" ["self", "frame", "c"] (uH K CR CF)) (D_numbered_bodies:Cal P w K mg base 5 "numbered_bodies" ["k", "statement"] (vP K)):bg P w K mg base CX0 8 f fd ["self", "frame", "k", "statement"] (tY K CR CF FS):=by
 have cR:=TR.c
 have cF:=TF.c
 obtain ⟨g_asked,gd_asked,G_asked,b_asked,h_asked⟩:=D_asked.ex
 obtain ⟨g_numbered_bodies,gd_numbered_bodies,G_numbered_bodies,b_numbered_bodies,k_numbered_bodies,m_numbered_bodies⟩:=D_numbered_bodies.ex
 refine F.ok fZ (fun vs H Q EX h=>?_) (fun cdv A outer s H vs Q EX hr h=>?_)
 ·obtain ⟨x,H0,t,fr,r,ss,dx,pgv,fl,sp,ev,xf,hl,tl,vs',hls,tls,u,c,A,B,b,k,rfl,_⟩:=h
  rfl
 obtain ⟨x,H0,t,fr,r,ss,dx,pgv,fl,sp,ev,xf,hl,tl,vs',hls,tls,u,c,A',B,b,k,rfl,hS,hu,hd,hev,hcn,hss,hts,q⟩:=h
 have hu0:=hu
 simp only [S.d] at hu
 obtain ⟨a,x1,x2,x3,rfl,ha,h1,h2,h3⟩:=op3 hu
 have hf:et K CF H xf hl tl fr:=by have z:=hS.fr; cases z with | cons z _=>exact z
 refine ⟨_,(@ah _ _ _ _ _ (@aA _ _ 4 _ _ _ _ fZ.nd rfl (Or.inl rfl) (cx (C:=CR) (pv 0) cR h_asked G_asked (hr.mono (by omega)) b_asked .nil aI (@ac _ _ _ _ _ (pv 1) (@ac _ _ _ _ _ (@ay _ _ _ _ _ _ _ aH (pv 3) ak (fun _ _=>rfl)) ag (ab rfl)) (ab rfl))) (aj rfl) (.inr rfl)) (@ah _ _ _ _ _ (eE (lf hr) (aV (pv 0) rfl) (@ar _ _ _ _ _ (@ac _ _ _ _ _ ao (@ac _ _ _ _ _ (@ay _ _ _ _ _ _ _ aH (aV (pv 1) rfl) ak (fun _ _=>rfl)) (@ac _ _ _ _ _ (pv 2) (@ac _ _ _ _ _ (pv 4) ag (ab rfl)) (ab rfl)) (ab rfl)) (ab rfl))) lV (aj rfl)) (@ah _ _ _ _ _ (@aA _ _ 5 _ _ _ _ fZ.nd rfl (Or.inl rfl) (@aB _ _ _ _ _ _ _ _ _ _ _ _ _ _ _ _ G_numbered_bodies (hr.mono (by omega)) rfl m_numbered_bodies k_numbered_bodies b_numbered_bodies .nil aI (@ac _ _ _ _ _ (pv 2) (@ac _ _ _ _ _ (pv 3) ag (ab rfl)) (ab rfl)) (by decide) (ab rfl) (am rfl)) (aj rfl) (.inr rfl)) (@ap _ _ _ (@aZ _ _ _ _ _ _ _ _ (@aC _ _ _ _ _ _ _ _ bD (@ay _ _ _ _ _ _ _ aH (pv 3) ak (fun _ _=>rfl)) ao (aQ _)) (@ap _ _ _ (@bq _ _ _ _ (@dS _ _ _ _ _ _ _ _ _ _ _ _ PySem.F.plainAttrs_list PySem.F.slot_list_extend PySem.F.type_list_extend fB (aV (pv 1) rfl) (@ac _ _ _ _ _ (cV rfl rfl T.list rfl TRv (@oG _ _ _ _ _ _ _ _ (uI (pv 4)) (@ay _ _ _ _ _ _ _ aK (pv 5) ak (fun _ _=>rfl)) (@ay _ _ _ _ _ _ _ aK (pv 5) ak (fun _ _=>rfl)))) ag (ab rfl)) rfl (cm rfl rfl) rfl (ab rfl) (am rfl)) (aj rfl))) (@ap _ _ _ (@aZ _ _ _ _ _ _ _ _ (uI (pv 4)) aW aM))))))),?_⟩
 refine ⟨_,rfl,x,dx,_,rfl,hS.hx,rfl,_,rfl,_,rfl,a,_,_,_,rfl,rfl,SqT.of ha,rfl,x,dx,_,pgv,xf,hl,tl,fr,x1,c,b,rfl,hS.hx,rfl,hf,h1,hd,hev,fun H1 g1=>?_⟩
 have hS1:=hS.same g1
 obtain ⟨fdx,fu,fkk,ys,e1,e2,_⟩:et K CF H1 xf hl tl fr:=by have z:=hS1.fr; cases z with | cons z _=>exact z
 obtain ⟨fa,pa,la,ba,rfl,hfa,_⟩:=dP e2
 refine ⟨_,rfl,x,CR,dx,_,_,rfl,hS1.hx,cR,TR.n "spots" (by decide +kernel),rfl,_,rfl,xf,CF,fdx,_,_,rfl,e1,cF,TF.n "function" (by decide +kernel),rfl,fa,_,_,_,rfl,rfl,SqT.of hfa,rfl,_,rfl,_,rfl,(by show 4≤sizeLine; decide),fun p hp=>?_⟩
 have hS2:=hS1.same (ae hp (.tup (au.vs (.way fr.fn.nm k b))))
 refine ⟨sp,_,rfl,gW.t hS2.hs ad (uU (.way fr.fn.nm k b)) (by unfold spk; rw [List.length_map,sizeLine_eq]; show ss.length<_; omega),?_⟩
 have hS3:=hS2.spot (.way fr.fn.nm k b)
 rw [← rD] at hS3
 have kk:Tk H (upd (upd H1 p (.tup (au.vs (.way fr.fn.nm k b)))) sp (.dT (gc (spk ss) (au.vs (.way fr.fn.nm k b)) (.bl true)))):=((aa g1).trans (aa (ae hp _))).trans (bK hS2.hs (fun _ z=>by cases z))
 change iS _ _ _ _ (upd (upd H1 p (.tup (au.vs (.way fr.fn.nm k b)))) sp (.dT (gc (spk ss) (au.vs (.way fr.fn.nm k b)) (.bl true))))
 generalize (upd (upd H1 p (.tup (au.vs (.way fr.fn.nm k b)))) sp (.dT (gc (spk ss) (au.vs (.way fr.fn.nm k b)) (.bl true))))=H3 at hS3 kk
 refine ⟨_,rfl,_,rfl,_,_,k,rfl,hu0.mono kk,hcn,fun bl L H4 g4 hb0 hb4 pL=>?_⟩
 have hS4:=hS3.same g4
 have k4:=kk.trans (aa g4)
 refine ⟨_,rfl,a,_,_,_,rfl,rfl,SqT.of (k4 _ _ ha),rfl,rfl,_,rfl,mJ ?_⟩
 simp only [S.bods,nbs] at pL
 cases pL with
 | @cons v0 _ _ _ b0 pL =>
 cases pL with
 | @cons v1 _ _ _ b1 pL =>
 cases pL
 obtain ⟨l0,ys0,rfl,n0,hl0,dl0⟩:=b0
 obtain ⟨l1,ys1,rfl,n1,hl1,dl1⟩:=b1
 obtain ⟨fdx,fu,fkk,ys,e1,e2,e3,e4,e5⟩:et K CF H4 xf hl tl fr:=by have z:=hS4.fr; cases z with | cons z _=>exact z
 have ly:=e5.len
 rw [List.length_reverse,List.length_map] at ly
 have cA:=cN A'
 have cB:=cN B
 simp only [S.cnt] at hcn
 have l0':=dl0.len
 have l1':=dl1.len
 rw [List.length_map,mK] at l0' l1'
 have fin:∀ {zs:List V} {ts:List (Int×S)} {wl:Addr},H4 wl=none→DTs K H4 zs (ts.map tkD)→RS K CR CF FS H0 x (upd (upd H4 wl (.lst zs.reverse)) tl (.lst (ys++zs.reverse))) ⟨t,⟨fr.fn,fr.σ,ts++fr.tasks,fr.tgt⟩::r,bn ss (.way fr.fn.nm k b),none⟩:=fun {zs ts wl} hw dz=>by
  have gw:=ae hw (.lst zs.reverse)
  refine RSo.rs (RSo.tasks (hS4.same gw) ?_)
  rw [List.reverse_append,List.reverse_reverse,List.map_append]
  exact DTs.append (dz.mono (aa gw)) (e5.mono (aa gw))
 refine ⟨_,rfl,xf,CF,fdx,_,_,rfl,e1,cF,TF.n "tasks" (by decide +kernel),rfl,.inl ⟨rfl,_,SqL.of e4⟩,_,rfl,_,rfl,?_⟩
 cases b with
 | true =>
  refine mJ ⟨_,rfl,bl,_,_,_,rfl,rfl,SqL.of hb4,rfl,l0,ys0,rfl,.inl (SqL.of hl0),fun wl hw=>?_⟩
  exact ⟨tl,wl,_,_,rfl,rfl,aG (av e4 hw) e4,ad,by rw [List.length_reverse,sizeLine_eq]; omega,q _ (fin hw dl0)⟩
 | false =>
  refine zB ⟨_,rfl,bl,_,_,_,rfl,rfl,SqL.of hb4,rfl,l1,ys1,rfl,.inl (SqL.of hl1),fun wl hw=>?_⟩
  exact ⟨tl,wl,_,_,rfl,rfl,aG (av e4 hw) e4,ad,by rw [List.length_reverse,sizeLine_eq]; omega,q _ (fin hw dl1)⟩
end
open PySem L2
theorem bF.live {K:Frag} {CF:Addr} {H:Hp} {vs:List V} {frs:List Fr} {hls tls:List Addr} (h:bF K CF H vs frs hls tls):(∀ a∈hls,∃ o,H a=some o)∧∀ a∈tls,∃ o,H a=some o:=by
 induction h with
 | nil=>exact ⟨fun _ z=>(by cases z),fun _ z=>(by cases z)⟩
 | cons hf r ih =>
  obtain ⟨dx,fu,kk,ys,h1,h2,⟨kvs,h3,_⟩,h4,h5⟩:=hf
  refine ⟨fun a z=>?_,fun a z=>?_⟩
  ·rcases List.mem_cons.mp z with rfl | z
   ·exact ⟨_,h3⟩
   ·exact ih.1 a z
  ·rcases List.mem_cons.mp z with rfl | z
   ·exact ⟨_,h4⟩
   ·exact ih.2 a z
section
variable {K:Frag} {CR CF:Addr} {FS:List Fn} {H0 H H':Hp} {x:Addr} {dx:Addr} {pgv:V} {fl sp:Addr} {ev:V} {vs:List V} {hls tls:List Addr}
theorem RSo.push {t:Int} {frs:List Fr} {ss:List au} {e:Option PyData} {x' hl' tl':Addr} {fr':Fr} (h:RSo K CR CF FS H0 x H ⟨t,frs,ss,e⟩ dx pgv fl sp ev vs hls tls) (g:aE H H') (n1:H hl'=none) (n2:H tl'=none) (hf:et K CF H' x' hl' tl' fr') :
  RSo K CR CF FS H0 x (upd H' fl (.lst (vs.reverse++[.ref x']))) ⟨t,fr'::frs,ss,e⟩ dx pgv fl sp ev (.ref x'::vs) (hl'::hls) (tl'::tls):=by
 have h':=h.same g
 have lv:=h.fr.live
 have k:Tk H' (upd H' fl (.lst (vs.reverse++[.ref x']))):=bK h'.hf (fun _ z=>by cases z)
 have nt:=List.nodup_cons.mp h.nt
 have nfl:tl'≠fl:=fun z=>by rw [z,h.hf] at n2; cases n2
 obtain ⟨fdx,fu,fkk,ys,e1,e2,⟨kvs,e3,e3',e3''⟩,e4,e5⟩:=id hf
 refine ⟨aU (h.h0 fl (by simp)) h'.sm,aG (aX h'.hx h'.hf (fun z=>by cases z)) h'.hx,h'.hp.mono k,by rw [ad,List.reverse_cons],
  .cons (hf.keep k (fun _ z=>aG (aX e1 h'.hf (fun z=>by cases z)) z) (fun _ z=>aG (aX e3 h'.hf (fun z=>by cases z)) z) (fun _ z=>aG nfl z)) (bF.upd h'.hf (fun _ z=>by cases z) (fun _ _ z=>by cases z) (.inl fun _ z=>by cases z) (.inr nt.1) h'.fr),
  aG (aX h'.hs h'.hf (fun z=>by cases z)) h'.hs,h'.en.mono k,?_,?_,fun a ha=>?_⟩
 ·refine List.nodup_cons.mpr ⟨fun z=>?_,h.nh⟩
  obtain ⟨o,ho⟩:=lv.1 _ z
  rw [ho] at n1
  cases n1
 ·refine List.nodup_cons.mpr ⟨fun z=>?_,List.nodup_cons.mpr ⟨fun z=>?_,nt.2⟩⟩
  ·rcases List.mem_cons.mp z with z | z
   ·exact nfl z.symm
   ·exact nt.1 z
  ·obtain ⟨o,ho⟩:=lv.2 _ z
   rw [ho] at n2
   cases n2
 ·simp only [List.mem_cons,List.mem_append] at ha
  rcases ha with rfl | rfl | rfl | (rfl | ha) | rfl | ha
  ·exact h.h0 _ (by simp)
  ·exact h.h0 _ (by simp)
  ·exact h.h0 _ (by simp)
  ·exact h.sm.free n1
  ·exact h.h0 _ (by simp [ha])
  ·exact h.sm.free n2
  ·exact h.h0 _ (by simp [ha])
end
section
variable {P:Program} {w:World} {K:Frag} {mg:Str→Option Value} {base:Heap} {f g:Addr} {fd gd:FuncData} {CF CR:Addr} {FS:List Fn}
abbrev vd:List Str:=["self", "frame", "k", "statement", "given", "e", "value"]
theorem dN:aF vd ["self", "frame", "k", "statement"] (defScope eM):=⟨rfl,rfl,rfl,by decide +kernel,rfl,by decide +kernel,by decide +kernel⟩
structure MkF (P:Program) (w:World) (K:Frag) (mg:Str→Option Value) (base:Heap) (CF:Addr):Prop where
 ex:∃ g gd,bg P w K mg base CX0 5 g gd pFi (yM K CF)∧bZ K gd pFi []∧Mk K CF g∧mg "Frame"=some (.ref CF)
theorem ft {H:Hp} {x dx:Addr} {o1 o2:HO} (h1:H x=none) (h2:H dx=none) (n:dx≠x):aE H (upd (upd H dx o1) x o2):=(ae h2 o1).trans (ae (by rw [ax n.symm]; exact h1) o2)
def uJ (K:Frag) (CR CF:Addr) (FS:List Fn):Sp:=fun vs H Q _=>∃ x H0 t fr r ss dx pgv fl sp ev xf hl tl vs' hls tls u z gn es ds F kv,vs=[.ref x,.ref xf,kv,u]∧RSo K CR CF FS H0 x H ⟨t,fr::r,ss,none⟩ dx pgv fl sp ev (.ref xf::vs') (hl::hls) (tl::tls)∧DT K H u (S.d (.call z gn es))∧Evs fr.σ es ds∧(∀ e∈es,e.d.depth≤3)∧FS.find? (fun F=>decide (F.nm=gn))=some F∧FnG F∧F.ps.length=es.length∧es.length≤10∧r.length≤10000 ∧
 ∀ H',RS K CR CF FS H0 x H' ⟨t,⟨F,env0 F ds,nmb 0 F.bd,.str z⟩::fr::r,ss,none⟩→Q .non H'
theorem vW (TR:GR K CR) (TF:GF K CF) (F:Fun K "call" "Run.call" eM f fd) (D_reckon:MCal P w K mg base CR 6 "reckon" ["self", "frame", "e"] (mU K CR CF)) (D_function_of:Cal P w K mg base 1 "function_of" ["program", "f"] (wb K)) (D_Frame:MkF P w K mg base CF):bg P w K mg base CX0 8 f fd ["self", "frame", "k", "statement"] (uJ K CR CF FS):=by
 have cR:=TR.c
 have cF:=TF.c
 obtain ⟨g_reckon,gd_reckon,G_reckon,b_reckon,h_reckon⟩:=D_reckon.ex
 obtain ⟨g_Frame,gd_Frame,G_Frame,b_Frame,M_Frame,m_Frame⟩:=D_Frame.ex
 obtain ⟨g_function_of,gd_function_of,G_function_of,b_function_of,k_function_of,m_function_of⟩:=D_function_of.ex
 refine F.ok dN (fun vs H Q EX h=>?_) (fun cdv A outer s H vs Q EX hr h=>?_)
 ·obtain ⟨x,H0,t,fr,r,ss,dx,pgv,fl,sp,ev,xf,hl,tl,vs',hls,tls,u,z,gn,es,ds,F,kv,rfl,_⟩:=h
  rfl
 obtain ⟨x,H0,t,fr,r,ss,dx,pgv,fl,sp,ev,xf,hl,tl,vs',hls,tls,u,z,gn,es,ds,FF,kv,rfl,hS,hu,hev,hd,hF,hFG,hps,hes,hrl,q⟩:=h
 simp only [S.d] at hu
 obtain ⟨a,x1,x2,x3,rfl,ha,h1,h2,h3⟩:=op3 hu
 obtain rfl:=h1.str_inv
 obtain rfl:=h2.str_inv
 obtain ⟨ea,L,rfl,hea,dL⟩:=h3.open
 have lL:=dL.len
 rw [E.ds_len] at lL
 have led:=hev.len
 refine ⟨_,(@ah _ _ _ _ _ (@aA _ _ 4 _ _ _ _ dN.nd rfl (Or.inl rfl) (@bm _ _ _ _ ag) (aj rfl) (.inr rfl)) (@ah _ _ _ _ _ (@cr _ _ _ _ _ _ _ _ PassesOwn.never rfl (ja (@ay _ _ _ _ _ _ _ aH (pv 3) ak (fun _ _=>rfl))) (bC (i:=5) dN.nd rfl (Or.inl rfl)) (@ah _ _ _ _ _ (@aA _ _ 6 _ _ _ _ dN.nd rfl (Or.inl rfl) (cx (C:=CR) (pv 0) cR h_reckon G_reckon (hr.mono (by omega)) b_reckon .nil aI (@ac _ _ _ _ _ (pv 1) (@ac _ _ _ _ _ (pv 5) ag (ab rfl)) (ab rfl))) (aj rfl) (.inr rfl)) (@ah _ _ _ _ _ (@aZ _ _ _ _ _ _ _ _ (@aC _ _ _ _ _ _ _ _ na (pv 6) dC (aQ _)) aW aM) (@ap _ _ _ (@bq _ _ _ _ (@dS _ _ _ _ _ _ _ _ _ _ _ _ PySem.F.plainAttrs_list PySem.F.slot_list_append PySem.F.type_list_append bQ (pv 4) (@ac _ _ _ _ _ (pv 6) ag (ab rfl)) rfl (cm rfl rfl) rfl (ab rfl) (am rfl)) (aj rfl))))) (fun _=>rfl)) (@ap _ _ _ (@bq _ _ _ _ (@dS _ _ _ _ _ _ _ _ _ _ _ _ PySem.F.plainAttrs_list PySem.F.slot_list_append PySem.F.type_list_append bQ (aV (pv 0) rfl) (@ac _ _ _ _ _ (mQ (C:=CF) M_Frame G_Frame (hr.mono (by omega)) rfl m_Frame b_Frame .nil aI (@ac _ _ _ _ _ (aV (pv 0) rfl) (@ac _ _ _ _ _ (@aB _ _ _ _ _ _ _ _ _ _ _ _ _ _ _ _ G_function_of (hr.mono (by omega)) rfl m_function_of k_function_of b_function_of .nil aI (@ac _ _ _ _ _ (aV (pv 0) rfl) (@ac _ _ _ _ _ (@ay _ _ _ _ _ _ _ aH (pv 3) ak (fun _ _=>rfl)) ag (ab rfl)) (ab rfl)) (by decide) (ab rfl) (am rfl)) (@ac _ _ _ _ _ (pv 4) (@ac _ _ _ _ _ (@ay _ _ _ _ _ _ _ aH (pv 3) ak (fun _ _=>rfl)) ag (ab rfl)) (ab rfl)) (ab rfl)) (ab rfl))) ag (ab rfl)) rfl (cm rfl rfl) rfl (ab rfl) (am rfl)) (aj rfl))))),?_⟩
 refine ⟨(by show 0≤sizeLine; decide),fun gl hgl=>?_⟩
 have g0:=ae hgl (.lst [])
 refine ⟨_,rfl,a,_,_,_,rfl,rfl,SqT.of (g0 _ _ ha),rfl,ea,rfl,⟨L,SqT.of (g0 _ _ hea)⟩,hJ (xs:=L)
  (fun i σ H'=>∃ m5 m6 gs,σ=[some (.ref x),some (.ref xf),some kv,some (.ref a),some (.ref gl),m5,m6]∧aE H H'∧H' gl=some (.lst gs)∧DTs K H' gs (ds.take i))
  ⟨none,none,[],rfl,g0,ad,by rw [List.take_zero]; exact .nil⟩ (fun i σ H' _ p=>?_) (fun i y σ H' hy p=>?_) (fun σ H' p=>?_)⟩
 ·obtain ⟨_,_,_,rfl,G',_⟩:=p
  exact SqT.of (G' _ _ hea)
 ·obtain ⟨m5,m6,gs,rfl,G',hg',dg⟩:=p
  obtain ⟨e1,he1,de1⟩:=pj dL hy
  obtain ⟨d1,hd1,ev1⟩:=hev.at he1
  have hi8:i<ds.length:=(List.getElem?_eq_some_iff.mp hd1).1
  have hS':=hS.same G'
  have hf:et K CF H' xf hl tl fr:=by have z:=hS'.fr; cases z with | cons z _=>exact z
  refine ⟨_,rfl,x,dx,_,rfl,hS'.hx,rfl,_,rfl,_,rfl,x,dx,_,pgv,xf,hl,tl,fr,y,e1,d1,rfl,hS'.hx,rfl,hf,de1.mono (aa G'),hd e1 (List.mem_of_getElem? he1),ev1,fun v H2 g2 dv=>?_⟩
  refine ⟨_,rfl,rfl,_,rfl,?_⟩
  refine aY (fun c=>absurd (of_decide_eq_true c) dv.nn) (fun c=>?_)
  have lg:=dg.len
  rw [List.length_take] at lg
  have hg2:=g2 _ _ hg'
  refine ⟨_,rfl,.inl ⟨rfl,_,SqL.of hg2⟩,_,rfl,gl,_,_,rfl,rfl,hg2,by rw [sizeLine_eq]; omega,?_⟩
  have k3:Tk H2 (upd H2 gl (.lst (gs++[v]))):=bI hg2 _
  refine ⟨_,_,_,rfl,aU hgl (G'.trans g2),ad,?_⟩
  rw [List.take_add_one,hd1]
  exact DTs.append ((dg.mono (aa g2)).mono k3) (.cons (dv.mono k3) .nil)
 ·obtain ⟨m5,m6,gs,rfl,G',hg',dg⟩:=p
  rw [lL,led,List.take_length] at dg
  have hS':=hS.same G'
  have lg:=dg.len
  refine ⟨_,rfl,x,CR,dx,_,_,rfl,hS'.hx,cR,TR.n "frames" (by decide +kernel),rfl,.inl ⟨rfl,_,SqL.of hS'.hf⟩,?_⟩
  refine ⟨_,rfl,x,CR,dx,_,_,rfl,hS'.hx,cR,TR.n "program" (by decide +kernel),rfl,_,rfl,x,CR,dx,_,_,rfl,hS'.hx,cR,TR.n "program" (by decide +kernel),rfl,_,rfl,a,_,_,_,rfl,rfl,SqT.of (G' _ _ ha),rfl,pgv,gn,FS,FF,rfl,hS'.hp,hF,fun fu dfu=>?_⟩
  refine ⟨_,rfl,_,rfl,a,_,_,_,rfl,rfl,SqT.of (G' _ _ ha),rfl,fun xn dn hxn hdn nn=>?_⟩
  refine ⟨xn,dn,H',pgv,fu,gl,.str z,FF,false,gs,ds,rfl,ad,ft hxn hdn nn,hxn,dfu,hFG,.inr ⟨rfl,hg'⟩,dg,by omega,fun hn tn H3 g3 nh nt hfn=>⟨rfl,?_⟩⟩
  have hS3:=hS'.same g3
  have lv:=hS'.fr.len
  simp only [List.length_cons] at lv
  refine ⟨fl,_,_,rfl,rfl,hS3.hf,by rw [List.length_reverse,sizeLine_eq]; simp only [List.length_cons]; omega,?_⟩
  exact q _ (hS'.push g3 nh nt hfn).rs
end
open PySem L2
inductive DoS (FS:List Fn):Int→S→RSt→RSt→Prop
 | if_ {k t:Int} {c:C} {A B:List S} {fr:Fr} {r:List Fr} {ss:List au} {b:Bool}:Ec fr.σ c b→c.d.depth≤4 →
   DoS FS k (.if_ c A B) ⟨t,fr::r,ss,none⟩ ⟨t,⟨fr.fn,fr.σ,(if b then nmb (k+1) A else nmb (k+1+(S.cnts A:Int)) B)++fr.tasks,fr.tgt⟩::r,bn ss (.way fr.fn.nm k b),none⟩
 | call {k t:Int} {z gn:Str} {es:List E} {ds:List PyData} {F:Fn} {fr:Fr} {r:List Fr} {ss:List au}:Evs fr.σ es ds→(∀ e∈es,e.d.depth≤3)→FS.find? (fun F=>decide (F.nm=gn))=some F→FnG F→F.ps.length=es.length→es.length≤10 →
   DoS FS k (.call z gn es) ⟨t,fr::r,ss,none⟩ ⟨t,⟨F,env0 F ds,nmb 0 F.bd,.str z⟩::fr::r,ss,none⟩
 | give {k t:Int} {e:E} {d:PyData} {fr:Fr} {r:List Fr} {ss:List au} {st':RSt}:Ev fr.σ e d→e.d.depth≤3→Giv ⟨t,fr::r,ss,none⟩ d st'→DoS FS k (.give e) ⟨t,fr::r,ss,none⟩ st'
inductive Stp (FS:List Fn):RSt→RSt→Prop
 | fall {t:Int} {fr:Fr} {r:List Fr} {ss:List au} {st':RSt}:fr.tasks=[]→fr.fn.gv = "num"→Giv ⟨t,fr::r,ss,none⟩ (.int 0) st'→Stp FS ⟨t,fr::r,ss,none⟩ st'
 | dry {fr:Fr} {r:List Fr} {ss:List au} {a:Int×S} {ts:List (Int×S)}:fr.tasks=a::ts→Stp FS ⟨0,fr::r,ss,none⟩ ⟨0,fr::r,ss,some (.tuple [.str "dry"])⟩
 | line {t k:Int} {s:S} {fr:Fr} {r:List Fr} {ss:List au} {ts:List (Int×S)} {st':RSt}:t≠0→fr.tasks=(k,s)::ts→s.cnt≤1000→DoS FS k s ⟨t - 1,⟨fr.fn,fr.σ,ts,fr.tgt⟩::r,bn ss (.line fr.fn.nm k),none⟩ st'→Stp FS ⟨t,fr::r,ss,none⟩ st'
section
variable {K:Frag} {CR CF:Addr} {FS:List Fn} {H0 H H':Hp} {x:Addr} {dx:Addr} {pgv:V} {fl sp:Addr} {ev:V} {vs:List V} {hls tls:List Addr}
theorem RSo.top {t:Int} {fr:Fr} {r:List Fr} {ss:List au} {e:Option PyData} {xf hl tl:Addr} (h:RSo K CR CF FS H0 x H ⟨t,fr::r,ss,e⟩ dx pgv fl sp ev (.ref xf::vs) (hl::hls) (tl::tls)):et K CF H xf hl tl fr:=by
 have z:=h.fr
 cases z with
 | cons z _=>exact z
theorem RSo.own {t t':Int} {frs:List Fr} {ss:List au} {e e':Option PyData} {ev':V} (hC:CR≠CF) (h:RSo K CR CF FS H0 x H ⟨t,frs,ss,e⟩ dx pgv fl sp ev vs hls tls) (he:jl K H ev' e') :
  RSo K CR CF FS H0 x (upd H x (.ins CR dx (rfs pgv t' fl sp ev'))) ⟨t',frs,ss,e'⟩ dx pgv fl sp ev' vs hls tls:=by
 have k:Tk H (upd H x (.ins CR dx (rfs pgv t' fl sp ev'))):=bK h.hx (fun _ z=>by cases z)
 exact ⟨aU (h.h0 x (by simp)) h.sm,ad,h.hp.mono k,aG (aX h.hf h.hx (fun z=>by cases z)) h.hf,bF.upd h.hx (fun _ z=>by cases z) (fun _ _ z=>hC (HO.ins.inj z).1) (.inl fun _ z=>by cases z) (.inl fun _ z=>by cases z) h.fr,aG (aX h.hs h.hx (fun z=>by cases z)) h.hs,he.mono k,h.nh,h.nt,h.h0⟩
end
section
variable {P:Program} {w:World} {K:Frag} {mg:Str→Option Value} {base:Heap} {f g:Addr} {fd gd:FuncData} {CF CR:Addr} {FS:List Fn}
abbrev xR:List Str:=["self", "frame", "k", "statement", "word", "value"]
theorem nk:aF xR ["self", "frame", "k", "statement"] (defScope mP):=⟨rfl,rfl,rfl,by decide +kernel,rfl,by decide +kernel,by decide +kernel⟩
abbrev pDo:List Str:=["self", "frame", "k", "statement"]
def zm (K:Frag) (CR CF:Addr) (FS:List Fn):Sp:=fun vs H Q _=>∃ x H0 t fr r ss dx pgv fl sp ev xf hl tl vs' hls tls u k s st',vs=[.ref x,.ref xf,.int k,u]∧RSo K CR CF FS H0 x H ⟨t,fr::r,ss,none⟩ dx pgv fl sp ev (.ref xf::vs') (hl::hls) (tl::tls)∧DT K H u (S.d s)∧s.cnt≤1000∧ss.length≤10000∧fr.tasks.length≤10000∧r.length≤10000∧DoS FS k s ⟨t,fr::r,ss,none⟩ st'∧∀ H',RS K CR CF FS H0 x H' st'→Q .non H'
theorem yD (TR:GR K CR) (TF:GF K CF) (F:Fun K "do" "Run.do" mP f fd) (D_fork:MCal P w K mg base CR 8 "fork" pDo (tY K CR CF FS)) (D_call:MCal P w K mg base CR 8 "call" pDo (uJ K CR CF FS)) (D_reckon:MCal P w K mg base CR 6 "reckon" ["self", "frame", "e"] (mU K CR CF)) (D_give:MCal P w K mg base CR 1 "give" ["self", "value"] (oU K CR CF FS)):bg P w K mg base CX0 9 f fd pDo (zm K CR CF FS):=by
 have cR:=TR.c
 have cF:=TF.c
 obtain ⟨g_reckon,gd_reckon,G_reckon,b_reckon,h_reckon⟩:=D_reckon.ex
 obtain ⟨g_fork,gd_fork,G_fork,b_fork,h_fork⟩:=D_fork.ex
 obtain ⟨g_call,gd_call,G_call,b_call,h_call⟩:=D_call.ex
 obtain ⟨g_give,gd_give,G_give,b_give,h_give⟩:=D_give.ex
 refine F.ok nk (fun vs H Q EX h=>?_) (fun cdv A outer s H vs Q EX hr h=>?_)
 ·obtain ⟨x,H0,t,fr,r,ss,dx,pgv,fl,sp,ev,xf,hl,tl,vs',hls,tls,u,k,s,st',rfl,_⟩:=h
  rfl
 obtain ⟨x,H0,t,fr,r,ss,dx,pgv,fl,sp,ev,xf,hl,tl,vs',hls,tls,u,k,s,st',rfl,hS,hu,hcn,hss,hts,hrl,hdo,q⟩:=h
 refine ⟨_,(@ah _ _ _ _ _ (@aA _ _ 4 _ _ _ _ nk.nd rfl (Or.inl rfl) (@ay _ _ _ _ _ _ _ aH (pv 3) ak (fun _ _=>rfl)) (aj rfl) (.inr rfl)) (@ap _ _ _ (@aZ _ _ _ _ _ _ _ _ (@aC _ _ _ _ _ _ _ _ cg (pv 4) (@ar _ _ _ _ _ (@ac _ _ _ _ _ ao (@ac _ _ _ _ _ ao ag (ab rfl)) (ab rfl))) rfl) (@ap _ _ _ (@bq _ _ _ _ (cx (C:=CR) (pv 0) cR h_fork G_fork (hr.mono (by omega)) b_fork .nil aI (@ac _ _ _ _ _ (pv 1) (@ac _ _ _ _ _ (pv 2) (@ac _ _ _ _ _ (pv 3) ag (ab rfl)) (ab rfl)) (ab rfl))) (aj rfl))) (@ap _ _ _ (@aZ _ _ _ _ _ _ _ _ (@aC _ _ _ _ _ _ _ _ bD (pv 4) ao (aQ _)) aW (@ap _ _ _ (@aZ _ _ _ _ _ _ _ _ (@aC _ _ _ _ _ _ _ _ bD (pv 4) ao (aQ _)) (@ap _ _ _ (@bq _ _ _ _ (cx (C:=CR) (pv 0) cR h_call G_call (hr.mono (by omega)) b_call .nil aI (@ac _ _ _ _ _ (pv 1) (@ac _ _ _ _ _ (pv 2) (@ac _ _ _ _ _ (pv 3) ag (ab rfl)) (ab rfl)) (ab rfl))) (aj rfl))) (@ah _ _ _ _ _ (@aA _ _ 5 _ _ _ _ nk.nd rfl (Or.inl rfl) (cx (C:=CR) (pv 0) cR h_reckon G_reckon (hr.mono (by omega)) b_reckon .nil aI (@ac _ _ _ _ _ (pv 1) (@ac _ _ _ _ _ (@ay _ _ _ _ _ _ _ aH (pv 3) (@uo _ _ _ _ _ _ pU ak) (fun _ _=>rfl)) ag (ab rfl)) (ab rfl))) (aj rfl) (.inr rfl)) (@ap _ _ _ (@aZ _ _ _ _ _ _ _ _ (@aC _ _ _ _ _ _ _ _ na (pv 5) dC (aQ _)) aW (@ap _ _ _ (@aZ _ _ _ _ _ _ _ _ (@aC _ _ _ _ _ _ _ _ bD (pv 4) ao (aQ _)) aW (@ap _ _ _ (@bq _ _ _ _ (cx (C:=CR) (pv 0) cR h_give G_give (hr.mono (by omega)) b_give .nil aI (@ac _ _ _ _ _ (pv 5) ag (ab rfl))) (aj rfl))))))))))))))),?_⟩
 have hu0:=hu
 cases hdo with
 | @if_ _ c A' B _ _ _ b h1 h2 =>
  simp only [S.d] at hu
  obtain ⟨a,x1,x2,x3,rfl,ha,_⟩:=op3 hu
  refine ⟨_,rfl,a,_,_,_,rfl,rfl,SqT.of ha,rfl,?_⟩
  refine ⟨_,rfl,(by show 2≤sizeLine; decide),fun p0 hp0=>⟨p0,_,rfl,.inr (SqT.of ad),rfl,rfl,_,rfl,aY (fun c9=>?_) (fun c9=>absurd (by decide +kernel) c9)⟩⟩
  have s0:=ae hp0 (.tup [.str "if",.str "while"])
  have hS1:=hS.same s0
  exact ⟨_,rfl,x,dx,_,rfl,hS1.hx,rfl,_,rfl,_,rfl,_,rfl,x,H0,t,fr,r,ss,dx,pgv,fl,sp,ev,xf,hl,tl,vs',hls,tls,_,c,A',B,b,k,rfl,hS1,hu0.mono (aa s0),h2,h1,hcn,hss,hts,q⟩
 | @call _ z gn es ds FF _ _ _ h1 h2 h3 h4 h5 h6 =>
  simp only [S.d] at hu
  obtain ⟨a,x1,x2,x3,rfl,ha,_⟩:=op3 hu
  refine ⟨_,rfl,a,_,_,_,rfl,rfl,SqT.of ha,rfl,?_⟩
  refine ⟨_,rfl,(by show 2≤sizeLine; decide),fun p0 hp0=>⟨p0,_,rfl,.inr (SqT.of ad),rfl,rfl,_,rfl,aY (fun c9=>absurd c9 (by decide +kernel)) (fun c9=>?_)⟩⟩
  have s0:=ae hp0 (.tup [.str "if",.str "while"])
  have hS1:=hS.same s0
  refine ⟨_,rfl,rfl,_,rfl,aY (fun c9=>absurd c9 (by decide +kernel)) (fun c9=>?_)⟩
  refine ⟨_,rfl,rfl,_,rfl,aY (fun c9=>?_) (fun c9=>absurd (by decide +kernel) c9)⟩
  exact ⟨_,rfl,x,dx,_,rfl,hS1.hx,rfl,_,rfl,_,rfl,_,rfl,x,H0,t,fr,r,ss,dx,pgv,fl,sp,ev,xf,hl,tl,vs',hls,tls,_,z,gn,es,ds,FF,_,rfl,hS1,hu0.mono (aa s0),h1,h2,h3,h4,h5,h6,hrl,q⟩
 | @give _ e d _ _ _ _ h1 h2 h3 =>
  simp only [S.d] at hu
  obtain ⟨a,x1,rfl,ha,du⟩:=op1 hu
  refine ⟨_,rfl,a,_,_,_,rfl,rfl,SqT.of ha,rfl,?_⟩
  refine ⟨_,rfl,(by show 2≤sizeLine; decide),fun p0 hp0=>⟨p0,_,rfl,.inr (SqT.of ad),rfl,rfl,_,rfl,aY (fun c9=>absurd c9 (by decide +kernel)) (fun c9=>?_)⟩⟩
  have s0:=ae hp0 (.tup [.str "if",.str "while"])
  have hS1:=hS.same s0
  have hf:=hS1.top
  refine ⟨_,rfl,rfl,_,rfl,aY (fun c9=>absurd c9 (by decide +kernel)) (fun c9=>?_)⟩
  refine ⟨_,rfl,rfl,_,rfl,aY (fun c9=>absurd c9 (by decide +kernel)) (fun c9=>?_)⟩
  refine ⟨_,rfl,x,dx,_,rfl,hS1.hx,rfl,_,rfl,_,rfl,_,rfl,a,_,_,_,rfl,rfl,SqT.of (s0 _ _ ha),rfl,x,dx,_,pgv,xf,hl,tl,fr,x1,e,d,rfl,hS1.hx,rfl,hf,du.mono (aa s0),h2,h1,fun v H2 g2 dv=>?_⟩
  refine ⟨_,rfl,rfl,_,rfl,aY (fun c=>absurd (of_decide_eq_true c) dv.nn) (fun c=>?_)⟩
  refine ⟨_,rfl,rfl,_,rfl,aY (fun c9=>absurd c9 (by decide +kernel)) (fun c9=>?_)⟩
  have hS2:=hS1.same g2
  exact ⟨_,rfl,x,dx,_,rfl,hS2.hx,rfl,_,rfl,x,v,H0,_,_,d,rfl,hS2.rs,dv,h3,q⟩
abbrev vC:List Str:=["self", "frame", "task"]
theorem gG:aF vC ["self"] (defScope eP):=⟨rfl,rfl,rfl,by decide +kernel,rfl,by decide +kernel,by decide +kernel⟩
def vn (K:Frag) (CR CF:Addr) (FS:List Fn):Sp:=fun vs H Q _=>∃ x H0 st st',vs=[.ref x]∧RS K CR CF FS H0 x H st∧Bnd st∧Stp FS st st'∧∀ H',RS K CR CF FS H0 x H' st'→Q .non H'
theorem wN (hC:CR≠CF) (T:G0 mg) (TR:GR K CR) (TF:GF K CF) (F:Fun K "step" "Run.step" eP f fd) (D_do:MCal P w K mg base CR 9 "do" pDo (zm K CR CF FS)) (D_give:MCal P w K mg base CR 1 "give" ["self", "value"] (oU K CR CF FS)) (D_nought:Cal P w K mg base 1 "nought" ["program", "kind"] wM):bg P w K mg base CX0 10 f fd ["self"] (vn K CR CF FS):=by
 have cR:=TR.c
 have cF:=TF.c
 obtain ⟨g_do,gd_do,G_do,b_do,h_do⟩:=D_do.ex
 obtain ⟨g_give,gd_give,G_give,b_give,h_give⟩:=D_give.ex
 obtain ⟨g_nought,gd_nought,G_nought,b_nought,k_nought,m_nought⟩:=D_nought.ex
 refine F.ok gG (fun vs H Q EX h=>?_) (fun cdv A outer s H vs Q EX hr h=>?_)
 ·obtain ⟨x,H0,st,st',rfl,_⟩:=h
  rfl
 obtain ⟨x,H0,st,st',rfl,hRS,hB,hst,q⟩:=h
 obtain ⟨t,fr,r,ss,rfl⟩:∃ t fr r ss,st=⟨t,fr::r,ss,none⟩:=by cases hst<;>exact ⟨_,_,_,_,rfl⟩
 obtain ⟨dx,pgv,fl,sp,ev,vs0,hls0,tls0,hS⟩:=hRS.op
 have hfr:=hS.fr
 obtain ⟨xf,hl,tl,vs',hls,tls,rfl,rfl,rfl,hf⟩:∃ xf hl tl vs' hls tls,vs0=.ref xf::vs'∧hls0=hl::hls∧tls0=tl::tls∧et K CF H xf hl tl fr:=by
  cases hfr with
  | cons z _=>exact ⟨_,_,_,_,_,_,rfl,rfl,rfl,z⟩
 obtain ⟨fdx,fu,fkk,ys,e1,e2,e3,e4,e5⟩:=id hf
 obtain ⟨fa,pa,la,ba,rfl,hfa,_⟩:=dP e2
 have hff:=hS.hf
 rw [List.reverse_cons] at hff
 have b1:=hB.s
 have b2:=hB.f
 have b3:=hB.t fr (by simp)
 simp only [List.length_cons] at b1 b2
 refine ⟨_,(@ah _ _ _ _ _ (@aA _ _ 1 _ _ _ _ gG.nd rfl (Or.inl rfl) (@ay _ _ _ _ _ _ _ aK (aV (pv 0) rfl) (@uo _ _ _ _ _ _ pU ak) (fun _ _=>rfl)) (aj rfl) (.inr rfl)) (@ap _ _ _ (@aZ _ _ _ _ _ _ _ _ (@aC _ _ _ _ _ _ _ _ bD (@br _ _ _ _ _ _ _ _ _ bL rfl T.len ol (@ac _ _ _ _ _ (aV (pv 1) rfl) ag (ab rfl)) (by decide) (by decide) (ab rfl) (am rfl)) ak (aQ _)) (@ap _ _ _ (@bq _ _ _ _ (cx (C:=CR) (pv 0) cR h_give G_give (hr.mono (by omega)) b_give .nil aI (@ac _ _ _ _ _ (@aB _ _ _ _ _ _ _ _ _ _ _ _ _ _ _ _ G_nought (hr.mono (by omega)) rfl m_nought k_nought b_nought .nil aI (@ac _ _ _ _ _ (aV (pv 0) rfl) (@ac _ _ _ _ _ (@ay _ _ _ _ _ _ _ aH (aV (pv 1) rfl) ak (fun _ _=>rfl)) ag (ab rfl)) (ab rfl)) (by decide) (ab rfl) (am rfl)) ag (ab rfl))) (aj rfl))) (@ap _ _ _ (@aZ _ _ _ _ _ _ _ _ (@aC _ _ _ _ _ _ _ _ bD (aV (pv 0) rfl) ak (aQ _)) (@ap _ _ _ (bX (pv 0) (@ar _ _ _ _ _ (@ac _ _ _ _ _ ao ag (ab rfl))) (aj rfl))) (@ah _ _ _ _ _ (sC (pv 0) ak xD) (@ah _ _ _ _ _ (@aA _ _ 2 _ _ _ _ gG.nd rfl (Or.inl rfl) (pk PySem.F.plainAttrs_list PySem.F.slot_list_pop PySem.F.type_list_pop qW (aV (pv 1) rfl)) (aj rfl) (.inr rfl)) (@ah _ _ _ _ _ (eE (lf hr) (aV (pv 0) rfl) (@ar _ _ _ _ _ (@ac _ _ _ _ _ ao (@ac _ _ _ _ _ (@ay _ _ _ _ _ _ _ aH (aV (pv 1) rfl) ak (fun _ _=>rfl)) (@ac _ _ _ _ _ (@ay _ _ _ _ _ _ _ aH (pv 2) ak (fun _ _=>rfl)) ag (ab rfl)) (ab rfl)) (ab rfl))) lV (aj rfl)) (@ap _ _ _ (@bq _ _ _ _ (cx (C:=CR) (pv 0) cR h_do G_do (hr.mono (by omega)) b_do .nil aI (@ac _ _ _ _ _ (pv 1) (@ac _ _ _ _ _ (@ay _ _ _ _ _ _ _ aH (pv 2) ak (fun _ _=>rfl)) (@ac _ _ _ _ _ (@ay _ _ _ _ _ _ _ aH (pv 2) ak (fun _ _=>rfl)) ag (ab rfl)) (ab rfl)) (ab rfl))) (aj rfl))))))))))),?_⟩
 refine ⟨_,rfl,x,CR,dx,_,_,rfl,hS.hx,cR,TR.n "frames" (by decide +kernel),rfl,_,rfl,fl,_,_,_,rfl,rfl,SqL.of hff,nR _ _,?_⟩
 refine ⟨_,rfl,xf,CF,fdx,_,_,rfl,e1,cF,TF.n "tasks" (by decide +kernel),rfl,tl,_,rfl,.inl (SqL.of e4),rfl,_,rfl,?_⟩
 have ly:=e5.len
 rw [List.length_reverse,List.length_map] at ly
 cases hst with
 | fall h1 h2 h3 =>
  rw [h1] at ly
  refine aY (fun c=>?_) (fun c=>absurd (by rw [ly]; rfl) c)
  rw [h2] at hfa
  refine ⟨_,rfl,x,dx,_,rfl,hS.hx,rfl,_,rfl,x,CR,dx,_,_,rfl,hS.hx,cR,TR.n "program" (by decide +kernel),rfl,_,rfl,xf,CF,fdx,_,_,rfl,e1,cF,TF.n "function" (by decide +kernel),rfl,fa,_,_,_,rfl,rfl,SqT.of hfa,rfl,_,rfl,?_⟩
  exact ⟨x,_,H0,_,_,_,rfl,hS.rs,.int 0,h3,q⟩
 | dry h1 =>
  rw [h1] at ly
  refine aY (fun c=>absurd c (by rw [ly]; simp; omega)) (fun c=>?_)
  refine ⟨_,rfl,x,CR,dx,_,_,rfl,hS.hx,cR,TR.n "ticks" (by decide +kernel),rfl,rfl,_,rfl,mJ ?_⟩
  refine ⟨(by show 1≤sizeLine; decide),fun p hp=>?_⟩
  have gp:=ae hp (.tup [.str "dry"])
  have hS1:=hS.same gp
  refine ⟨_,rfl,x,CR,dx,_,rfl,hS1.hx,cR,TR.n "end" (by decide +kernel),by simp,?_⟩
  exact q _ (RSo.own (ev':=.ref p) (e':=some (.tuple [.str "dry"])) hC hS1 (.tup (.inl ad) (.cons (.str _) .nil))).rs
 | @line _ k s _ _ _ ts _ h1 h2 h3 h4 =>
  rw [h2] at ly
  refine aY (fun c=>absurd c (by rw [ly]; simp; omega)) (fun c=>?_)
  refine ⟨_,rfl,x,CR,dx,_,_,rfl,hS.hx,cR,TR.n "ticks" (by decide +kernel),rfl,rfl,_,rfl,aY (fun c=>absurd (V.int.inj (of_decide_eq_true c)) h1) (fun c=>?_)⟩
  refine ⟨_,rfl,x,CR,dx,_,_,rfl,hS.hx,cR,TR.n "ticks" (by decide +kernel),rfl,_,_,rfl,rfl,dx,_,hS.hx,by simp,?_⟩
  have hS1:=RSo.own (t':=t - 1) hC hS hS.en
  have k1:Tk H (upd H x (.ins CR dx (rfs pgv (t - 1) fl sp ev))):=bK hS.hx (fun _ z=>by cases z)
  have t1:(upd H x (.ins CR dx (rfs pgv (t - 1) fl sp ev))) tl=some (.lst ys):=aG (aX e4 hS.hx (fun z=>by cases z)) e4
  have x1:=aG (o:=.ins CR dx (rfs pgv (t - 1) fl sp ev)) (aX e1 hS.hx (fun z=>hC (HO.ins.inj z).1.symm)) e1
  change iS _ _ _ _ (upd H x (.ins CR dx (rfs pgv (t - 1) fl sp ev)))
  generalize (upd H x (.ins CR dx (rfs pgv (t - 1) fl sp ev)))=H1 at hS1 k1 t1 x1
  rw [h2,List.map_cons] at e5
  obtain ⟨y,yr,ey,dy,dyr⟩:=e5.open
  obtain rfl:ys=yr.reverse++[y]:=by rw [← List.reverse_reverse ys,ey,List.reverse_cons]
  refine ⟨_,rfl,xf,CF,fdx,_,_,rfl,x1,cF,TF.n "tasks" (by decide +kernel),rfl,.inl ⟨rfl,_,SqL.of t1⟩,tl,_,y,rfl,rfl,t1,by simp,?_⟩
  rw [List.dropLast_concat]
  have hS2:=RSo.tasks (zs:=yr.reverse) (ts:=ts) hS1 (by rw [List.reverse_reverse]; exact dyr.mono k1)
  have k2:Tk H (upd H1 tl (.lst yr.reverse)):=k1.trans (bI t1 _)
  generalize (upd H1 tl (.lst yr.reverse))=H2 at hS2 k2
  obtain ⟨yp,yx,rfl,hyp,dyx⟩:=(show DT K H y (.tuple [.int k,s.d]) from dy).open
  obtain ⟨y0,y1,rfl,dy0,dyx⟩:=dyx.open
  obtain ⟨y2,y3,rfl,dy2,dyx⟩:=dyx.open
  cases dyx
  obtain rfl:=dy0.int_inv
  obtain ⟨fdx2,fu2,fkk2,ys2,f1,f2,f3,f4,f5⟩:=hS2.top
  obtain ⟨fa2,pa2,la2,ba2,rfl,hfa2,_⟩:=dP f2
  refine ⟨_,rfl,x,CR,dx,_,_,rfl,hS2.hx,cR,TR.n "spots" (by decide +kernel),rfl,_,rfl,xf,CF,fdx2,_,_,rfl,f1,cF,TF.n "function" (by decide +kernel),rfl,fa2,_,_,_,rfl,rfl,SqT.of hfa2,rfl,_,rfl,yp,_,_,_,rfl,rfl,SqT.of (k2 _ _ hyp),rfl,(by show 3≤sizeLine; decide),fun p hp=>?_⟩
  have gp:=ae hp (.tup (au.vs (.line fr.fn.nm k)))
  have hS3:=hS2.same gp
  refine ⟨sp,_,rfl,gW.t hS3.hs ad (uU (.line fr.fn.nm k)) (by unfold spk; rw [List.length_map,sizeLine_eq]; show ss.length<_; omega),?_⟩
  have hS4:=hS3.spot (.line fr.fn.nm k)
  rw [← rD] at hS4
  have k4:Tk H (upd (upd H2 p (.tup (au.vs (.line fr.fn.nm k)))) sp (.dT (gc (spk ss) (au.vs (.line fr.fn.nm k)) (.bl true)))):=(k2.trans (aa gp)).trans (bK hS3.hs (fun _ z=>by cases z))
  have al:=bA ss (.line fr.fn.nm k)
  refine ⟨_,rfl,x,dx,_,rfl,hS4.hx,rfl,_,rfl,_,rfl,yp,_,_,_,rfl,rfl,SqT.of (k4 _ _ hyp),rfl,_,rfl,yp,_,_,_,rfl,rfl,SqT.of (k4 _ _ hyp),rfl,?_⟩
  rw [h2,List.length_cons] at b3
  exact ⟨x,H0,t - 1,⟨fr.fn,fr.σ,ts,fr.tgt⟩,r,bn ss (.line fr.fn.nm k),dx,pgv,fl,sp,ev,xf,hl,tl,vs',hls,tls,y2,k,s,_,rfl,hS4,dy2.mono k4,h3,by omega,by show ts.length≤_; omega,by omega,h4,q⟩
end
open PySem L2
theorem nH {H H':Hp} (k:Tk H H'):∀ (l:List au) {as:List Addr},Paired (fun (b:Addr) (p:List V×V)=>H b=some (.tup p.1)) as (spk l)→Paired (fun (b:Addr) (s:au)=>H' b=some (.tup s.vs)) as l
 | [],_,h=>by cases h; exact .nil
 | s::r,_,h=>by
  cases h with
  | cons a b=>exact .cons (k _ _ a) (nH k r b)
inductive ow (FS:List Fn):Nat→RSt→RSt→Prop
 | done {st:RSt} {d:PyData}:st.fin=some d→ow FS 0 st st
 | step {n:Nat} {st st1 st':RSt}:st.fin=none→Bnd st→Stp FS st st1→ow FS n st1 st'→ow FS (n+1) st st'
section
variable {P:Program} {w:World} {K:Frag} {mg:Str→Option Value} {base:Heap} {f g:Addr} {fd gd:FuncData} {CF CR:Addr} {FS:List Fn}
abbrev tX:List Str:=["self", "program", "f", "given", "ticks"]
theorem sE:aF tX ["self", "program", "f", "given", "ticks"] (defScope eT):=⟨rfl,rfl,rfl,by decide +kernel,rfl,by decide +kernel,by decide +kernel⟩
abbrev pRi:List Str:=["self", "program", "f", "given", "ticks"]
def yQ (K:Frag) (CR CF:Addr) (FS:List Fn):Sp:=fun vs H Q _=>∃ x dx H0 pgv z gv t F gs ds,vs=[.ref x,pgv,.str z,.ref gv,.int t]∧H x=some (.ins CR dx [])∧aE H0 H∧H0 x=none∧DT K H0 pgv (pgD FS)∧FS.find? (fun F=>decide (F.nm=z))=some F∧FnG F∧H0 gv=some (.tup gs)∧DTs K H0 gs ds∧F.ps.length=gs.length ∧
 ∀ H',RS K CR CF FS H0 x H' ⟨t,[⟨F,env0 F ds,nmb 0 F.bd,.non⟩],[],none⟩→Q .non H'
theorem zw (hC:CR≠CF) (TR:GR K CR) (F:Fun K "__init__" "Run.__init__" eT f fd) (D_function_of:Cal P w K mg base 1 "function_of" ["program", "f"] (wb K)) (D_Frame:MkF P w K mg base CF):bg P w K mg base CX0 7 f fd pRi (yQ K CR CF FS):=by
 have cR:=TR.c
 obtain ⟨g_Frame,gd_Frame,G_Frame,b_Frame,M_Frame,m_Frame⟩:=D_Frame.ex
 obtain ⟨g_function_of,gd_function_of,G_function_of,b_function_of,k_function_of,m_function_of⟩:=D_function_of.ex
 refine F.ok sE (fun vs H Q EX h=>?_) (fun cdv A outer s H vs Q EX hr h=>?_)
 ·obtain ⟨x,dx,H0,pgv,z,gv,t,F,gs,ds,rfl,_⟩:=h
  rfl
 obtain ⟨x,dx,H0,pgv,z,gv,t,FF,gs,ds,rfl,hx,G,hx0,hp,hF,hFG,hgv,dg,lg,q⟩:=h
 refine ⟨_,(@ah _ _ _ _ _ (bX (pv 0) (pv 1) (aj rfl)) (@ah _ _ _ _ _ (bX (pv 0) (pv 4) (aj rfl)) (@ah _ _ _ _ _ (bX (pv 0) (@bm _ _ _ _ (@ac _ _ _ _ _ (mQ (C:=CF) M_Frame G_Frame (hr.mono (by omega)) rfl m_Frame b_Frame .nil aI (@ac _ _ _ _ _ (pv 1) (@ac _ _ _ _ _ (@aB _ _ _ _ _ _ _ _ _ _ _ _ _ _ _ _ G_function_of (hr.mono (by omega)) rfl m_function_of k_function_of b_function_of .nil aI (@ac _ _ _ _ _ (pv 1) (@ac _ _ _ _ _ (pv 2) ag (ab rfl)) (ab rfl)) (by decide) (ab rfl) (am rfl)) (@ac _ _ _ _ _ (pv 3) (@ac _ _ _ _ _ dC ag (ab rfl)) (ab rfl)) (ab rfl)) (ab rfl))) ag (ab rfl))) (aj rfl)) (@ah _ _ _ _ _ (bX (pv 0) vh (aj rfl)) (@ap _ _ _ (bX (pv 0) dC (aj rfl))))))),?_⟩
 have sx:∀ {H1:Hp} {o:HO},aE H0 H1→aE H0 (upd H1 x o):=fun g=>aU hx0 g
 refine ⟨_,rfl,_,rfl,x,CR,dx,_,rfl,hx,cR,TR.n "program" (by decide +kernel),by simp,?_⟩
 have G1:aE H0 (upd H x (.ins CR dx [("program",pgv)])):=sx G
 have hx1:(upd H x (.ins CR dx [("program",pgv)])) x=some (.ins CR dx [("program",pgv)]):=ad
 change iS _ _ _ _ (upd H x (.ins CR dx [("program",pgv)]))
 generalize (upd H x (.ins CR dx [("program",pgv)]))=H1 at G1 hx1
 refine ⟨_,rfl,_,rfl,x,CR,dx,_,rfl,hx1,cR,TR.n "ticks" (by decide +kernel),by simp,?_⟩
 have G2:aE H0 (upd H1 x (.ins CR dx [("program",pgv),("ticks",.int t)])):=sx G1
 have hx2:(upd H1 x (.ins CR dx [("program",pgv),("ticks",.int t)])) x=some (.ins CR dx [("program",pgv),("ticks",.int t)]):=ad
 change iS _ _ _ _ (upd H1 x (.ins CR dx [("program",pgv),("ticks",.int t)]))
 generalize (upd H1 x (.ins CR dx [("program",pgv),("ticks",.int t)]))=H2 at G2 hx2
 refine ⟨_,rfl,_,rfl,_,rfl,pgv,z,FS,FF,rfl,hp.mono (aa G2),hF,fun fu dfu=>?_⟩
 refine ⟨_,rfl,fun xn dn hxn hdn nn=>?_⟩
 refine ⟨xn,dn,H2,pgv,fu,gv,.non,FF,true,gs,ds,rfl,ad,ft hxn hdn nn,hxn,dfu,hFG,.inl ⟨rfl,G2 _ _ hgv⟩,dg.mono (aa G2),lg,fun hn tn H3 g3 nh nt hfn=>⟨rfl,?_⟩⟩
 refine ⟨(by show 1≤sizeLine; decide),fun fl hfl=>?_⟩
 have g4:=ae hfl (.lst [.ref xn])
 have hx4:=g4 _ _ (g3 _ _ hx2)
 refine ⟨_,rfl,x,CR,dx,_,rfl,hx4,cR,TR.n "frames" (by decide +kernel),by simp,?_⟩
 obtain ⟨fdx,ffu,fkk,ys,e1,e2,⟨kvs,e3,e3',e3''⟩,e4,e5⟩:=id hfn
 have nx:xn≠x:=fun z=>by rw [z,hx2] at hxn; cases hxn
 have nfl:fl≠x:=fun z=>by rw [z,g3 _ _ hx2] at hfl; cases hfl
 have ntl:tn≠fl:=fun z=>by rw [← z,e4] at hfl; cases hfl
 have k5:Tk H3 (upd (upd H3 fl (.lst [.ref xn])) x (.ins CR dx [("program",pgv),("ticks",.int t),("frames",.ref fl)])):=(aa g4).trans (bK hx4 (fun _ z=>by cases z))
 have G5:aE H0 (upd (upd H3 fl (.lst [.ref xn])) x (.ins CR dx [("program",pgv),("ticks",.int t),("frames",.ref fl)])):=sx ((G2.trans g3).trans g4)
 have hx5:(upd (upd H3 fl (.lst [.ref xn])) x (.ins CR dx [("program",pgv),("ticks",.int t),("frames",.ref fl)])) x=some (.ins CR dx [("program",pgv),("ticks",.int t),("frames",.ref fl)]):=ad
 have hf5:(upd (upd H3 fl (.lst [.ref xn])) x (.ins CR dx [("program",pgv),("ticks",.int t),("frames",.ref fl)])) fl=some (.lst [.ref xn]):=aG nfl ad
 have hfr5:et K CF (upd (upd H3 fl (.lst [.ref xn])) x (.ins CR dx [("program",pgv),("ticks",.int t),("frames",.ref fl)])) xn hn tn ⟨FF,env0 FF ds,nmb 0 FF.bd,.non⟩ :=
  hfn.keep k5 (fun _ z=>aG nx (g4 _ _ z)) (fun _ z=>aG (aX e3 (g3 _ _ hx2) (fun z=>by cases z)) (g4 _ _ z)) (fun _ z=>aG (aX e4 (g3 _ _ hx2) (fun z=>by cases z)) (g4 _ _ z))
 change iS _ _ _ _ (upd (upd H3 fl (.lst [.ref xn])) x (.ins CR dx [("program",pgv),("ticks",.int t),("frames",.ref fl)]))
 generalize (upd (upd H3 fl (.lst [.ref xn])) x (.ins CR dx [("program",pgv),("ticks",.int t),("frames",.ref fl)]))=H5 at k5 G5 hx5 hf5 hfr5
 refine fun sp hsp=>⟨_,rfl,x,CR,dx,_,rfl,(ae hsp _) _ _ hx5,cR,TR.n "spots" (by decide +kernel),by simp,?_⟩
 have g6:=ae hsp (.dT [])
 refine ⟨_,rfl,x,CR,dx,_,rfl,ad,cR,TR.n "end" (by decide +kernel),Nat.lt_of_le_of_lt (cz _ _ _) (by simp),?_⟩
 have nsx:sp≠x:=fun z=>by rw [z,hx5] at hsp; cases hsp
 have kx:∀ {H1:Hp} {fs fs':List (Str×V)},H1 x=some (.ins CR dx fs)→Tk H1 (upd H1 x (.ins CR dx fs')):=fun h=>bK h (fun _ z=>by cases z)
 have kk:=((aa g6).trans (kx (fs':=[("program",pgv),("ticks",.int t),("frames",.ref fl),("spots",.ref sp)]) (g6 _ _ hx5))).trans (kx (fs':=rfs pgv t fl sp .non) ad)
 obtain ⟨fdx,ffu,fkk,ys,e1,e2,⟨kvs,e3,e3',e3''⟩,e4,e5⟩:=id hfr5
 refine q _ ⟨sx (sx (G5.trans g6)),dx,pgv,fl,sp,.non,[.ref xn],[hn],[tn],ad,(hp.mono (aa G5)).mono kk,aG nfl (aG nfl (g6 _ _ hf5)),.cons (hfr5.keep kk (fun _ z=>aG nx (aG nx (g6 _ _ z))) (fun _ z=>aG (aX e3 hx5 (fun z=>by cases z)) (aG (aX e3 hx5 (fun z=>by cases z)) (g6 _ _ z))) (fun _ z=>aG (aX e4 hx5 (fun z=>by cases z)) (aG (aX e4 hx5 (fun z=>by cases z)) (g6 _ _ z)))) .nil,aG nsx (aG nsx ad),rfl,by simp,by simp [ntl.symm],fun a ha=>?_⟩
 simp only [List.mem_cons,List.mem_append,List.not_mem_nil,or_false] at ha
 rcases ha with rfl | rfl | rfl | rfl | rfl
 ·exact hx0
 ·exact (G2.trans g3).free hfl
 ·exact G5.free hsp
 ·exact G2.free nh
 ·exact G2.free nt
abbrev yE:List Str:=["program", "f", "values", "ticks", "under_way"]
theorem tP:aF yE ["program", "f", "values", "ticks"] (defScope rX):=⟨rfl,rfl,rfl,by decide +kernel,rfl,by decide +kernel,by decide +kernel⟩
structure MkR (P:Program) (w:World) (K:Frag) (mg:Str→Option Value) (base:Heap) (CR CF:Addr) (FS:List Fn):Prop where
 ex:∃ g gd,bg P w K mg base CX0 7 g gd pRi (yQ K CR CF FS)∧bZ K gd pRi []∧Mk K CR g∧mg "Run"=some (.ref CR)
def xk (K:Frag) (FS:List Fn):Sp:=fun vs H Q _=>∃ pgv z gv t F gs ds n st' d,vs=[pgv,.str z,.ref gv,.int t]∧DT K H pgv (pgD FS)∧FS.find? (fun F=>decide (F.nm=z))=some F∧FnG F∧H gv=some (.tup gs)∧DTs K H gs ds∧F.ps.length=gs.length ∧
 ow FS n ⟨t,[⟨F,env0 F ds,nmb 0 F.bd,.non⟩],[],none⟩ st'∧st'.fin=some d∧∀ p ev l as H',aE H H'→H' p=some (.tup [ev,.ref l])→DT K H' ev d→H' l=some (.lst (as.map V.ref))→Paired (fun (b:Addr) (s:au)=>H' b=some (.tup s.vs)) as st'.spots→Q (.ref p) H'
theorem yo (T:G0 mg) (TR:GR K CR) (F:Fun K "run" "run" rX f fd) (D_Run:MkR P w K mg base CR CF FS) (D_step:MCal P w K mg base CR 10 "step" ["self"] (vn K CR CF FS)):bg P w K mg base CX0 11 f fd ["program", "f", "values", "ticks"] (xk K FS):=by
 have cR:=TR.c
 obtain ⟨g_Run,gd_Run,G_Run,b_Run,M_Run,m_Run⟩:=D_Run.ex
 obtain ⟨g_step,gd_step,G_step,b_step,h_step⟩:=D_step.ex
 refine F.ok tP (fun vs H Q EX h=>?_) (fun cdv A outer s H vs Q EX hr h=>?_)
 ·obtain ⟨pgv,z,gv,t,F,gs,ds,n,st',d,rfl,_⟩:=h
  rfl
 obtain ⟨pgv,z,gv,t,FF,gs,ds,n,st',d,rfl,hp,hF,hFG,hgv,dg,lg,hrun,hfin,q⟩:=h
 refine ⟨_,(@ah _ _ _ _ _ (@aA _ _ 4 _ _ _ _ tP.nd rfl (Or.inl rfl) (mQ (C:=CR) M_Run G_Run (hr.mono (by omega)) rfl m_Run b_Run .nil aI (@ac _ _ _ _ _ (pv 0) (@ac _ _ _ _ _ (pv 1) (@ac _ _ _ _ _ (pv 2) (@ac _ _ _ _ _ (pv 3) ag (ab rfl)) (ab rfl)) (ab rfl)) (ab rfl))) (aj rfl) (.inr rfl)) (@ah _ _ _ _ _ (nK PassesOwn.never (@aC _ _ _ _ _ _ _ _ na (aV (pv 4) rfl) dC (aQ _)) (@ap _ _ _ (@bq _ _ _ _ (vR (C:=CR) (pv 4) cR h_step G_step (hr.mono (by omega)) b_step .nil aI) (aj rfl)))) (@ap _ _ _ (@aP _ _ _ _ (@ar _ _ _ _ _ (@ac _ _ _ _ _ (aV (pv 4) rfl) (@ac _ _ _ _ _ (@dJ _ _ _ _ _ _ _ _ _ (pz rfl) rfl T.list vT (@ac _ _ _ _ _ (aV (pv 4) rfl) ag (ab rfl)) (by decide) (by decide) (ab rfl) (am rfl)) ag (ab rfl)) (ab rfl))))))),?_⟩
 refine ⟨_,rfl,_,rfl,_,rfl,_,rfl,fun x dx hx hdx nn=>?_⟩
 refine ⟨x,dx,H,pgv,z,gv,t,FF,gs,ds,rfl,ad,ft hx hdx nn,hx,hp,hF,hFG,hgv,dg,lg,fun H1 hS=>⟨rfl,?_⟩⟩
 refine ⟨fun m σ H'=>∃ st,σ=[some pgv,some (.str z),some (.ref gv),some (.int t),some (.ref x)]∧RS K CR CF FS H x H' st∧ow FS m st st',⟨n,_,rfl,hS,hrun⟩,?_⟩
 rintro m σ H' ⟨st,rfl,hS',hr'⟩
 obtain ⟨dx',pgv',fl,sp,ev,vs0,hls0,tls0,hO⟩:=hS'.op
 refine ⟨_,rfl,x,CR,dx',_,_,rfl,hO.hx,cR,TR.n "end" (by decide +kernel),rfl,rfl,_,rfl,?_⟩
 have hen:=hO.en
 cases hr' with
 | done h1 =>
  rw [hfin] at hen
  refine aY (fun c=>absurd (of_decide_eq_true c) (DT.nn hen)) (fun c=>?_)
  refine ⟨_,rfl,x,CR,dx',_,_,rfl,hO.hx,cR,TR.n "end" (by decide +kernel),rfl,_,rfl,x,CR,dx',_,_,rfl,hO.hx,cR,TR.n "spots" (by decide +kernel),rfl,sp,_,rfl,hO.hs,fun as l pas hl=>?_⟩
  refine ⟨(by show 2≤sizeLine; decide),fun p hp2=>?_⟩
  have gl:=ae hl (.lst (as.map V.ref))
  have gp:=gl.trans (ae hp2 (.tup [ev,.ref l]))
  refine q p ev l as _ (hO.sm.trans gp) ad (DT.mono (aa gp) hen) (aG (av ad hp2) ad) (nH (aa gp) _ pas)
 | @step m' _ st1 _ h1 h2 h3 h4 =>
  rw [h1] at hen
  obtain rfl:ev=.non:=hen
  refine aY (fun c=>?_) (fun c=>absurd (by decide) c)
  refine ⟨fun σ' H'=>∃ m2,m2<m'+1∧∃ st,σ'=[some pgv,some (.str z),some (.ref gv),some (.int t),some (.ref x)]∧RS K CR CF FS H x H' st∧ow FS m2 st st',fun _ _ z=>z,?_⟩
  exact ⟨_,rfl,x,dx',_,rfl,hO.hx,rfl,x,H,st,st1,rfl,hS',h2,h3,fun H2 hS2=>⟨m',by omega,st1,rfl,hS2,h4⟩⟩
end
open PySem L2
def onF:Fn:=⟨"on",[],[("x", "num")], "num",[.call "x" "on" []]⟩
def bh (more last:Int):Fn:=⟨"deep",[("n", "num")],[("x", "num")], "num",[.if_ (.less (.num 0) (.var "n")) [.call "x" "deep" [.sub (.var "n") (.num 1)],.give (.add (.var "x") (.num more))] [],.give (.num last)]⟩
def bu:Fn:=⟨"first",[("n", "num")],[("y", "num")], "num",[.call "y" "deep" [.var "n"],.give (.var "y")]⟩
def eC (more last:Int):List Fn:=[onF,bh more last,bu]
def due:List au→Nat→List au→Bool×List au
 | [],_,ss=>(true,ss)
 | .line _ _::_,0,ss=>(false,ss)
 | .line f k::r,t+1,ss=>due r t (bn ss (.line f k))
 | .way f k b::r,t,ss=>due r t (bn ss (.way f k b))
def ko (b:Bool) (v:Int):PyData:=if b then .tuple [.str "back",.int v] else .tuple [.str "dry"]
def Gd (FS:List Fn) (st:RSt) (o:Bool×List au) (v:Int):Prop:=∃ n st',ow FS n st st'∧st'.fin=some (ko o.1 v)∧st'.spots=o.2
theorem cQ {t:Int} {fr:Fr} {r:List Fr} {ss:List au} (h1:ss.length≤9000) (h2:r.length≤9000) (h3:fr.tasks.length≤10) (h4:∀ f∈r,f.tasks.length≤10):Bnd ⟨t,fr::r,ss,none⟩:=by
 refine ⟨h1,by simp only [List.length_cons]; omega,fun f hf=>?_⟩
 rcases List.mem_cons.mp hf with rfl | hf
 ·omega
 ·have:=h4 f hf
  omega
theorem bP {FS:List Fn} {fr:Fr} {r:List Fr} {ss:List au} {k:Int} {s:S} {ts:List (Int×S)} {evs:List au} {v:Int} {t:Nat} (h:fr.tasks=(k,s)::ts) (hc:s.cnt≤1000) (hb:Bnd ⟨t,fr::r,ss,none⟩)
  (hs:∀ t':Nat,∃ st1,DoS FS k s ⟨(t':Int),⟨fr.fn,fr.σ,ts,fr.tgt⟩::r,bn ss (.line fr.fn.nm k),none⟩ st1∧Gd FS st1 (due evs t' (bn ss (.line fr.fn.nm k))) v):Gd FS ⟨t,fr::r,ss,none⟩ (due (.line fr.fn.nm k::evs) t ss) v:=by
 cases t with
 | zero=>exact ⟨1,_,.step rfl hb (.dry h) (.done rfl),rfl,rfl⟩
 | succ t' =>
  obtain ⟨st1,hd,n,st',hr,h1,h2⟩:=hs t'
  refine ⟨n+1,st',.step rfl hb (.line (by omega) h hc ?_) hr,h1,h2⟩
  rw [show (((t'+1:Nat):Int) - 1)=(t':Int) from by omega]
  exact hd
structure ud (FS:List Fn) (tg:V) (bs:List Fr) (tl:List au) (vf:Int→Int):Prop where
 gv:∀ (fr:Fr) (t:Nat) (ss:List au) (v:Int),fr.tgt=tg→ss.length+tl.length≤9000→∃ st1,Giv ⟨(t:Int),fr::bs,ss,none⟩ (.int v) st1∧Gd FS st1 (due tl t ss) (vf v)
 tk:∀ f∈bs,f.tasks.length≤10
theorem wU (FS:List Fn):ud FS .non [] [] id :=
 ⟨fun fr t ss v _ _=>⟨_,.last,0,_,.done rfl,rfl,rfl⟩,fun _ z=>by cases z⟩
theorem zn {more last m:Int} {tg:V} {bs:List Fr} {tl:List au} {vf:Int→Int} (h:ud (eC more last) tg bs tl vf) (hl:bs.length≤8000) :
  ud (eC more last) (.str "x") (⟨bh more last,env0 (bh more last) [.int m],[(2,.give (.add (.var "x") (.num more))),(3,.give (.num last))],tg⟩::bs) (.line "deep" 2::tl) (fun v=>vf (v+more)):=by
 refine ⟨fun fr t ss v ht hs=>?_,fun f hf=>?_⟩
 ·simp only [List.length_cons] at hs
  refine ⟨_,.on (d0:=.int 0) ht rfl,?_⟩
  refine bP (fr:=⟨bh more last,pJ (env0 (bh more last) [.int m]) "x" (.int v),[(2,.give (.add (.var "x") (.num more))),(3,.give (.num last))],tg⟩) rfl (by simp [S.cnt]) (cQ (by omega) (by omega) (by simp) h.tk) fun t'=>?_
  have al:=bA ss (.line "deep" 2)
  obtain ⟨st1,g1,g2⟩:=h.gv ⟨bh more last,pJ (env0 (bh more last) [.int m]) "x" (.int v),[(3,.give (.num last))],tg⟩ t' (bn ss (.line "deep" 2)) (v+more) rfl (by omega)
  exact ⟨st1,.give (.add (.var rfl) .num) (by simp [E.d,PyData.depth,PyData.depthAll]) g1,g2⟩
 ·rcases List.mem_cons.mp hf with rfl | hf
  ·simp
  ·exact h.tk f hf
theorem qy {more last:Int}:FnG (bh more last) :=
 ⟨show (["n", "x"]:List Str).Nodup by decide +kernel,by simp [bh],fun p hp=>by simp only [bh,List.mem_cons,List.not_mem_nil,or_false] at hp; subst hp; rfl,by simp [bh,S.cnts,S.cnt],rfl⟩
theorem wk:FnG bu :=
 ⟨show (["n", "y"]:List Str).Nodup by decide +kernel,by simp [bu],fun p hp=>by simp only [bu,List.mem_cons,List.not_mem_nil,or_false] at hp; subst hp; rfl,by simp [bu,S.cnts,S.cnt],rfl⟩
theorem zE:FnG onF :=
 ⟨show (["x"]:List Str).Nodup by decide +kernel,by simp [onF],fun p hp=>by simp only [onF,List.mem_cons,List.not_mem_nil,or_false] at hp; subst hp; rfl,by simp [onF,S.cnts,S.cnt],rfl⟩
def evs (n:Nat):List au:=(List.replicate n [au.line "deep" 0,.way "deep" 0 true,.line "deep" 1]).flatten++[.line "deep" 0,.way "deep" 0 false,.line "deep" 3]++List.replicate n (.line "deep" 2)
theorem tz (n:Nat) (tl:List au):evs (n+1)++tl=.line "deep" 0::.way "deep" 0 true::.line "deep" 1::(evs n++(.line "deep" 2::tl)):=by
 unfold evs
 rw [List.replicate_succ,List.flatten_cons,List.replicate_succ' (n:=n)]
 simp
theorem hV (n:Nat):(evs n).length=4*n+3:=by
 unfold evs
 simp
 omega
theorem mB {more last:Int}:∀ (j:Nat) {tg:V} {bs:List Fr} {tl:List au} {vf:Int→Int} {t:Nat} {ss:List au},ud (eC more last) tg bs tl vf→bs.length+j≤8000→ss.length+(4*j+3)+tl.length≤9000 →
  Gd (eC more last) ⟨(t:Int),⟨bh more last,env0 (bh more last) [.int j],nmb 0 (bh more last).bd,tg⟩::bs,ss,none⟩ (due (evs j++tl) t ss) (vf (last+j*more))
 | 0,tg,bs,tl,vf,t,ss,h,hl,hs=>by
  have a1:=bA ss (.line "deep" 0)
  have a2:=bA (bn ss (.line "deep" 0)) (.way "deep" 0 false)
  have a3:=bA (bn (bn ss (.line "deep" 0)) (.way "deep" 0 false)) (.line "deep" 3)
  refine bP (fr:=⟨bh more last,env0 (bh more last) [.int (0:Nat)],nmb 0 (bh more last).bd,tg⟩) rfl (by simp [S.cnt,S.cnts]) (cQ (by omega) (by omega) (by simp [nmb,bh]) h.tk) fun t'=>?_
  refine ⟨_,.if_ (b:=false) (show Ec _ _ (decide ((0:Int)<((0:Nat):Int))) from .less .num (.var rfl)) (by simp [C.d,E.d,PyData.depth,PyData.depthAll]),?_⟩
  refine bP (fr:=⟨bh more last,env0 (bh more last) [.int (0:Nat)],[(3,.give (.num last))],tg⟩) (t:=t') (ss:=bn (bn ss (.line "deep" 0)) (.way "deep" 0 false)) (evs:=tl) rfl (by simp [S.cnt]) (cQ (by omega) (by omega) (by simp) h.tk) fun t''=>?_
  obtain ⟨st1,g1,g2⟩:=h.gv ⟨bh more last,env0 (bh more last) [.int (0:Nat)],[],tg⟩ t'' (bn (bn (bn ss (.line "deep" 0)) (.way "deep" 0 false)) (.line "deep" 3)) last rfl (by omega)
  refine ⟨st1,.give .num (by simp [E.d,PyData.depth,PyData.depthAll]) g1,?_⟩
  rw [show last+((0:Nat):Int)*more=last from by simp]
  exact g2
 | j+1,tg,bs,tl,vf,t,ss,h,hl,hs=>by
  have a1:=bA ss (.line "deep" 0)
  have a2:=bA (bn ss (.line "deep" 0)) (.way "deep" 0 true)
  have a3:=bA (bn (bn ss (.line "deep" 0)) (.way "deep" 0 true)) (.line "deep" 1)
  rw [tz]
  refine bP (fr:=⟨bh more last,env0 (bh more last) [.int ((j+1:Nat):Int)],nmb 0 (bh more last).bd,tg⟩) rfl (by simp [S.cnt,S.cnts]) (cQ (by omega) (by omega) (by simp [nmb,bh]) h.tk) fun t'=>?_
  refine ⟨_,.if_ (b:=true) (show Ec _ _ true from (show decide ((0:Int)<((j+1:Nat):Int))=true from decide_eq_true (by omega)) ▸ .less .num (.var rfl)) (by simp [C.d,E.d,PyData.depth,PyData.depthAll]),?_⟩
  refine bP (fr:=⟨bh more last,env0 (bh more last) [.int ((j+1:Nat):Int)],[(1,.call "x" "deep" [.sub (.var "n") (.num 1)]),(2,.give (.add (.var "x") (.num more))),(3,.give (.num last))],tg⟩) (t:=t') (ss:=bn (bn ss (.line "deep" 0)) (.way "deep" 0 true)) rfl (by simp [S.cnt]) (cQ (by omega) (by omega) (by simp) h.tk) fun t''=>?_
  have hv:((j+1:Nat):Int) - 1=(j:Int):=by omega
  refine ⟨_,.call (ds:=[.int (j:Int)]) (F:=bh more last) (.cons (hv ▸ .sub (.var rfl) .num) .nil) (fun e he=>?_) rfl ?_ rfl (by simp),?_⟩
  ·simp only [List.mem_cons,List.not_mem_nil,or_false] at he
   subst he
   simp [E.d,PyData.depth,PyData.depthAll]
  ·exact qy
  ·have:=mB (more:=more) (last:=last) j (t:=t'') (ss:=bn (bn (bn ss (.line "deep" 0)) (.way "deep" 0 true)) (.line "deep" 1)) (zn (m:=((j+1:Nat):Int)) h (by omega)) (by simp only [List.length_cons]; omega) (by simp only [List.length_cons]; omega)
   rw [show last+((j+1:Nat):Int)*more=last+(j:Int)*more+more from by rw [Int.natCast_add,Int.add_mul]; simp; omega]
   exact this
theorem zU {more last m:Int}:ud (eC more last) (.str "y") [⟨bu,env0 bu [.int m],[(1,.give (.var "y"))],.non⟩] [.line "first" 1] id:=by
 refine ⟨fun fr t ss v ht hs=>?_,fun f hf=>?_⟩
 ·simp only [List.length_cons,List.length_nil] at hs
  refine ⟨_,.on (d0:=.int 0) ht rfl,?_⟩
  refine bP (fr:=⟨bu,pJ (env0 bu [.int m]) "y" (.int v),[(1,.give (.var "y"))],.non⟩) rfl (by simp [S.cnt]) (cQ (by omega) (by simp) (by simp) (fun _ z=>by cases z)) fun t'=>?_
  have al:=bA ss (.line "first" 1)
  obtain ⟨st1,g1,g2⟩:=(wU (eC more last)).gv ⟨bu,pJ (env0 bu [.int m]) "y" (.int v),[],.non⟩ t' (bn ss (.line "first" 1)) v rfl (by simp only [List.length_nil]; omega)
  exact ⟨st1,.give (.var rfl) (by simp [E.d,PyData.depth,PyData.depthAll]) g1,g2⟩
 ·simp only [List.mem_cons,List.not_mem_nil,or_false] at hf
  subst hf
  simp
theorem ut {more last:Int} (n t:Nat) (hn:n≤1000):Gd (eC more last) ⟨(t:Int),[⟨bh more last,env0 (bh more last) [.int n],nmb 0 (bh more last).bd,.non⟩],[],none⟩ (due (evs n) t []) (last+n*more):=by
 have:=mB (more:=more) (last:=last) n (t:=t) (ss:=[]) (wU _) (by simp only [List.length_nil]; omega) (by simp only [List.length_nil]; omega)
 rw [List.append_nil] at this
 exact this
theorem sW {more last:Int} (n t:Nat) (hn:n≤1000):Gd (eC more last) ⟨(t:Int),[⟨bu,env0 bu [.int n],nmb 0 bu.bd,.non⟩],[],none⟩ (due ([.line "first" 0]++evs n++[.line "first" 1]) t []) (last+n*more):=by
 show Gd _ _ (due (.line "first" 0::(evs n++[.line "first" 1])) t []) _
 refine bP (fr:=⟨bu,env0 bu [.int n],nmb 0 bu.bd,.non⟩) (r:=[]) (ss:=[]) (t:=t) (evs:=evs n++[.line "first" 1]) rfl (by simp [S.cnt]) (cQ (by simp) (by simp) (by simp [nmb,bu]) (fun _ z=>by cases z)) fun t'=>?_
 have al:=bA [] (.line "first" 0)
 refine ⟨_,.call (ds:=[.int (n:Int)]) (F:=bh more last) (.cons (.var rfl) .nil) (fun e he=>?_) rfl qy rfl (by simp),?_⟩
 ·simp only [List.mem_cons,List.not_mem_nil,or_false] at he
  subst he
  simp [E.d,PyData.depth,PyData.depthAll]
 ·exact mB (more:=more) (last:=last) n (t:=t') (ss:=bn [] (.line "first" 0)) (zU (m:=(n:Int))) (by simp only [List.length_cons,List.length_nil]; omega) (by simp only [List.length_cons,List.length_nil] at al ⊢; omega)
theorem tT {more last:Int}:∀ (t:Nat) {tg:V} {bs:List Fr} {ss:List au},(ss=[]∨ss=[.line "on" 0])→bs.length+t≤8000→(∀ f∈bs,f.tasks.length≤10) →
  ∃ n st',ow (eC more last) n ⟨(t:Int),⟨onF,env0 onF [],nmb 0 onF.bd,tg⟩::bs,ss,none⟩ st'∧st'.fin=some (.tuple [.str "dry"])∧st'.spots=if t=0 then ss else [.line "on" 0]
 | 0,tg,bs,ss,hs,hl,hb=>by
  refine ⟨1,_,.step rfl (cQ (by rcases hs with rfl | rfl<;>simp) (by omega) (by simp [nmb,onF]) hb) (.dry rfl) (.done rfl),rfl,rfl⟩
 | t+1,tg,bs,ss,hs,hl,hb=>by
  have ha:bn ss (.line "on" 0)=[.line "on" 0]:=by rcases hs with rfl | rfl<;>rfl
  obtain ⟨n,st',h1,h2,h3⟩:=tT (more:=more) (last:=last) t (tg:=.str "x") (bs:=⟨onF,env0 onF [],[],tg⟩::bs) (ss:=[.line "on" 0]) (.inr rfl) (by simp only [List.length_cons]; omega) (fun f hf=>by
   rcases List.mem_cons.mp hf with rfl | hf
   ·simp
   ·exact hb f hf)
  refine ⟨n+1,st',.step rfl (cQ (by rcases hs with rfl | rfl<;>simp) (by omega) (by simp [nmb,onF]) hb) (.line (k:=0) (s:=.call "x" "on" []) (ts:=[]) (by omega) rfl (by simp [S.cnt]) ?_) h1,h2,?_⟩
  ·rw [show (((t+1:Nat):Int) - 1)=(t:Int) from by omega,show bn ss (.line onF.nm 0)=[.line "on" 0] from ha]
   exact .call (ds:=[]) (F:=onF) .nil (fun e he=>by cases he) rfl zE rfl (by simp)
  ·rw [h3]
   simp
theorem yf {α:Type} {xs:List α} {i:Int} (h0:0≤i) (h1:i<xs.length):∃ v,v∈xs∧xs[i.toNat]?=some v∧atI xs i=some v:=by
 have hi:i.toNat<xs.length:=by omega
 have e:xs[i.toNat]?=some xs[i.toNat]:=List.getElem?_eq_getElem hi
 refine ⟨_,List.getElem_mem hi,e,?_⟩
 have q:=rY e
 rwa [show ((i.toNat:Nat):Int)=i by omega] at q
theorem yt:zu 10 18:=⟨by decide,by decide,by decide⟩
theorem xg {i j:Int} (h1:-(2 ^ 64)<j) (h2:j<2 ^ 64):vH i j:=.inr ⟨h1,h2⟩
theorem lc {i j:Int} (h1:-(2 ^ 64)<i) (h2:i<2 ^ 64):vH i j:=.inl ⟨h1,h2⟩
theorem fA (a:Int) {b:Int} (h0:0<b) (h1:b<2 ^ 32):-(2 ^ 64)<a % b+1∧a % b+1<2 ^ 64:=by
 have:=Int.emod_nonneg a (show b≠0 by omega)
 have:=Int.emod_lt_of_pos a h0
 omega
def Fd (H:Hp) (fp:Addr) (m:Nat):Prop:=∃ sc ns a b c,H fp=some (.lst [.ref sc,.int a,.int b,.int c])∧H sc=some (.lst (List.map V.int ns))∧0<ns.length∧0≤c∧c≤(m:Int)
section
variable {P:Program} {w:World} {K:Frag} {mg:Str→Option Value} {base:Heap} {f g:Addr} {fd gd:FuncData}
abbrev vA:List Str:=["_law_feed_here", "_law_many", "_law_found", "_law_cell", "_law_turn", "_law_mixed"]
theorem cj:aF vA ["_law_feed_here", "_law_many"] (defScope jg):=⟨rfl,rfl,rfl,by decide +kernel,rfl,by decide +kernel,by decide +kernel⟩
def yG:Sp:=fun vs H Q _=>∃ fp many m,vs=[.ref fp,.int many]∧Fd H fp m∧m≤1000∧0<many∧many≤1000∧∀ (v:Int) (H':Hp),0≤v→v<many→Ext fp H H'→Fd H' fp (m+1)→Q (.int v) H'
theorem zC (T:G0 mg) (F:Fun K "_law_draw" "_law_draw" jg f fd):bg P w K mg base CX0 1 f fd ["_law_feed_here", "_law_many"] yG:=by
 refine F.ok cj (fun vs H Q E h=>?_) (fun cdv A outer s H vs Q E hr h=>?_)
 ·obtain ⟨fp,many,m,rfl,_⟩:=h
  rfl
 obtain ⟨fp,many,m,rfl,⟨sc,ns,a,b,c,h1,h2,hn,hc0,hc1⟩,hm,hm0,hm1,q⟩:=h
 have hne:sc≠fp:=aX h2 h1 (fun z=>by injection z with z; cases ns<;>cases z)
 refine ⟨_,(@ah _ _ _ _ _ (@mt _ _ _ _ _ _ (@aO _ _ _ _ _ _ _ _ bG (@ay _ _ _ _ _ _ _ aK (pv 0) ak (fun _ _=>rfl)) ak) (nj (pv 0) ak eF) rfl rfl rfl) (@ah _ _ _ _ _ (@aZ _ _ _ _ _ _ _ _ (@aC _ _ _ _ _ _ _ _ yZ (@ay _ _ _ _ _ _ _ aK (pv 0) ak (fun _ _=>rfl)) ak (aQ _)) (@ah _ _ _ _ _ (@aA _ _ 2 _ _ _ _ cj.nd rfl (Or.inl rfl) (@aO _ _ _ _ _ _ _ _ cZ (@ay _ _ _ _ _ _ _ aK (pv 0) ak (fun _ _=>rfl)) (pv 1)) (aj rfl) (.inr rfl)) (@ah _ _ _ _ _ (@mt _ _ _ _ _ _ (@aO _ _ _ _ _ _ _ _ ng (@ay _ _ _ _ _ _ _ aK (pv 0) ak (fun _ _=>rfl)) (pv 1)) (nj (pv 0) ak eF) rfl rfl rfl) (@ap _ _ _ (@aP _ _ _ _ (pv 2))))) aM) (@ah _ _ _ _ _ (@aA _ _ 3 _ _ _ _ cj.nd rfl (Or.inl rfl) (@ay _ _ _ _ _ _ _ aK (@ay _ _ _ _ _ _ _ aK (pv 0) ak (fun _ _=>rfl)) (@aO _ _ _ _ _ _ _ _ cZ (@ay _ _ _ _ _ _ _ aK (pv 0) ak (fun _ _=>rfl)) (@br _ _ _ _ _ _ _ _ _ bL rfl T.len ol (@ac _ _ _ _ _ (@ay _ _ _ _ _ _ _ aK (pv 0) ak (fun _ _=>rfl)) ag (ab rfl)) (by decide) (by decide) (ab rfl) (am rfl))) (fun _ _=>rfl)) (aj rfl) (.inr rfl)) (@ah _ _ _ _ _ (@mt _ _ _ _ _ _ (@aO _ _ _ _ _ _ _ _ bG (@ay _ _ _ _ _ _ _ aK (pv 0) ak (fun _ _=>rfl)) ak) (nj (pv 0) ak eF) rfl rfl rfl) (@ah _ _ _ _ _ (@aZ _ _ _ _ _ _ _ _ (@aC _ _ _ _ _ _ _ _ yK (pv 3) (@aO _ _ _ _ _ _ _ _ xT ak ak) (aQ _)) (@ah _ _ _ _ _ (@mt _ _ _ _ _ _ (@aO _ _ _ _ _ _ _ _ ng (pv 3) (pv 1)) (nj (pv 0) ak eF) rfl rfl rfl) (@ap _ _ _ (@aP _ _ _ _ (@aO _ _ _ _ _ _ _ _ cZ (pv 3) (pv 1))))) aM) (@ah _ _ _ _ _ (@aA _ _ 4 _ _ _ _ cj.nd rfl (Or.inl rfl) (@aO _ _ _ _ _ _ _ _ bG (@aO _ _ _ _ _ _ _ _ bG (@aO _ _ _ _ _ _ _ _ dk (@aO _ _ _ _ _ _ _ _ dk ak (@ay _ _ _ _ _ _ _ aK (pv 0) ak (fun _ _=>rfl))) (@ay _ _ _ _ _ _ _ aK (pv 0) ak (fun _ _=>rfl))) (@aO _ _ _ _ _ _ _ _ dk ak (@ay _ _ _ _ _ _ _ aK (pv 0) ak (fun _ _=>rfl)))) ak) (aj rfl) (.inr rfl)) (@ah _ _ _ _ _ (@aA _ _ 5 _ _ _ _ cj.nd rfl (Or.inl rfl) (@aO _ _ _ _ _ _ _ _ cZ (@aO _ _ _ _ _ _ _ _ dk (@aO _ _ _ _ _ _ _ _ bG (@aO _ _ _ _ _ _ _ _ cZ (pv 3) ak) ak) (pv 4)) ak) (aj rfl) (.inr rfl)) (@ah _ _ _ _ _ (@aA _ _ 5 _ _ _ _ cj.nd rfl (Or.inl rfl) (@aO _ _ _ _ _ _ _ _ bG (@aO _ _ _ _ _ _ _ _ dk (pv 5) (@aO _ _ _ _ _ _ _ _ bG (@aO _ _ _ _ _ _ _ _ cZ (pv 5) ak) ak)) (@ay _ _ _ _ _ _ _ aK (pv 0) ak (fun _ _=>rfl))) (aj rfl) (.inr rfl)) (@ap _ _ _ (@aP _ _ _ _ (@aO _ _ _ _ _ _ _ _ cZ (@aO _ _ _ _ _ _ _ _ ng (@aO _ _ _ _ _ _ _ _ cZ (pv 5) ak) ak) (pv 1)))))))))))),?_⟩
 have X1:Ext fp H (upd H fp (.lst [.ref sc,.int a,.int b,.int (c+1)])):=Ext.upd
 have e1:(upd H fp (.lst [.ref sc,.int a,.int b,.int (c+1)])) fp=some (.lst [.ref sc,.int a,.int b,.int (c+1)]):=ad
 have e2:(upd H fp (.lst [.ref sc,.int a,.int b,.int (c+1)])) sc=some (.lst (List.map V.int ns)):=X1 _ _ hne h2
 refine ⟨_,rfl,fp,_,_,_,rfl,rfl,SqL.of h1,rfl,_,_,rfl,rfl,_,rfl,fp,_,_,_,rfl,rfl,h1,rfl,?_⟩
 change iS _ _ _ _ (upd H fp (.lst [.ref sc,.int a,.int b,.int (c+1)]))
 generalize (upd H fp (.lst [.ref sc,.int a,.int b,.int (c+1)]))=H1 at X1 e1 e2
 have fin:∀ {a' b' v:Int} {H':Hp},H' fp=some (.lst [.ref sc,.int a',.int b',.int (c+1)])→Ext fp H H'→0≤v→v<many→Q (.int v) H':=fun {a' b' v H'} ha hb hc hd=>q v H' hc hd hb ⟨sc,ns,a',b',c+1,ha,hb _ _ hne h2,hn,by omega,by omega⟩
 refine ⟨_,rfl,fp,_,_,_,rfl,rfl,SqL.of e1,rfl,_,_,rfl,rfl,_,rfl,?_⟩
 refine aY (fun cc=>?_) (fun cc=>?_)
 ·refine ⟨_,rfl,fp,_,_,_,rfl,rfl,SqL.of e1,rfl,_,rfl,_,_,rfl,rfl,hm0,?_⟩
  refine ⟨_,rfl,fp,_,_,_,rfl,rfl,SqL.of e1,rfl,_,rfl,_,_,rfl,rfl,⟨hm0,by omega⟩,_,rfl,fp,_,_,_,rfl,rfl,e1,rfl,_,rfl,?_⟩
  exact fin ad (X1.trans Ext.upd) (Int.emod_nonneg _ (by omega)) (Int.emod_lt_of_pos _ hm0)
 ·have hb:=Int.emod_lt_of_pos a (show (0:Int)<ns.length by omega)
  have ha:=Int.emod_nonneg a (show (ns.length:Int)≠0 by omega)
  obtain ⟨v,hv,_,hat⟩:=yf (xs:=List.map V.int ns) (i:=a % ((List.map V.int ns).length:Nat)) (by rw [List.length_map]; exact ha) (by rw [List.length_map]; exact hb)
  obtain ⟨cell,_,rfl⟩:=List.mem_map.mp hv
  refine ⟨_,rfl,fp,_,_,_,rfl,rfl,SqL.of e1,rfl,_,rfl,fp,_,_,_,rfl,rfl,SqL.of e1,rfl,_,rfl,fp,_,_,_,rfl,rfl,SqL.of e1,rfl,sc,_,rfl,.inl (SqL.of e2),_,_,rfl,rfl,?_,?_⟩
  ·show (0:Int)<((List.map V.int ns).length:Nat)
   rw [List.length_map]; omega
  refine ⟨sc,_,_,_,rfl,rfl,SqL.of e2,hat,?_⟩
  refine ⟨_,rfl,fp,_,_,_,rfl,rfl,SqL.of e1,rfl,_,_,rfl,rfl,_,rfl,fp,_,_,_,rfl,rfl,e1,rfl,?_⟩
  have X3:Ext fp H (upd H1 fp (.lst [.ref sc,.int (a+1),.int b,.int (c+1)])):=X1.trans Ext.upd
  have e3:(upd H1 fp (.lst [.ref sc,.int (a+1),.int b,.int (c+1)])) fp=some (.lst [.ref sc,.int (a+1),.int b,.int (c+1)]):=ad
  change iS _ _ _ _ (upd H1 fp (.lst [.ref sc,.int (a+1),.int b,.int (c+1)]))
  generalize (upd H1 fp (.lst [.ref sc,.int (a+1),.int b,.int (c+1)]))=H3 at X3 e3
  refine ⟨_,rfl,_,_,rfl,rfl,yt,_,_,rfl,rfl,_,rfl,?_⟩
  refine aY (fun c3=>?_) (fun c3=>?_)
  ·refine ⟨_,rfl,_,rfl,_,_,rfl,rfl,⟨hm0,by omega⟩,_,rfl,fp,_,_,_,rfl,rfl,e3,rfl,_,rfl,_,rfl,_,_,rfl,rfl,hm0,?_⟩
   exact fin ad (X3.trans Ext.upd) (Int.emod_nonneg _ (by omega)) (Int.emod_lt_of_pos _ hm0)
  ·refine ⟨_,rfl,fp,_,_,_,rfl,rfl,SqL.of e3,rfl,_,_,rfl,rfl,lc (by decide) (by decide),_,rfl,fp,_,_,_,rfl,rfl,SqL.of e3,rfl,_,_,rfl,rfl,xg (by show -(2 ^ 64)<c+1; omega) (by show c+1<2 ^ 64; omega),_,rfl,fp,_,_,_,rfl,rfl,SqL.of e3,rfl,_,_,rfl,rfl,lc (by decide) (by decide),_,_,rfl,rfl,_,_,rfl,rfl,?_⟩
   refine ⟨_,rfl,_,_,rfl,rfl,(by show (0:Int)<2147483629; decide),_,_,rfl,rfl,_,rfl,_,_,rfl,rfl,lc (fA cell (by decide) (by decide)).1 (fA cell (by decide) (by decide)).2,_,_,rfl,rfl,(by show (0:Int)<2147483647; decide),?_⟩
   refine ⟨_,rfl,_,rfl,_,_,rfl,rfl,(by show (0:Int)<65521; decide),_,_,rfl,rfl,_,_,rfl,rfl,xg ?_ ?_,_,rfl,fp,_,_,_,rfl,rfl,SqL.of e3,rfl,_,_,rfl,rfl,?_⟩
   ·have:=(fA ((cell % 2147483629+1)*(31*(c+1)*(c+1)+7919*(c+1)+1) % 2147483647) (b:=65521) (by decide) (by decide)).1
    have:=Int.emod_nonneg ((cell % 2147483629+1)*(31*(c+1)*(c+1)+7919*(c+1)+1) % 2147483647) (show (65521:Int)≠0 by decide)
    exact Int.lt_of_lt_of_le (by decide:(-(2 ^ 64):Int)<0+48271) (Int.add_le_add_right this _)
   ·have:=Int.emod_lt_of_pos ((cell % 2147483629+1)*(31*(c+1)*(c+1)+7919*(c+1)+1) % 2147483647) (show (0:Int)<65521 by decide)
    exact Int.lt_trans (Int.add_lt_add_right this 48271) (by decide)
   refine ⟨_,rfl,_,_,rfl,rfl,(by show (0:Int)<2147483629; decide),_,_,rfl,rfl,⟨by decide,by decide⟩,_,rfl,_,_,rfl,rfl,hm0,?_⟩
   exact fin e3 X3 (Int.emod_nonneg _ (by omega)) (Int.emod_lt_of_pos _ hm0)
end
open PySem L2
theorem SqL.same {K:Frag} {H H':Hp} (g:aE H H') {a:Addr} {xs:List V} (h:SqL K H a xs):SqL K H' a xs:=by
 rcases h with (h | ⟨o,h⟩) | h
 ·exact .inl (.inl (g _ _ h))
 ·exact .inl (.inr ⟨o,g _ _ h⟩)
 ·exact .inr h
theorem nW:∀ ns:List Int,PyData.canLayAll0 (ns.map PyData.int)=true∧PyData.depthAll (ns.map PyData.int)≤1
 | []=>⟨rfl,by simp [PyData.depthAll]⟩
 | i::r=>by
  have:=nW r
  simp only [List.map_cons,PyData.canLayAll0,PyData.canLay0,PyData.depthAll,PyData.depth,this.1,Bool.and_self,true_and]
  omega
theorem ou (ns:List Int):SeqAt.shaped (.list (ns.map PyData.int))=true:=by
 have:=nW ns
 unfold SeqAt.shaped
 rw [Bool.and_eq_true,decide_eq_true_eq]
 refine ⟨by simp only [PyData.canLay0]; exact this.1,by simp only [PyData.depth]; omega⟩
theorem rm {K:Frag} {H:Hp}:∀ ns:List Int,cM K H (ns.map V.int) (ns.map PyData.int)
 | []=>.nil
 | i::r=>.cons (.int i) (rm r)
section
variable {P:Program} {w:World} {K:Frag} {mg:Str→Option Value} {base:Heap} {f g:Addr} {fd gd:FuncData}
abbrev vS:List Str:=["_law_script"]
theorem sT:aF vS ["_law_script"] (defScope iE):=⟨rfl,rfl,rfl,by decide +kernel,rfl,by decide +kernel,by decide +kernel⟩
def zZ (K:Frag):Sp:=fun vs H Q _=>∃ a ns,vs=[.ref a]∧SqL K H a (List.map V.int ns)∧∀ t H',aE H H'→H t=none→Fd H' t 0→Q (.ref t) H'
theorem Ag (T:G0 mg) (F:Fun K "_law_feed" "_law_feed" iE f fd):bg P w K mg base CX0 1 f fd ["_law_script"] (zZ K):=by
 refine F.ok sT (fun vs H Q E h=>?_) (fun cdv A outer s H vs Q E hr h=>?_)
 ·obtain ⟨a,ns,rfl,_⟩:=h
  rfl
 obtain ⟨a,ns,rfl,hS,q⟩:=h
 refine ⟨_,(@ap _ _ _ (@aP _ _ _ _ (@bm _ _ _ _ (@ac _ _ _ _ _ (@aO _ _ _ _ _ _ _ _ jJ (@oA _ _ _ _ _ _ _ _ _ _ rC (pv 0) rA (rk ak)) (@aO _ _ _ _ _ _ _ _ qI (@bm _ _ _ _ (@ac _ _ _ _ _ ak ag (ab rfl))) (@dJ _ _ _ _ _ _ _ _ _ sA rfl T.int yX (@ac _ _ _ _ _ (@hW _ _ _ _ _ _ _ _ (xt hr.units) (pv 0) (@bm _ _ _ _ ag) (aQ _)) ag (ab rfl)) (by decide) (by decide) (ab rfl) (am rfl)))) (@ac _ _ _ _ _ ak (@ac _ _ _ _ _ ak (@ac _ _ _ _ _ ak ag (ab rfl)) (ab rfl)) (ab rfl)) (ab rfl))))),?_⟩
 have em:ik (ns.map V.int) none (some 63)=(ns.take 63).map V.int:=by
  unfold ik
  rw [HT.sIx_none,show (63:Int)=((63:Nat):Int) from rfl,HT.sIx_nat,List.drop_zero,Nat.sub_zero,List.length_map,← List.map_take]
  by_cases h:63≤ns.length
  ·rw [Nat.min_eq_left h]
  ·rw [Nat.min_eq_right (by omega),List.take_length,List.take_of_length_le (by omega)]
 refine ⟨_,rfl,_,rfl,a,_,rfl,hS,fun p hp=>?_⟩
 have gp:=ae hp (.lst (ik (ns.map V.int) none (some 63)))
 refine ⟨(by show 1≤sizeLine; decide),fun l0 hl0=>?_⟩
 have g0:=gp.trans (ae hl0 (.lst [.int 0]))
 refine ⟨_,rfl,(by show 0≤sizeLine; decide),fun l1 hl1=>?_⟩
 have g1:=g0.trans (ae hl1 (.lst []))
 refine ⟨.list (ns.map PyData.int),.list [],.lst (SqL.same g1 hS) (rm ns),.lst (SqL.of ad) .nil,ou ns,rfl,.inr ⟨_,rfl,?_⟩⟩
 rw [em] at hl0 hl1 gp g0 g1 ⊢
 have hp1:(upd (upd (upd H p (.lst ((ns.take 63).map V.int))) l0 (.lst [.int 0])) l1 (.lst [])) p=some (.lst ((ns.take 63).map V.int)):=aG (av (aG (av ad hl0) ad) hl1) (aG (av ad hl0) ad)
 have hl01:(upd (upd (upd H p (.lst ((ns.take 63).map V.int))) l0 (.lst [.int 0])) l1 (.lst [])) l0=some (.lst [.int 0]):=aG (av ad hl1) ad
 generalize (upd (upd (upd H p (.lst ((ns.take 63).map V.int))) l0 (.lst [.int 0])) l1 (.lst []))=H1 at g1 hp1 hl01
 have lt:(ns.take 63).length≤63:=by rw [List.length_take]; omega
 cases ns with
 | nil =>
  refine ⟨l0,1,[.int 0],rfl,rfl,hl01,by decide,by decide,by decide,fun p2 hp2=>?_⟩
  refine ⟨p,p2,_,_,rfl,rfl,aG (av hp1 hp2) hp1,ad,by decide,fun p3 hp3=>?_⟩
  refine ⟨(by show 4≤sizeLine; decide),fun fp hfp=>?_⟩
  refine q fp _ (((g1.trans (ae hp2 _)).trans (ae hp3 _)).trans (ae hfp _)) (((g1.trans (ae hp2 _)).trans (ae hp3 _)).free hfp) ⟨p3,[0],0,0,0,ad,aG (av ad hfp) ad,by decide,by decide,by decide⟩
 | cons n r =>
  refine ⟨l0,0,[.int 0],rfl,rfl,hl01,by decide,by decide,by decide,fun p2 hp2=>?_⟩
  refine ⟨p,p2,_,_,rfl,rfl,aG (av hp1 hp2) hp1,ad,by rw [List.length_map,sizeLine_eq]; simp only [Int.toNat_zero,List.replicate_zero,List.flatten_nil,List.length_nil]; omega,fun p3 hp3=>?_⟩
  refine ⟨(by show 4≤sizeLine; decide),fun fp hfp=>?_⟩
  refine q fp _ (((g1.trans (ae hp2 _)).trans (ae hp3 _)).trans (ae hfp _)) (((g1.trans (ae hp2 _)).trans (ae hp3 _)).free hfp) ⟨p3,(n::r).take 63,0,0,0,ad,?_,by simp,by decide,by decide⟩
  refine aG (av ad hfp) ?_
  rw [ad]
  simp
abbrev nP:List Str:=["_law_more", "_law_last", "_law_n", "_law_inner", "_law_body", "_law_deep", "_law_endless", "_law_first"]
theorem bv:aF nP ["_law_more", "_law_last"] (defScope dA):=⟨rfl,rfl,rfl,by decide +kernel,rfl,by decide +kernel,by decide +kernel⟩
def yL (K:Frag):Sp:=fun vs H Q _=>∃ more last,vs=[.int more,.int last]∧∀ v H',aE H H'→DT K H' v (pgD (eC more last))→Q v H'
theorem yV (F:Fun K "_law_program" "_law_program" dA f fd):bg P w K mg base CX0 1 f fd ["_law_more", "_law_last"] (yL K):=by
 refine F.ok bv (fun vs H Q E h=>?_) (fun cdv A outer s H vs Q E hr h=>?_)
 ·obtain ⟨more,last,rfl,_⟩:=h
  rfl
 obtain ⟨more,last,rfl,q⟩:=h
 refine ⟨_,(@ah _ _ _ _ _ (@aA _ _ 2 _ _ _ _ bv.nd rfl (Or.inl rfl) (@ar _ _ _ _ _ (@ac _ _ _ _ _ ao (@ac _ _ _ _ _ ao ag (ab rfl)) (ab rfl))) (aj rfl) (.inr rfl)) (@ah _ _ _ _ _ (@aA _ _ 3 _ _ _ _ bv.nd rfl (Or.inl rfl) (@ar _ _ _ _ _ (@ac _ _ _ _ _ (@ar _ _ _ _ _ (@ac _ _ _ _ _ ao (@ac _ _ _ _ _ ao (@ac _ _ _ _ _ ao (@ac _ _ _ _ _ (@ar _ _ _ _ _ (@ac _ _ _ _ _ (@ar _ _ _ _ _ (@ac _ _ _ _ _ ao (@ac _ _ _ _ _ (pv 2) (@ac _ _ _ _ _ (@ar _ _ _ _ _ (@ac _ _ _ _ _ ao (@ac _ _ _ _ _ ak ag (ab rfl)) (ab rfl))) ag (ab rfl)) (ab rfl)) (ab rfl))) ag (ab rfl))) ag (ab rfl)) (ab rfl)) (ab rfl)) (ab rfl))) (@ac _ _ _ _ _ (@ar _ _ _ _ _ (@ac _ _ _ _ _ ao (@ac _ _ _ _ _ (@ar _ _ _ _ _ (@ac _ _ _ _ _ ao (@ac _ _ _ _ _ (@ar _ _ _ _ _ (@ac _ _ _ _ _ ao (@ac _ _ _ _ _ ao ag (ab rfl)) (ab rfl))) (@ac _ _ _ _ _ (@ar _ _ _ _ _ (@ac _ _ _ _ _ ao (@ac _ _ _ _ _ (pv 0) ag (ab rfl)) (ab rfl))) ag (ab rfl)) (ab rfl)) (ab rfl))) ag (ab rfl)) (ab rfl))) ag (ab rfl)) (ab rfl))) (aj rfl) (.inr rfl)) (@ah _ _ _ _ _ (@aA _ _ 4 _ _ _ _ bv.nd rfl (Or.inl rfl) (@ar _ _ _ _ _ (@ac _ _ _ _ _ (@ar _ _ _ _ _ (@ac _ _ _ _ _ ao (@ac _ _ _ _ _ (@ar _ _ _ _ _ (@ac _ _ _ _ _ ao (@ac _ _ _ _ _ (@ar _ _ _ _ _ (@ac _ _ _ _ _ ao (@ac _ _ _ _ _ ak ag (ab rfl)) (ab rfl))) (@ac _ _ _ _ _ (pv 2) ag (ab rfl)) (ab rfl)) (ab rfl))) (@ac _ _ _ _ _ (pv 3) (@ac _ _ _ _ _ (@ar _ _ _ _ _ ag) ag (ab rfl)) (ab rfl)) (ab rfl)) (ab rfl))) (@ac _ _ _ _ _ (@ar _ _ _ _ _ (@ac _ _ _ _ _ ao (@ac _ _ _ _ _ (@ar _ _ _ _ _ (@ac _ _ _ _ _ ao (@ac _ _ _ _ _ (pv 1) ag (ab rfl)) (ab rfl))) ag (ab rfl)) (ab rfl))) ag (ab rfl)) (ab rfl))) (aj rfl) (.inr rfl)) (@ah _ _ _ _ _ (@aA _ _ 5 _ _ _ _ bv.nd rfl (Or.inl rfl) (@ar _ _ _ _ _ (@ac _ _ _ _ _ ao (@ac _ _ _ _ _ (@ar _ _ _ _ _ (@ac _ _ _ _ _ (@ar _ _ _ _ _ (@ac _ _ _ _ _ ao (@ac _ _ _ _ _ ao ag (ab rfl)) (ab rfl))) ag (ab rfl))) (@ac _ _ _ _ _ (@ar _ _ _ _ _ (@ac _ _ _ _ _ (@ar _ _ _ _ _ (@ac _ _ _ _ _ ao (@ac _ _ _ _ _ ao ag (ab rfl)) (ab rfl))) ag (ab rfl))) (@ac _ _ _ _ _ ao (@ac _ _ _ _ _ (pv 4) ag (ab rfl)) (ab rfl)) (ab rfl)) (ab rfl)) (ab rfl))) (aj rfl) (.inr rfl)) (@ah _ _ _ _ _ (@aA _ _ 6 _ _ _ _ bv.nd rfl (Or.inl rfl) (@ar _ _ _ _ _ (@ac _ _ _ _ _ ao (@ac _ _ _ _ _ (@ar _ _ _ _ _ ag) (@ac _ _ _ _ _ (@ar _ _ _ _ _ (@ac _ _ _ _ _ (@ar _ _ _ _ _ (@ac _ _ _ _ _ ao (@ac _ _ _ _ _ ao ag (ab rfl)) (ab rfl))) ag (ab rfl))) (@ac _ _ _ _ _ ao (@ac _ _ _ _ _ (@ar _ _ _ _ _ (@ac _ _ _ _ _ (@ar _ _ _ _ _ (@ac _ _ _ _ _ ao (@ac _ _ _ _ _ ao (@ac _ _ _ _ _ ao (@ac _ _ _ _ _ (@ar _ _ _ _ _ ag) ag (ab rfl)) (ab rfl)) (ab rfl)) (ab rfl))) ag (ab rfl))) ag (ab rfl)) (ab rfl)) (ab rfl)) (ab rfl)) (ab rfl))) (aj rfl) (.inr rfl)) (@ah _ _ _ _ _ (@aA _ _ 7 _ _ _ _ bv.nd rfl (Or.inl rfl) (@ar _ _ _ _ _ (@ac _ _ _ _ _ ao (@ac _ _ _ _ _ (@ar _ _ _ _ _ (@ac _ _ _ _ _ (@ar _ _ _ _ _ (@ac _ _ _ _ _ ao (@ac _ _ _ _ _ ao ag (ab rfl)) (ab rfl))) ag (ab rfl))) (@ac _ _ _ _ _ (@ar _ _ _ _ _ (@ac _ _ _ _ _ (@ar _ _ _ _ _ (@ac _ _ _ _ _ ao (@ac _ _ _ _ _ ao ag (ab rfl)) (ab rfl))) ag (ab rfl))) (@ac _ _ _ _ _ ao (@ac _ _ _ _ _ (@ar _ _ _ _ _ (@ac _ _ _ _ _ (@ar _ _ _ _ _ (@ac _ _ _ _ _ ao (@ac _ _ _ _ _ ao (@ac _ _ _ _ _ ao (@ac _ _ _ _ _ (@ar _ _ _ _ _ (@ac _ _ _ _ _ (pv 2) ag (ab rfl))) ag (ab rfl)) (ab rfl)) (ab rfl)) (ab rfl))) (@ac _ _ _ _ _ (@ar _ _ _ _ _ (@ac _ _ _ _ _ ao (@ac _ _ _ _ _ (@ar _ _ _ _ _ (@ac _ _ _ _ _ ao (@ac _ _ _ _ _ ao ag (ab rfl)) (ab rfl))) ag (ab rfl)) (ab rfl))) ag (ab rfl)) (ab rfl))) ag (ab rfl)) (ab rfl)) (ab rfl)) (ab rfl)) (ab rfl))) (aj rfl) (.inr rfl)) (@ap _ _ _ (@aP _ _ _ _ (@ar _ _ _ _ _ (@ac _ _ _ _ _ (@ar _ _ _ _ _ ag) (@ac _ _ _ _ _ (@ar _ _ _ _ _ (@ac _ _ _ _ _ (pv 6) (@ac _ _ _ _ _ (pv 5) (@ac _ _ _ _ _ (pv 7) ag (ab rfl)) (ab rfl)) (ab rfl))) ag (ab rfl)) (ab rfl))))))))))),?_⟩
 have G0:=aE.refl H
 refine ⟨(by show 2≤sizeLine; decide),fun p1 hp1=>?_⟩
 have s1:=ae hp1 (.tup [V.str "var",V.str "n"])
 have D1:DT K (upd H p1 (.tup [V.str "var",V.str "n"])) (.ref p1) (PyData.tuple [PyData.str "var",PyData.str "n"]):=.tup (.inl ad) (.cons (.str "var") (.cons (.str "n") .nil))
 have G1:=G0.trans s1
 generalize eH1:(upd H p1 (.tup [V.str "var",V.str "n"]))=H1 at D1 G1 s1 ⊢
 refine ⟨_,rfl,(by show 2≤sizeLine; decide),fun p2 hp2=>?_⟩
 have s2:=ae hp2 (.tup [V.str "num",V.int 1])
 have D2:DT K (upd H1 p2 (.tup [V.str "num",V.int 1])) (.ref p2) (PyData.tuple [PyData.str "num",PyData.int 1]):=.tup (.inl ad) (.cons (.str "num") (.cons (.int 1) .nil))
 have D1:=D1.mono (aa s2)
 have G2:=G1.trans s2
 generalize eH2:(upd H1 p2 (.tup [V.str "num",V.int 1]))=H2 at D2 D1 G2 s2 ⊢
 refine ⟨(by show 3≤sizeLine; decide),fun p3 hp3=>?_⟩
 have s3:=ae hp3 (.tup [V.str "sub",V.ref p1,V.ref p2])
 have D3:DT K (upd H2 p3 (.tup [V.str "sub",V.ref p1,V.ref p2])) (.ref p3) (PyData.tuple [PyData.str "sub",PyData.tuple [PyData.str "var",PyData.str "n"],PyData.tuple [PyData.str "num",PyData.int 1]]):=.tup (.inl ad) (.cons (.str "sub") (.cons (D1.mono (aa s3)) (.cons (D2.mono (aa s3)) .nil)))
 have D1:=D1.mono (aa s3)
 have D2:=D2.mono (aa s3)
 have G3:=G2.trans s3
 generalize eH3:(upd H2 p3 (.tup [V.str "sub",V.ref p1,V.ref p2]))=H3 at D3 D1 D2 G3 s3 ⊢
 refine ⟨(by show 1≤sizeLine; decide),fun p4 hp4=>?_⟩
 have s4:=ae hp4 (.tup [V.ref p3])
 have D4:DT K (upd H3 p4 (.tup [V.ref p3])) (.ref p4) (PyData.tuple [PyData.tuple [PyData.str "sub",PyData.tuple [PyData.str "var",PyData.str "n"],PyData.tuple [PyData.str "num",PyData.int 1]]]):=.tup (.inl ad) (.cons (D3.mono (aa s4)) .nil)
 have D1:=D1.mono (aa s4)
 have D2:=D2.mono (aa s4)
 have D3:=D3.mono (aa s4)
 have G4:=G3.trans s4
 generalize eH4:(upd H3 p4 (.tup [V.ref p3]))=H4 at D4 D1 D2 D3 G4 s4 ⊢
 refine ⟨(by show 4≤sizeLine; decide),fun p5 hp5=>?_⟩
 have s5:=ae hp5 (.tup [V.str "call",V.str "x",V.str "deep",V.ref p4])
 have D5:DT K (upd H4 p5 (.tup [V.str "call",V.str "x",V.str "deep",V.ref p4])) (.ref p5) (PyData.tuple [PyData.str "call",PyData.str "x",PyData.str "deep",PyData.tuple [PyData.tuple [PyData.str "sub",PyData.tuple [PyData.str "var",PyData.str "n"],PyData.tuple [PyData.str "num",PyData.int 1]]]]):=.tup (.inl ad) (.cons (.str "call") (.cons (.str "x") (.cons (.str "deep") (.cons (D4.mono (aa s5)) .nil))))
 have D1:=D1.mono (aa s5)
 have D2:=D2.mono (aa s5)
 have D3:=D3.mono (aa s5)
 have D4:=D4.mono (aa s5)
 have G5:=G4.trans s5
 generalize eH5:(upd H4 p5 (.tup [V.str "call",V.str "x",V.str "deep",V.ref p4]))=H5 at D5 D1 D2 D3 D4 G5 s5 ⊢
 refine ⟨(by show 2≤sizeLine; decide),fun p6 hp6=>?_⟩
 have s6:=ae hp6 (.tup [V.str "var",V.str "x"])
 have D6:DT K (upd H5 p6 (.tup [V.str "var",V.str "x"])) (.ref p6) (PyData.tuple [PyData.str "var",PyData.str "x"]):=.tup (.inl ad) (.cons (.str "var") (.cons (.str "x") .nil))
 have D1:=D1.mono (aa s6)
 have D2:=D2.mono (aa s6)
 have D3:=D3.mono (aa s6)
 have D4:=D4.mono (aa s6)
 have D5:=D5.mono (aa s6)
 have G6:=G5.trans s6
 generalize eH6:(upd H5 p6 (.tup [V.str "var",V.str "x"]))=H6 at D6 D1 D2 D3 D4 D5 G6 s6 ⊢
 refine ⟨_,rfl,(by show 2≤sizeLine; decide),fun p7 hp7=>?_⟩
 have s7:=ae hp7 (.tup [V.str "num",V.int more])
 have D7:DT K (upd H6 p7 (.tup [V.str "num",V.int more])) (.ref p7) (PyData.tuple [PyData.str "num",PyData.int more]):=.tup (.inl ad) (.cons (.str "num") (.cons (.int more) .nil))
 have D1:=D1.mono (aa s7)
 have D2:=D2.mono (aa s7)
 have D3:=D3.mono (aa s7)
 have D4:=D4.mono (aa s7)
 have D5:=D5.mono (aa s7)
 have D6:=D6.mono (aa s7)
 have G7:=G6.trans s7
 generalize eH7:(upd H6 p7 (.tup [V.str "num",V.int more]))=H7 at D7 D1 D2 D3 D4 D5 D6 G7 s7 ⊢
 refine ⟨(by show 3≤sizeLine; decide),fun p8 hp8=>?_⟩
 have s8:=ae hp8 (.tup [V.str "add",V.ref p6,V.ref p7])
 have D8:DT K (upd H7 p8 (.tup [V.str "add",V.ref p6,V.ref p7])) (.ref p8) (PyData.tuple [PyData.str "add",PyData.tuple [PyData.str "var",PyData.str "x"],PyData.tuple [PyData.str "num",PyData.int more]]):=.tup (.inl ad) (.cons (.str "add") (.cons (D6.mono (aa s8)) (.cons (D7.mono (aa s8)) .nil)))
 have D1:=D1.mono (aa s8)
 have D2:=D2.mono (aa s8)
 have D3:=D3.mono (aa s8)
 have D4:=D4.mono (aa s8)
 have D5:=D5.mono (aa s8)
 have D6:=D6.mono (aa s8)
 have D7:=D7.mono (aa s8)
 have G8:=G7.trans s8
 generalize eH8:(upd H7 p8 (.tup [V.str "add",V.ref p6,V.ref p7]))=H8 at D8 D1 D2 D3 D4 D5 D6 D7 G8 s8 ⊢
 refine ⟨(by show 2≤sizeLine; decide),fun p9 hp9=>?_⟩
 have s9:=ae hp9 (.tup [V.str "give",V.ref p8])
 have D9:DT K (upd H8 p9 (.tup [V.str "give",V.ref p8])) (.ref p9) (PyData.tuple [PyData.str "give",PyData.tuple [PyData.str "add",PyData.tuple [PyData.str "var",PyData.str "x"],PyData.tuple [PyData.str "num",PyData.int more]]]):=.tup (.inl ad) (.cons (.str "give") (.cons (D8.mono (aa s9)) .nil))
 have D1:=D1.mono (aa s9)
 have D2:=D2.mono (aa s9)
 have D3:=D3.mono (aa s9)
 have D4:=D4.mono (aa s9)
 have D5:=D5.mono (aa s9)
 have D6:=D6.mono (aa s9)
 have D7:=D7.mono (aa s9)
 have D8:=D8.mono (aa s9)
 have G9:=G8.trans s9
 generalize eH9:(upd H8 p9 (.tup [V.str "give",V.ref p8]))=H9 at D9 D1 D2 D3 D4 D5 D6 D7 D8 G9 s9 ⊢
 refine ⟨(by show 2≤sizeLine; decide),fun p10 hp10=>?_⟩
 have s10:=ae hp10 (.tup [V.ref p5,V.ref p9])
 have D10:DT K (upd H9 p10 (.tup [V.ref p5,V.ref p9])) (.ref p10) (PyData.tuple [PyData.tuple [PyData.str "call",PyData.str "x",PyData.str "deep",PyData.tuple [PyData.tuple [PyData.str "sub",PyData.tuple [PyData.str "var",PyData.str "n"],PyData.tuple [PyData.str "num",PyData.int 1]]]],PyData.tuple [PyData.str "give",PyData.tuple [PyData.str "add",PyData.tuple [PyData.str "var",PyData.str "x"],PyData.tuple [PyData.str "num",PyData.int more]]]]):=.tup (.inl ad) (.cons (D5.mono (aa s10)) (.cons (D9.mono (aa s10)) .nil))
 have D1:=D1.mono (aa s10)
 have D2:=D2.mono (aa s10)
 have D3:=D3.mono (aa s10)
 have D4:=D4.mono (aa s10)
 have D5:=D5.mono (aa s10)
 have D6:=D6.mono (aa s10)
 have D7:=D7.mono (aa s10)
 have D8:=D8.mono (aa s10)
 have D9:=D9.mono (aa s10)
 have G10:=G9.trans s10
 generalize eH10:(upd H9 p10 (.tup [V.ref p5,V.ref p9]))=H10 at D10 D1 D2 D3 D4 D5 D6 D7 D8 D9 G10 s10 ⊢
 refine ⟨(by show 2≤sizeLine; decide),fun p11 hp11=>?_⟩
 have s11:=ae hp11 (.tup [V.str "num",V.int 0])
 have D11:DT K (upd H10 p11 (.tup [V.str "num",V.int 0])) (.ref p11) (PyData.tuple [PyData.str "num",PyData.int 0]):=.tup (.inl ad) (.cons (.str "num") (.cons (.int 0) .nil))
 have D1:=D1.mono (aa s11)
 have D2:=D2.mono (aa s11)
 have D3:=D3.mono (aa s11)
 have D4:=D4.mono (aa s11)
 have D5:=D5.mono (aa s11)
 have D6:=D6.mono (aa s11)
 have D7:=D7.mono (aa s11)
 have D8:=D8.mono (aa s11)
 have D9:=D9.mono (aa s11)
 have D10:=D10.mono (aa s11)
 have G11:=G10.trans s11
 generalize eH11:(upd H10 p11 (.tup [V.str "num",V.int 0]))=H11 at D11 D1 D2 D3 D4 D5 D6 D7 D8 D9 D10 G11 s11 ⊢
 refine ⟨_,rfl,(by show 3≤sizeLine; decide),fun p12 hp12=>?_⟩
 have s12:=ae hp12 (.tup [V.str "less",V.ref p11,V.ref p1])
 have D12:DT K (upd H11 p12 (.tup [V.str "less",V.ref p11,V.ref p1])) (.ref p12) (PyData.tuple [PyData.str "less",PyData.tuple [PyData.str "num",PyData.int 0],PyData.tuple [PyData.str "var",PyData.str "n"]]):=.tup (.inl ad) (.cons (.str "less") (.cons (D11.mono (aa s12)) (.cons (D1.mono (aa s12)) .nil)))
 have D1:=D1.mono (aa s12)
 have D2:=D2.mono (aa s12)
 have D3:=D3.mono (aa s12)
 have D4:=D4.mono (aa s12)
 have D5:=D5.mono (aa s12)
 have D6:=D6.mono (aa s12)
 have D7:=D7.mono (aa s12)
 have D8:=D8.mono (aa s12)
 have D9:=D9.mono (aa s12)
 have D10:=D10.mono (aa s12)
 have D11:=D11.mono (aa s12)
 have G12:=G11.trans s12
 generalize eH12:(upd H11 p12 (.tup [V.str "less",V.ref p11,V.ref p1]))=H12 at D12 D1 D2 D3 D4 D5 D6 D7 D8 D9 D10 D11 G12 s12 ⊢
 refine ⟨_,rfl,(by show 0≤sizeLine; decide),fun p13 hp13=>?_⟩
 have s13:=ae hp13 (.tup [])
 have D13:DT K (upd H12 p13 (.tup [])) (.ref p13) (PyData.tuple []):=.tup (.inl ad) .nil
 have D1:=D1.mono (aa s13)
 have D2:=D2.mono (aa s13)
 have D3:=D3.mono (aa s13)
 have D4:=D4.mono (aa s13)
 have D5:=D5.mono (aa s13)
 have D6:=D6.mono (aa s13)
 have D7:=D7.mono (aa s13)
 have D8:=D8.mono (aa s13)
 have D9:=D9.mono (aa s13)
 have D10:=D10.mono (aa s13)
 have D11:=D11.mono (aa s13)
 have D12:=D12.mono (aa s13)
 have G13:=G12.trans s13
 generalize eH13:(upd H12 p13 (.tup []))=H13 at D13 D1 D2 D3 D4 D5 D6 D7 D8 D9 D10 D11 D12 G13 s13 ⊢
 refine ⟨(by show 4≤sizeLine; decide),fun p14 hp14=>?_⟩
 have s14:=ae hp14 (.tup [V.str "if",V.ref p12,V.ref p10,V.ref p13])
 have D14:DT K (upd H13 p14 (.tup [V.str "if",V.ref p12,V.ref p10,V.ref p13])) (.ref p14) (PyData.tuple [PyData.str "if",PyData.tuple [PyData.str "less",PyData.tuple [PyData.str "num",PyData.int 0],PyData.tuple [PyData.str "var",PyData.str "n"]],PyData.tuple [PyData.tuple [PyData.str "call",PyData.str "x",PyData.str "deep",PyData.tuple [PyData.tuple [PyData.str "sub",PyData.tuple [PyData.str "var",PyData.str "n"],PyData.tuple [PyData.str "num",PyData.int 1]]]],PyData.tuple [PyData.str "give",PyData.tuple [PyData.str "add",PyData.tuple [PyData.str "var",PyData.str "x"],PyData.tuple [PyData.str "num",PyData.int more]]]],PyData.tuple []]):=.tup (.inl ad) (.cons (.str "if") (.cons (D12.mono (aa s14)) (.cons (D10.mono (aa s14)) (.cons (D13.mono (aa s14)) .nil))))
 have D1:=D1.mono (aa s14)
 have D2:=D2.mono (aa s14)
 have D3:=D3.mono (aa s14)
 have D4:=D4.mono (aa s14)
 have D5:=D5.mono (aa s14)
 have D6:=D6.mono (aa s14)
 have D7:=D7.mono (aa s14)
 have D8:=D8.mono (aa s14)
 have D9:=D9.mono (aa s14)
 have D10:=D10.mono (aa s14)
 have D11:=D11.mono (aa s14)
 have D12:=D12.mono (aa s14)
 have D13:=D13.mono (aa s14)
 have G14:=G13.trans s14
 generalize eH14:(upd H13 p14 (.tup [V.str "if",V.ref p12,V.ref p10,V.ref p13]))=H14 at D14 D1 D2 D3 D4 D5 D6 D7 D8 D9 D10 D11 D12 D13 G14 s14 ⊢
 refine ⟨_,rfl,(by show 2≤sizeLine; decide),fun p15 hp15=>?_⟩
 have s15:=ae hp15 (.tup [V.str "num",V.int last])
 have D15:DT K (upd H14 p15 (.tup [V.str "num",V.int last])) (.ref p15) (PyData.tuple [PyData.str "num",PyData.int last]):=.tup (.inl ad) (.cons (.str "num") (.cons (.int last) .nil))
 have D1:=D1.mono (aa s15)
 have D2:=D2.mono (aa s15)
 have D3:=D3.mono (aa s15)
 have D4:=D4.mono (aa s15)
 have D5:=D5.mono (aa s15)
 have D6:=D6.mono (aa s15)
 have D7:=D7.mono (aa s15)
 have D8:=D8.mono (aa s15)
 have D9:=D9.mono (aa s15)
 have D10:=D10.mono (aa s15)
 have D11:=D11.mono (aa s15)
 have D12:=D12.mono (aa s15)
 have D13:=D13.mono (aa s15)
 have D14:=D14.mono (aa s15)
 have G15:=G14.trans s15
 generalize eH15:(upd H14 p15 (.tup [V.str "num",V.int last]))=H15 at D15 D1 D2 D3 D4 D5 D6 D7 D8 D9 D10 D11 D12 D13 D14 G15 s15 ⊢
 refine ⟨(by show 2≤sizeLine; decide),fun p16 hp16=>?_⟩
 have s16:=ae hp16 (.tup [V.str "give",V.ref p15])
 have D16:DT K (upd H15 p16 (.tup [V.str "give",V.ref p15])) (.ref p16) (PyData.tuple [PyData.str "give",PyData.tuple [PyData.str "num",PyData.int last]]):=.tup (.inl ad) (.cons (.str "give") (.cons (D15.mono (aa s16)) .nil))
 have D1:=D1.mono (aa s16)
 have D2:=D2.mono (aa s16)
 have D3:=D3.mono (aa s16)
 have D4:=D4.mono (aa s16)
 have D5:=D5.mono (aa s16)
 have D6:=D6.mono (aa s16)
 have D7:=D7.mono (aa s16)
 have D8:=D8.mono (aa s16)
 have D9:=D9.mono (aa s16)
 have D10:=D10.mono (aa s16)
 have D11:=D11.mono (aa s16)
 have D12:=D12.mono (aa s16)
 have D13:=D13.mono (aa s16)
 have D14:=D14.mono (aa s16)
 have D15:=D15.mono (aa s16)
 have G16:=G15.trans s16
 generalize eH16:(upd H15 p16 (.tup [V.str "give",V.ref p15]))=H16 at D16 D1 D2 D3 D4 D5 D6 D7 D8 D9 D10 D11 D12 D13 D14 D15 G16 s16 ⊢
 refine ⟨(by show 2≤sizeLine; decide),fun p17 hp17=>?_⟩
 have s17:=ae hp17 (.tup [V.ref p14,V.ref p16])
 have D17:DT K (upd H16 p17 (.tup [V.ref p14,V.ref p16])) (.ref p17) (PyData.tuple [PyData.tuple [PyData.str "if",PyData.tuple [PyData.str "less",PyData.tuple [PyData.str "num",PyData.int 0],PyData.tuple [PyData.str "var",PyData.str "n"]],PyData.tuple [PyData.tuple [PyData.str "call",PyData.str "x",PyData.str "deep",PyData.tuple [PyData.tuple [PyData.str "sub",PyData.tuple [PyData.str "var",PyData.str "n"],PyData.tuple [PyData.str "num",PyData.int 1]]]],PyData.tuple [PyData.str "give",PyData.tuple [PyData.str "add",PyData.tuple [PyData.str "var",PyData.str "x"],PyData.tuple [PyData.str "num",PyData.int more]]]],PyData.tuple []],PyData.tuple [PyData.str "give",PyData.tuple [PyData.str "num",PyData.int last]]]):=.tup (.inl ad) (.cons (D14.mono (aa s17)) (.cons (D16.mono (aa s17)) .nil))
 have D1:=D1.mono (aa s17)
 have D2:=D2.mono (aa s17)
 have D3:=D3.mono (aa s17)
 have D4:=D4.mono (aa s17)
 have D5:=D5.mono (aa s17)
 have D6:=D6.mono (aa s17)
 have D7:=D7.mono (aa s17)
 have D8:=D8.mono (aa s17)
 have D9:=D9.mono (aa s17)
 have D10:=D10.mono (aa s17)
 have D11:=D11.mono (aa s17)
 have D12:=D12.mono (aa s17)
 have D13:=D13.mono (aa s17)
 have D14:=D14.mono (aa s17)
 have D15:=D15.mono (aa s17)
 have D16:=D16.mono (aa s17)
 have G17:=G16.trans s17
 generalize eH17:(upd H16 p17 (.tup [V.ref p14,V.ref p16]))=H17 at D17 D1 D2 D3 D4 D5 D6 D7 D8 D9 D10 D11 D12 D13 D14 D15 D16 G17 s17 ⊢
 refine ⟨(by show 2≤sizeLine; decide),fun p18 hp18=>?_⟩
 have s18:=ae hp18 (.tup [V.str "n",V.str "num"])
 have D18:DT K (upd H17 p18 (.tup [V.str "n",V.str "num"])) (.ref p18) (PyData.tuple [PyData.str "n",PyData.str "num"]):=.tup (.inl ad) (.cons (.str "n") (.cons (.str "num") .nil))
 have D1:=D1.mono (aa s18)
 have D2:=D2.mono (aa s18)
 have D3:=D3.mono (aa s18)
 have D4:=D4.mono (aa s18)
 have D5:=D5.mono (aa s18)
 have D6:=D6.mono (aa s18)
 have D7:=D7.mono (aa s18)
 have D8:=D8.mono (aa s18)
 have D9:=D9.mono (aa s18)
 have D10:=D10.mono (aa s18)
 have D11:=D11.mono (aa s18)
 have D12:=D12.mono (aa s18)
 have D13:=D13.mono (aa s18)
 have D14:=D14.mono (aa s18)
 have D15:=D15.mono (aa s18)
 have D16:=D16.mono (aa s18)
 have D17:=D17.mono (aa s18)
 have G18:=G17.trans s18
 generalize eH18:(upd H17 p18 (.tup [V.str "n",V.str "num"]))=H18 at D18 D1 D2 D3 D4 D5 D6 D7 D8 D9 D10 D11 D12 D13 D14 D15 D16 D17 G18 s18 ⊢
 refine ⟨(by show 1≤sizeLine; decide),fun p19 hp19=>?_⟩
 have s19:=ae hp19 (.tup [V.ref p18])
 have D19:DT K (upd H18 p19 (.tup [V.ref p18])) (.ref p19) (PyData.tuple [PyData.tuple [PyData.str "n",PyData.str "num"]]):=.tup (.inl ad) (.cons (D18.mono (aa s19)) .nil)
 have D1:=D1.mono (aa s19)
 have D2:=D2.mono (aa s19)
 have D3:=D3.mono (aa s19)
 have D4:=D4.mono (aa s19)
 have D5:=D5.mono (aa s19)
 have D6:=D6.mono (aa s19)
 have D7:=D7.mono (aa s19)
 have D8:=D8.mono (aa s19)
 have D9:=D9.mono (aa s19)
 have D10:=D10.mono (aa s19)
 have D11:=D11.mono (aa s19)
 have D12:=D12.mono (aa s19)
 have D13:=D13.mono (aa s19)
 have D14:=D14.mono (aa s19)
 have D15:=D15.mono (aa s19)
 have D16:=D16.mono (aa s19)
 have D17:=D17.mono (aa s19)
 have D18:=D18.mono (aa s19)
 have G19:=G18.trans s19
 generalize eH19:(upd H18 p19 (.tup [V.ref p18]))=H19 at D19 D1 D2 D3 D4 D5 D6 D7 D8 D9 D10 D11 D12 D13 D14 D15 D16 D17 D18 G19 s19 ⊢
 refine ⟨(by show 2≤sizeLine; decide),fun p20 hp20=>?_⟩
 have s20:=ae hp20 (.tup [V.str "x",V.str "num"])
 have D20:DT K (upd H19 p20 (.tup [V.str "x",V.str "num"])) (.ref p20) (PyData.tuple [PyData.str "x",PyData.str "num"]):=.tup (.inl ad) (.cons (.str "x") (.cons (.str "num") .nil))
 have D1:=D1.mono (aa s20)
 have D2:=D2.mono (aa s20)
 have D3:=D3.mono (aa s20)
 have D4:=D4.mono (aa s20)
 have D5:=D5.mono (aa s20)
 have D6:=D6.mono (aa s20)
 have D7:=D7.mono (aa s20)
 have D8:=D8.mono (aa s20)
 have D9:=D9.mono (aa s20)
 have D10:=D10.mono (aa s20)
 have D11:=D11.mono (aa s20)
 have D12:=D12.mono (aa s20)
 have D13:=D13.mono (aa s20)
 have D14:=D14.mono (aa s20)
 have D15:=D15.mono (aa s20)
 have D16:=D16.mono (aa s20)
 have D17:=D17.mono (aa s20)
 have D18:=D18.mono (aa s20)
 have D19:=D19.mono (aa s20)
 have G20:=G19.trans s20
 generalize eH20:(upd H19 p20 (.tup [V.str "x",V.str "num"]))=H20 at D20 D1 D2 D3 D4 D5 D6 D7 D8 D9 D10 D11 D12 D13 D14 D15 D16 D17 D18 D19 G20 s20 ⊢
 refine ⟨(by show 1≤sizeLine; decide),fun p21 hp21=>?_⟩
 have s21:=ae hp21 (.tup [V.ref p20])
 have D21:DT K (upd H20 p21 (.tup [V.ref p20])) (.ref p21) (PyData.tuple [PyData.tuple [PyData.str "x",PyData.str "num"]]):=.tup (.inl ad) (.cons (D20.mono (aa s21)) .nil)
 have D1:=D1.mono (aa s21)
 have D2:=D2.mono (aa s21)
 have D3:=D3.mono (aa s21)
 have D4:=D4.mono (aa s21)
 have D5:=D5.mono (aa s21)
 have D6:=D6.mono (aa s21)
 have D7:=D7.mono (aa s21)
 have D8:=D8.mono (aa s21)
 have D9:=D9.mono (aa s21)
 have D10:=D10.mono (aa s21)
 have D11:=D11.mono (aa s21)
 have D12:=D12.mono (aa s21)
 have D13:=D13.mono (aa s21)
 have D14:=D14.mono (aa s21)
 have D15:=D15.mono (aa s21)
 have D16:=D16.mono (aa s21)
 have D17:=D17.mono (aa s21)
 have D18:=D18.mono (aa s21)
 have D19:=D19.mono (aa s21)
 have D20:=D20.mono (aa s21)
 have G21:=G20.trans s21
 generalize eH21:(upd H20 p21 (.tup [V.ref p20]))=H21 at D21 D1 D2 D3 D4 D5 D6 D7 D8 D9 D10 D11 D12 D13 D14 D15 D16 D17 D18 D19 D20 G21 s21 ⊢
 refine ⟨_,rfl,(by show 5≤sizeLine; decide),fun p22 hp22=>?_⟩
 have s22:=ae hp22 (.tup [V.str "deep",V.ref p19,V.ref p21,V.str "num",V.ref p17])
 have D22:DT K (upd H21 p22 (.tup [V.str "deep",V.ref p19,V.ref p21,V.str "num",V.ref p17])) (.ref p22) (PyData.tuple [PyData.str "deep",PyData.tuple [PyData.tuple [PyData.str "n",PyData.str "num"]],PyData.tuple [PyData.tuple [PyData.str "x",PyData.str "num"]],PyData.str "num",PyData.tuple [PyData.tuple [PyData.str "if",PyData.tuple [PyData.str "less",PyData.tuple [PyData.str "num",PyData.int 0],PyData.tuple [PyData.str "var",PyData.str "n"]],PyData.tuple [PyData.tuple [PyData.str "call",PyData.str "x",PyData.str "deep",PyData.tuple [PyData.tuple [PyData.str "sub",PyData.tuple [PyData.str "var",PyData.str "n"],PyData.tuple [PyData.str "num",PyData.int 1]]]],PyData.tuple [PyData.str "give",PyData.tuple [PyData.str "add",PyData.tuple [PyData.str "var",PyData.str "x"],PyData.tuple [PyData.str "num",PyData.int more]]]],PyData.tuple []],PyData.tuple [PyData.str "give",PyData.tuple [PyData.str "num",PyData.int last]]]]):=.tup (.inl ad) (.cons (.str "deep") (.cons (D19.mono (aa s22)) (.cons (D21.mono (aa s22)) (.cons (.str "num") (.cons (D17.mono (aa s22)) .nil)))))
 have D1:=D1.mono (aa s22)
 have D2:=D2.mono (aa s22)
 have D3:=D3.mono (aa s22)
 have D4:=D4.mono (aa s22)
 have D5:=D5.mono (aa s22)
 have D6:=D6.mono (aa s22)
 have D7:=D7.mono (aa s22)
 have D8:=D8.mono (aa s22)
 have D9:=D9.mono (aa s22)
 have D10:=D10.mono (aa s22)
 have D11:=D11.mono (aa s22)
 have D12:=D12.mono (aa s22)
 have D13:=D13.mono (aa s22)
 have D14:=D14.mono (aa s22)
 have D15:=D15.mono (aa s22)
 have D16:=D16.mono (aa s22)
 have D17:=D17.mono (aa s22)
 have D18:=D18.mono (aa s22)
 have D19:=D19.mono (aa s22)
 have D20:=D20.mono (aa s22)
 have D21:=D21.mono (aa s22)
 have G22:=G21.trans s22
 generalize eH22:(upd H21 p22 (.tup [V.str "deep",V.ref p19,V.ref p21,V.str "num",V.ref p17]))=H22 at D22 D1 D2 D3 D4 D5 D6 D7 D8 D9 D10 D11 D12 D13 D14 D15 D16 D17 D18 D19 D20 D21 G22 s22 ⊢
 refine ⟨(by show 0≤sizeLine; decide),fun p23 hp23=>?_⟩
 have s23:=ae hp23 (.tup [])
 have D23:DT K (upd H22 p23 (.tup [])) (.ref p23) (PyData.tuple []):=.tup (.inl ad) .nil
 have D1:=D1.mono (aa s23)
 have D2:=D2.mono (aa s23)
 have D3:=D3.mono (aa s23)
 have D4:=D4.mono (aa s23)
 have D5:=D5.mono (aa s23)
 have D6:=D6.mono (aa s23)
 have D7:=D7.mono (aa s23)
 have D8:=D8.mono (aa s23)
 have D9:=D9.mono (aa s23)
 have D10:=D10.mono (aa s23)
 have D11:=D11.mono (aa s23)
 have D12:=D12.mono (aa s23)
 have D13:=D13.mono (aa s23)
 have D14:=D14.mono (aa s23)
 have D15:=D15.mono (aa s23)
 have D16:=D16.mono (aa s23)
 have D17:=D17.mono (aa s23)
 have D18:=D18.mono (aa s23)
 have D19:=D19.mono (aa s23)
 have D20:=D20.mono (aa s23)
 have D21:=D21.mono (aa s23)
 have D22:=D22.mono (aa s23)
 have G23:=G22.trans s23
 generalize eH23:(upd H22 p23 (.tup []))=H23 at D23 D1 D2 D3 D4 D5 D6 D7 D8 D9 D10 D11 D12 D13 D14 D15 D16 D17 D18 D19 D20 D21 D22 G23 s23 ⊢
 refine ⟨(by show 2≤sizeLine; decide),fun p24 hp24=>?_⟩
 have s24:=ae hp24 (.tup [V.str "x",V.str "num"])
 have D24:DT K (upd H23 p24 (.tup [V.str "x",V.str "num"])) (.ref p24) (PyData.tuple [PyData.str "x",PyData.str "num"]):=.tup (.inl ad) (.cons (.str "x") (.cons (.str "num") .nil))
 have D1:=D1.mono (aa s24)
 have D2:=D2.mono (aa s24)
 have D3:=D3.mono (aa s24)
 have D4:=D4.mono (aa s24)
 have D5:=D5.mono (aa s24)
 have D6:=D6.mono (aa s24)
 have D7:=D7.mono (aa s24)
 have D8:=D8.mono (aa s24)
 have D9:=D9.mono (aa s24)
 have D10:=D10.mono (aa s24)
 have D11:=D11.mono (aa s24)
 have D12:=D12.mono (aa s24)
 have D13:=D13.mono (aa s24)
 have D14:=D14.mono (aa s24)
 have D15:=D15.mono (aa s24)
 have D16:=D16.mono (aa s24)
 have D17:=D17.mono (aa s24)
 have D18:=D18.mono (aa s24)
 have D19:=D19.mono (aa s24)
 have D20:=D20.mono (aa s24)
 have D21:=D21.mono (aa s24)
 have D22:=D22.mono (aa s24)
 have D23:=D23.mono (aa s24)
 have G24:=G23.trans s24
 generalize eH24:(upd H23 p24 (.tup [V.str "x",V.str "num"]))=H24 at D24 D1 D2 D3 D4 D5 D6 D7 D8 D9 D10 D11 D12 D13 D14 D15 D16 D17 D18 D19 D20 D21 D22 D23 G24 s24 ⊢
 refine ⟨(by show 1≤sizeLine; decide),fun p25 hp25=>?_⟩
 have s25:=ae hp25 (.tup [V.ref p24])
 have D25:DT K (upd H24 p25 (.tup [V.ref p24])) (.ref p25) (PyData.tuple [PyData.tuple [PyData.str "x",PyData.str "num"]]):=.tup (.inl ad) (.cons (D24.mono (aa s25)) .nil)
 have D1:=D1.mono (aa s25)
 have D2:=D2.mono (aa s25)
 have D3:=D3.mono (aa s25)
 have D4:=D4.mono (aa s25)
 have D5:=D5.mono (aa s25)
 have D6:=D6.mono (aa s25)
 have D7:=D7.mono (aa s25)
 have D8:=D8.mono (aa s25)
 have D9:=D9.mono (aa s25)
 have D10:=D10.mono (aa s25)
 have D11:=D11.mono (aa s25)
 have D12:=D12.mono (aa s25)
 have D13:=D13.mono (aa s25)
 have D14:=D14.mono (aa s25)
 have D15:=D15.mono (aa s25)
 have D16:=D16.mono (aa s25)
 have D17:=D17.mono (aa s25)
 have D18:=D18.mono (aa s25)
 have D19:=D19.mono (aa s25)
 have D20:=D20.mono (aa s25)
 have D21:=D21.mono (aa s25)
 have D22:=D22.mono (aa s25)
 have D23:=D23.mono (aa s25)
 have D24:=D24.mono (aa s25)
 have G25:=G24.trans s25
 generalize eH25:(upd H24 p25 (.tup [V.ref p24]))=H25 at D25 D1 D2 D3 D4 D5 D6 D7 D8 D9 D10 D11 D12 D13 D14 D15 D16 D17 D18 D19 D20 D21 D22 D23 D24 G25 s25 ⊢
 refine ⟨(by show 0≤sizeLine; decide),fun p26 hp26=>?_⟩
 have s26:=ae hp26 (.tup [])
 have D26:DT K (upd H25 p26 (.tup [])) (.ref p26) (PyData.tuple []):=.tup (.inl ad) .nil
 have D1:=D1.mono (aa s26)
 have D2:=D2.mono (aa s26)
 have D3:=D3.mono (aa s26)
 have D4:=D4.mono (aa s26)
 have D5:=D5.mono (aa s26)
 have D6:=D6.mono (aa s26)
 have D7:=D7.mono (aa s26)
 have D8:=D8.mono (aa s26)
 have D9:=D9.mono (aa s26)
 have D10:=D10.mono (aa s26)
 have D11:=D11.mono (aa s26)
 have D12:=D12.mono (aa s26)
 have D13:=D13.mono (aa s26)
 have D14:=D14.mono (aa s26)
 have D15:=D15.mono (aa s26)
 have D16:=D16.mono (aa s26)
 have D17:=D17.mono (aa s26)
 have D18:=D18.mono (aa s26)
 have D19:=D19.mono (aa s26)
 have D20:=D20.mono (aa s26)
 have D21:=D21.mono (aa s26)
 have D22:=D22.mono (aa s26)
 have D23:=D23.mono (aa s26)
 have D24:=D24.mono (aa s26)
 have D25:=D25.mono (aa s26)
 have G26:=G25.trans s26
 generalize eH26:(upd H25 p26 (.tup []))=H26 at D26 D1 D2 D3 D4 D5 D6 D7 D8 D9 D10 D11 D12 D13 D14 D15 D16 D17 D18 D19 D20 D21 D22 D23 D24 D25 G26 s26 ⊢
 refine ⟨(by show 4≤sizeLine; decide),fun p27 hp27=>?_⟩
 have s27:=ae hp27 (.tup [V.str "call",V.str "x",V.str "on",V.ref p26])
 have D27:DT K (upd H26 p27 (.tup [V.str "call",V.str "x",V.str "on",V.ref p26])) (.ref p27) (PyData.tuple [PyData.str "call",PyData.str "x",PyData.str "on",PyData.tuple []]):=.tup (.inl ad) (.cons (.str "call") (.cons (.str "x") (.cons (.str "on") (.cons (D26.mono (aa s27)) .nil))))
 have D1:=D1.mono (aa s27)
 have D2:=D2.mono (aa s27)
 have D3:=D3.mono (aa s27)
 have D4:=D4.mono (aa s27)
 have D5:=D5.mono (aa s27)
 have D6:=D6.mono (aa s27)
 have D7:=D7.mono (aa s27)
 have D8:=D8.mono (aa s27)
 have D9:=D9.mono (aa s27)
 have D10:=D10.mono (aa s27)
 have D11:=D11.mono (aa s27)
 have D12:=D12.mono (aa s27)
 have D13:=D13.mono (aa s27)
 have D14:=D14.mono (aa s27)
 have D15:=D15.mono (aa s27)
 have D16:=D16.mono (aa s27)
 have D17:=D17.mono (aa s27)
 have D18:=D18.mono (aa s27)
 have D19:=D19.mono (aa s27)
 have D20:=D20.mono (aa s27)
 have D21:=D21.mono (aa s27)
 have D22:=D22.mono (aa s27)
 have D23:=D23.mono (aa s27)
 have D24:=D24.mono (aa s27)
 have D25:=D25.mono (aa s27)
 have D26:=D26.mono (aa s27)
 have G27:=G26.trans s27
 generalize eH27:(upd H26 p27 (.tup [V.str "call",V.str "x",V.str "on",V.ref p26]))=H27 at D27 D1 D2 D3 D4 D5 D6 D7 D8 D9 D10 D11 D12 D13 D14 D15 D16 D17 D18 D19 D20 D21 D22 D23 D24 D25 D26 G27 s27 ⊢
 refine ⟨(by show 1≤sizeLine; decide),fun p28 hp28=>?_⟩
 have s28:=ae hp28 (.tup [V.ref p27])
 have D28:DT K (upd H27 p28 (.tup [V.ref p27])) (.ref p28) (PyData.tuple [PyData.tuple [PyData.str "call",PyData.str "x",PyData.str "on",PyData.tuple []]]):=.tup (.inl ad) (.cons (D27.mono (aa s28)) .nil)
 have D1:=D1.mono (aa s28)
 have D2:=D2.mono (aa s28)
 have D3:=D3.mono (aa s28)
 have D4:=D4.mono (aa s28)
 have D5:=D5.mono (aa s28)
 have D6:=D6.mono (aa s28)
 have D7:=D7.mono (aa s28)
 have D8:=D8.mono (aa s28)
 have D9:=D9.mono (aa s28)
 have D10:=D10.mono (aa s28)
 have D11:=D11.mono (aa s28)
 have D12:=D12.mono (aa s28)
 have D13:=D13.mono (aa s28)
 have D14:=D14.mono (aa s28)
 have D15:=D15.mono (aa s28)
 have D16:=D16.mono (aa s28)
 have D17:=D17.mono (aa s28)
 have D18:=D18.mono (aa s28)
 have D19:=D19.mono (aa s28)
 have D20:=D20.mono (aa s28)
 have D21:=D21.mono (aa s28)
 have D22:=D22.mono (aa s28)
 have D23:=D23.mono (aa s28)
 have D24:=D24.mono (aa s28)
 have D25:=D25.mono (aa s28)
 have D26:=D26.mono (aa s28)
 have D27:=D27.mono (aa s28)
 have G28:=G27.trans s28
 generalize eH28:(upd H27 p28 (.tup [V.ref p27]))=H28 at D28 D1 D2 D3 D4 D5 D6 D7 D8 D9 D10 D11 D12 D13 D14 D15 D16 D17 D18 D19 D20 D21 D22 D23 D24 D25 D26 D27 G28 s28 ⊢
 refine ⟨(by show 5≤sizeLine; decide),fun p29 hp29=>?_⟩
 have s29:=ae hp29 (.tup [V.str "on",V.ref p23,V.ref p25,V.str "num",V.ref p28])
 have D29:DT K (upd H28 p29 (.tup [V.str "on",V.ref p23,V.ref p25,V.str "num",V.ref p28])) (.ref p29) (PyData.tuple [PyData.str "on",PyData.tuple [],PyData.tuple [PyData.tuple [PyData.str "x",PyData.str "num"]],PyData.str "num",PyData.tuple [PyData.tuple [PyData.str "call",PyData.str "x",PyData.str "on",PyData.tuple []]]]):=.tup (.inl ad) (.cons (.str "on") (.cons (D23.mono (aa s29)) (.cons (D25.mono (aa s29)) (.cons (.str "num") (.cons (D28.mono (aa s29)) .nil)))))
 have D1:=D1.mono (aa s29)
 have D2:=D2.mono (aa s29)
 have D3:=D3.mono (aa s29)
 have D4:=D4.mono (aa s29)
 have D5:=D5.mono (aa s29)
 have D6:=D6.mono (aa s29)
 have D7:=D7.mono (aa s29)
 have D8:=D8.mono (aa s29)
 have D9:=D9.mono (aa s29)
 have D10:=D10.mono (aa s29)
 have D11:=D11.mono (aa s29)
 have D12:=D12.mono (aa s29)
 have D13:=D13.mono (aa s29)
 have D14:=D14.mono (aa s29)
 have D15:=D15.mono (aa s29)
 have D16:=D16.mono (aa s29)
 have D17:=D17.mono (aa s29)
 have D18:=D18.mono (aa s29)
 have D19:=D19.mono (aa s29)
 have D20:=D20.mono (aa s29)
 have D21:=D21.mono (aa s29)
 have D22:=D22.mono (aa s29)
 have D23:=D23.mono (aa s29)
 have D24:=D24.mono (aa s29)
 have D25:=D25.mono (aa s29)
 have D26:=D26.mono (aa s29)
 have D27:=D27.mono (aa s29)
 have D28:=D28.mono (aa s29)
 have G29:=G28.trans s29
 generalize eH29:(upd H28 p29 (.tup [V.str "on",V.ref p23,V.ref p25,V.str "num",V.ref p28]))=H29 at D29 D1 D2 D3 D4 D5 D6 D7 D8 D9 D10 D11 D12 D13 D14 D15 D16 D17 D18 D19 D20 D21 D22 D23 D24 D25 D26 D27 D28 G29 s29 ⊢
 refine ⟨(by show 2≤sizeLine; decide),fun p30 hp30=>?_⟩
 have s30:=ae hp30 (.tup [V.str "n",V.str "num"])
 have D30:DT K (upd H29 p30 (.tup [V.str "n",V.str "num"])) (.ref p30) (PyData.tuple [PyData.str "n",PyData.str "num"]):=.tup (.inl ad) (.cons (.str "n") (.cons (.str "num") .nil))
 have D1:=D1.mono (aa s30)
 have D2:=D2.mono (aa s30)
 have D3:=D3.mono (aa s30)
 have D4:=D4.mono (aa s30)
 have D5:=D5.mono (aa s30)
 have D6:=D6.mono (aa s30)
 have D7:=D7.mono (aa s30)
 have D8:=D8.mono (aa s30)
 have D9:=D9.mono (aa s30)
 have D10:=D10.mono (aa s30)
 have D11:=D11.mono (aa s30)
 have D12:=D12.mono (aa s30)
 have D13:=D13.mono (aa s30)
 have D14:=D14.mono (aa s30)
 have D15:=D15.mono (aa s30)
 have D16:=D16.mono (aa s30)
 have D17:=D17.mono (aa s30)
 have D18:=D18.mono (aa s30)
 have D19:=D19.mono (aa s30)
 have D20:=D20.mono (aa s30)
 have D21:=D21.mono (aa s30)
 have D22:=D22.mono (aa s30)
 have D23:=D23.mono (aa s30)
 have D24:=D24.mono (aa s30)
 have D25:=D25.mono (aa s30)
 have D26:=D26.mono (aa s30)
 have D27:=D27.mono (aa s30)
 have D28:=D28.mono (aa s30)
 have D29:=D29.mono (aa s30)
 have G30:=G29.trans s30
 generalize eH30:(upd H29 p30 (.tup [V.str "n",V.str "num"]))=H30 at D30 D1 D2 D3 D4 D5 D6 D7 D8 D9 D10 D11 D12 D13 D14 D15 D16 D17 D18 D19 D20 D21 D22 D23 D24 D25 D26 D27 D28 D29 G30 s30 ⊢
 refine ⟨(by show 1≤sizeLine; decide),fun p31 hp31=>?_⟩
 have s31:=ae hp31 (.tup [V.ref p30])
 have D31:DT K (upd H30 p31 (.tup [V.ref p30])) (.ref p31) (PyData.tuple [PyData.tuple [PyData.str "n",PyData.str "num"]]):=.tup (.inl ad) (.cons (D30.mono (aa s31)) .nil)
 have D1:=D1.mono (aa s31)
 have D2:=D2.mono (aa s31)
 have D3:=D3.mono (aa s31)
 have D4:=D4.mono (aa s31)
 have D5:=D5.mono (aa s31)
 have D6:=D6.mono (aa s31)
 have D7:=D7.mono (aa s31)
 have D8:=D8.mono (aa s31)
 have D9:=D9.mono (aa s31)
 have D10:=D10.mono (aa s31)
 have D11:=D11.mono (aa s31)
 have D12:=D12.mono (aa s31)
 have D13:=D13.mono (aa s31)
 have D14:=D14.mono (aa s31)
 have D15:=D15.mono (aa s31)
 have D16:=D16.mono (aa s31)
 have D17:=D17.mono (aa s31)
 have D18:=D18.mono (aa s31)
 have D19:=D19.mono (aa s31)
 have D20:=D20.mono (aa s31)
 have D21:=D21.mono (aa s31)
 have D22:=D22.mono (aa s31)
 have D23:=D23.mono (aa s31)
 have D24:=D24.mono (aa s31)
 have D25:=D25.mono (aa s31)
 have D26:=D26.mono (aa s31)
 have D27:=D27.mono (aa s31)
 have D28:=D28.mono (aa s31)
 have D29:=D29.mono (aa s31)
 have D30:=D30.mono (aa s31)
 have G31:=G30.trans s31
 generalize eH31:(upd H30 p31 (.tup [V.ref p30]))=H31 at D31 D1 D2 D3 D4 D5 D6 D7 D8 D9 D10 D11 D12 D13 D14 D15 D16 D17 D18 D19 D20 D21 D22 D23 D24 D25 D26 D27 D28 D29 D30 G31 s31 ⊢
 refine ⟨(by show 2≤sizeLine; decide),fun p32 hp32=>?_⟩
 have s32:=ae hp32 (.tup [V.str "y",V.str "num"])
 have D32:DT K (upd H31 p32 (.tup [V.str "y",V.str "num"])) (.ref p32) (PyData.tuple [PyData.str "y",PyData.str "num"]):=.tup (.inl ad) (.cons (.str "y") (.cons (.str "num") .nil))
 have D1:=D1.mono (aa s32)
 have D2:=D2.mono (aa s32)
 have D3:=D3.mono (aa s32)
 have D4:=D4.mono (aa s32)
 have D5:=D5.mono (aa s32)
 have D6:=D6.mono (aa s32)
 have D7:=D7.mono (aa s32)
 have D8:=D8.mono (aa s32)
 have D9:=D9.mono (aa s32)
 have D10:=D10.mono (aa s32)
 have D11:=D11.mono (aa s32)
 have D12:=D12.mono (aa s32)
 have D13:=D13.mono (aa s32)
 have D14:=D14.mono (aa s32)
 have D15:=D15.mono (aa s32)
 have D16:=D16.mono (aa s32)
 have D17:=D17.mono (aa s32)
 have D18:=D18.mono (aa s32)
 have D19:=D19.mono (aa s32)
 have D20:=D20.mono (aa s32)
 have D21:=D21.mono (aa s32)
 have D22:=D22.mono (aa s32)
 have D23:=D23.mono (aa s32)
 have D24:=D24.mono (aa s32)
 have D25:=D25.mono (aa s32)
 have D26:=D26.mono (aa s32)
 have D27:=D27.mono (aa s32)
 have D28:=D28.mono (aa s32)
 have D29:=D29.mono (aa s32)
 have D30:=D30.mono (aa s32)
 have D31:=D31.mono (aa s32)
 have G32:=G31.trans s32
 generalize eH32:(upd H31 p32 (.tup [V.str "y",V.str "num"]))=H32 at D32 D1 D2 D3 D4 D5 D6 D7 D8 D9 D10 D11 D12 D13 D14 D15 D16 D17 D18 D19 D20 D21 D22 D23 D24 D25 D26 D27 D28 D29 D30 D31 G32 s32 ⊢
 refine ⟨(by show 1≤sizeLine; decide),fun p33 hp33=>?_⟩
 have s33:=ae hp33 (.tup [V.ref p32])
 have D33:DT K (upd H32 p33 (.tup [V.ref p32])) (.ref p33) (PyData.tuple [PyData.tuple [PyData.str "y",PyData.str "num"]]):=.tup (.inl ad) (.cons (D32.mono (aa s33)) .nil)
 have D1:=D1.mono (aa s33)
 have D2:=D2.mono (aa s33)
 have D3:=D3.mono (aa s33)
 have D4:=D4.mono (aa s33)
 have D5:=D5.mono (aa s33)
 have D6:=D6.mono (aa s33)
 have D7:=D7.mono (aa s33)
 have D8:=D8.mono (aa s33)
 have D9:=D9.mono (aa s33)
 have D10:=D10.mono (aa s33)
 have D11:=D11.mono (aa s33)
 have D12:=D12.mono (aa s33)
 have D13:=D13.mono (aa s33)
 have D14:=D14.mono (aa s33)
 have D15:=D15.mono (aa s33)
 have D16:=D16.mono (aa s33)
 have D17:=D17.mono (aa s33)
 have D18:=D18.mono (aa s33)
 have D19:=D19.mono (aa s33)
 have D20:=D20.mono (aa s33)
 have D21:=D21.mono (aa s33)
 have D22:=D22.mono (aa s33)
 have D23:=D23.mono (aa s33)
 have D24:=D24.mono (aa s33)
 have D25:=D25.mono (aa s33)
 have D26:=D26.mono (aa s33)
 have D27:=D27.mono (aa s33)
 have D28:=D28.mono (aa s33)
 have D29:=D29.mono (aa s33)
 have D30:=D30.mono (aa s33)
 have D31:=D31.mono (aa s33)
 have D32:=D32.mono (aa s33)
 have G33:=G32.trans s33
 generalize eH33:(upd H32 p33 (.tup [V.ref p32]))=H33 at D33 D1 D2 D3 D4 D5 D6 D7 D8 D9 D10 D11 D12 D13 D14 D15 D16 D17 D18 D19 D20 D21 D22 D23 D24 D25 D26 D27 D28 D29 D30 D31 D32 G33 s33 ⊢
 refine ⟨_,rfl,(by show 1≤sizeLine; decide),fun p34 hp34=>?_⟩
 have s34:=ae hp34 (.tup [V.ref p1])
 have D34:DT K (upd H33 p34 (.tup [V.ref p1])) (.ref p34) (PyData.tuple [PyData.tuple [PyData.str "var",PyData.str "n"]]):=.tup (.inl ad) (.cons (D1.mono (aa s34)) .nil)
 have D1:=D1.mono (aa s34)
 have D2:=D2.mono (aa s34)
 have D3:=D3.mono (aa s34)
 have D4:=D4.mono (aa s34)
 have D5:=D5.mono (aa s34)
 have D6:=D6.mono (aa s34)
 have D7:=D7.mono (aa s34)
 have D8:=D8.mono (aa s34)
 have D9:=D9.mono (aa s34)
 have D10:=D10.mono (aa s34)
 have D11:=D11.mono (aa s34)
 have D12:=D12.mono (aa s34)
 have D13:=D13.mono (aa s34)
 have D14:=D14.mono (aa s34)
 have D15:=D15.mono (aa s34)
 have D16:=D16.mono (aa s34)
 have D17:=D17.mono (aa s34)
 have D18:=D18.mono (aa s34)
 have D19:=D19.mono (aa s34)
 have D20:=D20.mono (aa s34)
 have D21:=D21.mono (aa s34)
 have D22:=D22.mono (aa s34)
 have D23:=D23.mono (aa s34)
 have D24:=D24.mono (aa s34)
 have D25:=D25.mono (aa s34)
 have D26:=D26.mono (aa s34)
 have D27:=D27.mono (aa s34)
 have D28:=D28.mono (aa s34)
 have D29:=D29.mono (aa s34)
 have D30:=D30.mono (aa s34)
 have D31:=D31.mono (aa s34)
 have D32:=D32.mono (aa s34)
 have D33:=D33.mono (aa s34)
 have G34:=G33.trans s34
 generalize eH34:(upd H33 p34 (.tup [V.ref p1]))=H34 at D34 D1 D2 D3 D4 D5 D6 D7 D8 D9 D10 D11 D12 D13 D14 D15 D16 D17 D18 D19 D20 D21 D22 D23 D24 D25 D26 D27 D28 D29 D30 D31 D32 D33 G34 s34 ⊢
 refine ⟨(by show 4≤sizeLine; decide),fun p35 hp35=>?_⟩
 have s35:=ae hp35 (.tup [V.str "call",V.str "y",V.str "deep",V.ref p34])
 have D35:DT K (upd H34 p35 (.tup [V.str "call",V.str "y",V.str "deep",V.ref p34])) (.ref p35) (PyData.tuple [PyData.str "call",PyData.str "y",PyData.str "deep",PyData.tuple [PyData.tuple [PyData.str "var",PyData.str "n"]]]):=.tup (.inl ad) (.cons (.str "call") (.cons (.str "y") (.cons (.str "deep") (.cons (D34.mono (aa s35)) .nil))))
 have D1:=D1.mono (aa s35)
 have D2:=D2.mono (aa s35)
 have D3:=D3.mono (aa s35)
 have D4:=D4.mono (aa s35)
 have D5:=D5.mono (aa s35)
 have D6:=D6.mono (aa s35)
 have D7:=D7.mono (aa s35)
 have D8:=D8.mono (aa s35)
 have D9:=D9.mono (aa s35)
 have D10:=D10.mono (aa s35)
 have D11:=D11.mono (aa s35)
 have D12:=D12.mono (aa s35)
 have D13:=D13.mono (aa s35)
 have D14:=D14.mono (aa s35)
 have D15:=D15.mono (aa s35)
 have D16:=D16.mono (aa s35)
 have D17:=D17.mono (aa s35)
 have D18:=D18.mono (aa s35)
 have D19:=D19.mono (aa s35)
 have D20:=D20.mono (aa s35)
 have D21:=D21.mono (aa s35)
 have D22:=D22.mono (aa s35)
 have D23:=D23.mono (aa s35)
 have D24:=D24.mono (aa s35)
 have D25:=D25.mono (aa s35)
 have D26:=D26.mono (aa s35)
 have D27:=D27.mono (aa s35)
 have D28:=D28.mono (aa s35)
 have D29:=D29.mono (aa s35)
 have D30:=D30.mono (aa s35)
 have D31:=D31.mono (aa s35)
 have D32:=D32.mono (aa s35)
 have D33:=D33.mono (aa s35)
 have D34:=D34.mono (aa s35)
 have G35:=G34.trans s35
 generalize eH35:(upd H34 p35 (.tup [V.str "call",V.str "y",V.str "deep",V.ref p34]))=H35 at D35 D1 D2 D3 D4 D5 D6 D7 D8 D9 D10 D11 D12 D13 D14 D15 D16 D17 D18 D19 D20 D21 D22 D23 D24 D25 D26 D27 D28 D29 D30 D31 D32 D33 D34 G35 s35 ⊢
 refine ⟨(by show 2≤sizeLine; decide),fun p36 hp36=>?_⟩
 have s36:=ae hp36 (.tup [V.str "var",V.str "y"])
 have D36:DT K (upd H35 p36 (.tup [V.str "var",V.str "y"])) (.ref p36) (PyData.tuple [PyData.str "var",PyData.str "y"]):=.tup (.inl ad) (.cons (.str "var") (.cons (.str "y") .nil))
 have D1:=D1.mono (aa s36)
 have D2:=D2.mono (aa s36)
 have D3:=D3.mono (aa s36)
 have D4:=D4.mono (aa s36)
 have D5:=D5.mono (aa s36)
 have D6:=D6.mono (aa s36)
 have D7:=D7.mono (aa s36)
 have D8:=D8.mono (aa s36)
 have D9:=D9.mono (aa s36)
 have D10:=D10.mono (aa s36)
 have D11:=D11.mono (aa s36)
 have D12:=D12.mono (aa s36)
 have D13:=D13.mono (aa s36)
 have D14:=D14.mono (aa s36)
 have D15:=D15.mono (aa s36)
 have D16:=D16.mono (aa s36)
 have D17:=D17.mono (aa s36)
 have D18:=D18.mono (aa s36)
 have D19:=D19.mono (aa s36)
 have D20:=D20.mono (aa s36)
 have D21:=D21.mono (aa s36)
 have D22:=D22.mono (aa s36)
 have D23:=D23.mono (aa s36)
 have D24:=D24.mono (aa s36)
 have D25:=D25.mono (aa s36)
 have D26:=D26.mono (aa s36)
 have D27:=D27.mono (aa s36)
 have D28:=D28.mono (aa s36)
 have D29:=D29.mono (aa s36)
 have D30:=D30.mono (aa s36)
 have D31:=D31.mono (aa s36)
 have D32:=D32.mono (aa s36)
 have D33:=D33.mono (aa s36)
 have D34:=D34.mono (aa s36)
 have D35:=D35.mono (aa s36)
 have G36:=G35.trans s36
 generalize eH36:(upd H35 p36 (.tup [V.str "var",V.str "y"]))=H36 at D36 D1 D2 D3 D4 D5 D6 D7 D8 D9 D10 D11 D12 D13 D14 D15 D16 D17 D18 D19 D20 D21 D22 D23 D24 D25 D26 D27 D28 D29 D30 D31 D32 D33 D34 D35 G36 s36 ⊢
 refine ⟨(by show 2≤sizeLine; decide),fun p37 hp37=>?_⟩
 have s37:=ae hp37 (.tup [V.str "give",V.ref p36])
 have D37:DT K (upd H36 p37 (.tup [V.str "give",V.ref p36])) (.ref p37) (PyData.tuple [PyData.str "give",PyData.tuple [PyData.str "var",PyData.str "y"]]):=.tup (.inl ad) (.cons (.str "give") (.cons (D36.mono (aa s37)) .nil))
 have D1:=D1.mono (aa s37)
 have D2:=D2.mono (aa s37)
 have D3:=D3.mono (aa s37)
 have D4:=D4.mono (aa s37)
 have D5:=D5.mono (aa s37)
 have D6:=D6.mono (aa s37)
 have D7:=D7.mono (aa s37)
 have D8:=D8.mono (aa s37)
 have D9:=D9.mono (aa s37)
 have D10:=D10.mono (aa s37)
 have D11:=D11.mono (aa s37)
 have D12:=D12.mono (aa s37)
 have D13:=D13.mono (aa s37)
 have D14:=D14.mono (aa s37)
 have D15:=D15.mono (aa s37)
 have D16:=D16.mono (aa s37)
 have D17:=D17.mono (aa s37)
 have D18:=D18.mono (aa s37)
 have D19:=D19.mono (aa s37)
 have D20:=D20.mono (aa s37)
 have D21:=D21.mono (aa s37)
 have D22:=D22.mono (aa s37)
 have D23:=D23.mono (aa s37)
 have D24:=D24.mono (aa s37)
 have D25:=D25.mono (aa s37)
 have D26:=D26.mono (aa s37)
 have D27:=D27.mono (aa s37)
 have D28:=D28.mono (aa s37)
 have D29:=D29.mono (aa s37)
 have D30:=D30.mono (aa s37)
 have D31:=D31.mono (aa s37)
 have D32:=D32.mono (aa s37)
 have D33:=D33.mono (aa s37)
 have D34:=D34.mono (aa s37)
 have D35:=D35.mono (aa s37)
 have D36:=D36.mono (aa s37)
 have G37:=G36.trans s37
 generalize eH37:(upd H36 p37 (.tup [V.str "give",V.ref p36]))=H37 at D37 D1 D2 D3 D4 D5 D6 D7 D8 D9 D10 D11 D12 D13 D14 D15 D16 D17 D18 D19 D20 D21 D22 D23 D24 D25 D26 D27 D28 D29 D30 D31 D32 D33 D34 D35 D36 G37 s37 ⊢
 refine ⟨(by show 2≤sizeLine; decide),fun p38 hp38=>?_⟩
 have s38:=ae hp38 (.tup [V.ref p35,V.ref p37])
 have D38:DT K (upd H37 p38 (.tup [V.ref p35,V.ref p37])) (.ref p38) (PyData.tuple [PyData.tuple [PyData.str "call",PyData.str "y",PyData.str "deep",PyData.tuple [PyData.tuple [PyData.str "var",PyData.str "n"]]],PyData.tuple [PyData.str "give",PyData.tuple [PyData.str "var",PyData.str "y"]]]):=.tup (.inl ad) (.cons (D35.mono (aa s38)) (.cons (D37.mono (aa s38)) .nil))
 have D1:=D1.mono (aa s38)
 have D2:=D2.mono (aa s38)
 have D3:=D3.mono (aa s38)
 have D4:=D4.mono (aa s38)
 have D5:=D5.mono (aa s38)
 have D6:=D6.mono (aa s38)
 have D7:=D7.mono (aa s38)
 have D8:=D8.mono (aa s38)
 have D9:=D9.mono (aa s38)
 have D10:=D10.mono (aa s38)
 have D11:=D11.mono (aa s38)
 have D12:=D12.mono (aa s38)
 have D13:=D13.mono (aa s38)
 have D14:=D14.mono (aa s38)
 have D15:=D15.mono (aa s38)
 have D16:=D16.mono (aa s38)
 have D17:=D17.mono (aa s38)
 have D18:=D18.mono (aa s38)
 have D19:=D19.mono (aa s38)
 have D20:=D20.mono (aa s38)
 have D21:=D21.mono (aa s38)
 have D22:=D22.mono (aa s38)
 have D23:=D23.mono (aa s38)
 have D24:=D24.mono (aa s38)
 have D25:=D25.mono (aa s38)
 have D26:=D26.mono (aa s38)
 have D27:=D27.mono (aa s38)
 have D28:=D28.mono (aa s38)
 have D29:=D29.mono (aa s38)
 have D30:=D30.mono (aa s38)
 have D31:=D31.mono (aa s38)
 have D32:=D32.mono (aa s38)
 have D33:=D33.mono (aa s38)
 have D34:=D34.mono (aa s38)
 have D35:=D35.mono (aa s38)
 have D36:=D36.mono (aa s38)
 have D37:=D37.mono (aa s38)
 have G38:=G37.trans s38
 generalize eH38:(upd H37 p38 (.tup [V.ref p35,V.ref p37]))=H38 at D38 D1 D2 D3 D4 D5 D6 D7 D8 D9 D10 D11 D12 D13 D14 D15 D16 D17 D18 D19 D20 D21 D22 D23 D24 D25 D26 D27 D28 D29 D30 D31 D32 D33 D34 D35 D36 D37 G38 s38 ⊢
 refine ⟨(by show 5≤sizeLine; decide),fun p39 hp39=>?_⟩
 have s39:=ae hp39 (.tup [V.str "first",V.ref p31,V.ref p33,V.str "num",V.ref p38])
 have D39:DT K (upd H38 p39 (.tup [V.str "first",V.ref p31,V.ref p33,V.str "num",V.ref p38])) (.ref p39) (PyData.tuple [PyData.str "first",PyData.tuple [PyData.tuple [PyData.str "n",PyData.str "num"]],PyData.tuple [PyData.tuple [PyData.str "y",PyData.str "num"]],PyData.str "num",PyData.tuple [PyData.tuple [PyData.str "call",PyData.str "y",PyData.str "deep",PyData.tuple [PyData.tuple [PyData.str "var",PyData.str "n"]]],PyData.tuple [PyData.str "give",PyData.tuple [PyData.str "var",PyData.str "y"]]]]):=.tup (.inl ad) (.cons (.str "first") (.cons (D31.mono (aa s39)) (.cons (D33.mono (aa s39)) (.cons (.str "num") (.cons (D38.mono (aa s39)) .nil)))))
 have D1:=D1.mono (aa s39)
 have D2:=D2.mono (aa s39)
 have D3:=D3.mono (aa s39)
 have D4:=D4.mono (aa s39)
 have D5:=D5.mono (aa s39)
 have D6:=D6.mono (aa s39)
 have D7:=D7.mono (aa s39)
 have D8:=D8.mono (aa s39)
 have D9:=D9.mono (aa s39)
 have D10:=D10.mono (aa s39)
 have D11:=D11.mono (aa s39)
 have D12:=D12.mono (aa s39)
 have D13:=D13.mono (aa s39)
 have D14:=D14.mono (aa s39)
 have D15:=D15.mono (aa s39)
 have D16:=D16.mono (aa s39)
 have D17:=D17.mono (aa s39)
 have D18:=D18.mono (aa s39)
 have D19:=D19.mono (aa s39)
 have D20:=D20.mono (aa s39)
 have D21:=D21.mono (aa s39)
 have D22:=D22.mono (aa s39)
 have D23:=D23.mono (aa s39)
 have D24:=D24.mono (aa s39)
 have D25:=D25.mono (aa s39)
 have D26:=D26.mono (aa s39)
 have D27:=D27.mono (aa s39)
 have D28:=D28.mono (aa s39)
 have D29:=D29.mono (aa s39)
 have D30:=D30.mono (aa s39)
 have D31:=D31.mono (aa s39)
 have D32:=D32.mono (aa s39)
 have D33:=D33.mono (aa s39)
 have D34:=D34.mono (aa s39)
 have D35:=D35.mono (aa s39)
 have D36:=D36.mono (aa s39)
 have D37:=D37.mono (aa s39)
 have D38:=D38.mono (aa s39)
 have G39:=G38.trans s39
 generalize eH39:(upd H38 p39 (.tup [V.str "first",V.ref p31,V.ref p33,V.str "num",V.ref p38]))=H39 at D39 D1 D2 D3 D4 D5 D6 D7 D8 D9 D10 D11 D12 D13 D14 D15 D16 D17 D18 D19 D20 D21 D22 D23 D24 D25 D26 D27 D28 D29 D30 D31 D32 D33 D34 D35 D36 D37 D38 G39 s39 ⊢
 refine ⟨(by show 0≤sizeLine; decide),fun p40 hp40=>?_⟩
 have s40:=ae hp40 (.tup [])
 have D40:DT K (upd H39 p40 (.tup [])) (.ref p40) (PyData.tuple []):=.tup (.inl ad) .nil
 have D1:=D1.mono (aa s40)
 have D2:=D2.mono (aa s40)
 have D3:=D3.mono (aa s40)
 have D4:=D4.mono (aa s40)
 have D5:=D5.mono (aa s40)
 have D6:=D6.mono (aa s40)
 have D7:=D7.mono (aa s40)
 have D8:=D8.mono (aa s40)
 have D9:=D9.mono (aa s40)
 have D10:=D10.mono (aa s40)
 have D11:=D11.mono (aa s40)
 have D12:=D12.mono (aa s40)
 have D13:=D13.mono (aa s40)
 have D14:=D14.mono (aa s40)
 have D15:=D15.mono (aa s40)
 have D16:=D16.mono (aa s40)
 have D17:=D17.mono (aa s40)
 have D18:=D18.mono (aa s40)
 have D19:=D19.mono (aa s40)
 have D20:=D20.mono (aa s40)
 have D21:=D21.mono (aa s40)
 have D22:=D22.mono (aa s40)
 have D23:=D23.mono (aa s40)
 have D24:=D24.mono (aa s40)
 have D25:=D25.mono (aa s40)
 have D26:=D26.mono (aa s40)
 have D27:=D27.mono (aa s40)
 have D28:=D28.mono (aa s40)
 have D29:=D29.mono (aa s40)
 have D30:=D30.mono (aa s40)
 have D31:=D31.mono (aa s40)
 have D32:=D32.mono (aa s40)
 have D33:=D33.mono (aa s40)
 have D34:=D34.mono (aa s40)
 have D35:=D35.mono (aa s40)
 have D36:=D36.mono (aa s40)
 have D37:=D37.mono (aa s40)
 have D38:=D38.mono (aa s40)
 have D39:=D39.mono (aa s40)
 have G40:=G39.trans s40
 generalize eH40:(upd H39 p40 (.tup []))=H40 at D40 D1 D2 D3 D4 D5 D6 D7 D8 D9 D10 D11 D12 D13 D14 D15 D16 D17 D18 D19 D20 D21 D22 D23 D24 D25 D26 D27 D28 D29 D30 D31 D32 D33 D34 D35 D36 D37 D38 D39 G40 s40 ⊢
 refine ⟨_,rfl,_,rfl,_,rfl,(by show 3≤sizeLine; decide),fun p41 hp41=>?_⟩
 have s41:=ae hp41 (.tup [V.ref p29,V.ref p22,V.ref p39])
 have D41:DT K (upd H40 p41 (.tup [V.ref p29,V.ref p22,V.ref p39])) (.ref p41) (PyData.tuple [PyData.tuple [PyData.str "on",PyData.tuple [],PyData.tuple [PyData.tuple [PyData.str "x",PyData.str "num"]],PyData.str "num",PyData.tuple [PyData.tuple [PyData.str "call",PyData.str "x",PyData.str "on",PyData.tuple []]]],PyData.tuple [PyData.str "deep",PyData.tuple [PyData.tuple [PyData.str "n",PyData.str "num"]],PyData.tuple [PyData.tuple [PyData.str "x",PyData.str "num"]],PyData.str "num",PyData.tuple [PyData.tuple [PyData.str "if",PyData.tuple [PyData.str "less",PyData.tuple [PyData.str "num",PyData.int 0],PyData.tuple [PyData.str "var",PyData.str "n"]],PyData.tuple [PyData.tuple [PyData.str "call",PyData.str "x",PyData.str "deep",PyData.tuple [PyData.tuple [PyData.str "sub",PyData.tuple [PyData.str "var",PyData.str "n"],PyData.tuple [PyData.str "num",PyData.int 1]]]],PyData.tuple [PyData.str "give",PyData.tuple [PyData.str "add",PyData.tuple [PyData.str "var",PyData.str "x"],PyData.tuple [PyData.str "num",PyData.int more]]]],PyData.tuple []],PyData.tuple [PyData.str "give",PyData.tuple [PyData.str "num",PyData.int last]]]],PyData.tuple [PyData.str "first",PyData.tuple [PyData.tuple [PyData.str "n",PyData.str "num"]],PyData.tuple [PyData.tuple [PyData.str "y",PyData.str "num"]],PyData.str "num",PyData.tuple [PyData.tuple [PyData.str "call",PyData.str "y",PyData.str "deep",PyData.tuple [PyData.tuple [PyData.str "var",PyData.str "n"]]],PyData.tuple [PyData.str "give",PyData.tuple [PyData.str "var",PyData.str "y"]]]]]):=.tup (.inl ad) (.cons (D29.mono (aa s41)) (.cons (D22.mono (aa s41)) (.cons (D39.mono (aa s41)) .nil)))
 have D1:=D1.mono (aa s41)
 have D2:=D2.mono (aa s41)
 have D3:=D3.mono (aa s41)
 have D4:=D4.mono (aa s41)
 have D5:=D5.mono (aa s41)
 have D6:=D6.mono (aa s41)
 have D7:=D7.mono (aa s41)
 have D8:=D8.mono (aa s41)
 have D9:=D9.mono (aa s41)
 have D10:=D10.mono (aa s41)
 have D11:=D11.mono (aa s41)
 have D12:=D12.mono (aa s41)
 have D13:=D13.mono (aa s41)
 have D14:=D14.mono (aa s41)
 have D15:=D15.mono (aa s41)
 have D16:=D16.mono (aa s41)
 have D17:=D17.mono (aa s41)
 have D18:=D18.mono (aa s41)
 have D19:=D19.mono (aa s41)
 have D20:=D20.mono (aa s41)
 have D21:=D21.mono (aa s41)
 have D22:=D22.mono (aa s41)
 have D23:=D23.mono (aa s41)
 have D24:=D24.mono (aa s41)
 have D25:=D25.mono (aa s41)
 have D26:=D26.mono (aa s41)
 have D27:=D27.mono (aa s41)
 have D28:=D28.mono (aa s41)
 have D29:=D29.mono (aa s41)
 have D30:=D30.mono (aa s41)
 have D31:=D31.mono (aa s41)
 have D32:=D32.mono (aa s41)
 have D33:=D33.mono (aa s41)
 have D34:=D34.mono (aa s41)
 have D35:=D35.mono (aa s41)
 have D36:=D36.mono (aa s41)
 have D37:=D37.mono (aa s41)
 have D38:=D38.mono (aa s41)
 have D39:=D39.mono (aa s41)
 have D40:=D40.mono (aa s41)
 have G41:=G40.trans s41
 generalize eH41:(upd H40 p41 (.tup [V.ref p29,V.ref p22,V.ref p39]))=H41 at D41 D1 D2 D3 D4 D5 D6 D7 D8 D9 D10 D11 D12 D13 D14 D15 D16 D17 D18 D19 D20 D21 D22 D23 D24 D25 D26 D27 D28 D29 D30 D31 D32 D33 D34 D35 D36 D37 D38 D39 D40 G41 s41 ⊢
 refine ⟨(by show 2≤sizeLine; decide),fun p42 hp42=>?_⟩
 have s42:=ae hp42 (.tup [V.ref p40,V.ref p41])
 have D42:DT K (upd H41 p42 (.tup [V.ref p40,V.ref p41])) (.ref p42) (PyData.tuple [PyData.tuple [],PyData.tuple [PyData.tuple [PyData.str "on",PyData.tuple [],PyData.tuple [PyData.tuple [PyData.str "x",PyData.str "num"]],PyData.str "num",PyData.tuple [PyData.tuple [PyData.str "call",PyData.str "x",PyData.str "on",PyData.tuple []]]],PyData.tuple [PyData.str "deep",PyData.tuple [PyData.tuple [PyData.str "n",PyData.str "num"]],PyData.tuple [PyData.tuple [PyData.str "x",PyData.str "num"]],PyData.str "num",PyData.tuple [PyData.tuple [PyData.str "if",PyData.tuple [PyData.str "less",PyData.tuple [PyData.str "num",PyData.int 0],PyData.tuple [PyData.str "var",PyData.str "n"]],PyData.tuple [PyData.tuple [PyData.str "call",PyData.str "x",PyData.str "deep",PyData.tuple [PyData.tuple [PyData.str "sub",PyData.tuple [PyData.str "var",PyData.str "n"],PyData.tuple [PyData.str "num",PyData.int 1]]]],PyData.tuple [PyData.str "give",PyData.tuple [PyData.str "add",PyData.tuple [PyData.str "var",PyData.str "x"],PyData.tuple [PyData.str "num",PyData.int more]]]],PyData.tuple []],PyData.tuple [PyData.str "give",PyData.tuple [PyData.str "num",PyData.int last]]]],PyData.tuple [PyData.str "first",PyData.tuple [PyData.tuple [PyData.str "n",PyData.str "num"]],PyData.tuple [PyData.tuple [PyData.str "y",PyData.str "num"]],PyData.str "num",PyData.tuple [PyData.tuple [PyData.str "call",PyData.str "y",PyData.str "deep",PyData.tuple [PyData.tuple [PyData.str "var",PyData.str "n"]]],PyData.tuple [PyData.str "give",PyData.tuple [PyData.str "var",PyData.str "y"]]]]]]):=.tup (.inl ad) (.cons (D40.mono (aa s42)) (.cons (D41.mono (aa s42)) .nil))
 have D1:=D1.mono (aa s42)
 have D2:=D2.mono (aa s42)
 have D3:=D3.mono (aa s42)
 have D4:=D4.mono (aa s42)
 have D5:=D5.mono (aa s42)
 have D6:=D6.mono (aa s42)
 have D7:=D7.mono (aa s42)
 have D8:=D8.mono (aa s42)
 have D9:=D9.mono (aa s42)
 have D10:=D10.mono (aa s42)
 have D11:=D11.mono (aa s42)
 have D12:=D12.mono (aa s42)
 have D13:=D13.mono (aa s42)
 have D14:=D14.mono (aa s42)
 have D15:=D15.mono (aa s42)
 have D16:=D16.mono (aa s42)
 have D17:=D17.mono (aa s42)
 have D18:=D18.mono (aa s42)
 have D19:=D19.mono (aa s42)
 have D20:=D20.mono (aa s42)
 have D21:=D21.mono (aa s42)
 have D22:=D22.mono (aa s42)
 have D23:=D23.mono (aa s42)
 have D24:=D24.mono (aa s42)
 have D25:=D25.mono (aa s42)
 have D26:=D26.mono (aa s42)
 have D27:=D27.mono (aa s42)
 have D28:=D28.mono (aa s42)
 have D29:=D29.mono (aa s42)
 have D30:=D30.mono (aa s42)
 have D31:=D31.mono (aa s42)
 have D32:=D32.mono (aa s42)
 have D33:=D33.mono (aa s42)
 have D34:=D34.mono (aa s42)
 have D35:=D35.mono (aa s42)
 have D36:=D36.mono (aa s42)
 have D37:=D37.mono (aa s42)
 have D38:=D38.mono (aa s42)
 have D39:=D39.mono (aa s42)
 have D40:=D40.mono (aa s42)
 have D41:=D41.mono (aa s42)
 have G42:=G41.trans s42
 generalize eH42:(upd H41 p42 (.tup [V.ref p40,V.ref p41]))=H42 at D42 D1 D2 D3 D4 D5 D6 D7 D8 D9 D10 D11 D12 D13 D14 D15 D16 D17 D18 D19 D20 D21 D22 D23 D24 D25 D26 D27 D28 D29 D30 D31 D32 D33 D34 D35 D36 D37 D38 D39 D40 D41 G42 s42 ⊢
 exact q _ _ G42 D42
end
open PySem L2
def cI (H:Hp) (v:V) (s:au):Prop:=∃ b,v=.ref b∧H b=some (.tup s.vs)
theorem cI.mono {H H':Hp} (k:Tk H H') {v:V} {s:au} (h:cI H v s):cI H' v s:=by
 obtain ⟨b,e,h⟩:=h
 exact ⟨b,e,k _ _ h⟩
theorem bo {H H':Hp} (g:aE H H') {l:List V} {m:List au} (h:Paired (cI H) l m):Paired (cI H') l m:=Paired.mapP h fun _ _ z=>z.mono (aa g)
theorem kg {α β:Type} {R:α→β→Prop} {l:List α} {m:List β} (h:Paired R l m):∀ n:Nat,Paired R (List.replicate n l).flatten (List.replicate n m).flatten
 | 0=>.nil
 | n+1=>by
  rw [List.replicate_succ,List.replicate_succ,List.flatten_cons,List.flatten_cons]
  exact cu (kg h n) h
section
variable {P:Program} {w:World} {K:Frag} {mg:Str→Option Value} {base:Heap} {f g:Addr} {fd gd:FuncData}
abbrev qU:List Str:=["_law_n", "_law_line", "_law_found"]
theorem cy:aF qU ["_law_n"] (defScope eA):=⟨rfl,rfl,rfl,by decide +kernel,rfl,by decide +kernel,by decide +kernel⟩
def zX:Sp:=fun vs H Q _=>∃ n:Nat,vs=[.int n]∧n≤1000∧∀ r xs H',aE H H'→H r=none→H' r=some (.lst xs)→Paired (cI H') xs (evs n)→Q (.ref r) H'
theorem Ad (F:Fun K "_law_events" "_law_events" eA f fd):bg P w K mg base CX0 1 f fd ["_law_n"] zX:=by
 refine F.ok cy (fun vs H Q E h=>?_) (fun cdv A outer s H vs Q E hr h=>?_)
 ·obtain ⟨n,rfl,_⟩:=h
  rfl
 obtain ⟨n,rfl,hn,q⟩:=h
 refine ⟨_,(@ah _ _ _ _ _ (@aA _ _ 1 _ _ _ _ cy.nd rfl (Or.inl rfl) (@ar _ _ _ _ _ (@ac _ _ _ _ _ ao (@ac _ _ _ _ _ ao (@ac _ _ _ _ _ ak ag (ab rfl)) (ab rfl)) (ab rfl))) (aj rfl) (.inr rfl)) (@ah _ _ _ _ _ (@aA _ _ 2 _ _ _ _ cy.nd rfl (Or.inl rfl) (@aO _ _ _ _ _ _ _ _ qI (@bm _ _ _ _ (@ac _ _ _ _ _ (pv 1) (@ac _ _ _ _ _ (@ar _ _ _ _ _ (@ac _ _ _ _ _ ao (@ac _ _ _ _ _ ao (@ac _ _ _ _ _ ak (@ac _ _ _ _ _ lV ag (ab rfl)) (ab rfl)) (ab rfl)) (ab rfl))) (@ac _ _ _ _ _ (@ar _ _ _ _ _ (@ac _ _ _ _ _ ao (@ac _ _ _ _ _ ao (@ac _ _ _ _ _ ak ag (ab rfl)) (ab rfl)) (ab rfl))) ag (ab rfl)) (ab rfl)) (ab rfl))) (pv 0)) (aj rfl) (.inr rfl)) (@ah _ _ _ _ _ (@aA _ _ 2 _ _ _ _ cy.nd rfl (Or.inl rfl) (@aO _ _ _ _ _ _ _ _ jJ (pv 2) (@bm _ _ _ _ (@ac _ _ _ _ _ (pv 1) (@ac _ _ _ _ _ (@ar _ _ _ _ _ (@ac _ _ _ _ _ ao (@ac _ _ _ _ _ ao (@ac _ _ _ _ _ ak (@ac _ _ _ _ _ lV ag (ab rfl)) (ab rfl)) (ab rfl)) (ab rfl))) (@ac _ _ _ _ _ (@ar _ _ _ _ _ (@ac _ _ _ _ _ ao (@ac _ _ _ _ _ ao (@ac _ _ _ _ _ ak ag (ab rfl)) (ab rfl)) (ab rfl))) ag (ab rfl)) (ab rfl)) (ab rfl)))) (aj rfl) (.inr rfl)) (@ap _ _ _ (@aP _ _ _ _ (@aO _ _ _ _ _ _ _ _ jJ (pv 2) (@aO _ _ _ _ _ _ _ _ qI (@bm _ _ _ _ (@ac _ _ _ _ _ (@ar _ _ _ _ _ (@ac _ _ _ _ _ ao (@ac _ _ _ _ _ ao (@ac _ _ _ _ _ ak ag (ab rfl)) (ab rfl)) (ab rfl))) ag (ab rfl))) (pv 0)))))))),?_⟩
 have tn:((n:Int)).toNat=n:=Int.toNat_natCast n
 refine ⟨(by show 3≤sizeLine; decide),fun p1 hp1=>?_⟩
 have s1:=ae hp1 (.tup (au.vs (.line "deep" 0)))
 refine ⟨_,rfl,(by show 4≤sizeLine; decide),fun p2 hp2=>?_⟩
 have s2:=ae hp2 (.tup (au.vs (.way "deep" 0 true)))
 refine ⟨(by show 3≤sizeLine; decide),fun p3 hp3=>?_⟩
 have s3:=ae hp3 (.tup (au.vs (.line "deep" 1)))
 refine ⟨(by show 3≤sizeLine; decide),fun l1 hl1=>?_⟩
 have s4:=ae hl1 (.lst [.ref p1,.ref p2,.ref p3])
 have A1:Paired (cI _) [V.ref p1,.ref p2,.ref p3] [au.line "deep" 0,.way "deep" 0 true,.line "deep" 1]:=.cons ⟨p1,rfl,s4 _ _ (s3 _ _ (s2 _ _ ad))⟩ (.cons ⟨p2,rfl,s4 _ _ (s3 _ _ ad)⟩ (.cons ⟨p3,rfl,s4 _ _ ad⟩ .nil))
 have B1:cI _ (.ref p1) (.line "deep" 0):=⟨p1,rfl,s4 _ _ (s3 _ _ (s2 _ _ ad))⟩
 have S4:=((s1.trans s2).trans s3).trans s4
 refine ⟨_,rfl,l1,(n:Int),_,rfl,rfl,ad,by omega,by omega,by rw [tn,sizeLine_eq]; simp only [List.length_cons,List.length_nil]; omega,fun l2 hl2=>?_⟩
 have s5:=ae hl2 (.lst (List.replicate (n:Int).toNat [V.ref p1,.ref p2,.ref p3]).flatten)
 have S5:=S4.trans s5
 have A5:=bo s5 (kg A1 (n:Int).toNat)
 have B5:=B1.mono (aa s5)
 refine ⟨_,rfl,_,rfl,(by show 4≤sizeLine; decide),fun p4 hp4=>?_⟩
 have s6:=ae hp4 (.tup (au.vs (.way "deep" 0 false)))
 refine ⟨(by show 3≤sizeLine; decide),fun p5 hp5=>?_⟩
 have s7:=ae hp5 (.tup (au.vs (.line "deep" 3)))
 refine ⟨(by show 3≤sizeLine; decide),fun l3 hl3=>?_⟩
 have s8:=ae hl3 (.lst [.ref p1,.ref p4,.ref p5])
 have S8:=((S5.trans s6).trans s7).trans s8
 have A8:=bo ((s6.trans s7).trans s8) A5
 have B8:Paired (cI _) [V.ref p1,.ref p4,.ref p5] [au.line "deep" 0,.way "deep" 0 false,.line "deep" 3]:=.cons (((B5.mono (aa s6)).mono (aa s7)).mono (aa s8)) (.cons ⟨p4,rfl,s8 _ _ (s7 _ _ ad)⟩ (.cons ⟨p5,rfl,s8 _ _ ad⟩ .nil))
 have le5:(List.replicate (n:Int).toNat [V.ref p1,.ref p2,.ref p3]).flatten.length=n*3:=by rw [L2.len_rep,tn]; rfl
 refine ⟨l2,l3,_,_,rfl,rfl,s8 _ _ (s7 _ _ (s6 _ _ ad)),ad,by rw [le5,sizeLine_eq]; simp only [List.length_cons,List.length_nil]; omega,fun l4 hl4=>?_⟩
 have s9:=ae hl4 (.lst ((List.replicate (n:Int).toNat [V.ref p1,.ref p2,.ref p3]).flatten++[.ref p1,.ref p4,.ref p5]))
 have A9:=bo s9 (cu B8 A8)
 have S9:=S8.trans s9
 refine ⟨_,rfl,(by show 3≤sizeLine; decide),fun p6 hp6=>?_⟩
 have s10:=ae hp6 (.tup (au.vs (.line "deep" 2)))
 refine ⟨(by show 1≤sizeLine; decide),fun l5 hl5=>?_⟩
 have s11:=ae hl5 (.lst [.ref p6])
 have C11:Paired (cI _) [V.ref p6] [au.line "deep" 2]:=.cons ⟨p6,rfl,s11 _ _ ad⟩ .nil
 refine ⟨_,rfl,l5,(n:Int),_,rfl,rfl,ad,by omega,by omega,by rw [tn,sizeLine_eq]; simp only [List.length_cons,List.length_nil]; omega,fun l6 hl6=>?_⟩
 have s12:=ae hl6 (.lst (List.replicate (n:Int).toNat [V.ref p6]).flatten)
 have C12:=bo s12 (kg C11 (n:Int).toNat)
 have A12:=bo ((s10.trans s11).trans s12) A9
 have S12:=((S9.trans s10).trans s11).trans s12
 have le12:(List.replicate (n:Int).toNat [V.ref p6]).flatten.length=n*1:=by rw [L2.len_rep,tn]; rfl
 refine ⟨l4,l6,_,_,rfl,rfl,s12 _ _ (s11 _ _ (s10 _ _ ad)),ad,by rw [List.length_append,le5,le12,sizeLine_eq]; simp only [List.length_cons,List.length_nil]; omega,fun l7 hl7=>?_⟩
 have s13:=ae hl7 (.lst (((List.replicate (n:Int).toNat [V.ref p1,.ref p2,.ref p3]).flatten++[.ref p1,.ref p4,.ref p5])++(List.replicate (n:Int).toNat [V.ref p6]).flatten))
 refine q l7 _ _ (S12.trans s13) (S12.free hl7) ad ?_
 have e:=bo s13 (cu C12 A12)
 rw [tn] at e
 unfold evs
 rw [show List.replicate n (au.line "deep" 2)=(List.replicate n [au.line "deep" 2]).flatten from (List.flatten_replicate_singleton).symm]
 rw [tn]
 exact e
end
open PySem L2
theorem me {K:Frag} {H:Hp} {b:Addr} {s:au} (h:H b=some (.tup s.vs)):RdD K H (.ref b) s.d:=by
 cases s with
 | line f k=>exact .tup (SqT.of h) (.cons (.str _) (.cons (.str _) (.cons (.int _) .nil)))
 | way f k b=>exact .tup (SqT.of h) (.cons (.str _) (.cons (.str _) (.cons (.int _) (.cons (.bl _) .nil))))
theorem tw (s:au):s.d.depth≤2:=by cases s<;>simp [au.d,PyData.depth,PyData.depthAll]
theorem zr:(("line":Str)==("way":Str))=false:=by decide +kernel
theorem zY:(("way":Str)==("line":Str))=false:=by decide +kernel
theorem nJ (s t:au):PyData.eqv s.d t.d=decide (s=t):=by
 cases s with
 | line f k =>
  cases t with
  | line g j =>
   simp only [au.d,PyData.eqv,PyData.eqvAll,beq_self_eq_true,Bool.true_and,Bool.and_true]
   rw [Bool.eq_iff_iff]
   simp only [Bool.and_eq_true,beq_iff_eq,decide_eq_true_eq,au.line.injEq]
  | way g j b =>
   simp only [au.d,PyData.eqv,PyData.eqvAll,zr,Bool.false_and]
   exact (decide_eq_false (fun z=>by cases z)).symm
 | way f k b =>
  cases t with
  | line g j =>
   simp only [au.d,PyData.eqv,PyData.eqvAll,zY,Bool.false_and]
   exact (decide_eq_false (fun z=>by cases z)).symm
  | way g j c =>
   simp only [au.d,PyData.eqv,PyData.eqvAll,beq_self_eq_true,Bool.true_and,Bool.and_true]
   rw [Bool.eq_iff_iff]
   simp only [Bool.and_eq_true,beq_iff_eq,decide_eq_true_eq,au.way.injEq]
theorem Aa {s t:au} (h:s.vs=t.vs):s=t:=vE (by rw [h])
end K6
namespace L2
open PySem PySem.Spec PyProof.Rows K6
section
variable {X:Cx}
def wo:R2:=fun x y H Q=>∃ p a s0 xs ss,x=.ref a∧H a=some (.tup (au.vs s0))∧y=.ref p∧H p=some (.lst xs)∧Paired (cI H) xs ss∧(au.d s0).canLay0=true∧(∀ s∈ss,(au.d s).canLay0=true)∧Q (.bl (!decide (s0∈ss))) H
open Classical in
theorem sX (hu:X.A.units+64<cLine):OpR X (compareOp .NotIn) wo:=by
 intro pins s σ H x y v u Q I rx ry h
 obtain ⟨p,a,s0,xs,ss,rfl,ha,rfl,hp,hs,c0,cs,q⟩:=h
 cases rx
 cases ry
 obtain ⟨its,r,pl,hz⟩:=I.list (SqL.of hp)
 have hin:X.A.in1.units+8<cLine:=by
  have:X.A.in1.units≤X.A.units+1:=by simp [Around.in1]
  omega
 obtain ⟨as0,ra0⟩:=(me (K:=X.K) ha).reads I rfl
 let e:Value→Bool:=fun w=>match w with | .ref b=>decide (H b=some (.tup (au.vs s0))) | _=>false
 have key:∀ {xs:List V} {us:List Value} {ss:List au},aD xs us→Paired (cI H) xs ss→(∀ s∈ss,(au.d s).canLay0=true)→(∀ w∈us,SeqAt.EqAt X.A.in1 s w (.ref a) (e w))∧us.any e=decide (s0∈ss):=by
  intro xs us ss r hs cs
  induction hs generalizing us with
  | nil=>cases r; exact ⟨fun _ z=>(by cases z),by simp⟩
  | @cons x t xs ss hx _ ih =>
   cases r with
   | @cons _ u _ us r1 r2 =>
    obtain ⟨b,rfl,hb⟩:=hx
    cases (show u=Value.ref b from r1)
    obtain ⟨i1,i2⟩:=ih r2 (fun s z=>cs s (List.mem_cons_of_mem _ z))
    obtain ⟨as1,ra1⟩:=(me (K:=X.K) hb).reads I rfl
    have ee:e (.ref b)=PyData.eqv t.d s0.d:=by
     rw [nJ]
     show decide (H b=some (.tup (au.vs s0)))=decide (t=s0)
     rw [hb]
     simp only [Option.some.injEq,HO.tup.injEq]
     exact decide_eq_decide.mpr ⟨Aa,fun z=>by rw [z]⟩
    refine ⟨fun w hw=>?_,?_⟩
    ·rcases List.mem_cons.mp hw with rfl | hw
     ·rw [ee]
      have d1:=tw t
      exact PySem.SeqAt.eqAt_reads t.d s0.d _ _ _ _ _ _ ra1 ra0 (cs t List.mem_cons_self) c0 (by omega)
     ·exact i1 w hw
    ·rw [List.any_cons,i2,ee,nJ]
     by_cases h:t=s0
     ·rw [decide_eq_true h,Bool.true_or]
      exact (decide_eq_true (by rw [h]; exact List.mem_cons_self)).symm
     ·rw [decide_eq_false h,Bool.false_or]
      exact decide_eq_decide.mpr ⟨fun z=>List.mem_cons_of_mem _ z,fun z=>(List.mem_cons.mp z).resolve_left (fun y=>h y.symm)⟩
 obtain ⟨k1,k2⟩:=key r hs cs
 refine SeqAt.notIn_listAt e pl.isList (fun w hw=>k1 w (by simpa using hw)) ⟨.bl _,H,I,rfl,?_⟩
 rw [show its.toArray.any e=its.any e by simp,k2]
 exact q
end
end L2
namespace K6
open PySem L2
section
variable {P:Program} {w:World} {K:Frag} {mg:Str→Option Value} {base:Heap} {f g:Addr} {fd gd:FuncData}
abbrev wK:List Str:=["_law_events_here", "_law_ticks", "_law_value", "_law_spots", "_law_spot"]
theorem eN:aF wK ["_law_events_here", "_law_ticks", "_law_value"] (defScope my):=⟨rfl,rfl,rfl,by decide +kernel,rfl,by decide +kernel,by decide +kernel⟩
def xq (K:Frag):Sp:=fun vs H Q _=>∃ el v es xs,∃ t:Nat,vs=[.ref el,.int t,.int v]∧H el=some (.lst xs)∧Paired (cI H) xs es∧es.length≤10000∧(∀ s∈es,(au.d s).canLay0=true) ∧
 ∀ p ev l ys H',aE H H'→H' p=some (.tup [ev,.ref l])→DT K H' ev (ko (due es t []).1 v)→H' l=some (.lst ys)→Paired (cI H') ys (due es t []).2→Q (.ref p) H'
theorem lH {α β:Type} {R:α→β→Prop}:∀ {l:List α} {m:List β},Paired R l m→∀ (i:Nat) (x:α),l[i]?=some x→∃ y,m[i]?=some y∧R x y
 | _,_,.nil,i,x,h=>by simp at h
 | _,_,.cons h r,0,x,e=>by cases e; exact ⟨_,rfl,h⟩
 | _,_,.cons h r,i+1,x,e=>lH r i x e
theorem xN (F:Fun K "_law_due" "_law_due" my f fd):bg P w K mg base CX0 1 f fd ["_law_events_here", "_law_ticks", "_law_value"] (xq K):=by
 refine F.ok eN (fun vs H Q E h=>?_) (fun cdv A outer s H vs Q E hr h=>?_)
 ·obtain ⟨el,v,es,xs,t,rfl,_⟩:=h
  rfl
 obtain ⟨el,v,es,xs,t,rfl,hel,hes,hle,hcl,q⟩:=h
 have lx:=Paired.length hes
 refine ⟨_,(@ah _ _ _ _ _ (@aA _ _ 3 _ _ _ _ eN.nd rfl (Or.inl rfl) (@bm _ _ _ _ ag) (aj rfl) (.inr rfl)) (@ah _ _ _ _ _ (@cr _ _ _ _ _ _ _ _ PassesOwn.never rfl (eG (pv 0)) (bC (i:=4) eN.nd rfl (Or.inl rfl)) (@ah _ _ _ _ _ (@aZ _ _ _ _ _ _ _ _ (@aC _ _ _ _ _ _ _ _ bD (@ay _ _ _ _ _ _ _ aH (pv 4) ak (fun _ _=>rfl)) ao (aQ _)) (@ah _ _ _ _ _ (@aZ _ _ _ _ _ _ _ _ (@aC _ _ _ _ _ _ _ _ bD (pv 1) ak (aQ _)) (@ap _ _ _ (@aP _ _ _ _ (@ar _ _ _ _ _ (@ac _ _ _ _ _ (@ar _ _ _ _ _ (@ac _ _ _ _ _ ao ag (ab rfl))) (@ac _ _ _ _ _ (pv 3) ag (ab rfl)) (ab rfl))))) aM) (@ap _ _ _ (@aA _ _ 1 _ _ _ _ eN.nd rfl (Or.inl rfl) (@aO _ _ _ _ _ _ _ _ mr (pv 1) ak) (aj rfl) (.inr rfl)))) aM) (@ap _ _ _ (@aZ _ _ _ _ _ _ _ _ (@aC _ _ _ _ _ _ _ _ (sX hr.units) (pv 4) (pv 3) rfl) (@ap _ _ _ (@bq _ _ _ _ (@dS _ _ _ _ _ _ _ _ _ _ _ _ PySem.F.plainAttrs_list PySem.F.slot_list_append PySem.F.type_list_append bQ (pv 3) (@ac _ _ _ _ _ (pv 4) ag (ab rfl)) rfl (cm rfl rfl) rfl (ab rfl) (am rfl)) (aj rfl))) aM))) (fun _=>rfl)) (@ap _ _ _ (@aP _ _ _ _ (@ar _ _ _ _ _ (@ac _ _ _ _ _ (@ar _ _ _ _ _ (@ac _ _ _ _ _ ao (@ac _ _ _ _ _ (pv 2) ag (ab rfl)) (ab rfl))) (@ac _ _ _ _ _ (pv 3) ag (ab rfl)) (ab rfl))))))),?_⟩
 refine ⟨(by show 0≤sizeLine; decide),fun sl hsl=>?_⟩
 have g0:=ae hsl (.lst [])
 refine ⟨_,rfl,el,rfl,⟨xs,SqL.of (g0 _ _ hel)⟩,eL (xs:=xs) (fun i σ H'=>∃ m4 ys ss,∃ t':Nat,σ=[some (.ref el),some (.int t'),some (.int v),some (.ref sl),m4]∧aE H H'∧H' sl=some (.lst ys)∧Paired (cI H') ys ss∧ss.length≤i∧(∀ s∈ss,(au.d s).canLay0=true)∧due es t []=due (es.drop i) t' ss)
  ⟨none,[],[],t,rfl,g0,ad,.nil,Nat.le_refl _,fun _ z=>(by cases z),rfl⟩ (fun i σ H' _ p=>?_) (fun i x σ H' hx p=>?_) (fun σ H' p=>?_)⟩
 ·obtain ⟨_,_,_,_,rfl,G',_⟩:=p
  exact SqL.of (G' _ _ hel)
 ·obtain ⟨m4,ys,ss,t',rfl,G',hs',ps,ls,cs,ed⟩:=p
  obtain ⟨sp,hsp,b,rfl,hb⟩:=lH hes i x hx
  have hb':=G' _ _ hb
  obtain ⟨hi,ei⟩:=List.getElem?_eq_some_iff.mp hsp
  rw [List.drop_eq_getElem_cons hi,ei] at ed
  have csp:=hcl sp (List.mem_of_getElem? hsp)
  have lys:=Paired.length ps
  cases sp with
  | line f k =>
   refine ⟨_,rfl,b,_,_,_,rfl,rfl,SqT.of hb',rfl,rfl,_,rfl,mJ ?_⟩
   cases t' with
   | zero =>
    refine ⟨_,rfl,rfl,_,rfl,mJ ?_⟩
    refine ⟨(by show 1≤sizeLine; decide),fun p1 hp1=>?_⟩
    have s1:=ae hp1 (.tup [.str "dry"])
    refine ⟨_,rfl,(by show 2≤sizeLine; decide),fun p2 hp2=>?_⟩
    have s2:=s1.trans (ae hp2 (.tup [.ref p1,.ref sl]))
    refine q p2 (.ref p1) sl ys _ (G'.trans s2) ad ?_ (s2 _ _ hs') ?_
    ·rw [ed]
     exact .tup (.inl (aG (av ad hp2) ad)) (.cons (.str _) .nil)
    ·rw [ed]
     exact bo s2 ps
   | succ t2 =>
    refine ⟨_,rfl,rfl,_,rfl,aY (fun c=>absurd (V.int.inj (of_decide_eq_true c)) (by omega)) (fun c=>?_)⟩
    refine ⟨_,rfl,_,_,rfl,rfl,?_⟩
    refine ⟨_,rfl,_,rfl,sl,b,(au.line f k),ys,ss,rfl,hb',rfl,hs',ps,csp,cs,_,rfl,?_⟩
    refine aY (fun c=>?_) (fun c=>?_)
    ·have nin:¬ (au.line f k)∈ss:=by simpa using c
     refine ⟨_,rfl,.inl ⟨rfl,_,SqL.of hs'⟩,_,rfl,sl,_,_,rfl,rfl,hs',by rw [sizeLine_eq]; omega,?_⟩
     have k2:Tk H' (upd H' sl (.lst (ys++[.ref b]))):=bI hs' _
     refine ⟨_,_,ss++[(au.line f k)],t2,(by rw [show (t2:Int)=((t2+1:Nat):Int) - 1 from by omega]; rfl),aU hsl G',ad,rQ ⟨b,rfl,k2 _ _ hb'⟩ (Paired.mapP ps fun _ _ z=>z.mono k2),by simp only [List.length_append,List.length_cons,List.length_nil]; omega,fun s1 hs1=>?_,?_⟩
     ·rcases List.mem_append.mp hs1 with z | z
      ·exact cs s1 z
      ·simp only [List.mem_cons,List.not_mem_nil,or_false] at z
       rw [z]
       exact csp
     ·rw [ed]
      simp only [due]
      rw [bn,if_neg nin]
    ·have yin:(au.line f k)∈ss:=by simpa using c
     refine ⟨_,_,ss,t2,(by rw [show (t2:Int)=((t2+1:Nat):Int) - 1 from by omega]; rfl),G',hs',ps,by omega,cs,?_⟩
     rw [ed]
     simp only [due]
     rw [bn,if_pos yin]
  | way f k bb =>
   refine ⟨_,rfl,b,_,_,_,rfl,rfl,SqT.of hb',rfl,rfl,_,rfl,aY (fun c=>absurd c (by decide +kernel)) (fun c=>?_)⟩
   refine ⟨_,rfl,_,rfl,sl,b,(au.way f k bb),ys,ss,rfl,hb',rfl,hs',ps,csp,cs,_,rfl,?_⟩
   refine aY (fun c=>?_) (fun c=>?_)
   ·have nin:¬ (au.way f k bb)∈ss:=by simpa using c
    refine ⟨_,rfl,.inl ⟨rfl,_,SqL.of hs'⟩,_,rfl,sl,_,_,rfl,rfl,hs',by rw [sizeLine_eq]; omega,?_⟩
    have k2:Tk H' (upd H' sl (.lst (ys++[.ref b]))):=bI hs' _
    refine ⟨_,_,ss++[(au.way f k bb)],t',rfl,aU hsl G',ad,rQ ⟨b,rfl,k2 _ _ hb'⟩ (Paired.mapP ps fun _ _ z=>z.mono k2),by simp only [List.length_append,List.length_cons,List.length_nil]; omega,fun s1 hs1=>?_,?_⟩
    ·rcases List.mem_append.mp hs1 with z | z
     ·exact cs s1 z
     ·simp only [List.mem_cons,List.not_mem_nil,or_false] at z
      rw [z]
      exact csp
    ·rw [ed]
     simp only [due]
     rw [bn,if_neg nin]
   ·have yin:(au.way f k bb)∈ss:=by simpa using c
    refine ⟨_,_,ss,t',rfl,G',hs',ps,by omega,cs,?_⟩
    rw [ed]
    simp only [due]
    rw [bn,if_pos yin]
 ·obtain ⟨m4,ys,ss,t',rfl,G',hs',ps,ls,cs,ed⟩:=p
  rw [lx,List.drop_length] at ed
  refine ⟨_,rfl,(by show 2≤sizeLine; decide),fun p1 hp1=>?_⟩
  have s1:=ae hp1 (.tup [.str "back",.int v])
  refine ⟨_,rfl,(by show 2≤sizeLine; decide),fun p2 hp2=>?_⟩
  have s2:=s1.trans (ae hp2 (.tup [.ref p1,.ref sl]))
  refine q p2 (.ref p1) sl ys _ (G'.trans s2) ad ?_ (s2 _ _ hs') ?_
  ·rw [ed]
   exact .tup (.inl (aG (av ad hp2) ad)) (.cons (.str _) (.cons (.int _) .nil))
  ·rw [ed]
   exact bo s2 ps
end
open PySem L2
def qu (d:PyData) (ss:List au):PyData:=.tuple [d,.list (ss.map au.d)]
theorem oE {K:Frag} {H:Hp}:∀ {xs:List V} {ss:List au},Paired (cI H) xs ss→cM K H xs (ss.map au.d)
 | _,_,.nil=>.nil
 | _,_,.cons ⟨b,e,h⟩ r=>by subst e; exact .cons (me h) (oE r)
theorem eW {H:Hp}:∀ {as:List Addr} {ss:List au},Paired (fun (b:Addr) (s:au)=>H b=some (.tup s.vs)) as ss→Paired (cI H) (as.map V.ref) ss
 | _,_,.nil=>.nil
 | _,_,.cons h r=>.cons ⟨_,rfl,h⟩ (eW r)
theorem fQ {K:Frag} {H:Hp} {p l:Addr} {ev:V} {d:PyData} {ys:List V} {ss:List au} (h1:H p=some (.tup [ev,.ref l])) (h2:DT K H ev d) (h3:H l=some (.lst ys)) (h4:Paired (cI H) ys ss):RdD K H (.ref p) (qu d ss) :=
 .tup (SqT.of h1) (.cons h2.rd (.cons (.lst (SqL.of h3) (oE h4)) .nil))
theorem gZ:∀ (es:List au) (t:Nat) (ss:List au),(due es t ss).2.length≤ss.length+es.length
 | [],t,ss=>by simp [due]
 | .line f k::r,0,ss=>by simp [due]
 | .line f k::r,t+1,ss=>by
  have:=gZ r t (bn ss (.line f k))
  have:=bA ss (.line f k)
  simp only [due,List.length_cons]
  omega
 | .way f k b::r,t,ss=>by
  have:=gZ r t (bn ss (.way f k b))
  have:=bA ss (.way f k b)
  simp only [due,List.length_cons]
  omega
theorem nO {ss:List au} {s x:au} (h:x∈bn ss s):x∈ss∨x=s:=by
 unfold bn at h
 split at h
 ·exact .inl h
 ·rcases List.mem_append.mp h with h | h
  ·exact .inl h
  ·exact .inr (by simpa using h)
theorem mq:∀ (es:List au) (t:Nat) (ss:List au) (x:au),x∈(due es t ss).2→x∈ss∨x∈es
 | [],t,ss,x,h=>.inl h
 | .line f k::r,0,ss,x,h=>.inl h
 | .line f k::r,t+1,ss,x,h=>by
  rcases mq r t _ x h with h | h
  ·rcases nO h with h | h
   ·exact .inl h
   ·exact .inr (by rw [h]; exact List.mem_cons_self)
  ·exact .inr (List.mem_cons_of_mem _ h)
 | .way f k b::r,t,ss,x,h=>by
  rcases mq r t _ x h with h | h
  ·rcases nO h with h | h
   ·exact .inl h
   ·exact .inr (by rw [h]; exact List.mem_cons_self)
  ·exact .inr (List.mem_cons_of_mem _ h)
def SPS:List au:=[.line "deep" 0,.way "deep" 0 true,.line "deep" 1,.way "deep" 0 false,.line "deep" 3,.line "deep" 2,.line "first" 0,.line "first" 1,.line "on" 0]
theorem mY (n:Nat):∀ s∈evs n,s∈SPS:=by
 intro s h
 unfold evs at h
 simp only [List.mem_append,List.mem_flatten,List.mem_replicate,List.mem_cons,List.not_mem_nil,or_false] at h
 rcases h with (⟨l,⟨_,rfl⟩,h⟩ | h) | ⟨_,h⟩
 ·simp only [List.mem_cons,List.not_mem_nil,or_false] at h
  rcases h with rfl | rfl | rfl<;>simp [SPS]
 ·rcases h with rfl | rfl | rfl<;>simp [SPS]
 ·subst h
  simp [SPS]
theorem rO:∀ s∈SPS,(au.d s).canLay0=true:=by
 intro s h
 simp only [SPS,List.mem_cons,List.not_mem_nil,or_false] at h
 rcases h with rfl | rfl | rfl | rfl | rfl | rfl | rfl | rfl | rfl<;>decide +kernel
theorem qd:(List.range 3001).all (fun i=>decide (W (.int ((i:Int) - 1500))≤10)&&(PyData.showable (.int ((i:Int) - 1500))))=true:=by decide +kernel
theorem tD {v:Int} (h1:-1500≤v) (h2:v≤1500):cS 1 10 (.int v):=by
 have h:=List.all_eq_true.mp qd (v+1500).toNat (List.mem_range.mpr (by omega))
 rw [Bool.and_eq_true,decide_eq_true_eq] at h
 have e:(((v+1500).toNat:Nat):Int) - 1500=v:=by omega
 rw [e] at h
 exact ⟨h.2,rfl,by simp [PyData.depth],h.1⟩
theorem uE:∀ s∈SPS,cS 2 60 (au.d s):=by
 intro s h
 simp only [SPS,List.mem_cons,List.not_mem_nil,or_false] at h
 rcases h with rfl | rfl | rfl | rfl | rfl | rfl | rfl | rfl | rfl<;>exact ⟨by decide +kernel,by decide +kernel,by decide +kernel,by decide +kernel⟩
theorem jA:∀ ss:List au,(∀ s∈ss,s∈SPS)→bp 2 (62*ss.length) (ss.map au.d)
 | [],_=>bp.mono bp.nil (by omega) (by omega)
 | s::r,h=>bp.mono (bp.cons (uE s (h s List.mem_cons_self)) (jA r fun x z=>h x (List.mem_cons_of_mem _ z))) (by omega) (by simp only [List.length_cons]; omega)
theorem vq {b:Bool} {v:Int} (h1:-1500≤v) (h2:v≤1500):cS 2 40 (ko b v):=by
 cases b with
 | true =>
  have hs:cS 1 6 (.str "back"):=⟨by decide +kernel,by decide +kernel,by decide +kernel,by decide +kernel⟩
  exact cS.mono (bp.tup (bp.cons hs (bp.cons (tD h1 h2) (bp.mono bp.nil (by omega) (by omega:0≤0))))) (by omega) (by omega)
 | false =>
  have hd:cS 2 40 (.tuple [.str "dry"]):=⟨by decide +kernel,by decide +kernel,by decide +kernel,by decide +kernel⟩
  exact hd
theorem vQ {b:Bool} {v:Int} {ss:List au} (h1:-1500≤v) (h2:v≤1500) (h:∀ s∈ss,s∈SPS):cS 4 (62*ss.length+100) (qu (ko b v) ss) :=
 cS.mono (bp.tup (bp.cons (cS.mono (vq h1 h2) (by omega:2≤3) (Nat.le_refl _)) (bp.cons (bp.lst (jA ss h)) (bp.mono bp.nil (by omega) (by omega:0≤0))))) (by omega) (by omega)
theorem bg.ex2 {P:Program} {w:World} {K:Frag} {mg:Str→Option Value} {base:Heap} {CX:CXT} {k:Nat} {f:Addr} {fd:FuncData} {ps:List Str} {α:Type} {sp:α→Sp} (h:∀ x,bg P w K mg base CX k f fd ps (sp x)) :
  bg P w K mg base CX k f fd ps (fun vs H Q E=>∃ x,sp x vs H Q E) :=
 ⟨fun vs H Q E ⟨x,q⟩=>(h x).1 vs H Q E q,fun A outer s H args us vs Q E a b c d ⟨x,q⟩=>(h x).2 A outer s H args us vs Q E a b c d q⟩
theorem zL:bootBuiltins "max"=some (.builtin "max"):=by decide +kernel
theorem zq:bootBuiltins "min"=some (.builtin "min"):=by decide +kernel
theorem cS.d60 {m b:Nat} {d:PyData} (n:cS m b d) (hm:m≤60):d.depth≤60:=Nat.le_trans n.dp hm
theorem cS.szl {m b:Nat} {d:PyData} (n:cS m b d) (hb:b≤sizeLine):d.shown.length≤sizeLine:=Nat.le_trans (nV d n.nd) (Nat.le_trans n.sz hb)
theorem Fd.same {H H':Hp} {fp:Addr} {m:Nat} (g:aE H H') (h:Fd H fp m):Fd H' fp m:=by
 obtain ⟨sc,ns,a,b,c,h1,h2,h3⟩:=h
 exact ⟨sc,ns,a,b,c,g _ _ h1,g _ _ h2,h3⟩
theorem Fd.lst {H:Hp} {fp:Addr} {m:Nat} (h:Fd H fp m):∃ xs,H fp=some (.lst xs):=by
 obtain ⟨sc,ns,a,b,c,h1,_⟩:=h
 exact ⟨_,h1⟩
theorem Fd.tk {H H':Hp} {fp:Addr} {m:Nat} (x:Ext fp H H') (h:Fd H fp m):Tk H H':=by
 obtain ⟨xs,e⟩:=h.lst
 exact rj x e
theorem Fd.ne {H:Hp} {fp p:Addr} {m:Nat} (h:Fd H fp m) (hp:H p=none):p≠fp:=fun z=>by
 obtain ⟨xs,e⟩:=h.lst
 rw [z,e] at hp
 cases hp
theorem wW {x y d:Int} (h0:0≤d) (h1:d<2) (P:Int→Prop) (hx:P x) (hy:P y):∃ n,P n∧atI [V.int x,.int y] d=some (.int n):=by
 obtain rfl | rfl:d=0∨d=1:=by omega
 ·exact ⟨x,hx,rfl⟩
 ·exact ⟨y,hy,rfl⟩
theorem tU {b:Bool} {v:Int} {ss:List au} (h1:-1500≤v) (h2:v≤1500) (h:∀ s∈ss,s∈SPS) (hl:ss.length≤1000):(qu (ko b v) ss).showable=true∧(qu (ko b v) ss).hasDict=false∧(qu (ko b v) ss).depth≤60∧(qu (ko b v) ss).shown.length≤sizeLine:=by
 have n:=vQ (b:=b) h1 h2 h
 exact ⟨n.sh,n.nd,n.d60 (by decide),n.szl (by rw [sizeLine_eq]; omega)⟩
theorem xQ {last more:Int} {n:Nat} (h0:0≤last) (h1:last<100) (h2:-9≤more) (h3:more≤9) (h4:n≤140):-1500≤last+(n:Int)*more∧last+(n:Int)*more≤1500:=by
 have a:(n:Int)*more≤(n:Int)*9:=Int.mul_le_mul_of_nonneg_left h3 (by omega)
 have b:(n:Int)*(-9)≤(n:Int)*more:=Int.mul_le_mul_of_nonneg_left h2 (by omega)
 omega
theorem rM {es:List au} (h:∀ s∈es,s∈SPS) (t:Nat):∀ s∈(due es t []).2,s∈SPS:=fun s hs=>(mq es t [] s hs).elim (fun z=>by cases z) (h s)
section
variable {P:Program} {w:World} {K:Frag} {mg:Str→Option Value} {base:Heap} {f g:Addr} {fd gd:FuncData}
def vv (K:Frag):Sp:=fun vs H Q E=>∃ x:Int×Int,xk K (eC x.1 x.2) vs H Q E
def vp (K:Frag):Sp:=fun vs H Q _=>∃ (a:Addr) (ns:List Int),vs=[.ref a]∧SqL K H a (ns.map V.int)∧∀ H',Q (.bl true) H'
abbrev zl:List Str:=["_law_script", "_law_feed_here", "_law_more", "_law_last", "_law_program_here", "_law_k", "_law_n", "_law_needed", "_law_ticks", "_law_due_here", "_law_events_here"]
theorem bY:aF zl ["_law_script"] (defScope rn):=⟨rfl,rfl,rfl,by decide +kernel,rfl,by decide +kernel,by decide +kernel⟩
theorem yd (T:G0 mg) (TMx:mg "max"=none) (TMn:mg "min"=none) (F:Fun K "law" "law" rn f fd) (D_run:Cal P w K mg base 11 "run" ["program", "f", "values", "ticks"] (vv K)) (D_l_draw:Cal P w K mg base 1 "_law_draw" ["_law_feed_here", "_law_many"] yG) (D_l_due:Cal P w K mg base 1 "_law_due" ["_law_events_here", "_law_ticks", "_law_value"] (xq K)) (D_l_events:Cal P w K mg base 1 "_law_events" ["_law_n"] zX) (D_l_program:Cal P w K mg base 1 "_law_program" ["_law_more", "_law_last"] (yL K)) (D_l_feed:Cal P w K mg base 1 "_law_feed" ["_law_script"] (zZ K)):bg P w K mg base CX0 12 f fd ["_law_script"] (vp K):=by
 obtain ⟨g_run,gd_run,G_run,b_run,k_run,m_run⟩:=D_run.ex
 obtain ⟨g_l_draw,gd_l_draw,G_l_draw,b_l_draw,k_l_draw,m_l_draw⟩:=D_l_draw.ex
 obtain ⟨g_l_due,gd_l_due,G_l_due,b_l_due,k_l_due,m_l_due⟩:=D_l_due.ex
 obtain ⟨g_l_events,gd_l_events,G_l_events,b_l_events,k_l_events,m_l_events⟩:=D_l_events.ex
 obtain ⟨g_l_program,gd_l_program,G_l_program,b_l_program,k_l_program,m_l_program⟩:=D_l_program.ex
 obtain ⟨g_l_feed,gd_l_feed,G_l_feed,b_l_feed,k_l_feed,m_l_feed⟩:=D_l_feed.ex
 refine F.ok bY (fun vs H Q EX h=>?_) (fun cdv A outer s H vs Q EX hr h=>?_)
 ·obtain ⟨a,ns,rfl,_⟩:=h
  rfl
 obtain ⟨a,ns,rfl,hS,q⟩:=h
 refine ⟨_,(@ah _ _ _ _ _ (@aA _ _ 1 _ _ _ _ bY.nd rfl (Or.inl rfl) (@aB _ _ _ _ _ _ _ _ _ _ _ _ _ _ _ _ G_l_feed (hr.mono (by omega)) rfl m_l_feed k_l_feed b_l_feed .nil aI (@ac _ _ _ _ _ (pv 0) ag (ab rfl)) (by decide) (ab rfl) (am rfl)) (aj rfl) (.inr rfl)) (@ah _ _ _ _ _ (yg (i:=2) (j:=3) rfl bY.nd rfl rfl (by decide) rfl rfl (@ac _ _ _ _ _ (@aO _ _ _ _ _ _ _ _ mr (@aB _ _ _ _ _ _ _ _ _ _ _ _ _ _ _ _ G_l_draw (hr.mono (by omega)) rfl m_l_draw k_l_draw b_l_draw .nil aI (@ac _ _ _ _ _ (pv 1) (@ac _ _ _ _ _ ak ag (ab rfl)) (ab rfl)) (by decide) (ab rfl) (am rfl)) ak) (@ac _ _ _ _ _ (@aB _ _ _ _ _ _ _ _ _ _ _ _ _ _ _ _ G_l_draw (hr.mono (by omega)) rfl m_l_draw k_l_draw b_l_draw .nil aI (@ac _ _ _ _ _ (pv 1) (@ac _ _ _ _ _ ak ag (ab rfl)) (ab rfl)) (by decide) (ab rfl) (am rfl)) ag (ab rfl)) (ab rfl)) rfl rfl) (@ah _ _ _ _ _ (@aA _ _ 4 _ _ _ _ bY.nd rfl (Or.inl rfl) (@aB _ _ _ _ _ _ _ _ _ _ _ _ _ _ _ _ G_l_program (hr.mono (by omega)) rfl m_l_program k_l_program b_l_program .nil aI (@ac _ _ _ _ _ (pv 2) (@ac _ _ _ _ _ (pv 3) ag (ab rfl)) (ab rfl)) (by decide) (ab rfl) (am rfl)) (aj rfl) (.inr rfl)) (@ah _ _ _ _ _ (@cr _ _ _ _ _ _ _ _ PassesOwn.never rfl (sr rfl T.range (@ac _ _ _ _ _ ak ag (ab rfl))) (bC (i:=5) bY.nd rfl (Or.inl rfl)) (@ah _ _ _ _ _ (@aA _ _ 6 _ _ _ _ bY.nd rfl (Or.inl rfl) (@ay _ _ _ _ _ _ _ aK (@bm _ _ _ _ (@ac _ _ _ _ _ (@aB _ _ _ _ _ _ _ _ _ _ _ _ _ _ _ _ G_l_draw (hr.mono (by omega)) rfl m_l_draw k_l_draw b_l_draw .nil aI (@ac _ _ _ _ _ (pv 1) (@ac _ _ _ _ _ ak ag (ab rfl)) (ab rfl)) (by decide) (ab rfl) (am rfl)) (@ac _ _ _ _ _ (@aB _ _ _ _ _ _ _ _ _ _ _ _ _ _ _ _ G_l_draw (hr.mono (by omega)) rfl m_l_draw k_l_draw b_l_draw .nil aI (@ac _ _ _ _ _ (pv 1) (@ac _ _ _ _ _ ak ag (ab rfl)) (ab rfl)) (by decide) (ab rfl) (am rfl)) ag (ab rfl)) (ab rfl))) (@aB _ _ _ _ _ _ _ _ _ _ _ _ _ _ _ _ G_l_draw (hr.mono (by omega)) rfl m_l_draw k_l_draw b_l_draw .nil aI (@ac _ _ _ _ _ (pv 1) (@ac _ _ _ _ _ ak ag (ab rfl)) (ab rfl)) (by decide) (ab rfl) (am rfl)) (fun _ _=>rfl)) (aj rfl) (.inr rfl)) (@ah _ _ _ _ _ (@aA _ _ 7 _ _ _ _ bY.nd rfl (Or.inl rfl) (@aO _ _ _ _ _ _ _ _ bG (@aO _ _ _ _ _ _ _ _ dk ak (pv 6)) ak) (aj rfl) (.inr rfl)) (@ah _ _ _ _ _ (@aA _ _ 8 _ _ _ _ bY.nd rfl (Or.inl rfl) (@ay _ _ _ _ _ _ _ aK (@bm _ _ _ _ (@ac _ _ _ _ _ ak (@ac _ _ _ _ _ (@br _ _ _ _ _ _ _ _ _ (sN rfl) rfl TMx zL (@ac _ _ _ _ _ ak (@ac _ _ _ _ _ (@br _ _ _ _ _ _ _ _ _ (sZ rfl) rfl TMn zq (@ac _ _ _ _ _ ak (@ac _ _ _ _ _ (@aO _ _ _ _ _ _ _ _ bG (@aO _ _ _ _ _ _ _ _ mr (pv 7) ak) (@aB _ _ _ _ _ _ _ _ _ _ _ _ _ _ _ _ G_l_draw (hr.mono (by omega)) rfl m_l_draw k_l_draw b_l_draw .nil aI (@ac _ _ _ _ _ (pv 1) (@ac _ _ _ _ _ ak ag (ab rfl)) (ab rfl)) (by decide) (ab rfl) (am rfl))) ag (ab rfl)) (ab rfl)) (by decide) (by decide) (ab rfl) (am rfl)) ag (ab rfl)) (ab rfl)) (by decide) (by decide) (ab rfl) (am rfl)) ag (ab rfl)) (ab rfl))) (@aB _ _ _ _ _ _ _ _ _ _ _ _ _ _ _ _ G_l_draw (hr.mono (by omega)) rfl m_l_draw k_l_draw b_l_draw .nil aI (@ac _ _ _ _ _ (pv 1) (@ac _ _ _ _ _ ak ag (ab rfl)) (ab rfl)) (by decide) (ab rfl) (am rfl)) (fun _ _=>rfl)) (aj rfl) (.inr rfl)) (@ah _ _ _ _ _ (@aA _ _ 9 _ _ _ _ bY.nd rfl (Or.inl rfl) (@aB _ _ _ _ _ _ _ _ _ _ _ _ _ _ _ _ G_l_due (hr.mono (by omega)) rfl m_l_due k_l_due b_l_due .nil aI (@ac _ _ _ _ _ (@aB _ _ _ _ _ _ _ _ _ _ _ _ _ _ _ _ G_l_events (hr.mono (by omega)) rfl m_l_events k_l_events b_l_events .nil aI (@ac _ _ _ _ _ (pv 6) ag (ab rfl)) (by decide) (ab rfl) (am rfl)) (@ac _ _ _ _ _ (pv 8) (@ac _ _ _ _ _ (@aO _ _ _ _ _ _ _ _ bG (pv 3) (@aO _ _ _ _ _ _ _ _ dk (pv 6) (pv 2))) ag (ab rfl)) (ab rfl)) (ab rfl)) (by decide) (ab rfl) (am rfl)) (aj rfl) (.inr rfl)) (@ah _ _ _ _ _ (@aZ _ _ _ _ _ _ _ _ (@aC _ _ _ _ _ _ _ _ wT (@br _ _ _ _ _ _ _ _ _ (bR hr.units hr.gd) rfl T.repr gE (@ac _ _ _ _ _ (@aB _ _ _ _ _ _ _ _ _ _ _ _ _ _ _ _ G_run (hr.mono (by omega)) rfl m_run k_run b_run .nil aI (@ac _ _ _ _ _ (pv 4) (@ac _ _ _ _ _ ao (@ac _ _ _ _ _ (@ar _ _ _ _ _ (@ac _ _ _ _ _ (pv 6) ag (ab rfl))) (@ac _ _ _ _ _ (pv 8) ag (ab rfl)) (ab rfl)) (ab rfl)) (ab rfl)) (by decide) (ab rfl) (am rfl)) ag (ab rfl)) (by decide) (by decide) (ab rfl) (am rfl)) (@br _ _ _ _ _ _ _ _ _ (bR hr.units hr.gd) rfl T.repr gE (@ac _ _ _ _ _ (pv 9) ag (ab rfl)) (by decide) (by decide) (ab rfl) (am rfl)) (aQ _)) (@ap _ _ _ (@aP _ _ _ _ lV)) aM) (@ah _ _ _ _ _ (@aA _ _ 10 _ _ _ _ bY.nd rfl (Or.inl rfl) (@aO _ _ _ _ _ _ _ _ jJ (@aO _ _ _ _ _ _ _ _ jJ (@bm _ _ _ _ (@ac _ _ _ _ _ (@ar _ _ _ _ _ (@ac _ _ _ _ _ ao (@ac _ _ _ _ _ ao (@ac _ _ _ _ _ ak ag (ab rfl)) (ab rfl)) (ab rfl))) ag (ab rfl))) (@aB _ _ _ _ _ _ _ _ _ _ _ _ _ _ _ _ G_l_events (hr.mono (by omega)) rfl m_l_events k_l_events b_l_events .nil aI (@ac _ _ _ _ _ (pv 6) ag (ab rfl)) (by decide) (ab rfl) (am rfl))) (@bm _ _ _ _ (@ac _ _ _ _ _ (@ar _ _ _ _ _ (@ac _ _ _ _ _ ao (@ac _ _ _ _ _ ao (@ac _ _ _ _ _ ak ag (ab rfl)) (ab rfl)) (ab rfl))) ag (ab rfl)))) (aj rfl) (.inr rfl)) (@ap _ _ _ (@aZ _ _ _ _ _ _ _ _ (@aC _ _ _ _ _ _ _ _ wT (@br _ _ _ _ _ _ _ _ _ (bR hr.units hr.gd) rfl T.repr gE (@ac _ _ _ _ _ (@aB _ _ _ _ _ _ _ _ _ _ _ _ _ _ _ _ G_run (hr.mono (by omega)) rfl m_run k_run b_run .nil aI (@ac _ _ _ _ _ (pv 4) (@ac _ _ _ _ _ ao (@ac _ _ _ _ _ (@ar _ _ _ _ _ (@ac _ _ _ _ _ (pv 6) ag (ab rfl))) (@ac _ _ _ _ _ (pv 8) ag (ab rfl)) (ab rfl)) (ab rfl)) (ab rfl)) (by decide) (ab rfl) (am rfl)) ag (ab rfl)) (by decide) (by decide) (ab rfl) (am rfl)) (@br _ _ _ _ _ _ _ _ _ (bR hr.units hr.gd) rfl T.repr gE (@ac _ _ _ _ _ (@aB _ _ _ _ _ _ _ _ _ _ _ _ _ _ _ _ G_l_due (hr.mono (by omega)) rfl m_l_due k_l_due b_l_due .nil aI (@ac _ _ _ _ _ (pv 10) (@ac _ _ _ _ _ (pv 8) (@ac _ _ _ _ _ (@aO _ _ _ _ _ _ _ _ bG (pv 3) (@aO _ _ _ _ _ _ _ _ dk (pv 6) (pv 2))) ag (ab rfl)) (ab rfl)) (ab rfl)) (by decide) (ab rfl) (am rfl)) ag (ab rfl)) (by decide) (by decide) (ab rfl) (am rfl)) (aQ _)) (@ap _ _ _ (@aP _ _ _ _ lV)) aM)))))))) (fun _=>rfl)) (@ah _ _ _ _ _ (@aA _ _ 8 _ _ _ _ bY.nd rfl (Or.inl rfl) (@ay _ _ _ _ _ _ _ aK (@bm _ _ _ _ (@ac _ _ _ _ _ ak (@ac _ _ _ _ _ ak (@ac _ _ _ _ _ ak ag (ab rfl)) (ab rfl)) (ab rfl))) (@aB _ _ _ _ _ _ _ _ _ _ _ _ _ _ _ _ G_l_draw (hr.mono (by omega)) rfl m_l_draw k_l_draw b_l_draw .nil aI (@ac _ _ _ _ _ (pv 1) (@ac _ _ _ _ _ ak ag (ab rfl)) (ab rfl)) (by decide) (ab rfl) (am rfl)) (fun _ _=>rfl)) (aj rfl) (.inr rfl)) (@ah _ _ _ _ _ (@aA _ _ 9 _ _ _ _ bY.nd rfl (Or.inl rfl) (@ar _ _ _ _ _ (@ac _ _ _ _ _ (@ar _ _ _ _ _ (@ac _ _ _ _ _ ao ag (ab rfl))) (@ac _ _ _ _ _ (@oA _ _ _ _ _ _ _ _ _ _ rC (@bm _ _ _ _ (@ac _ _ _ _ _ (@ar _ _ _ _ _ (@ac _ _ _ _ _ ao (@ac _ _ _ _ _ ao (@ac _ _ _ _ _ ak ag (ab rfl)) (ab rfl)) (ab rfl))) ag (ab rfl))) rA (rk (pv 8))) ag (ab rfl)) (ab rfl))) (aj rfl) (.inr rfl)) (@ap _ _ _ (@aP _ _ _ _ (@hW _ _ _ _ _ _ _ _ bD (@br _ _ _ _ _ _ _ _ _ (bR hr.units hr.gd) rfl T.repr gE (@ac _ _ _ _ _ (@aB _ _ _ _ _ _ _ _ _ _ _ _ _ _ _ _ G_run (hr.mono (by omega)) rfl m_run k_run b_run .nil aI (@ac _ _ _ _ _ (pv 4) (@ac _ _ _ _ _ ao (@ac _ _ _ _ _ (@ar _ _ _ _ _ ag) (@ac _ _ _ _ _ (pv 8) ag (ab rfl)) (ab rfl)) (ab rfl)) (ab rfl)) (by decide) (ab rfl) (am rfl)) ag (ab rfl)) (by decide) (by decide) (ab rfl) (am rfl)) (@br _ _ _ _ _ _ _ _ _ (bR hr.units hr.gd) rfl T.repr gE (@ac _ _ _ _ _ (pv 9) ag (ab rfl)) (by decide) (by decide) (ab rfl) (am rfl)) (aQ _)))))))))),?_⟩
 refine ⟨_,rfl,a,ns,rfl,hS,fun fp H1 g1 n1 f1=>?_⟩
 refine ⟨_,rfl,fp,19,0,rfl,f1,by decide,by decide,by decide,fun v1 H2 a1 b1 x2 f2=>?_⟩
 refine ⟨_,_,rfl,rfl,_,rfl,fp,100,1,rfl,f2,by decide,by decide,by decide,fun last H3 a2' b2' x3 f3=>?_⟩
 refine ⟨.int (v1 - 9),.int last,rfl,?_⟩
 obtain ⟨more,em⟩:∃ more,more=v1 - 9:=⟨_,rfl⟩
 have hm0:-9≤more:=by omega
 have hm1:more≤9:=by omega
 rw [← em]
 refine ⟨_,rfl,_,rfl,more,last,rfl,fun pgv H5 g5 d5=>?_⟩
 have f5:=f3.same g5
 refine ⟨2,rfl,by decide,by decide,sS (n:=2) (fun i σ H'=>∃ m5 m6 m7 m8 m9 m10 j,σ=[some (.ref a),some (.ref fp),some (.int more),some (.int last),some pgv,m5,m6,m7,m8,m9,m10]∧Fd H' fp j∧j≤2+5*i∧DT K H' pgv (pgD (eC more last))) ⟨_,_,_,_,_,_,2,rfl,f5,by omega,d5⟩ (fun i0 σ H' hi pv=>?_) (fun σ H' pv=>?_)⟩
 ·obtain ⟨m5,m6,m7,m8,m9,m10,j,rfl,fj,hj,dp⟩:=pv
  refine ⟨_,rfl,fp,141,j,rfl,fj,by omega,by decide,by decide,fun d1 Ha a1 b1 xa fa=>?_⟩
  refine ⟨_,rfl,fp,9,j+1,rfl,fa,by omega,by decide,by decide,fun d2 Hb a2 b2 xb fb=>?_⟩
  refine ⟨(by show 2≤sizeLine; decide),fun l0 hl0=>?_⟩
  have sl0:=ae hl0 (.lst [.int d1,.int d2])
  have nl0:=fb.ne hl0
  have fb':=fb.same sl0
  refine ⟨_,rfl,fp,2,j+2,rfl,fb',by omega,by decide,by decide,fun d3 Hc a3 b3 xc fc=>?_⟩
  obtain ⟨n,⟨hn0,hn1⟩,hat⟩:=wW a3 b3 (fun n=>0≤n∧n≤140) (x:=d1) (y:=d2) ⟨a1,by omega⟩ ⟨a2,by omega⟩
  refine ⟨l0,_,_,_,rfl,rfl,SqL.of (xc _ _ nl0 ad),hat,?_⟩
  obtain ⟨n,rfl⟩:=Int.eq_ofNat_of_zero_le hn0
  have dc:=(((dp.mono (fj.tk xa)).mono (fa.tk xb)).mono (aa sl0)).mono (fb'.tk xc)
  refine ⟨_,rfl,_,_,rfl,rfl,lc (by decide) (by decide),_,_,rfl,rfl,?_⟩
  refine ⟨_,rfl,_,_,rfl,rfl,_,rfl,fp,5,j+3,rfl,fc,by omega,by decide,by decide,fun d4 Hd a4 b4 xd fd=>?_⟩
  refine ⟨_,_,rfl,rfl,_,_,rfl,_,_,rfl,(by show 2≤sizeLine; decide),fun l1 hl1=>?_⟩
  generalize hmv:(if (if 3*(n:Int)+2 - 2+d4<400 then 3*(n:Int)+2 - 2+d4 else 400) > 0 then (if 3*(n:Int)+2 - 2+d4<400 then 3*(n:Int)+2 - 2+d4 else 400) else 0)=mv at hl1 ⊢
  have hmv0:0≤mv∧mv≤400:=by rw [← hmv]; split<;>split<;>omega
  have sl1:=ae hl1 (.lst [.int 400,.int mv])
  have nl1:=fd.ne hl1
  have fd':=fd.same sl1
  refine ⟨_,rfl,fp,2,j+4,rfl,fd',by omega,by decide,by decide,fun d5 He a5 b5 xe fe=>?_⟩
  obtain ⟨t,⟨ht0,ht1⟩,hat1⟩:=wW a5 b5 (fun n=>0≤n∧n≤400) (x:=400) (y:=mv) ⟨by decide,by decide⟩ hmv0
  refine ⟨l1,_,_,_,rfl,rfl,SqL.of (xe _ _ nl1 ad),hat1,?_⟩
  obtain ⟨t,rfl⟩:=Int.eq_ofNat_of_zero_le ht0
  have de:=((dc.mono (fc.tk xd)).mono (aa sl1)).mono (fd'.tk xe)
  obtain ⟨hv0,hv1⟩:=xQ a2' b2' hm0 hm1 (show n≤140 by omega)
  refine ⟨_,rfl,n,rfl,by omega,fun el xs Hf gf nf hel pel=>?_⟩
  refine ⟨_,rfl,_,rfl,_,rfl,_,rfl,_,_,rfl,rfl,lc (by show -(2 ^ 64)<(n:Int); omega) (by show (n:Int)<2 ^ 64; omega),_,_,rfl,rfl,?_⟩
  refine ⟨el,_,evs n,xs,t,rfl,hel,pel,by rw [hV]; omega,fun s hs=>rO s (mY n s hs),fun pd ev l ys Hg gg hpd hev hly pys=>?_⟩
  have dg:=de.mono (aa (gf.trans gg))
  have fg:=fe.same (gf.trans gg)
  obtain ⟨nn,st',hr1,hf1,hs1⟩:=ut (more:=more) (last:=last) n t (by omega)
  have dl:=gZ (evs n) t []
  rw [hV] at dl
  simp only [List.length_nil] at dl
  obtain ⟨q1,q2,q3,q4⟩:=tU (b:=(due (evs n) t []).1) hv0 hv1 (rM (mY n) t) (by omega)
  refine ⟨_,rfl,_,rfl,(by show 1≤sizeLine; decide),fun gv hgv=>?_⟩
  have sg:=ae hgv (.tup [.int (n:Int)])
  refine ⟨_,rfl,(more,last),pgv, "deep",gv,(t:Int),bh more last,_,[.int n],nn,st',_,rfl,dg.mono (aa sg),rfl,qy,ad,.cons (.int _) .nil,rfl,hr1,hf1,fun p2 ev2 l2 as Hh gh h1 h2 h3 h4=>?_⟩
  rw [hs1] at h4
  have sh:=sg.trans gh
  refine ⟨_,_,rfl,fQ h1 h2 h3 (eW h4),q1,q2,q3,q4,_,rfl,_,_,rfl,fQ (sh _ _ hpd) (hev.mono (aa sh)) (sh _ _ hly) (bo sh pys),q1,q2,q3,q4,rfl,_,rfl,?_⟩
  refine aY (fun c=>absurd c (by simp)) (fun c=>?_)
  have dh:=dg.mono (aa sh)
  have fh:=fg.same sh
  refine ⟨(by show 3≤sizeLine; decide),fun r1 hr1=>?_⟩
  have t1:=ae hr1 (.tup (au.vs (.line "first" 0)))
  refine ⟨(by show 1≤sizeLine; decide),fun r2 hr2=>?_⟩
  have t2:=ae hr2 (.lst [.ref r1])
  have C2:Paired (cI _) [V.ref r1] [au.line "first" 0]:=.cons ⟨r1,rfl,t2 _ _ ad⟩ .nil
  refine ⟨_,rfl,n,rfl,by omega,fun el2 xs2 Hi gi ni hel2 pel2=>?_⟩
  have lx2:=Paired.length pel2
  rw [hV] at lx2
  refine ⟨r2,el2,_,_,rfl,rfl,gi _ _ ad,hel2,by rw [lx2,sizeLine_eq]; simp only [List.length_cons,List.length_nil]; omega,fun r3 hr3=>?_⟩
  have t3:=ae hr3 (.lst ([.ref r1]++xs2))
  have C3:=bo t3 (cu pel2 (bo gi C2))
  refine ⟨(by show 3≤sizeLine; decide),fun r4 hr4=>?_⟩
  have t4:=ae hr4 (.tup (au.vs (.line "first" 1)))
  refine ⟨(by show 1≤sizeLine; decide),fun r5 hr5=>?_⟩
  have t5:=ae hr5 (.lst [.ref r4])
  have C5:Paired (cI _) [V.ref r4] [au.line "first" 1]:=.cons ⟨r4,rfl,t5 _ _ ad⟩ .nil
  refine ⟨r3,r5,_,_,rfl,rfl,(t4.trans t5) _ _ ad,ad,by rw [List.length_append,lx2,sizeLine_eq]; simp only [List.length_cons,List.length_nil]; omega,fun r6 hr6=>?_⟩
  have t6:=ae hr6 (.lst (([.ref r1]++xs2)++[.ref r4]))
  have C6:=bo t6 (cu C5 (bo (t4.trans t5) C3))
  have T6:=((((t1.trans t2).trans gi).trans t3).trans (t4.trans t5)).trans t6
  have d6:=dh.mono (aa T6)
  have f6:=fh.same T6
  refine ⟨_,rfl,_,rfl,(by show 1≤sizeLine; decide),fun gv2 hgv2=>?_⟩
  have sg2:=ae hgv2 (.tup [.int (n:Int)])
  obtain ⟨nn2,st2,hr2',hf2,hs2⟩:=sW (more:=more) (last:=last) n t (by omega)
  have es2:∀ s∈([.line "first" 0]++evs n++[.line "first" 1]:List au),s∈SPS:=fun s hs=>by
   rcases List.mem_append.mp hs with hs | hs
   ·rcases List.mem_append.mp hs with hs | hs
    ·simp only [List.mem_cons,List.not_mem_nil,or_false] at hs
     subst hs
     simp [SPS]
    ·exact mY n s hs
   ·simp only [List.mem_cons,List.not_mem_nil,or_false] at hs
    subst hs
    simp [SPS]
  have len2:([.line "first" 0]++evs n++[.line "first" 1]:List au).length=4*n+5:=by
   rw [List.length_append,List.length_append,hV]
   simp only [List.length_cons,List.length_nil]
   omega
  generalize ([.line "first" 0]++evs n++[.line "first" 1]:List au)=es at es2 len2 C6 hs2 hf2 hr2'
  have dl2:=gZ es t []
  rw [len2] at dl2
  simp only [List.length_nil] at dl2
  obtain ⟨w1,w2,w3,w4⟩:=tU (b:=(due es t []).1) hv0 hv1 (rM es2 t) (by omega)
  refine ⟨_,rfl,(more,last),pgv, "first",gv2,(t:Int),bu,_,[.int n],nn2,st2,_,rfl,d6.mono (aa sg2),rfl,wk,ad,.cons (.int _) .nil,rfl,hr2',hf2,fun p3 ev3 l3 as3 Hj gj k1 k2 k3 k4=>?_⟩
  rw [hs2] at k4
  have sj:=sg2.trans gj
  refine ⟨_,_,rfl,fQ k1 k2 k3 (eW k4),w1,w2,w3,w4,?_⟩
  refine ⟨_,rfl,_,rfl,_,rfl,_,rfl,_,rfl,_,_,rfl,rfl,lc (by show -(2 ^ 64)<(n:Int); omega) (by show (n:Int)<2 ^ 64; omega),_,_,rfl,rfl,?_⟩
  refine ⟨r6,_,es,_,t,rfl,sj _ _ ad,bo sj C6,by omega,fun s hs=>rO s (es2 s hs),fun pd4 ev4 l4 ys4 Hk gk hpd4 hev4 hly4 pys4=>?_⟩
  refine ⟨_,_,rfl,fQ hpd4 hev4 hly4 pys4,w1,w2,w3,w4,rfl,_,rfl,?_⟩
  refine aY (fun c=>absurd c (by simp)) (fun c=>?_)
  exact ⟨_,_,_,_,_,_,j+5,rfl,f6.same (sj.trans gk),by omega,d6.mono (aa (sj.trans gk))⟩
 ·obtain ⟨m5,m6,m7,m8,m9,m10,j,rfl,fj,hj,dp⟩:=pv
  refine ⟨(by show 3≤sizeLine; decide),fun l0 hl0=>?_⟩
  have s0:=ae hl0 (.lst [.int 0,.int 1,.int 400])
  have nl0:=fj.ne hl0
  have fj':=fj.same s0
  refine ⟨_,rfl,fp,3,j,rfl,fj',by omega,by decide,by decide,fun d1 Ha a1 b1 xa fa=>?_⟩
  obtain ⟨t,ht,hat⟩:∃ t:Nat,t≤400∧atI [V.int 0,.int 1,.int 400] d1=some (.int (t:Int)):=by
   obtain rfl | rfl | rfl:d1=0∨d1=1∨d1=2:=by omega
   ·exact ⟨0,by decide,rfl⟩
   ·exact ⟨1,by decide,rfl⟩
   ·exact ⟨400,by decide,rfl⟩
  refine ⟨l0,_,_,_,rfl,rfl,SqL.of (xa _ _ nl0 ad),hat,?_⟩
  have da:=(dp.mono (aa s0)).mono (fj'.tk xa)
  refine ⟨(by show 1≤sizeLine; decide),fun q1 hq1=>?_⟩
  have t1:=ae hq1 (.tup [.str "dry"])
  refine ⟨(by show 3≤sizeLine; decide),fun q2 hq2=>?_⟩
  have t2:=ae hq2 (.tup (au.vs (.line "on" 0)))
  refine ⟨(by show 1≤sizeLine; decide),fun q3 hq3=>?_⟩
  have t3:=ae hq3 (.lst [.ref q2])
  refine ⟨_,rfl,_,rfl,q3,_,rfl,SqL.of ad,fun q4 hq4=>?_⟩
  have ecut:ik [V.ref q2] none (some (t:Int))=if t=0 then [] else [V.ref q2]:=by
   unfold ik
   rw [HT.sIx_none,HT.sIx_nat,List.drop_zero,Nat.sub_zero]
   by_cases h:t=0
   ·subst h; rfl
   ·rw [if_neg h,Nat.min_eq_right (by simp only [List.length_cons,List.length_nil]; omega),List.take_length]
  have t4:=ae hq4 (.lst (ik [V.ref q2] none (some (t:Int))))
  refine ⟨(by show 2≤sizeLine; decide),fun q5 hq5=>?_⟩
  have t5:=ae hq5 (.tup [.ref q1,.ref q4])
  have T5:=(((t1.trans t2).trans t3).trans t4).trans t5
  refine ⟨_,rfl,(by show 0≤sizeLine; decide),fun gv hgv=>?_⟩
  have sg:=ae hgv (.tup [])
  obtain ⟨nn,st',hr1,hf1,hs1⟩:=tT (more:=more) (last:=last) t (tg:=.non) (bs:=[]) (ss:=[]) (.inl rfl) (by simp only [List.length_nil]; omega) (fun _ z=>by cases z)
  refine ⟨_,rfl,(more,last),pgv, "on",gv,(t:Int),onF,_,[],nn,st',_,rfl,da.mono (aa (T5.trans sg)),rfl,zE,ad,.nil,rfl,hr1,hf1,fun p2 ev2 l2 as Hh gh h1 h2 h3 h4=>?_⟩
  rw [hs1] at h4
  have sh:=sg.trans gh
  have hss:∀ s∈(if t=0 then [] else [au.line "on" 0]),s∈SPS:=fun s hs=>by
   split at hs
   ·cases hs
   ·simp only [List.mem_cons,List.not_mem_nil,or_false] at hs
    subst hs
    simp [SPS]
  have lss:(if t=0 then [] else [au.line "on" 0]).length≤1000:=by split<;>simp
  obtain ⟨w1,w2,w3,w4⟩:=tU (b:=false) (v:=0) (by decide) (by decide) hss lss
  have hq4':=(t5.trans sh) _ _ (show (upd _ q4 _) q4=_ from ad)
  have C4:Paired (cI Hh) (ik [V.ref q2] none (some (t:Int))) (if t=0 then [] else [au.line "on" 0]):=by
   rw [ecut]
   split
   ·exact .nil
   ·exact .cons ⟨q2,rfl,(((t3.trans t4).trans t5).trans sh) _ _ ad⟩ .nil
  refine ⟨_,_,rfl,fQ h1 h2 h3 (eW h4),w1,w2,w3,w4,_,rfl,_,qu (ko false 0) _,rfl,fQ (sh _ _ ad) (.tup (.inl ((((t2.trans t3).trans t4).trans (t5.trans sh)) _ _ ad)) (.cons (.str _) .nil)) hq4' C4,w1,w2,w3,w4,rfl,?_⟩
  rw [show ko false 0=PyData.tuple [PyData.str "dry"] from rfl,decide_eq_true rfl]
  exact q _
end
end K6
namespace HD
open PySem PySem.W
abbrev pE:Program:=PySem.Challenge.pw_everyfork_k20_deep_calls
abbrev top:Nat→Stmt:=K6.top
abbrev sx:String→Str:=Str.ofString
noncomputable abbrev de (P:Params) (x:Str) (t:Nat) (v:Value):DictEntry:=⟨PyData.keyHash P x,.str x t,v⟩
abbrev fd (i:Nat) (x qual:Str) (dV kV doc pm:Value) (an:Option Addr) (cdv ct:Value):FuncData:=fnOf x qual (L2.defArgs (top i)) (L2.defBody (top i)) (L2.defScope (top i)) dV kV doc pm an cdv ct
abbrev fd0 (i:Nat) (x qual:Str) (dV kV doc pm:Value) (an:Option Addr) (cdv ct:Value):FuncData:={ fd i x qual dV kV doc pm an cdv ct with globals:=0 }
abbrev gm (i j:Nat):Stmt:=match top i with | .ClassDef (body:=b) ..=>b.getD j (.Pass ⟨0,0,0,0⟩) | s=>s
abbrev fdm (i j:Nat) (x qual:Str) (dV kV doc pm:Value) (an:Option Addr) (cdv ct:Value):FuncData:=fnOf x qual (L2.defArgs (gm i j)) (L2.defBody (gm i j)) (L2.defScope (gm i j)) dV kV doc pm an cdv ct
abbrev kn (i j:Nat) (x qual:Str) (dV kV doc pm:Value) (an:Option Addr) (cdv ct:Value):FuncData:={ fdm i j x qual dV kV doc pm an cdv ct with globals:=0 }
noncomputable abbrev st (x:String) (t:Nat):Value:=.str (sx x) t
abbrev i0 (i:Int):Value:=.int i 0
noncomputable abbrev tu (l:List Value):Obj:=⟨.type "tuple",none,.seq ⟨l⟩ 0,#[]⟩
noncomputable abbrev co (l:List Value):Obj:=⟨.type "code",none,.fields ⟨l⟩,#[]⟩
noncomputable abbrev dr (P:Params) (x:String) (t r:Nat):DictEntry:=de P (sx x) t (.ref r)
noncomputable abbrev fu (i:Nat) (x q m:String) (t c:Nat):Obj:=⟨.type "function",none,.func (fd i (sx x) (sx q) .none .none .none (st m t) none (.ref c) .none),#[]⟩
noncomputable abbrev fv (i:Nat) (x m:String) (t c:Nat):Obj:=fu i x x m t c
noncomputable abbrev fw (i:Nat) (x:String):Obj:=⟨.none,none,.func (fd0 i (sx x) (sx x) .none .none .none .none none .none .none),#[]⟩
noncomputable section
def m0:Nat:=11
def ann:Option Value:=some (.ref 6)
def env:Env:={ scope:=pE.main.scope,locals:=mainNs,globals:=mainNs,cells:=[],code:=.ref 13,frame:=some 14 }
abbrev cE:Code:=.body (behindTheImports pE) env
abbrev B:List Frame:=[topFrame ⟨0,0,0,0⟩]
def s0 (w:World) (os:OsState):Shared:=⟨boot_heap w.params,Array.mk [],boot_drawn,boot_toks,os⟩
def af:Obj:=tu []
def aq:Obj:=⟨.none,none,.fields #[],#[]⟩
def oh:Obj:=co [st "<module>" 182,st "<module>" 183,st "/claim/cut.py" 184,i0 1,i0 0,i0 0,i0 0,i0 0,.ref 11,.bool false,i0 181,.ref 12,.none,.none,.none,.none,i0 185,i0 1,st "/claim/cut.py" 186]
def ox:Obj:=⟨.type "frame",none,.plain,#[some (.ref 13),some (.ref 3),some (.ref 3),none,some (st "__main__" 164),none,some (.ref 0)]⟩
def ha (P:Params):Heap:=⟨⟨[(boot_o_0 P),(boot_o_1 P),(boot_o_2 P),(boot_o_3 P),(boot_o_4 P),(boot_o_5 P),(boot_o_6 P),(boot_o_7 P),(boot_o_8 P),(boot_o_9 P),(boot_o_10 P),af,aq,oh,ox]⟩,{ :Life }⟩
def sa (w:World) (os:OsState):Shared:=⟨ha w.params,#[],⟨0,0,0,0⟩,187,os⟩
theorem zQ:∀ (w:World) (os:OsState),topGo treeTable pE w m0 ann 12 (s0 w os) (topStub pE)=some (sa w os,Thread.mk (denote treeTable cE) cE ⟨0,0,0,0⟩ B):=fun w os=>by kernel_rfl
def tb (P:Params):BT:=(.node (boot_o_0 P) (.node (boot_o_1 P) (.node (boot_o_3 P) (.node (boot_o_7 P) .nil .nil) (.node af .nil .nil)) (.node (boot_o_5 P) (.node (boot_o_9 P) .nil .nil) (.node oh .nil .nil))) (.node (boot_o_2 P) (.node (boot_o_4 P) (.node (boot_o_8 P) .nil .nil) (.node aq .nil .nil)) (.node (boot_o_6 P) (.node (boot_o_10 P) .nil .nil) (.node ox .nil .nil))))
def sb (w:World) (os:OsState):SharedT:=⟨tb w.params,15,{ :Life },#[],⟨0,0,0,0⟩,187,os⟩
theorem ww:∀ (w:World) (os:OsState),segRun treeTable pE w m0 ann 1 1 (sa w os) (blockOf (behindTheImports pE) env cE ⟨0,0,0,0⟩ B)=some (.next,(sb w os).abs,cE,⟨0,0,0,0⟩):=fun w os=>by kernel_rfl
def Ao (P:Params):Obj:=⟨.type "dict",none,.dict #[de P (sx "__name__") 165 (st "everyfork.shapes" 243),de P (sx "__doc__") 166 .none,de P (sx "__package__") 167 .none,de P (sx "__loader__") 168 (.builtin "__main__.__loader__#opaque"),de P (sx "__spec__") 169 .none,dr P "__annotations__" 170 6,dr P "__builtins__" 171 4,de P (sx "__file__") 173 (st "/claim/cut.py" 172),de P (sx "__cached__") 174 .none,dr P "is_whole" 195 21,dr P "is_between" 204 28,dr P "is_sign_number" 211 35,dr P "is_text" 217 40,dr P "fields_of" 226 47,dr P "field_kinds" 232 52,dr P "field_kind" 242 59] 16,#[]⟩
def wS:Obj:=⟨.none,none,.fields #[i0 2,i0 0,.ref 20,i0 4,i0 0,.ref 27,i0 6,i0 0,.ref 34,i0 8,i0 0,.ref 39,i0 10,i0 0,.ref 46,i0 15,i0 0,.ref 51,i0 17,i0 0,.ref 58],#[]⟩
def iJ:Obj:=tu [st "thing" 192]
def lA:Obj:=fw 1 "is_whole"
def iT:Obj:=co [st "is_whole" 189,st "is_whole" 190,st "/claim/cut.py" 191,i0 2,i0 1,i0 0,i0 0,i0 3,.ref 15,.bool true,i0 181,.ref 16,.none,.ref 17,.ref 18,.ref 19,i0 193,i0 2,st "/claim/cut.py" 194]
def iy:Obj:=fv 1 "is_whole" "everyfork.kinds" 187 20
def ie:Obj:=tu [st "thing" 199,st "least" 200,st "most" 201]
def lM:Obj:=fw 2 "is_between"
def jn:Obj:=co [st "is_between" 196,st "is_between" 197,st "/claim/cut.py" 198,i0 4,i0 3,i0 0,i0 0,i0 3,.ref 22,.bool true,i0 181,.ref 23,.none,.ref 24,.ref 25,.ref 26,i0 202,i0 4,st "/claim/cut.py" 203]
def ji:Obj:=fv 2 "is_between" "everyfork.kinds" 187 27
def iI:Obj:=tu [st "number" 208]
def lJ:Obj:=fw 3 "is_sign_number"
def jU:Obj:=co [st "is_sign_number" 205,st "is_sign_number" 206,st "/claim/cut.py" 207,i0 6,i0 1,i0 0,i0 0,i0 3,.ref 29,.bool true,i0 181,.ref 30,.none,.ref 31,.ref 32,.ref 33,i0 209,i0 6,st "/claim/cut.py" 210]
def iY:Obj:=fv 3 "is_sign_number" "everyfork.kinds" 187 34
def lO:Obj:=fw 4 "is_text"
def iQ:Obj:=co [st "is_text" 212,st "is_text" 213,st "/claim/cut.py" 214,i0 8,i0 1,i0 0,i0 0,i0 3,.ref 36,.bool true,i0 181,.ref 37,.none,.none,.none,.ref 38,i0 215,i0 8,st "/claim/cut.py" 216]
def jM:Obj:=fv 4 "is_text" "everyfork.kinds" 187 39
def ke:Obj:=tu [st "program" 221,st "kind" 222,st "record" 223]
def kr:Obj:=fw 5 "fields_of"
def iq:Obj:=co [st "fields_of" 218,st "fields_of" 219,st "/claim/cut.py" 220,i0 10,i0 2,i0 0,i0 0,i0 3,.ref 41,.bool true,i0 181,.ref 42,.none,.ref 43,.ref 44,.ref 45,i0 224,i0 10,st "/claim/cut.py" 225]
def io:Obj:=fv 5 "fields_of" "everyfork.kinds" 187 46
def lu:Obj:=fw 6 "field_kinds"
def ia:Obj:=co [st "field_kinds" 227,st "field_kinds" 228,st "/claim/cut.py" 229,i0 15,i0 2,i0 0,i0 0,i0 3,.ref 48,.bool true,i0 181,.ref 49,.none,.none,.none,.ref 50,i0 230,i0 15,st "/claim/cut.py" 231]
def iN:Obj:=fv 6 "field_kinds" "everyfork.kinds" 187 51
def jz:Obj:=tu [st "program" 236,st "kind" 237,st "field" 238,st "pair" 239]
def lP:Obj:=fw 7 "field_kind"
def iR:Obj:=co [st "field_kind" 233,st "field_kind" 234,st "/claim/cut.py" 235,i0 17,i0 3,i0 0,i0 0,i0 3,.ref 53,.bool true,i0 181,.ref 54,.none,.ref 55,.ref 56,.ref 57,i0 240,i0 17,st "/claim/cut.py" 241]
def jc:Obj:=fv 7 "field_kind" "everyfork.kinds" 187 58
def t_0 (P:Params):BT:=(.node (boot_o_0 P) (.node (boot_o_1 P) (.node (Ao P) (.node (boot_o_7 P) (.node af (.node iI .nil .nil) (.node io .nil .nil)) (.node aq (.node iQ .nil .nil) (.node jz .nil .nil))) (.node af (.node lA (.node iY .nil .nil) (.node ia .nil .nil)) (.node jn (.node ke .nil .nil) (.node jc .nil .nil)))) (.node (boot_o_5 P) (.node (boot_o_9 P) (.node iJ (.node lJ .nil .nil) (.node aq .nil .nil)) (.node af (.node af .nil .nil) (.node lP .nil .nil))) (.node oh (.node iy (.node aq .nil .nil) (.node af .nil .nil)) (.node af (.node kr .nil .nil) .nil)))) (.node (boot_o_2 P) (.node (boot_o_4 P) (.node (boot_o_8 P) (.node aq (.node af .nil .nil) (.node af .nil .nil)) (.node ie (.node jM .nil .nil) (.node af .nil .nil))) (.node wS (.node iT (.node af .nil .nil) (.node iN .nil .nil)) (.node ji (.node af .nil .nil) .nil))) (.node (boot_o_6 P) (.node (boot_o_10 P) (.node af (.node jU .nil .nil) (.node lu .nil .nil)) (.node lM (.node aq .nil .nil) (.node iR .nil .nil))) (.node ox (.node af (.node lO .nil .nil) (.node aq .nil .nil)) (.node aq (.node iq .nil .nil) .nil)))))
def s_0 (w:World) (os:OsState):SharedT:=⟨t_0 w.params,60,{ :Life },#[],⟨0,0,0,0⟩,245,os⟩
def q0:List Stmt:=(pE.main.body.drop 0).take 9
theorem l_0:∀ (w:World) (os:OsState),segRunT treeTable pE w m0 ann 1 223 (sb w os) (piecesOf q0 env cE ⟨0,0,0,0⟩ B)=some (.next,s_0 w os,cE,⟨22,0,22,8⟩):=fun w os=>by kernel_rfl
def AC (P:Params):Obj:=⟨.type "dict",none,.dict #[de P (sx "__name__") 165 (st "everyfork.shapes" 243),de P (sx "__doc__") 166 .none,de P (sx "__package__") 167 .none,de P (sx "__loader__") 168 (.builtin "__main__.__loader__#opaque"),de P (sx "__spec__") 169 .none,dr P "__annotations__" 170 6,dr P "__builtins__" 171 4,de P (sx "__file__") 173 (st "/claim/cut.py" 172),de P (sx "__cached__") 174 .none,dr P "is_whole" 195 21,dr P "is_between" 204 28,dr P "is_sign_number" 211 35,dr P "is_text" 217 40,dr P "fields_of" 226 47,dr P "field_kinds" 232 52,dr P "field_kind" 242 59,dr P "SHAPES" 390 60,dr P "LISTED" 400 118,dr P "GOES_BY" 438 119] 19,#[]⟩
def lW (P:Params):Obj:=⟨.type "dict",none,.dict #[dr P "let" 245 62,dr P "say" 250 64,dr P "if" 255 66,dr P "while" 260 68,dr P "call" 265 70,dr P "give" 269 72,dr P "num" 274 74,dr P "text" 278 76,dr P "var" 282 78,dr P "of" 286 80,dr P "with" 291 82,dr P "new" 297 84,dr P "add" 301 86,dr P "sub" 307 88,dr P "times" 313 90,dr P "div" 318 92,dr P "rest" 323 94,dr P "len" 328 97,dr P "at" 332 99,dr P "rows" 337 101,dr P "put" 340 103,dr P "more" 346 105,dr P "signs" 351 107,dr P "less" 355 109,dr P "same" 360 111,dr P "and" 365 113,dr P "or" 370 115,dr P "not" 375 117] 28,#[]⟩
def lC:Obj:=tu [.int 2 248]
def ku:Obj:=tu [st "statement" 246,.int 3 247,.ref 61]
def lX:Obj:=tu [.int 2 253]
def kG:Obj:=tu [st "statement" 251,.int 3 252,.ref 63]
def lG:Obj:=tu [.int 1 258]
def lb:Obj:=tu [st "statement" 256,.int 4 257,.ref 65]
def ky:Obj:=tu [.int 1 263]
def lr:Obj:=tu [st "statement" 261,.int 3 262,.ref 67]
def kB:Obj:=tu [st "statement" 266,.int 4 267,.ref 69]
def lj:Obj:=tu [.int 1 272]
def lw:Obj:=tu [st "statement" 270,.int 2 271,.ref 71]
def ld:Obj:=tu [st "expression" 275,.int 2 276,.ref 73]
def kE:Obj:=tu [st "expression" 279,.int 2 280,.ref 75]
def lU:Obj:=tu [st "expression" 283,.int 2 284,.ref 77]
def lQ:Obj:=tu [.int 1 289]
def lS:Obj:=tu [st "expression" 287,.int 3 288,.ref 79]
def lY:Obj:=tu [.int 1 294,.int 3 295]
def lD:Obj:=tu [st "expression" 292,.int 4 293,.ref 81]
def lK:Obj:=tu [st "expression" 298,.int 3 299,.ref 83]
def kC:Obj:=tu [.int 1 304,.int 2 305]
def lR:Obj:=tu [st "expression" 302,.int 3 303,.ref 85]
def lB:Obj:=tu [.int 1 310,.int 2 311]
def kD:Obj:=tu [st "expression" 308,.int 3 309,.ref 87]
def lF:Obj:=tu [.int 2 316]
def kY:Obj:=tu [st "expression" 314,.int 3 315,.ref 89]
def lm:Obj:=tu [.int 1 321]
def kQ:Obj:=tu [st "expression" 319,.int 3 320,.ref 91]
def kJ:Obj:=tu [.int 1 326]
def kM:Obj:=tu [st "expression" 324,.int 3 325,.ref 93]
def oo (P:Params):Obj:=⟨.type "dict",none,.dict #[dr P "len" 328 97,dr P "at" 332 99,dr P "rows" 337 101,dr P "put" 340 103,dr P "more" 346 105,dr P "signs" 351 107,dr P "less" 355 109,dr P "same" 360 111,dr P "and" 365 113,dr P "or" 370 115,dr P "not" 375 117] 11,#[]⟩
def lI:Obj:=tu [.int 1 331]
def kT:Obj:=tu [st "expression" 329,.int 2 330,.ref 96]
def ll:Obj:=tu [.int 1 335,.int 2 336]
def kK:Obj:=tu [st "expression" 333,.int 3 334,.ref 98]
def gC:Obj:=tu [st "expression" 338,.int 2 339,.ref 100]
def fG:Obj:=tu [.int 1 343,.int 2 344,.int 3 345]
def fN:Obj:=tu [st "expression" 341,.int 4 342,.ref 102]
def fR:Obj:=tu [.int 1 349,.int 2 350]
def fK:Obj:=tu [st "expression" 347,.int 3 348,.ref 104]
def gA:Obj:=tu [.int 1 354]
def fH:Obj:=tu [st "expression" 352,.int 2 353,.ref 106]
def fT:Obj:=tu [.int 1 358,.int 2 359]
def ff:Obj:=tu [st "condition" 356,.int 3 357,.ref 108]
def fo:Obj:=tu [.int 1 363,.int 2 364]
def fk:Obj:=tu [st "condition" 361,.int 3 362,.ref 110]
def fY:Obj:=tu [.int 1 368,.int 2 369]
def fW:Obj:=tu [st "condition" 366,.int 3 367,.ref 112]
def gz:Obj:=tu [.int 1 373,.int 2 374]
def fM:Obj:=tu [st "condition" 371,.int 3 372,.ref 114]
def eZ:Obj:=tu [.int 1 378]
def fV:Obj:=tu [st "condition" 376,.int 2 377,.ref 116]
def gF (P:Params):Obj:=⟨.type "dict",none,.dict #[de P (sx "call") 391 (.int 3 392),de P (sx "new") 393 (.int 2 394),de P (sx "rows") 395 (.int 1 396)] 3,#[]⟩
def fJ (P:Params):Obj:=⟨.type "dict",none,.dict #[dr P "add" 401 121,dr P "sub" 405 123,dr P "times" 409 125,dr P "div" 412 127,dr P "rest" 415 129,dr P "put" 418 131,dr P "more" 423 133,dr P "signs" 427 135] 8,#[]⟩
def fI:Obj:=tu [st "num" 402,st "num" 403]
def gr:Obj:=tu [.ref 120,st "num" 404]
def gq:Obj:=tu [st "num" 406,st "num" 407]
def fq:Obj:=tu [.ref 122,st "num" 408]
def gJ:Obj:=tu [st "num" 410]
def fL:Obj:=tu [.ref 124,st "num" 411]
def gB:Obj:=tu [st "num" 413]
def gH:Obj:=tu [.ref 126,st "num" 414]
def fS:Obj:=tu [st "num" 416]
def fE:Obj:=tu [.ref 128,st "num" 417]
def fX:Obj:=tu [st "row" 419,st "num" 420,st "num" 421]
def fP:Obj:=tu [.ref 130,st "row" 422]
def eY:Obj:=tu [st "row" 424,st "num" 425]
def fU:Obj:=tu [.ref 132,st "row" 426]
def gu:Obj:=tu [st "text" 428]
def fm:Obj:=tu [.ref 134,st "row" 429]
def t_1 (P:Params):BT:=(.node (boot_o_0 P) (.node (boot_o_1 P) (.node (AC P) (.node (boot_o_7 P) (.node af (.node iI (.node lX (.node gH .nil .nil) .nil) (.node (oo P) .nil .nil)) (.node io (.node lQ .nil .nil) (.node fk .nil .nil))) (.node aq (.node iQ (.node lj (.node fm .nil .nil) .nil) (.node fN .nil .nil)) (.node jz (.node lB .nil .nil) (.node (fJ P) .nil .nil)))) (.node af (.node lA (.node iY (.node ky (.node fP .nil .nil) .nil) (.node kK .nil .nil)) (.node ia (.node af .nil .nil) (.node fM .nil .nil))) (.node jn (.node ke (.node af .nil .nil) (.node fH .nil .nil)) (.node jc (.node lm .nil .nil) (.node fq .nil .nil))))) (.node (boot_o_5 P) (.node (boot_o_9 P) (.node iJ (.node lJ (.node lG (.node fE .nil .nil) .nil) (.node kT .nil .nil)) (.node aq (.node lY .nil .nil) (.node fW .nil .nil))) (.node af (.node af (.node af .nil .nil) (.node fK .nil .nil)) (.node lP (.node lF .nil .nil) (.node gr .nil .nil)))) (.node oh (.node iy (.node aq (.node af (.node fU .nil .nil) .nil) (.node gC .nil .nil)) (.node af (.node kC .nil .nil) (.node fV .nil .nil))) (.node af (.node kr (.node af .nil .nil) (.node ff .nil .nil)) (.node lC (.node kJ .nil .nil) (.node fL .nil .nil)))))) (.node (boot_o_2 P) (.node (boot_o_4 P) (.node (boot_o_8 P) (.node aq (.node af (.node kG (.node fS .nil .nil) .nil) (.node lI .nil .nil)) (.node af (.node lS .nil .nil) (.node fY .nil .nil))) (.node ie (.node jM (.node lw .nil .nil) (.node fR .nil .nil)) (.node af (.node kD .nil .nil) (.node fI .nil .nil)))) (.node wS (.node iT (.node af (.node lr (.node eY .nil .nil) .nil) (.node af .nil .nil)) (.node iN (.node lK .nil .nil) (.node eZ .nil .nil))) (.node ji (.node af (.node kE .nil .nil) (.node fT .nil .nil)) (.node (lW P) (.node kQ .nil .nil) (.node gJ .nil .nil))))) (.node (boot_o_6 P) (.node (boot_o_10 P) (.node af (.node jU (.node lb (.node fX .nil .nil) .nil) (.node ll .nil .nil)) (.node lu (.node lD .nil .nil) (.node gz .nil .nil))) (.node lM (.node aq (.node ld .nil .nil) (.node gA .nil .nil)) (.node iR (.node kY .nil .nil) (.node gq .nil .nil)))) (.node ox (.node af (.node lO (.node kB (.node gu .nil .nil) .nil) (.node fG .nil .nil)) (.node aq (.node lR .nil .nil) (.node (gF P) .nil .nil))) (.node aq (.node iq (.node lU .nil .nil) (.node fo .nil .nil)) (.node ku (.node kM .nil .nil) (.node gB .nil .nil)))))))
def s_1 (w:World) (os:OsState):SharedT:=⟨t_1 w.params,136,{ :Life },#[],⟨0,0,0,0⟩,439,os⟩
def q1:List Stmt:=(pE.main.body.drop 9).take 3
theorem yY:∀ (v:World) (os:OsState),(fun w=>segRunT treeTable pE w m0 ann 1 907 (s_0 w os) (piecesOf q1 env cE ⟨22,0,22,8⟩ B)=some (.next,s_1 w os,cE,⟨25,0,25,7⟩)) (v.withFollow "special-get-raises" false):=fun v os=>by kernel_rfl
theorem zt:∀ (v:World) (os:OsState),(fun w=>segRunT treeTable pE w m0 ann 1 907 (s_0 w os) (piecesOf q1 env cE ⟨22,0,22,8⟩ B)=some (.next,s_1 w os,cE,⟨25,0,25,7⟩)) (v.withFollow "special-get-raises" true):=fun v os=>by kernel_rfl
theorem l_1:∀ (w:World) (os:OsState),segRunT treeTable pE w m0 ann 1 907 (s_0 w os) (piecesOf q1 env cE ⟨22,0,22,8⟩ B)=some (.next,s_1 w os,cE,⟨25,0,25,7⟩):=fun w os=>byRow2 "special-get-raises" (P:=fun w=>segRunT treeTable pE w m0 ann 1 907 (s_0 w os) (piecesOf q1 env cE ⟨22,0,22,8⟩ B)=some (.next,s_1 w os,cE,⟨25,0,25,7⟩)) (fun v=>yY v os) (fun v=>zt v os) w
def Ai (P:Params):Obj:=⟨.type "dict",none,.dict #[de P (sx "__name__") 165 (st "everyfork.values" 613),de P (sx "__doc__") 166 .none,de P (sx "__package__") 167 .none,de P (sx "__loader__") 168 (.builtin "__main__.__loader__#opaque"),de P (sx "__spec__") 169 .none,dr P "__annotations__" 170 6,dr P "__builtins__" 171 4,de P (sx "__file__") 173 (st "/claim/cut.py" 172),de P (sx "__cached__") 174 .none,dr P "is_whole" 195 21,dr P "is_between" 204 28,dr P "is_sign_number" 211 35,dr P "is_text" 217 40,dr P "fields_of" 226 47,dr P "field_kinds" 232 52,dr P "field_kind" 242 59,dr P "SHAPES" 390 60,dr P "LISTED" 400 118,dr P "GOES_BY" 438 119,de P (sx "MOST_NUMBER") 440 (.int 1000000 439),de P (sx "MOST_SIGNS") 442 (.int 40 441),de P (sx "MOST_IN_ROWS") 444 (.int 8 443),dr P "inner_of" 450 140,dr P "own_right" 458 147,dr P "named_kind" 466 154,dr P "record_kind" 476 161,dr P "kind_by" 482 166,dr P "kind_in" 494 173,dr P "function_of" 505 180,dr P "variable_kinds" 512 187,dr P "bodies_of" 519 194,dr P "lines_in" 530 201,dr P "within" 539 208,dr P "numbered" 550 215,dr P "numbered_bodies" 561 222,dr P "field_place" 569 227,dr P "of_record" 581 234,dr P "of_place" 591 241,dr P "of_numbers" 600 248,dr P "reckoned" 606 253,dr P "truth_of" 612 258] 41,#[]⟩
def xr:Obj:=⟨.none,none,.fields #[i0 2,i0 0,.ref 20,i0 4,i0 0,.ref 27,i0 6,i0 0,.ref 34,i0 8,i0 0,.ref 39,i0 10,i0 0,.ref 46,i0 15,i0 0,.ref 51,i0 17,i0 0,.ref 58,i0 29,i0 0,.ref 139,i0 34,i0 0,.ref 146,i0 43,i0 0,.ref 153,i0 45,i0 0,.ref 160,i0 52,i0 0,.ref 165,i0 67,i0 0,.ref 172,i0 76,i0 0,.ref 179,i0 81,i0 0,.ref 186,i0 83,i0 0,.ref 193,i0 89,i0 0,.ref 200,i0 98,i0 0,.ref 207,i0 103,i0 0,.ref 214,i0 110,i0 0,.ref 221,i0 118,i0 0,.ref 226,i0 120,i0 0,.ref 233,i0 126,i0 0,.ref 240,i0 134,i0 0,.ref 247,i0 145,i0 0,.ref 252,i0 170,i0 0,.ref 257],#[]⟩
def nz:Obj:=fw 15 "inner_of"
def jP:Obj:=co [st "inner_of" 445,st "inner_of" 446,st "/claim/cut.py" 447,i0 29,i0 1,i0 0,i0 0,i0 3,.ref 136,.bool true,i0 181,.ref 137,.none,.none,.none,.ref 138,i0 448,i0 29,st "/claim/cut.py" 449]
def jr:Obj:=fv 15 "inner_of" "everyfork.shapes" 243 139
def jV:Obj:=tu [st "e" 454,st "word" 455]
def md:Obj:=fw 16 "own_right"
def iA:Obj:=co [st "own_right" 451,st "own_right" 452,st "/claim/cut.py" 453,i0 34,i0 1,i0 0,i0 0,i0 3,.ref 141,.bool true,i0 181,.ref 142,.none,.ref 143,.ref 144,.ref 145,i0 456,i0 34,st "/claim/cut.py" 457]
def jo:Obj:=fv 16 "own_right" "everyfork.shapes" 243 146
def jE:Obj:=tu [st "kinds" 462,st "thing" 463]
def mn:Obj:=fw 17 "named_kind"
def jw:Obj:=co [st "named_kind" 459,st "named_kind" 460,st "/claim/cut.py" 461,i0 43,i0 2,i0 0,i0 0,i0 3,.ref 148,.bool true,i0 181,.ref 149,.none,.ref 150,.ref 151,.ref 152,i0 464,i0 43,st "/claim/cut.py" 465]
def jK:Obj:=fv 17 "named_kind" "everyfork.shapes" 243 153
def jk:Obj:=tu [st "program" 470,st "e" 471,st "inner" 472,st "wanted" 473]
def mH:Obj:=fw 18 "record_kind"
def iL:Obj:=co [st "record_kind" 467,st "record_kind" 468,st "/claim/cut.py" 469,i0 45,i0 3,i0 0,i0 0,i0 3,.ref 155,.bool true,i0 181,.ref 156,.none,.ref 157,.ref 158,.ref 159,i0 474,i0 45,st "/claim/cut.py" 475]
def ip:Obj:=fv 18 "record_kind" "everyfork.shapes" 243 160
def mE:Obj:=fw 19 "kind_by"
def je:Obj:=co [st "kind_by" 477,st "kind_by" 478,st "/claim/cut.py" 479,i0 52,i0 4,i0 0,i0 0,i0 3,.ref 162,.bool true,i0 181,.ref 163,.none,.none,.none,.ref 164,i0 480,i0 52,st "/claim/cut.py" 481]
def ix:Obj:=fv 19 "kind_by" "everyfork.shapes" 243 165
def jL:Obj:=tu [st "program" 486,st "kinds" 487,st "e" 488,st "inner" 489,st "one" 490,st "kind" 491]
def mh:Obj:=fw 20 "kind_in"
def jx:Obj:=co [st "kind_in" 483,st "kind_in" 484,st "/claim/cut.py" 485,i0 67,i0 3,i0 0,i0 0,i0 3,.ref 167,.bool true,i0 181,.ref 168,.none,.ref 169,.ref 170,.ref 171,i0 492,i0 67,st "/claim/cut.py" 493]
def kf:Obj:=fv 20 "kind_in" "everyfork.shapes" 243 172
def iO:Obj:=tu [st "program" 500,st "f" 501,st "function" 502]
def nb:Obj:=fw 22 "function_of"
def jZ:Obj:=co [st "function_of" 497,st "function_of" 498,st "/claim/cut.py" 499,i0 76,i0 2,i0 0,i0 0,i0 3,.ref 174,.bool true,i0 181,.ref 175,.none,.ref 176,.ref 177,.ref 178,i0 503,i0 76,st "/claim/cut.py" 504]
def jb:Obj:=fv 22 "function_of" "everyfork.programs" 495 179
def jR:Obj:=tu [st "function" 509]
def mW:Obj:=fw 23 "variable_kinds"
def jj:Obj:=co [st "variable_kinds" 506,st "variable_kinds" 507,st "/claim/cut.py" 508,i0 81,i0 1,i0 0,i0 0,i0 3,.ref 181,.bool true,i0 181,.ref 182,.none,.ref 183,.ref 184,.ref 185,i0 510,i0 81,st "/claim/cut.py" 511]
def jd:Obj:=fv 23 "variable_kinds" "everyfork.programs" 495 186
def iW:Obj:=tu [st "statement" 516]
def np:Obj:=fw 24 "bodies_of"
def iP:Obj:=co [st "bodies_of" 513,st "bodies_of" 514,st "/claim/cut.py" 515,i0 83,i0 1,i0 0,i0 0,i0 3,.ref 188,.bool true,i0 181,.ref 189,.none,.ref 190,.ref 191,.ref 192,i0 517,i0 83,st "/claim/cut.py" 518]
def kh:Obj:=fv 24 "bodies_of" "everyfork.programs" 495 193
def jB:Obj:=tu [st "body" 523,st "told" 524,st "waiting" 525,st "statement" 526,st "inner" 527]
def mI:Obj:=fw 25 "lines_in"
def iw:Obj:=co [st "lines_in" 520,st "lines_in" 521,st "/claim/cut.py" 522,i0 89,i0 1,i0 0,i0 0,i0 3,.ref 195,.bool true,i0 181,.ref 196,.none,.ref 197,.ref 198,.ref 199,i0 528,i0 89,st "/claim/cut.py" 529]
def kd:Obj:=fv 25 "lines_in" "everyfork.programs" 495 200
def jy:Obj:=tu [st "statement" 534,st "told" 535,st "body" 536]
def mi:Obj:=fw 26 "within"
def jp:Obj:=co [st "within" 531,st "within" 532,st "/claim/cut.py" 533,i0 98,i0 1,i0 0,i0 0,i0 3,.ref 202,.bool true,i0 181,.ref 203,.none,.ref 204,.ref 205,.ref 206,i0 537,i0 98,st "/claim/cut.py" 538]
def iZ:Obj:=fv 26 "within" "everyfork.programs" 495 207
def ir:Obj:=tu [st "body" 543,st "first" 544,st "told" 545,st "number" 546,st "statement" 547]
def mX:Obj:=fw 27 "numbered"
def jD:Obj:=co [st "numbered" 540,st "numbered" 541,st "/claim/cut.py" 542,i0 103,i0 2,i0 0,i0 0,i0 3,.ref 209,.bool true,i0 181,.ref 210,.none,.ref 211,.ref 212,.ref 213,i0 548,i0 103,st "/claim/cut.py" 549]
def jv:Obj:=fv 27 "numbered" "everyfork.programs" 495 214
def jq:Obj:=tu [st "k" 554,st "statement" 555,st "told" 556,st "first" 557,st "body" 558]
def mM:Obj:=fw 28 "numbered_bodies"
def jS:Obj:=co [st "numbered_bodies" 551,st "numbered_bodies" 552,st "/claim/cut.py" 553,i0 110,i0 2,i0 0,i0 0,i0 3,.ref 216,.bool true,i0 181,.ref 217,.none,.ref 218,.ref 219,.ref 220,i0 559,i0 110,st "/claim/cut.py" 560]
def jF:Obj:=fv 28 "numbered_bodies" "everyfork.programs" 495 221
def mz:Obj:=fw 30 "field_place"
def jh:Obj:=co [st "field_place" 564,st "field_place" 565,st "/claim/cut.py" 566,i0 118,i0 3,i0 0,i0 0,i0 3,.ref 223,.bool true,i0 181,.ref 224,.none,.none,.none,.ref 225,i0 567,i0 118,st "/claim/cut.py" 568]
def jO:Obj:=fv 30 "field_place" "everyfork.reckoning" 562 226
def hZ:Obj:=tu [st "program" 573,st "kinds" 574,st "e" 575,st "inner" 576,st "place" 577,st "record" 578]
def mV:Obj:=fw 31 "of_record"
def ib:Obj:=co [st "of_record" 570,st "of_record" 571,st "/claim/cut.py" 572,i0 120,i0 4,i0 0,i0 0,i0 3,.ref 228,.bool true,i0 181,.ref 229,.none,.ref 230,.ref 231,.ref 232,i0 579,i0 120,st "/claim/cut.py" 580]
def iu:Obj:=fv 31 "of_record" "everyfork.reckoning" 562 233
def iK:Obj:=tu [st "word" 585,st "inner" 586,st "place" 587,st "told" 588]
def mj:Obj:=fw 32 "of_place"
def js:Obj:=co [st "of_place" 582,st "of_place" 583,st "/claim/cut.py" 584,i0 126,i0 2,i0 0,i0 0,i0 3,.ref 235,.bool true,i0 181,.ref 236,.none,.ref 237,.ref 238,.ref 239,i0 589,i0 126,st "/claim/cut.py" 590]
def ic:Obj:=fv 32 "of_place" "everyfork.reckoning" 562 240
def jH:Obj:=tu [st "e" 595,st "inner" 596,st "word" 597]
def nc:Obj:=fw 33 "of_numbers"
def ii:Obj:=co [st "of_numbers" 592,st "of_numbers" 593,st "/claim/cut.py" 594,i0 134,i0 2,i0 0,i0 0,i0 3,.ref 242,.bool true,i0 181,.ref 243,.none,.ref 244,.ref 245,.ref 246,i0 598,i0 134,st "/claim/cut.py" 599]
def jC:Obj:=fv 33 "of_numbers" "everyfork.reckoning" 562 247
def mf:Obj:=fw 34 "reckoned"
def iX:Obj:=co [st "reckoned" 601,st "reckoned" 602,st "/claim/cut.py" 603,i0 145,i0 4,i0 0,i0 0,i0 3,.ref 249,.bool true,i0 181,.ref 250,.none,.none,.none,.ref 251,i0 604,i0 145,st "/claim/cut.py" 605]
def iV:Obj:=fv 34 "reckoned" "everyfork.reckoning" 562 252
def mm:Obj:=fw 35 "truth_of"
def jQ:Obj:=co [st "truth_of" 607,st "truth_of" 608,st "/claim/cut.py" 609,i0 170,i0 4,i0 0,i0 0,i0 3,.ref 254,.bool true,i0 181,.ref 255,.none,.none,.none,.ref 256,i0 610,i0 170,st "/claim/cut.py" 611]
def ij:Obj:=fv 35 "truth_of" "everyfork.reckoning" 562 257
def t_2 (P:Params):BT:=(.node (boot_o_0 P) (.node (boot_o_1 P) (.node (Ai P) (.node (boot_o_7 P) (.node af (.node iI (.node lX (.node gH (.node aq .nil .nil) .nil) (.node af .nil .nil)) (.node (oo P) (.node mH .nil .nil) (.node af .nil .nil))) (.node io (.node lQ (.node jV .nil .nil) (.node jp .nil .nil)) (.node fk (.node aq .nil .nil) (.node mj .nil .nil)))) (.node aq (.node iQ (.node lj (.node fm .nil .nil) (.node mI .nil .nil)) (.node fN (.node af .nil .nil) (.node af .nil .nil))) (.node jz (.node lB (.node af .nil .nil) (.node jv .nil .nil)) (.node (fJ P) (.node jR .nil .nil) (.node ii .nil .nil))))) (.node af (.node lA (.node iY (.node ky (.node fP .nil .nil) (.node af .nil .nil)) (.node kK (.node aq .nil .nil) (.node jO .nil .nil))) (.node ia (.node af (.node jo .nil .nil) (.node ir .nil .nil)) (.node fM (.node jZ .nil .nil) (.node aq .nil .nil)))) (.node jn (.node ke (.node af (.node jP .nil .nil) (.node aq .nil .nil)) (.node fH (.node mh .nil .nil) (.node af .nil .nil))) (.node jc (.node lm (.node af .nil .nil) (.node af .nil .nil)) (.node fq (.node jd .nil .nil) (.node mf .nil .nil)))))) (.node (boot_o_5 P) (.node (boot_o_9 P) (.node iJ (.node lJ (.node lG (.node fE (.node jQ .nil .nil) .nil) (.node iP .nil .nil)) (.node kT (.node ip .nil .nil) (.node mz .nil .nil))) (.node aq (.node lY (.node md .nil .nil) (.node af .nil .nil)) (.node fW (.node af .nil .nil) (.node ic .nil .nil)))) (.node af (.node af (.node af (.node aq .nil .nil) (.node kd .nil .nil)) (.node fK (.node jL .nil .nil) (.node ib .nil .nil))) (.node lP (.node lF (.node jw .nil .nil) (.node aq .nil .nil)) (.node gr (.node mW .nil .nil) (.node af .nil .nil))))) (.node oh (.node iy (.node aq (.node af (.node fU .nil .nil) (.node jB .nil .nil)) (.node gC (.node je .nil .nil) (.node aq .nil .nil))) (.node af (.node kC (.node aq .nil .nil) (.node mX .nil .nil)) (.node fV (.node af .nil .nil) (.node af .nil .nil)))) (.node af (.node kr (.node af (.node af .nil .nil) (.node af .nil .nil)) (.node ff (.node kf .nil .nil) (.node iK .nil .nil))) (.node lC (.node kJ (.node jk .nil .nil) (.node jS .nil .nil)) (.node fL (.node aq .nil .nil) (.node iV .nil .nil))))))) (.node (boot_o_2 P) (.node (boot_o_4 P) (.node (boot_o_8 P) (.node aq (.node af (.node kG (.node fS (.node mm .nil .nil) .nil) (.node np .nil .nil)) (.node lI (.node iL .nil .nil) (.node aq .nil .nil))) (.node af (.node lS (.node af .nil .nil) (.node iZ .nil .nil)) (.node fY (.node iO .nil .nil) (.node js .nil .nil)))) (.node ie (.node jM (.node lw (.node af .nil .nil) (.node iw .nil .nil)) (.node fR (.node aq .nil .nil) (.node mV .nil .nil))) (.node af (.node kD (.node mn .nil .nil) (.node af .nil .nil)) (.node fI (.node af .nil .nil) (.node jC .nil .nil))))) (.node xr (.node iT (.node af (.node lr (.node eY .nil .nil) (.node aq .nil .nil)) (.node af (.node mE .nil .nil) (.node af .nil .nil))) (.node iN (.node lK (.node af .nil .nil) (.node af .nil .nil)) (.node eZ (.node jb .nil .nil) (.node jH .nil .nil)))) (.node ji (.node af (.node kE (.node jr .nil .nil) (.node jy .nil .nil)) (.node fT (.node jx .nil .nil) (.node aq .nil .nil))) (.node (lW P) (.node kQ (.node aq .nil .nil) (.node mM .nil .nil)) (.node gJ (.node af .nil .nil) (.node iX .nil .nil)))))) (.node (boot_o_6 P) (.node (boot_o_10 P) (.node af (.node jU (.node lb (.node fX (.node ij .nil .nil) .nil) (.node kh .nil .nil)) (.node ll (.node af .nil .nil) (.node jh .nil .nil))) (.node lu (.node lD (.node iA .nil .nil) (.node aq .nil .nil)) (.node gz (.node nb .nil .nil) (.node af .nil .nil)))) (.node lM (.node aq (.node ld (.node nz .nil .nil) (.node af .nil .nil)) (.node gA (.node af .nil .nil) (.node iu .nil .nil))) (.node iR (.node kY (.node jK .nil .nil) (.node jq .nil .nil)) (.node gq (.node jj .nil .nil) (.node aq .nil .nil))))) (.node ox (.node af (.node lO (.node kB (.node gu .nil .nil) (.node af .nil .nil)) (.node fG (.node ix .nil .nil) (.node hZ .nil .nil))) (.node aq (.node lR (.node jE .nil .nil) (.node jD .nil .nil)) (.node (gF P) (.node aq .nil .nil) (.node nc .nil .nil)))) (.node aq (.node iq (.node lU (.node aq .nil .nil) (.node mi .nil .nil)) (.node fo (.node af .nil .nil) (.node af .nil .nil))) (.node ku (.node kM (.node af .nil .nil) (.node jF .nil .nil)) (.node gB (.node iW .nil .nil) (.node af .nil .nil))))))))
def s_2 (w:World) (os:OsState):SharedT:=⟨t_2 w.params,259,{ :Life },#[],⟨0,0,0,0⟩,615,os⟩
def q2:List Stmt:=(pE.main.body.drop 12).take 25
theorem l_2:∀ (w:World) (os:OsState),segRunT treeTable pE w m0 ann 1 627 (s_1 w os) (piecesOf q2 env cE ⟨25,0,25,7⟩ B)=some (.next,s_2 w os,cE,⟨181,0,181,8⟩):=fun w os=>by kernel_rfl
def Ap (P:Params):Obj:=⟨.type "dict",none,.dict #[de P (sx "__name__") 165 (st "everyfork.values" 613),de P (sx "__doc__") 166 .none,de P (sx "__package__") 167 .none,de P (sx "__loader__") 168 (.builtin "__main__.__loader__#opaque"),de P (sx "__spec__") 169 .none,dr P "__annotations__" 170 6,dr P "__builtins__" 171 4,de P (sx "__file__") 173 (st "/claim/cut.py" 172),de P (sx "__cached__") 174 .none,dr P "is_whole" 195 21,dr P "is_between" 204 28,dr P "is_sign_number" 211 35,dr P "is_text" 217 40,dr P "fields_of" 226 47,dr P "field_kinds" 232 52,dr P "field_kind" 242 59,dr P "SHAPES" 390 60,dr P "LISTED" 400 118,dr P "GOES_BY" 438 119,de P (sx "MOST_NUMBER") 440 (.int 1000000 439),de P (sx "MOST_SIGNS") 442 (.int 40 441),de P (sx "MOST_IN_ROWS") 444 (.int 8 443),dr P "inner_of" 450 140,dr P "own_right" 458 147,dr P "named_kind" 466 154,dr P "record_kind" 476 161,dr P "kind_by" 482 166,dr P "kind_in" 494 173,dr P "function_of" 505 180,dr P "variable_kinds" 512 187,dr P "bodies_of" 519 194,dr P "lines_in" 530 201,dr P "within" 539 208,dr P "numbered" 550 215,dr P "numbered_bodies" 561 222,dr P "field_place" 569 227,dr P "of_record" 581 234,dr P "of_place" 591 241,dr P "of_numbers" 600 248,dr P "reckoned" 606 253,dr P "truth_of" 612 258,dr P "NOUGHTS" 623 259] 42,#[]⟩
def mw (P:Params):Obj:=⟨.type "dict",none,.dict #[de P (sx "num") 615 (.int 0 616),de P (sx "text") 617 (st "" 618),dr P "row" 619 260] 3,#[]⟩
def t_3 (P:Params):BT:=(.node (boot_o_0 P) (.node (boot_o_1 P) (.node (Ap P) (.node (boot_o_7 P) (.node af (.node iI (.node lX (.node gH (.node aq .nil .nil) .nil) (.node af .nil .nil)) (.node (oo P) (.node mH .nil .nil) (.node af .nil .nil))) (.node io (.node lQ (.node jV .nil .nil) (.node jp .nil .nil)) (.node fk (.node aq .nil .nil) (.node mj .nil .nil)))) (.node aq (.node iQ (.node lj (.node fm .nil .nil) (.node mI .nil .nil)) (.node fN (.node af .nil .nil) (.node af .nil .nil))) (.node jz (.node lB (.node af .nil .nil) (.node jv .nil .nil)) (.node (fJ P) (.node jR .nil .nil) (.node ii .nil .nil))))) (.node af (.node lA (.node iY (.node ky (.node fP (.node (mw P) .nil .nil) .nil) (.node af .nil .nil)) (.node kK (.node aq .nil .nil) (.node jO .nil .nil))) (.node ia (.node af (.node jo .nil .nil) (.node ir .nil .nil)) (.node fM (.node jZ .nil .nil) (.node aq .nil .nil)))) (.node jn (.node ke (.node af (.node jP .nil .nil) (.node aq .nil .nil)) (.node fH (.node mh .nil .nil) (.node af .nil .nil))) (.node jc (.node lm (.node af .nil .nil) (.node af .nil .nil)) (.node fq (.node jd .nil .nil) (.node mf .nil .nil)))))) (.node (boot_o_5 P) (.node (boot_o_9 P) (.node iJ (.node lJ (.node lG (.node fE (.node jQ .nil .nil) .nil) (.node iP .nil .nil)) (.node kT (.node ip .nil .nil) (.node mz .nil .nil))) (.node aq (.node lY (.node md .nil .nil) (.node af .nil .nil)) (.node fW (.node af .nil .nil) (.node ic .nil .nil)))) (.node af (.node af (.node af (.node aq .nil .nil) (.node kd .nil .nil)) (.node fK (.node jL .nil .nil) (.node ib .nil .nil))) (.node lP (.node lF (.node jw .nil .nil) (.node aq .nil .nil)) (.node gr (.node mW .nil .nil) (.node af .nil .nil))))) (.node oh (.node iy (.node aq (.node af (.node fU .nil .nil) (.node jB .nil .nil)) (.node gC (.node je .nil .nil) (.node aq .nil .nil))) (.node af (.node kC (.node aq .nil .nil) (.node mX .nil .nil)) (.node fV (.node af .nil .nil) (.node af .nil .nil)))) (.node af (.node kr (.node af (.node af .nil .nil) (.node af .nil .nil)) (.node ff (.node kf .nil .nil) (.node iK .nil .nil))) (.node lC (.node kJ (.node jk .nil .nil) (.node jS .nil .nil)) (.node fL (.node aq .nil .nil) (.node iV .nil .nil))))))) (.node (boot_o_2 P) (.node (boot_o_4 P) (.node (boot_o_8 P) (.node aq (.node af (.node kG (.node fS (.node mm .nil .nil) .nil) (.node np .nil .nil)) (.node lI (.node iL .nil .nil) (.node aq .nil .nil))) (.node af (.node lS (.node af .nil .nil) (.node iZ .nil .nil)) (.node fY (.node iO .nil .nil) (.node js .nil .nil)))) (.node ie (.node jM (.node lw (.node af .nil .nil) (.node iw .nil .nil)) (.node fR (.node aq .nil .nil) (.node mV .nil .nil))) (.node af (.node kD (.node mn .nil .nil) (.node af .nil .nil)) (.node fI (.node af .nil .nil) (.node jC .nil .nil))))) (.node xr (.node iT (.node af (.node lr (.node eY (.node af .nil .nil) .nil) (.node aq .nil .nil)) (.node af (.node mE .nil .nil) (.node af .nil .nil))) (.node iN (.node lK (.node af .nil .nil) (.node af .nil .nil)) (.node eZ (.node jb .nil .nil) (.node jH .nil .nil)))) (.node ji (.node af (.node kE (.node jr .nil .nil) (.node jy .nil .nil)) (.node fT (.node jx .nil .nil) (.node aq .nil .nil))) (.node (lW P) (.node kQ (.node aq .nil .nil) (.node mM .nil .nil)) (.node gJ (.node af .nil .nil) (.node iX .nil .nil)))))) (.node (boot_o_6 P) (.node (boot_o_10 P) (.node af (.node jU (.node lb (.node fX (.node ij .nil .nil) .nil) (.node kh .nil .nil)) (.node ll (.node af .nil .nil) (.node jh .nil .nil))) (.node lu (.node lD (.node iA .nil .nil) (.node aq .nil .nil)) (.node gz (.node nb .nil .nil) (.node af .nil .nil)))) (.node lM (.node aq (.node ld (.node nz .nil .nil) (.node af .nil .nil)) (.node gA (.node af .nil .nil) (.node iu .nil .nil))) (.node iR (.node kY (.node jK .nil .nil) (.node jq .nil .nil)) (.node gq (.node jj .nil .nil) (.node aq .nil .nil))))) (.node ox (.node af (.node lO (.node kB (.node gu .nil .nil) (.node af .nil .nil)) (.node fG (.node ix .nil .nil) (.node hZ .nil .nil))) (.node aq (.node lR (.node jE .nil .nil) (.node jD .nil .nil)) (.node (gF P) (.node aq .nil .nil) (.node nc .nil .nil)))) (.node aq (.node iq (.node lU (.node aq .nil .nil) (.node mi .nil .nil)) (.node fo (.node af .nil .nil) (.node af .nil .nil))) (.node ku (.node kM (.node af .nil .nil) (.node jF .nil .nil)) (.node gB (.node iW .nil .nil) (.node af .nil .nil))))))))
def s_3 (w:World) (os:OsState):SharedT:=⟨t_3 w.params,261,{ :Life },#[],⟨0,0,0,0⟩,624,os⟩
def q3:List Stmt:=(pE.main.body.drop 37).take 1
theorem zp:∀ (v:World) (os:OsState),(fun w=>segRunT treeTable pE w m0 ann 1 57 (s_2 w os) (piecesOf q3 env cE ⟨181,0,181,8⟩ B)=some (.next,s_3 w os,cE,⟨182,0,182,7⟩)) (v.withFollow "special-get-raises" false):=fun v os=>by kernel_rfl
theorem zP:∀ (v:World) (os:OsState),(fun w=>segRunT treeTable pE w m0 ann 1 57 (s_2 w os) (piecesOf q3 env cE ⟨181,0,181,8⟩ B)=some (.next,s_3 w os,cE,⟨182,0,182,7⟩)) (v.withFollow "special-get-raises" true):=fun v os=>by kernel_rfl
theorem l_3:∀ (w:World) (os:OsState),segRunT treeTable pE w m0 ann 1 57 (s_2 w os) (piecesOf q3 env cE ⟨181,0,181,8⟩ B)=some (.next,s_3 w os,cE,⟨182,0,182,7⟩):=fun w os=>byRow2 "special-get-raises" (P:=fun w=>segRunT treeTable pE w m0 ann 1 57 (s_2 w os) (piecesOf q3 env cE ⟨181,0,181,8⟩ B)=some (.next,s_3 w os,cE,⟨182,0,182,7⟩)) (fun v=>zp v os) (fun v=>zP v os) w
def xB (P:Params):Obj:=⟨.type "dict",none,.dict #[de P (sx "__name__") 165 (st "law_everyfork_k20_deep_calls" 801),de P (sx "__doc__") 166 .none,de P (sx "__package__") 167 .none,de P (sx "__loader__") 168 (.builtin "__main__.__loader__#opaque"),de P (sx "__spec__") 169 .none,dr P "__annotations__" 170 6,dr P "__builtins__" 171 4,de P (sx "__file__") 173 (st "/claim/cut.py" 172),de P (sx "__cached__") 174 .none,dr P "is_whole" 195 21,dr P "is_between" 204 28,dr P "is_sign_number" 211 35,dr P "is_text" 217 40,dr P "fields_of" 226 47,dr P "field_kinds" 232 52,dr P "field_kind" 242 59,dr P "SHAPES" 390 60,dr P "LISTED" 400 118,dr P "GOES_BY" 438 119,de P (sx "MOST_NUMBER") 440 (.int 1000000 439),de P (sx "MOST_SIGNS") 442 (.int 40 441),de P (sx "MOST_IN_ROWS") 444 (.int 8 443),dr P "inner_of" 450 140,dr P "own_right" 458 147,dr P "named_kind" 466 154,dr P "record_kind" 476 161,dr P "kind_by" 482 166,dr P "kind_in" 494 173,dr P "function_of" 505 180,dr P "variable_kinds" 512 187,dr P "bodies_of" 519 194,dr P "lines_in" 530 201,dr P "within" 539 208,dr P "numbered" 550 215,dr P "numbered_bodies" 561 222,dr P "field_place" 569 227,dr P "of_record" 581 234,dr P "of_place" 591 241,dr P "of_numbers" 600 248,dr P "reckoned" 606 253,dr P "truth_of" 612 258,dr P "NOUGHTS" 623 259,dr P "nought" 629 265,dr P "Frame" 670 282,dr P "Run" 789 359,dr P "run" 800 370,dr P "_law_feed" 809 377,dr P "_law_draw" 821 384,dr P "_law_program" 835 391,dr P "_law_events" 844 398,dr P "_law_due" 855 405,dr P "law" 872 412] 52,#[]⟩
def xm:Obj:=⟨.none,none,.fields #[i0 2,i0 0,.ref 20,i0 4,i0 0,.ref 27,i0 6,i0 0,.ref 34,i0 8,i0 0,.ref 39,i0 10,i0 0,.ref 46,i0 15,i0 0,.ref 51,i0 17,i0 0,.ref 58,i0 29,i0 0,.ref 139,i0 34,i0 0,.ref 146,i0 43,i0 0,.ref 153,i0 45,i0 0,.ref 160,i0 52,i0 0,.ref 165,i0 67,i0 0,.ref 172,i0 76,i0 0,.ref 179,i0 81,i0 0,.ref 186,i0 83,i0 0,.ref 193,i0 89,i0 0,.ref 200,i0 98,i0 0,.ref 207,i0 103,i0 0,.ref 214,i0 110,i0 0,.ref 221,i0 118,i0 0,.ref 226,i0 120,i0 0,.ref 233,i0 126,i0 0,.ref 240,i0 134,i0 0,.ref 247,i0 145,i0 0,.ref 252,i0 170,i0 0,.ref 257,i0 183,i0 0,.ref 264,i0 188,i0 0,.ref 271,i0 200,i0 0,.ref 292,i0 275,i0 0,.ref 369,i0 281,i0 0,.ref 376,i0 283,i0 0,.ref 383,i0 298,i0 0,.ref 390,i0 306,i0 0,.ref 397,i0 311,i0 0,.ref 404,i0 321,i0 0,.ref 411],#[]⟩
def vi:Obj:=fw 38 "nought"
def qJ:Obj:=co [st "nought" 624,st "nought" 625,st "/claim/cut.py" 626,i0 183,i0 2,i0 0,i0 0,i0 3,.ref 261,.bool true,i0 181,.ref 262,.none,.none,.none,.ref 263,i0 627,i0 183,st "/claim/cut.py" 628]
def qe:Obj:=fv 38 "nought" "everyfork.values" 613 264
def mO:Obj:=⟨.type "builtin_function_or_method",none,.fields #[.builtin "type.__prepare__",.type "type"],#[]⟩
def tM (P:Params):Obj:=⟨.type "dict",none,.dict #[de P (sx "__module__") 639 (st "everyfork.running" 630),de P (sx "__qualname__") 641 (st "Frame" 640),de P (sx "__firstlineno__") 643 (.int 188 642),dr P "__init__" 657 279,dr P "__static_attributes__" 663 280] 5,#[]⟩
def vM:Obj:=⟨.none,none,.fields #[i0 190,i0 4,.ref 278],#[]⟩
def ua:Obj:=co [st "Frame" 634,st "Frame" 635,st "/claim/cut.py" 636,i0 188,i0 0,i0 0,i0 0,i0 0,.ref 269,.bool false,i0 181,.ref 270,.none,.none,.none,.none,i0 637,i0 188,st "/claim/cut.py" 638]
def tF:Obj:=⟨.type "frame",none,.plain,#[some (.ref 271),some (.ref 3),some (.ref 268),none,some (st "everyfork.running" 630),none,some (.ref 0)]⟩
def qD:Obj:=tu [st "self" 647,st "program" 648,st "function" 649,st "given" 650,st "target" 651,st "param" 652,st "value" 653,st "pair" 654]
def uO:Obj:=⟨.none,none,.func (kn 40 0 (sx "__init__") (sx "Frame.__init__") .none .none .none .none none .none .none),#[]⟩
def pY:Obj:=co [st "__init__" 644,st "Frame.__init__" 645,st "/claim/cut.py" 646,i0 190,i0 5,i0 0,i0 0,i0 3,.ref 273,.bool true,i0 181,.ref 274,.none,.ref 275,.ref 276,.ref 277,i0 655,i0 190,st "/claim/cut.py" 656]
def pG:Obj:=⟨.type "function",none,.func (fdm 40 0 (sx "__init__") (sx "Frame.__init__") .none .none .none (st "everyfork.running" 630) none (.ref 278) .none),#[]⟩
def pZ:Obj:=tu [st "function" 658,st "held" 659,st "kinds" 660,st "target" 661,st "tasks" 662]
def qF (P:Params):Obj:=⟨.type "dict",none,.dict #[de P (sx "__module__") 639 (st "everyfork.running" 630),de P (sx "__firstlineno__") 643 (.int 188 642),dr P "__init__" 657 279,dr P "__static_attributes__" 663 280,dr P "__dict__" 665 283,dr P "__weakref__" 667 284,de P (sx "__doc__") 668 .none] 4,#[]⟩
def qE:Obj:=⟨.type "type",none,.cls ⟨(sx "Frame"),[.type "object"],[.ref 282,.type "object"],281,(sx "Frame"),true,[],[],false,none,false⟩,#[none,none,some (st "Frame" 632),some (st "Frame" 640),some (.builtin "object.__new__"),some (.bool true)]⟩
def pK:Obj:=⟨.type "getset_descriptor",none,.fields #[st "__dict__" 664,.ref 282,.builtin "function.__dict__",.builtin "function.__dict__#set"],#[]⟩
def qr:Obj:=⟨.type "getset_descriptor",none,.fields #[st "__weakref__" 666,.ref 282,.builtin "ExceptionGroup.__weakref__",.none],#[]⟩
def uQ:Obj:=⟨.type "super",none,.fields #[.ref 282,.ref 282,.ref 282],#[]⟩
def uz:Obj:=⟨.type "builtin_function_or_method",none,.fields #[.builtin "object.__init_subclass__",.ref 282],#[]⟩
def uB (P:Params):Obj:=⟨.type "dict",none,.dict #[de P (sx "__module__") 678 (st "everyfork.running" 630),de P (sx "__qualname__") 680 (st "Run" 679),de P (sx "__firstlineno__") 682 (.int 200 681),dr P "__init__" 693 300,dr P "step" 702 307,dr P "do" 714 314,dr P "reckon" 723 321,dr P "asked" 732 328,dr P "fork" 744 335,dr P "call" 757 342,dr P "give" 766 349,dr P "fail" 776 356,dr P "__static_attributes__" 782 357] 13,#[]⟩
def uR:Obj:=⟨.none,none,.fields #[i0 202,i0 4,.ref 299,i0 209,i0 4,.ref 306,i0 221,i0 4,.ref 313,i0 239,i0 4,.ref 320,i0 242,i0 4,.ref 327,i0 245,i0 4,.ref 334,i0 255,i0 4,.ref 341,i0 265,i0 4,.ref 348,i0 272,i0 4,.ref 355],#[]⟩
def tZ:Obj:=co [st "Run" 673,st "Run" 674,st "/claim/cut.py" 675,i0 200,i0 0,i0 0,i0 0,i0 0,.ref 290,.bool false,i0 181,.ref 291,.none,.none,.none,.none,i0 676,i0 200,st "/claim/cut.py" 677]
def uN:Obj:=⟨.type "frame",none,.plain,#[some (.ref 292),some (.ref 3),some (.ref 289),none,some (st "everyfork.running" 630),none,some (.ref 0)]⟩
def pV:Obj:=tu [st "self" 686,st "program" 687,st "f" 688,st "given" 689,st "ticks" 690]
def ve:Obj:=⟨.none,none,.func (kn 41 0 (sx "__init__") (sx "Run.__init__") .none .none .none .none none .none .none),#[]⟩
def oS:Obj:=co [st "__init__" 683,st "Run.__init__" 684,st "/claim/cut.py" 685,i0 202,i0 5,i0 0,i0 0,i0 3,.ref 294,.bool true,i0 181,.ref 295,.none,.ref 296,.ref 297,.ref 298,i0 691,i0 202,st "/claim/cut.py" 692]
def pW:Obj:=⟨.type "function",none,.func (fdm 41 0 (sx "__init__") (sx "Run.__init__") .none .none .none (st "everyfork.running" 630) none (.ref 299) .none),#[]⟩
def pH:Obj:=tu [st "self" 697,st "frame" 698,st "task" 699]
def uS:Obj:=⟨.none,none,.func (kn 41 1 (sx "step") (sx "Run.step") .none .none .none .none none .none .none),#[]⟩
def pf:Obj:=co [st "step" 694,st "Run.step" 695,st "/claim/cut.py" 696,i0 209,i0 1,i0 0,i0 0,i0 3,.ref 301,.bool true,i0 181,.ref 302,.none,.ref 303,.ref 304,.ref 305,i0 700,i0 209,st "/claim/cut.py" 701]
def oO:Obj:=⟨.type "function",none,.func (fdm 41 1 (sx "step") (sx "Run.step") .none .none .none (st "everyfork.running" 630) none (.ref 306) .none),#[]⟩
def oN:Obj:=tu [st "self" 706,st "frame" 707,st "k" 708,st "statement" 709,st "word" 710,st "value" 711]
def uj:Obj:=⟨.none,none,.func (kn 41 2 (sx "do") (sx "Run.do") .none .none .none .none none .none .none),#[]⟩
def qo:Obj:=co [st "do" 703,st "Run.do" 704,st "/claim/cut.py" 705,i0 221,i0 4,i0 0,i0 0,i0 3,.ref 308,.bool true,i0 181,.ref 309,.none,.ref 310,.ref 311,.ref 312,i0 712,i0 221,st "/claim/cut.py" 713]
def qQ:Obj:=⟨.type "function",none,.func (fdm 41 2 (sx "do") (sx "Run.do") .none .none .none (st "everyfork.running" 630) none (.ref 313) .none),#[]⟩
def qN:Obj:=tu [st "self" 718,st "frame" 719,st "e" 720]
def tI:Obj:=⟨.none,none,.func (kn 41 3 (sx "reckon") (sx "Run.reckon") .none .none .none .none none .none .none),#[]⟩
def pI:Obj:=co [st "reckon" 715,st "Run.reckon" 716,st "/claim/cut.py" 717,i0 239,i0 3,i0 0,i0 0,i0 3,.ref 315,.bool true,i0 181,.ref 316,.none,.ref 317,.ref 318,.ref 319,i0 721,i0 239,st "/claim/cut.py" 722]
def qR:Obj:=⟨.type "function",none,.func (fdm 41 3 (sx "reckon") (sx "Run.reckon") .none .none .none (st "everyfork.running" 630) none (.ref 320) .none),#[]⟩
def oP:Obj:=tu [st "self" 727,st "frame" 728,st "c" 729]
def vj:Obj:=⟨.none,none,.func (kn 41 4 (sx "asked") (sx "Run.asked") .none .none .none .none none .none .none),#[]⟩
def qc:Obj:=co [st "asked" 724,st "Run.asked" 725,st "/claim/cut.py" 726,i0 242,i0 3,i0 0,i0 0,i0 3,.ref 322,.bool true,i0 181,.ref 323,.none,.ref 324,.ref 325,.ref 326,i0 730,i0 242,st "/claim/cut.py" 731]
def qm:Obj:=⟨.type "function",none,.func (fdm 41 4 (sx "asked") (sx "Run.asked") .none .none .none (st "everyfork.running" 630) none (.ref 327) .none),#[]⟩
def qL:Obj:=tu [st "self" 736,st "frame" 737,st "k" 738,st "statement" 739,st "truth" 740,st "bodies" 741]
def vm:Obj:=⟨.none,none,.func (kn 41 5 (sx "fork") (sx "Run.fork") .none .none .none .none none .none .none),#[]⟩
def re:Obj:=co [st "fork" 733,st "Run.fork" 734,st "/claim/cut.py" 735,i0 245,i0 4,i0 0,i0 0,i0 3,.ref 329,.bool true,i0 181,.ref 330,.none,.ref 331,.ref 332,.ref 333,i0 742,i0 245,st "/claim/cut.py" 743]
def oW:Obj:=⟨.type "function",none,.func (fdm 41 5 (sx "fork") (sx "Run.fork") .none .none .none (st "everyfork.running" 630) none (.ref 334) .none),#[]⟩
def pS:Obj:=tu [st "self" 748,st "frame" 749,st "k" 750,st "statement" 751,st "given" 752,st "e" 753,st "value" 754]
def uC:Obj:=⟨.none,none,.func (kn 41 6 (sx "call") (sx "Run.call") .none .none .none .none none .none .none),#[]⟩
def pQ:Obj:=co [st "call" 745,st "Run.call" 746,st "/claim/cut.py" 747,i0 255,i0 4,i0 0,i0 0,i0 3,.ref 336,.bool true,i0 181,.ref 337,.none,.ref 338,.ref 339,.ref 340,i0 755,i0 255,st "/claim/cut.py" 756]
def qT:Obj:=⟨.type "function",none,.func (fdm 41 6 (sx "call") (sx "Run.call") .none .none .none (st "everyfork.running" 630) none (.ref 341) .none),#[]⟩
def pM:Obj:=tu [st "self" 761,st "value" 762,st "frame" 763]
def uW:Obj:=⟨.none,none,.func (kn 41 7 (sx "give") (sx "Run.give") .none .none .none .none none .none .none),#[]⟩
def pT:Obj:=co [st "give" 758,st "Run.give" 759,st "/claim/cut.py" 760,i0 265,i0 2,i0 0,i0 0,i0 3,.ref 343,.bool true,i0 181,.ref 344,.none,.ref 345,.ref 346,.ref 347,i0 764,i0 265,st "/claim/cut.py" 765]
def pP:Obj:=⟨.type "function",none,.func (fdm 41 7 (sx "give") (sx "Run.give") .none .none .none (st "everyfork.running" 630) none (.ref 348) .none),#[]⟩
def ql:Obj:=tu [st "self" 770,st "frame" 771,st "k" 772,st "word" 773]
def uq:Obj:=⟨.none,none,.func (kn 41 8 (sx "fail") (sx "Run.fail") .none .none .none .none none .none .none),#[]⟩
def qz:Obj:=co [st "fail" 767,st "Run.fail" 768,st "/claim/cut.py" 769,i0 272,i0 4,i0 0,i0 0,i0 3,.ref 350,.bool true,i0 181,.ref 351,.none,.ref 352,.ref 353,.ref 354,i0 774,i0 272,st "/claim/cut.py" 775]
def oQ:Obj:=⟨.type "function",none,.func (fdm 41 8 (sx "fail") (sx "Run.fail") .none .none .none (st "everyfork.running" 630) none (.ref 355) .none),#[]⟩
def oK:Obj:=tu [st "end" 777,st "frames" 778,st "program" 779,st "spots" 780,st "ticks" 781]
def rf (P:Params):Obj:=⟨.type "dict",none,.dict #[de P (sx "__module__") 678 (st "everyfork.running" 630),de P (sx "__firstlineno__") 682 (.int 200 681),dr P "__init__" 693 300,dr P "step" 702 307,dr P "do" 714 314,dr P "reckon" 723 321,dr P "asked" 732 328,dr P "fork" 744 335,dr P "call" 757 342,dr P "give" 766 349,dr P "fail" 776 356,dr P "__static_attributes__" 782 357,dr P "__dict__" 784 360,dr P "__weakref__" 786 361,de P (sx "__doc__") 787 .none] 4,#[]⟩
def rh:Obj:=⟨.type "type",none,.cls ⟨(sx "Run"),[.type "object"],[.ref 359,.type "object"],358,(sx "Run"),true,[],[],false,none,false⟩,#[none,none,some (st "Run" 671),some (st "Run" 679),some (.builtin "object.__new__"),some (.bool true)]⟩
def qM:Obj:=⟨.type "getset_descriptor",none,.fields #[st "__dict__" 783,.ref 359,.builtin "function.__dict__",.builtin "function.__dict__#set"],#[]⟩
def pX:Obj:=⟨.type "getset_descriptor",none,.fields #[st "__weakref__" 785,.ref 359,.builtin "ExceptionGroup.__weakref__",.none],#[]⟩
def tW:Obj:=⟨.type "super",none,.fields #[.ref 359,.ref 359,.ref 359],#[]⟩
def vt:Obj:=⟨.type "builtin_function_or_method",none,.fields #[.builtin "object.__init_subclass__",.ref 359],#[]⟩
def rc:Obj:=tu [st "program" 793,st "f" 794,st "values" 795,st "ticks" 796,st "under_way" 797]
def uc:Obj:=fw 42 "run"
def pR:Obj:=co [st "run" 790,st "run" 791,st "/claim/cut.py" 792,i0 275,i0 4,i0 0,i0 0,i0 3,.ref 364,.bool true,i0 181,.ref 365,.none,.ref 366,.ref 367,.ref 368,i0 798,i0 275,st "/claim/cut.py" 799]
def rg:Obj:=fv 42 "run" "everyfork.running" 630 369
def pD:Obj:=tu [st "_law_script" 806]
def uu:Obj:=fw 44 "_law_feed"
def qv:Obj:=co [st "_law_feed" 803,st "_law_feed" 804,st "/claim/cut.py" 805,i0 281,i0 1,i0 0,i0 0,i0 3,.ref 371,.bool true,i0 181,.ref 372,.none,.ref 373,.ref 374,.ref 375,i0 807,i0 281,st "/claim/cut.py" 808]
def oX:Obj:=fv 44 "_law_feed" "law_everyfork_k20_deep_calls" 801 376
def qw:Obj:=tu [st "_law_feed_here" 813,st "_law_many" 814,st "_law_found" 815,st "_law_cell" 816,st "_law_turn" 817,st "_law_mixed" 818]
def uV:Obj:=fw 45 "_law_draw"
def qC:Obj:=co [st "_law_draw" 810,st "_law_draw" 811,st "/claim/cut.py" 812,i0 283,i0 2,i0 0,i0 0,i0 3,.ref 378,.bool true,i0 181,.ref 379,.none,.ref 380,.ref 381,.ref 382,i0 819,i0 283,st "/claim/cut.py" 820]
def qK:Obj:=fv 45 "_law_draw" "law_everyfork_k20_deep_calls" 801 383
def pA:Obj:=tu [st "_law_more" 825,st "_law_last" 826,st "_law_n" 827,st "_law_inner" 828,st "_law_body" 829,st "_law_deep" 830,st "_law_endless" 831,st "_law_first" 832]
def ug:Obj:=fw 46 "_law_program"
def qk:Obj:=co [st "_law_program" 822,st "_law_program" 823,st "/claim/cut.py" 824,i0 298,i0 2,i0 0,i0 0,i0 3,.ref 385,.bool true,i0 181,.ref 386,.none,.ref 387,.ref 388,.ref 389,i0 833,i0 298,st "/claim/cut.py" 834]
def qg:Obj:=fv 46 "_law_program" "law_everyfork_k20_deep_calls" 801 390
def pF:Obj:=tu [st "_law_n" 839,st "_law_line" 840,st "_law_found" 841]
def uA:Obj:=fw 47 "_law_events"
def qb:Obj:=co [st "_law_events" 836,st "_law_events" 837,st "/claim/cut.py" 838,i0 306,i0 1,i0 0,i0 0,i0 3,.ref 392,.bool true,i0 181,.ref 393,.none,.ref 394,.ref 395,.ref 396,i0 842,i0 306,st "/claim/cut.py" 843]
def qp:Obj:=fv 47 "_law_events" "law_everyfork_k20_deep_calls" 801 397
def pN:Obj:=tu [st "_law_events_here" 848,st "_law_ticks" 849,st "_law_value" 850,st "_law_spots" 851,st "_law_spot" 852]
def tK:Obj:=fw 48 "_law_due"
def qP:Obj:=co [st "_law_due" 845,st "_law_due" 846,st "/claim/cut.py" 847,i0 311,i0 3,i0 0,i0 0,i0 3,.ref 399,.bool true,i0 181,.ref 400,.none,.ref 401,.ref 402,.ref 403,i0 853,i0 311,st "/claim/cut.py" 854]
def oM:Obj:=fv 48 "_law_due" "law_everyfork_k20_deep_calls" 801 404
def qZ:Obj:=tu [st "_law_script" 859,st "_law_feed_here" 860,st "_law_more" 861,st "_law_last" 862,st "_law_program_here" 863,st "_law_k" 864,st "_law_n" 865,st "_law_needed" 866,st "_law_ticks" 867,st "_law_due_here" 868,st "_law_events_here" 869]
def uT:Obj:=fw 49 "law"
def qG:Obj:=co [st "law" 856,st "law" 857,st "/claim/cut.py" 858,i0 321,i0 1,i0 0,i0 0,i0 3,.ref 406,.bool true,i0 181,.ref 407,.none,.ref 408,.ref 409,.ref 410,i0 870,i0 321,st "/claim/cut.py" 871]
def oV:Obj:=fv 49 "law" "law_everyfork_k20_deep_calls" 801 411
def t_4 (P:Params):BT:=(.node (boot_o_0 P) (.node (boot_o_1 P) (.node (xB P) (.node (boot_o_7 P) (.node af (.node iI (.node lX (.node gH (.node aq .nil .nil) (.node qC .nil .nil)) (.node af (.node tI .nil .nil) .nil)) (.node (oo P) (.node mH (.node af .nil .nil) .nil) (.node af (.node aq .nil .nil) .nil))) (.node io (.node lQ (.node jV (.node ua .nil .nil) (.node af .nil .nil)) (.node jp (.node oW .nil .nil) .nil)) (.node fk (.node aq (.node pH .nil .nil) .nil) (.node mj (.node af .nil .nil) .nil)))) (.node aq (.node iQ (.node lj (.node fm (.node vi .nil .nil) (.node qg .nil .nil)) (.node mI (.node qc .nil .nil) .nil)) (.node fN (.node af (.node aq .nil .nil) .nil) (.node af (.node rh .nil .nil) .nil))) (.node jz (.node lB (.node af (.node pG .nil .nil) (.node aq .nil .nil)) (.node jv (.node af .nil .nil) .nil)) (.node (fJ P) (.node jR (.node af .nil .nil) .nil) (.node ii (.node uu .nil .nil) .nil))))) (.node af (.node lA (.node iY (.node ky (.node fP (.node (mw P) .nil .nil) (.node pA .nil .nil)) (.node af (.node aq .nil .nil) .nil)) (.node kK (.node aq (.node uR .nil .nil) .nil) (.node jO (.node qz .nil .nil) .nil))) (.node ia (.node af (.node jo (.node qD .nil .nil) (.node tK .nil .nil)) (.node ir (.node af .nil .nil) .nil)) (.node fM (.node jZ (.node oO .nil .nil) .nil) (.node aq (.node af .nil .nil) .nil)))) (.node jn (.node ke (.node af (.node jP (.node mO .nil .nil) (.node af .nil .nil)) (.node aq (.node qL .nil .nil) .nil)) (.node fH (.node mh (.node oS .nil .nil) .nil) (.node af (.node vt .nil .nil) .nil))) (.node jc (.node lm (.node af (.node pK .nil .nil) (.node qG .nil .nil)) (.node af (.node uW .nil .nil) .nil)) (.node fq (.node jd (.node af .nil .nil) .nil) (.node mf (.node aq .nil .nil) .nil)))))) (.node (boot_o_5 P) (.node (boot_o_9 P) (.node iJ (.node lJ (.node lG (.node fE (.node jQ .nil .nil) (.node af .nil .nil)) (.node iP (.node qR .nil .nil) .nil)) (.node kT (.node ip (.node (uB P) .nil .nil) .nil) (.node mz (.node af .nil .nil) .nil))) (.node aq (.node lY (.node md (.node af .nil .nil) (.node pN .nil .nil)) (.node af (.node aq .nil .nil) .nil)) (.node fW (.node af (.node uS .nil .nil) .nil) (.node ic (.node pR .nil .nil) .nil)))) (.node af (.node af (.node af (.node aq (.node qe .nil .nil) (.node aq .nil .nil)) (.node kd (.node af .nil .nil) .nil)) (.node fK (.node jL (.node af .nil .nil) .nil) (.node ib (.node pX .nil .nil) .nil))) (.node lP (.node lF (.node jw (.node (qF P) .nil .nil) (.node af .nil .nil)) (.node aq (.node pM .nil .nil) .nil)) (.node gr (.node mW (.node qo .nil .nil) .nil) (.node af (.node oX .nil .nil) .nil))))) (.node oh (.node iy (.node aq (.node af (.node fU (.node af .nil .nil) (.node ug .nil .nil)) (.node jB (.node af .nil .nil) .nil)) (.node gC (.node je (.node uN .nil .nil) .nil) (.node aq (.node oK .nil .nil) .nil))) (.node af (.node kC (.node aq (.node uO .nil .nil) (.node oM .nil .nil)) (.node mX (.node pQ .nil .nil) .nil)) (.node fV (.node af (.node aq .nil .nil) .nil) (.node af (.node pD .nil .nil) .nil)))) (.node af (.node kr (.node af (.node af (.node af .nil .nil) (.node qb .nil .nil)) (.node af (.node vm .nil .nil) .nil)) (.node ff (.node kf (.node af .nil .nil) .nil) (.node iK (.node aq .nil .nil) .nil))) (.node lC (.node kJ (.node jk (.node uQ .nil .nil) .nil) (.node jS (.node pP .nil .nil) .nil)) (.node fL (.node aq (.node qN .nil .nil) .nil) (.node iV (.node af .nil .nil) .nil))))))) (.node (boot_o_2 P) (.node (boot_o_4 P) (.node (boot_o_8 P) (.node aq (.node af (.node kG (.node fS (.node mm .nil .nil) (.node qK .nil .nil)) (.node np (.node pI .nil .nil) .nil)) (.node lI (.node iL (.node mO .nil .nil) .nil) (.node aq (.node ql .nil .nil) .nil))) (.node af (.node lS (.node af (.node tF .nil .nil) (.node aq .nil .nil)) (.node iZ (.node af .nil .nil) .nil)) (.node fY (.node iO (.node af .nil .nil) .nil) (.node js (.node uc .nil .nil) .nil)))) (.node ie (.node jM (.node lw (.node af (.node qJ .nil .nil) (.node af .nil .nil)) (.node iw (.node qm .nil .nil) .nil)) (.node fR (.node aq (.node pV .nil .nil) .nil) (.node mV (.node qM .nil .nil) .nil))) (.node af (.node kD (.node mn (.node pZ .nil .nil) (.node qZ .nil .nil)) (.node af (.node aq .nil .nil) .nil)) (.node fI (.node af (.node uj .nil .nil) .nil) (.node jC (.node qv .nil .nil) .nil))))) (.node xm (.node iT (.node af (.node lr (.node eY (.node af .nil .nil) (.node af .nil .nil)) (.node aq (.node oP .nil .nil) .nil)) (.node af (.node mE (.node tZ .nil .nil) .nil) (.node af (.node oQ .nil .nil) .nil))) (.node iN (.node lK (.node af (.node af .nil .nil) (.node qP .nil .nil)) (.node af (.node uC .nil .nil) .nil)) (.node eZ (.node jb (.node af .nil .nil) .nil) (.node jH (.node aq .nil .nil) .nil)))) (.node ji (.node af (.node kE (.node jr (.node (tM P) .nil .nil) (.node uA .nil .nil)) (.node jy (.node af .nil .nil) .nil)) (.node fT (.node jx (.node pW .nil .nil) .nil) (.node aq (.node af .nil .nil) .nil))) (.node (lW P) (.node kQ (.node aq (.node qr .nil .nil) (.node oV .nil .nil)) (.node mM (.node pT .nil .nil) .nil)) (.node gJ (.node af (.node aq .nil .nil) .nil) (.node iX (.node qw .nil .nil) .nil)))))) (.node (boot_o_6 P) (.node (boot_o_10 P) (.node af (.node jU (.node lb (.node fX (.node ij .nil .nil) (.node aq .nil .nil)) (.node kh (.node af .nil .nil) .nil)) (.node ll (.node af (.node af .nil .nil) .nil) (.node jh (.node uq .nil .nil) .nil))) (.node lu (.node lD (.node iA (.node aq .nil .nil) (.node af .nil .nil)) (.node aq (.node pS .nil .nil) .nil)) (.node gz (.node nb (.node pf .nil .nil) .nil) (.node af (.node rg .nil .nil) .nil)))) (.node lM (.node aq (.node ld (.node nz (.node af .nil .nil) (.node pF .nil .nil)) (.node af (.node aq .nil .nil) .nil)) (.node gA (.node af (.node ve .nil .nil) .nil) (.node iu (.node tW .nil .nil) .nil))) (.node iR (.node kY (.node jK (.node qE .nil .nil) (.node uT .nil .nil)) (.node jq (.node af .nil .nil) .nil)) (.node gq (.node jj (.node qQ .nil .nil) .nil) (.node aq (.node af .nil .nil) .nil))))) (.node ox (.node af (.node lO (.node kB (.node gu (.node aq .nil .nil) (.node qk .nil .nil)) (.node af (.node vj .nil .nil) .nil)) (.node fG (.node ix (.node af .nil .nil) .nil) (.node hZ (.node (rf P) .nil .nil) .nil))) (.node aq (.node lR (.node jE (.node pY .nil .nil) (.node af .nil .nil)) (.node jD (.node qT .nil .nil) .nil)) (.node (gF P) (.node aq (.node oN .nil .nil) .nil) (.node nc (.node af .nil .nil) .nil)))) (.node aq (.node iq (.node lU (.node aq (.node vM .nil .nil) (.node qp .nil .nil)) (.node mi (.node re .nil .nil) .nil)) (.node fo (.node af (.node aq .nil .nil) .nil) (.node af (.node rc .nil .nil) .nil))) (.node ku (.node kM (.node af (.node uz .nil .nil) .nil) (.node jF (.node af .nil .nil) .nil)) (.node gB (.node iW (.node af .nil .nil) .nil) (.node af (.node uV .nil .nil) .nil))))))))
def s_4 (w:World) (os:OsState):SharedT:=⟨t_4 w.params,413,{ :Life },#[],⟨0,0,0,0⟩,873,os⟩
def q4:List Stmt:=(pE.main.body.drop 38).take 12
theorem l_4:∀ (w:World) (os:OsState),segRunT treeTable pE w m0 ann 1 1016 (s_3 w os) (piecesOf q4 env cE ⟨182,0,182,7⟩ B)=some (.next,s_4 w os,cE,⟨321,0,337,84⟩):=fun w os=>by kernel_rfl
def hz (P:Params):Heap:=⟨⟨[(boot_o_0 P),(boot_o_1 P),(boot_o_2 P),(xB P),(boot_o_4 P),(boot_o_5 P),(boot_o_6 P),(boot_o_7 P),(boot_o_8 P),(boot_o_9 P),(boot_o_10 P),af,xm,oh,ox,af,aq,iJ,af,lA,iT,iy,af,aq,ie,af,lM,jn,ji,af,aq,iI,af,lJ,jU,iY,af,aq,lO,iQ,jM,af,aq,ke,af,kr,iq,io,af,aq,lu,ia,iN,af,aq,jz,af,lP,iR,jc,(lW P),lC,ku,lX,kG,lG,lb,ky,lr,af,kB,lj,lw,af,ld,af,kE,af,lU,lQ,lS,lY,lD,af,lK,kC,lR,lB,kD,lF,kY,lm,kQ,kJ,kM,(oo P),lI,kT,ll,kK,af,gC,fG,fN,fR,fK,gA,fH,fT,ff,fo,fk,fY,fW,gz,fM,eZ,fV,(gF P),(fJ P),fI,gr,gq,fq,gJ,fL,gB,gH,fS,fE,fX,fP,eY,fU,gu,fm,af,aq,nz,jP,jr,af,aq,jV,af,md,iA,jo,af,aq,jE,af,mn,jw,jK,af,aq,jk,af,mH,iL,ip,af,aq,mE,je,ix,af,aq,jL,af,mh,jx,kf,af,aq,iO,af,nb,jZ,jb,af,aq,jR,af,mW,jj,jd,af,aq,iW,af,np,iP,kh,af,aq,jB,af,mI,iw,kd,af,aq,jy,af,mi,jp,iZ,af,aq,ir,af,mX,jD,jv,af,aq,jq,af,mM,jS,jF,af,aq,mz,jh,jO,af,aq,hZ,af,mV,ib,iu,af,aq,iK,af,mj,js,ic,af,aq,jH,af,nc,ii,jC,af,aq,mf,iX,iV,af,aq,mm,jQ,ij,(mw P),af,af,aq,vi,qJ,qe,af,mO,(tM P),af,vM,ua,tF,af,aq,qD,af,uO,pY,pG,pZ,(qF P),qE,pK,qr,uQ,uz,af,mO,(uB P),af,uR,tZ,uN,af,aq,pV,af,ve,oS,pW,af,aq,pH,af,uS,pf,oO,af,aq,oN,af,uj,qo,qQ,af,aq,qN,af,tI,pI,qR,af,aq,oP,af,vj,qc,qm,af,aq,qL,af,vm,re,oW,af,aq,pS,af,uC,pQ,qT,af,aq,pM,af,uW,pT,pP,af,aq,ql,af,uq,qz,oQ,oK,(rf P),rh,qM,pX,tW,vt,af,aq,rc,af,uc,pR,rg,af,aq,pD,af,uu,qv,oX,af,aq,qw,af,uV,qC,qK,af,aq,pA,af,ug,qk,qg,af,aq,pF,af,uA,qb,qp,af,aq,pN,af,tK,qP,oM,af,aq,qZ,af,uT,qG,oV]⟩,{ :Life }⟩
def sz (w:World) (os:OsState):Shared:=⟨hz w.params,#[],⟨0,0,0,0⟩,873,os⟩
theorem zS:∀ (w:World) (os:OsState),topRun treeTable pE w m0 ann 2 (s_4 w os).abs (Thread.mk (doneF .next) cE ⟨321,0,337,84⟩ B)=some (sz w os):=fun w os=>by kernel_rfl
theorem yC:∀ (w:World) (os:OsState),topRun treeTable pE w m0 ann (12+(1+(223+(907+(627+(57+(1016+2))))))) (s0 w os) (topStub pE)=some (sz w os):=fun w os=>go_top (zQ w os) (piece_block (ww w os) (piece_app (l:=q0) (segRun_of (l_0 w os)) (piece_app (l:=q1) (segRun_of (l_1 w os)) (piece_app (l:=q2) (segRun_of (l_2 w os)) (piece_app (l:=q3) (segRun_of (l_3 w os)) (piece_app (l:=q4) (segRun_of (l_4 w os)) (piece_nil (zS w os))))))))
def HK (P:Params):Frag:=[(2,(boot_o_2 P)),(3,(xB P)),(15,af),(17,iJ),(18,af),(20,iT),(21,iy),(22,af),(24,ie),(25,af),(27,jn),(28,ji),(29,af),(31,iI),(32,af),(34,jU),(35,iY),(36,af),(39,iQ),(40,jM),(41,af),(43,ke),(44,af),(46,iq),(47,io),(48,af),(51,ia),(52,iN),(53,af),(55,jz),(56,af),(58,iR),(59,jc),(60,(lW P)),(61,lC),(62,ku),(63,lX),(64,kG),(65,lG),(66,lb),(67,ky),(68,lr),(69,af),(70,kB),(71,lj),(72,lw),(73,af),(74,ld),(75,af),(76,kE),(77,af),(78,lU),(79,lQ),(80,lS),(81,lY),(82,lD),(83,af),(84,lK),(85,kC),(86,lR),(87,lB),(88,kD),(89,lF),(90,kY),(91,lm),(92,kQ),(93,kJ),(94,kM),(96,lI),(97,kT),(98,ll),(99,kK),(100,af),(101,gC),(102,fG),(103,fN),(104,fR),(105,fK),(106,gA),(107,fH),(108,fT),(109,ff),(110,fo),(111,fk),(112,fY),(113,fW),(114,gz),(115,fM),(116,eZ),(117,fV),(118,(gF P)),(119,(fJ P)),(120,fI),(121,gr),(122,gq),(123,fq),(124,gJ),(125,fL),(126,gB),(127,gH),(128,fS),(129,fE),(130,fX),(131,fP),(132,eY),(133,fU),(134,gu),(135,fm),(136,af),(139,jP),(140,jr),(141,af),(143,jV),(144,af),(146,iA),(147,jo),(148,af),(150,jE),(151,af),(153,jw),(154,jK),(155,af),(157,jk),(158,af),(160,iL),(161,ip),(162,af),(165,je),(166,ix),(167,af),(169,jL),(170,af),(172,jx),(173,kf),(174,af),(176,iO),(177,af),(179,jZ),(180,jb),(181,af),(183,jR),(184,af),(186,jj),(187,jd),(188,af),(190,iW),(191,af),(193,iP),(194,kh),(195,af),(197,jB),(198,af),(200,iw),(201,kd),(202,af),(204,jy),(205,af),(207,jp),(208,iZ),(209,af),(211,ir),(212,af),(214,jD),(215,jv),(216,af),(218,jq),(219,af),(221,jS),(222,jF),(223,af),(226,jh),(227,jO),(228,af),(230,hZ),(231,af),(233,ib),(234,iu),(235,af),(237,iK),(238,af),(240,js),(241,ic),(242,af),(244,jH),(245,af),(247,ii),(248,jC),(249,af),(252,iX),(253,iV),(254,af),(257,jQ),(258,ij),(259,(mw P)),(260,af),(261,af),(264,qJ),(265,qe),(273,af),(275,qD),(276,af),(278,pY),(279,pG),(280,pZ),(281,(qF P)),(282,qE),(283,pK),(284,qr),(294,af),(296,pV),(297,af),(299,oS),(300,pW),(301,af),(303,pH),(304,af),(306,pf),(307,oO),(308,af),(310,oN),(311,af),(313,qo),(314,qQ),(315,af),(317,qN),(318,af),(320,pI),(321,qR),(322,af),(324,oP),(325,af),(327,qc),(328,qm),(329,af),(331,qL),(332,af),(334,re),(335,oW),(336,af),(338,pS),(339,af),(341,pQ),(342,qT),(343,af),(345,pM),(346,af),(348,pT),(349,pP),(350,af),(352,ql),(353,af),(355,qz),(356,oQ),(357,oK),(358,(rf P)),(359,rh),(360,qM),(361,pX),(364,af),(366,rc),(367,af),(369,pR),(370,rg),(371,af),(373,pD),(374,af),(376,qv),(377,oX),(378,af),(380,qw),(381,af),(383,qC),(384,qK),(385,af),(387,pA),(388,af),(390,qk),(391,qg),(392,af),(394,pF),(395,af),(397,qb),(398,qp),(399,af),(401,pN),(402,af),(404,qP),(405,oM),(406,af),(408,qZ),(409,af),(411,qG),(412,oV)]
def HA:List Addr:=[2,3,15,17,18,20,21,22,24,25,27,28,29,31,32,34,35,36,39,40,41,43,44,46,47,48,51,52,53,55,56,58,59,60,61,62,63,64,65,66,67,68,69,70,71,72,73,74,75,76,77,78,79,80,81,82,83,84,85,86,87,88,89,90,91,92,93,94,96,97,98,99,100,101,102,103,104,105,106,107,108,109,110,111,112,113,114,115,116,117,118,119,120,121,122,123,124,125,126,127,128,129,130,131,132,133,134,135,136,139,140,141,143,144,146,147,148,150,151,153,154,155,157,158,160,161,162,165,166,167,169,170,172,173,174,176,177,179,180,181,183,184,186,187,188,190,191,193,194,195,197,198,200,201,202,204,205,207,208,209,211,212,214,215,216,218,219,221,222,223,226,227,228,230,231,233,234,235,237,238,240,241,242,244,245,247,248,249,252,253,254,257,258,259,260,261,264,265,273,275,276,278,279,280,281,282,283,284,294,296,297,299,300,301,303,304,306,307,308,310,311,313,314,315,317,318,320,321,322,324,325,327,328,329,331,332,334,335,336,338,339,341,342,343,345,346,348,349,350,352,353,355,356,357,358,359,360,361,364,366,367,369,370,371,373,374,376,377,378,380,381,383,384,385,387,388,390,391,392,394,395,397,398,399,401,402,404,405,406,408,409,411,412]
theorem zW (P:Params):HA=(HK P).map (·.1):=by kernel_rfl
def qV:Program:={ pE with main:={ pE.main with body:=[top 49] } }
def lo:List Str:=[(sx "is_whole"),(sx "is_between"),(sx "is_sign_number"),(sx "is_text"),(sx "fields_of"),(sx "field_kinds"),(sx "field_kind"),(sx "SHAPES"),(sx "LISTED"),(sx "GOES_BY"),(sx "MOST_NUMBER"),(sx "MOST_SIGNS"),(sx "MOST_IN_ROWS"),(sx "inner_of"),(sx "own_right"),(sx "named_kind"),(sx "record_kind"),(sx "kind_by"),(sx "kind_in"),(sx "function_of"),(sx "variable_kinds"),(sx "bodies_of"),(sx "lines_in"),(sx "within"),(sx "numbered"),(sx "numbered_bodies"),(sx "field_place"),(sx "of_record"),(sx "of_place"),(sx "of_numbers"),(sx "reckoned"),(sx "truth_of"),(sx "NOUGHTS"),(sx "nought"),(sx "Frame"),(sx "Run"),(sx "run"),(sx "_law_feed"),(sx "_law_draw"),(sx "_law_program"),(sx "_law_events"),(sx "_law_due")]
abbrev rW:RowW:=OpenRow.toRowW (OpenLaw.row PySem.Challenge.rw_everyfork_k20_deep_calls)
abbrev Xt:Shared→Bool:=fun s=>xlAt qV [] s&&recOk (RowW.records rW) s
abbrev hk:Hook:=kHook HK HA zW
theorem ye:∀ w:World,(fencedOpening treeTable pE w 5000).map (fun s=>(s.heap,s.gens,s.drawn,s.toks))=some (boot_heap w.params,Array.mk [],boot_drawn,boot_toks) :=
 boot_open (by kernel_rfl) (by kernel_rfl) fun s=>by kernel_rfl
theorem xU:∀ w:World,((boot_heap w.params).isNs mainGlobals&&(Array.mk []:Array GenState).size==0,(boot_heap w.params).objs.size,(boot_heap w.params).nsMap mainGlobals "__annotations__")=(true,m0,ann):=fun w=>by kernel_rfl
theorem vV:∀ w:World,(fun os=>((staticsOk (importedModules pE.main.body) (boot_heap w.params) (hz w.params)&&namesBound pE (hz w.params)&&gensDone ⟨hz w.params,#[],⟨0,0,0,0⟩,873,os⟩&&laidKept (boot_heap w.params) (hz w.params)),openSeen qV lo (importedModules pE.main.body) Xt true ⟨hz w.params,#[],⟨0,0,0,0⟩,873,os⟩,hk.obs ⟨hz w.params,#[],⟨0,0,0,0⟩,873,os⟩))=fun _=>(true,openGood qV lo,hk.val w):=fun w=>by kernel_rfl
theorem left:LeftO pE qV lo Xt hk.obs hk.val 5000:=LeftO.of_pieces (M:=(12+(1+(223+(907+(627+(57+(1016+2)))))))) ye xU yC (by kernel_rfl) vV
end
end HD
namespace L2
open PySem
structure Df (K:Frag) (mg:Str→Option Value) (x:Str) (st:Stmt) (ps:List Str) (f:Addr) (fd:FuncData):Prop where
 F:Fun K x x st f fd
 b:bZ K fd ps []
 m:mg x=some (.ref f)
def fdA (K:Frag) (f:Addr):FuncData:=match K.lookup f with | some ⟨_,_,.func d,_⟩=>d | _=>default
abbrev fdO (K:Frag) (f:Addr) (x:Str) (st:Stmt):FuncData:=PySem.W.fnOf x x (defArgs st) (defBody st) (defScope st) .none (fdA K f).kwdefaults (fdA K f).doc (fdA K f).pyModule (fdA K f).annotations (fdA K f).code (fdA K f).closureTuple
abbrev DfE (K:Frag) (x:Str) (f:Addr) (st:Stmt):Prop:=(PySem.W.nsIn K mainGlobals x,K.lookup f,PySem.W.codeIn K (fdA K f).code x,keepIn K (.ref f))=(some (some (.ref f)),some ⟨.type "function",none,.func (fdO K f x st),#[]⟩,true,true)
section
variable {K:Frag} {mg:Str→Option Value} {h:Heap}
theorem bl1 {α:Type} {C:List α→Prop} (h:∀ a,C [a]) (us:List α) (hl:us.length=1):C us:=by
 obtain ⟨a,rfl⟩:=List.length_eq_one_iff.mp hl
 exact h a
theorem blc {α:Type} {n:Nat} {us:List α} (hl:us.length=n+1):∃ a r,us=a::r∧r.length=n:=by
 cases us with
 | nil=>cases hl
 | cons a r=>exact ⟨a,r,rfl,Nat.succ.inj hl⟩
theorem bl2 {α:Type} {C:List α→Prop} (h:∀ a b,C [a,b]) (us:List α) (hl:us.length=2):C us:=by
 obtain ⟨a,r,rfl,e⟩:=blc hl
 exact bl1 (C:=fun r=>C (a::r)) (h a) r e
theorem bl3 {α:Type} {C:List α→Prop} (h:∀ a b c,C [a,b,c]) (us:List α) (hl:us.length=3):C us:=by
 obtain ⟨a,r,rfl,e⟩:=blc hl
 exact bl2 (C:=fun r=>C (a::r)) (h a) r e
theorem bl4 {α:Type} {C:List α→Prop} (h:∀ a b c d,C [a,b,c,d]) (us:List α) (hl:us.length=4):C us:=by
 obtain ⟨a,r,rfl,e⟩:=blc hl
 exact bl3 (C:=fun r=>C (a::r)) (h a) r e
theorem bl5 {α:Type} {C:List α→Prop} (h:∀ a b c d e,C [a,b,c,d,e]) (us:List α) (hl:us.length=5):C us:=by
 obtain ⟨a,r,rfl,e⟩:=blc hl
 exact bl4 (C:=fun r=>C (a::r)) (h a) r e
theorem bM (X:K.In h) (G:h.Ns mainGlobals mg) {x:Str} {f:Addr} {st:Stmt} {ps:List Str} (e:DfE K x f st)
  (hb:∀ (kV doc pm:Value) (an:Option Addr) (cdv ct:Value) (us:List Value),us.length=ps.length→bindArgs (PySem.W.fnOf x x (defArgs st) (defBody st) (defScope st) .none kV doc pm an cdv ct) ⟨us,[]⟩=pure (ps.zip us)):Df K mg x st ps f (fdO K f x st):=by
 obtain ⟨e1,e⟩:=Prod.mk.inj e
 obtain ⟨e2,e⟩:=Prod.mk.inj e
 obtain ⟨e3,e4⟩:=Prod.mk.inj e
 have F:Fun K x x st f (fdO K f x st):=vD e2 e3 e4
 exact ⟨F,F.binds hb,mg_of X G e1⟩
theorem Df.cal {P:Program} {w:World} {base:Heap} {x:Str} {st:Stmt} {ps:List Str} {f:Addr} {fd:FuncData} {k:Nat} {sp:Sp} (D:Df K mg x st ps f fd) (o:bg P w K mg base CX0 k f fd ps sp):K6.Cal P w K mg base k x ps sp:=⟨f,fd,o,D.b,D.F.kp,D.m⟩
def vZ (K:Frag) (a:Addr):Array Value:=match K.lookup a with | some ⟨_,_,.seq xs _,_⟩=>xs | _=>#[]
def esA (K:Frag) (a:Addr):Array DictEntry:=match K.lookup a with | some ⟨_,_,.dict xs _,_⟩=>xs | _=>#[]
def nA (K:Frag) (a:Addr):Nat:=match K.lookup a with | some ⟨_,_,.dict _ n,_⟩=>n | _=>0
abbrev tO (K:Frag) (a:Addr):Obj:=⟨.type "tuple",none,.seq (vZ K a) 0,#[]⟩
def vIs:V→Value→Bool
 | .int i,.int j _=>i==j
 | .str z,.str y _=>z==y
 | .ref a,.ref b=>a==b
 | _,_=>false
theorem xw {v:V} {u:Value} (h:vIs v u=true):aJ v u:=by
 unfold vIs at h
 split at h
 ·exact ⟨_,by rw [eq_of_beq h]⟩
 ·exact ⟨_,by rw [eq_of_beq h]⟩
 ·show _=_
  rw [eq_of_beq h]
 ·cases h
def kO:List V→List Value→Bool
 | [],[]=>true
 | v::vs,u::us=>vIs v u&&kO vs us
 | _,_=>false
theorem oj:∀ {vs:List V} {us:List Value},kO vs us=true→aD vs us
 | [],[],_=>.nil
 | v::vs,u::us,h=>by
  simp only [kO,Bool.and_eq_true] at h
  exact .cons (xw h.1) (oj h.2)
 | [],_::_,h=>by cases h
 | _::_,[],h=>by cases h
theorem tq {a:Addr} {xs:List V} (e:K.lookup a=some (tO K a)) (hl:xs.length≤1000) (h:kO xs (vZ K a).toList=true):∀ H,SqT K H a xs:=fun H=>by
 have r:=oj h
 have:=aD.length r
 refine .inr ⟨_,_,0,e,rfl,rfl,?_,r⟩
 have:=cf hl
 rw [← Array.length_toList]
 omega
def kx (e:DictEntry):Str:=match e.key with | .str x _=>x | _=>Str.empty
def kt (e:DictEntry):Tok:=match e.key with | .str _ t=>t | _=>0
theorem rS {P:Params}:∀ {l:List DictEntry},l.map (fun e=>(e.key,e.hash))=l.map (fun e=>(.str (kx e) (kt e),PyData.keyHash P (kx e)))→KeysLit P l
 | [],_=>trivial
 | e::r,h=>by
  rw [List.map_cons,List.map_cons] at h
  obtain ⟨h1,h2⟩:=List.cons.inj h
  obtain ⟨h3,h4⟩:=Prod.mk.inj h1
  exact ⟨⟨_,_,h3,h4⟩,rS h2⟩
abbrev KdE (K:Frag) (P:Params) (a:Addr):Prop:=(K.lookup a,(esA K a).toList.map (fun e=>(e.key,e.hash)))=(some ⟨.type "dict",none,.dict (esA K a) (nA K a),#[]⟩,(esA K a).toList.map fun e=>(.str (kx e) (kt e),PyData.keyHash P (kx e)))
theorem qO {w:World} {a:Addr} (e:KdE K w.params a) (lo:(a==sysModules)=false):KDv K w a:=⟨⟨_,_,(Prod.mk.inj e).1,rS (Prod.mk.inj e).2⟩,lo⟩
abbrev yn:=Str×Addr×Addr×List V×List V
abbrev TbE (K:Frag) (a:Addr) (q:List yn):Prop:=(q.map fun r=>(PySem.W.nsIn K a r.1,K.lookup r.2.1,K.lookup r.2.2.1),q.all fun r=>r.2.2.2.1.length≤1000&&r.2.2.2.2.length≤1000&&kO r.2.2.2.1 (vZ K r.2.1).toList&&kO r.2.2.2.2 (vZ K r.2.2.1).toList)=(q.map fun r=>(some (some (.ref r.2.1)),some (tO K r.2.1),some (tO K r.2.2.1)),true)
theorem xO {a:Addr} {q:List yn} (e:TbE K a q):∀ r∈q,PySem.W.nsIn K a r.1=some (some (.ref r.2.1))∧(∀ H,SqT K H r.2.1 r.2.2.2.1)∧∀ H,SqT K H r.2.2.1 r.2.2.2.2:=fun r hr=>by
 obtain ⟨e1,e2⟩:=Prod.mk.inj e
 have h1:=List.map_inj_left.mp e1 r hr
 have h2:=List.all_eq_true.mp e2 r hr
 simp only [Bool.and_eq_true,decide_eq_true_eq] at h2
 obtain ⟨a1,a2⟩:=Prod.mk.inj h1
 obtain ⟨a2,a3⟩:=Prod.mk.inj a2
 exact ⟨a1,tq a2 h2.1.1.1 h2.1.2,tq a3 h2.1.1.2 h2.2⟩
theorem uL {α β:Type}:∀ {l:List α} {m:List β},l.length=m.length→∀ x∈l,∃ y,(x,y)∈l.zip m
 | a::l,b::m,h,x,hx=>by
  rcases List.mem_cons.mp hx with rfl | hx
  ·exact ⟨b,List.mem_cons_self ..⟩
  ·obtain ⟨y,hy⟩:=uL (by simpa using h) x hx
   exact ⟨y,List.mem_cons_of_mem _ hy⟩
def zO (K:Frag) (a:Addr) (x:Str):Tok:=match PySem.W.nsIn K a x with | some (some (.int _ t))=>t | some (some (.str _ t))=>t | _=>0
abbrev fdM (K:Frag) (f:Addr) (x q:Str) (st:Stmt):FuncData:=PySem.W.fnOf x q (defArgs st) (defBody st) (defScope st) .none (fdA K f).kwdefaults (fdA K f).doc (fdA K f).pyModule (fdA K f).annotations (fdA K f).code (fdA K f).closureTuple
structure Dm (K:Frag) (C:Addr) (x q:Str) (st:Stmt) (ps:List Str) (f:Addr) (fd:FuncData):Prop where
 F:Fun K x q st f fd
 b:bZ K fd ps []
 m:sG K C x f
abbrev DmE (K:Frag) (C:Addr) (x q:Str) (f:Addr) (st:Stmt):Prop:=(PySem.W.findIn K (.ref C) x,PySem.W.isFn K (.ref f),K.lookup f,PySem.W.codeIn K (fdA K f).code q,keepIn K (.ref f))=(some (some (.ref f)),true,some ⟨.type "function",none,.func (fdM K f x q st),#[]⟩,true,true)
theorem eV {C:Addr} {x q:Str} {f:Addr} {st:Stmt} {ps:List Str} (e:DmE K C x q f st)
  (hb:∀ (kV doc pm:Value) (an:Option Addr) (cdv ct:Value) (us:List Value),us.length=ps.length→bindArgs (PySem.W.fnOf x q (defArgs st) (defBody st) (defScope st) .none kV doc pm an cdv ct) ⟨us,[]⟩=pure (ps.zip us)):Dm K C x q st ps f (fdM K f x q st):=by
 obtain ⟨e1,e⟩:=Prod.mk.inj e
 obtain ⟨e2,e⟩:=Prod.mk.inj e
 obtain ⟨e3,e⟩:=Prod.mk.inj e
 obtain ⟨e4,e5⟩:=Prod.mk.inj e
 have F:Fun K x q st f (fdM K f x q st):=vD e3 e4 e5
 exact ⟨F,F.binds hb,⟨e1,e2,e5⟩⟩
theorem Dm.cal {P:Program} {w:World} {base:Heap} {C:Addr} {x q:Str} {st:Stmt} {ps:List Str} {f:Addr} {fd:FuncData} {k:Nat} {sp:Sp} (D:Dm K C x q st ps f fd) (o:bg P w K mg base CX0 k f fd ps sp):K6.MCal P w K mg base C k x ps sp:=⟨f,fd,o,D.b,D.m⟩
end
end L2
namespace K6
open PySem L2
def SHX:List (Str×Str×Int×List Int):=[("let", "statement",3,[2]),("say", "statement",3,[2]),("if", "statement",4,[1]),("while", "statement",3,[1]),("call", "statement",4,[]),("give", "statement",2,[1]),("num", "expression",2,[]),("text", "expression",2,[]),("var", "expression",2,[]),("of", "expression",3,[1]),("with", "expression",4,[1,3]),("new", "expression",3,[]),("add", "expression",3,[1,2]),("sub", "expression",3,[1,2]),("times", "expression",3,[2]),("div", "expression",3,[1]),("rest", "expression",3,[1]),("len", "expression",2,[1]),("at", "expression",3,[1,2]),("rows", "expression",2,[]),("put", "expression",4,[1,2,3]),("more", "expression",3,[1,2]),("signs", "expression",2,[1]),("less", "condition",3,[1,2]),("same", "condition",3,[1,2]),("and", "condition",3,[1,2]),("or", "condition",3,[1,2]),("not", "condition",2,[1])]
theorem wV:∀ p∈PL8,p∈SHX.map fun q=>(q.1,q.2.2.2):=by decide +kernel
theorem zK:∀ p∈PL8,∀ q∈LIT,q.1≠p.1:=by decide +kernel
structure GX (K:Frag) (w:World) (mg:Str→Option Value):Prop where
 sh:∃ aS,mg "SHAPES"=some (.ref aS)∧KDv K w aS∧∀ q∈SHX,∃ a b,PySem.W.nsIn K aS q.1=some (some (.ref a))∧(∀ H,SqT K H a [.str q.2.1,.int q.2.2.1,.ref b])∧∀ H,SqT K H b (q.2.2.2.map V.int)
 li:∃ aL,mg "LISTED"=some (.ref aL)∧KDv K w aL∧(∀ p∈LIT,∃ t,PySem.W.nsIn K aL p.1=some (some (.int p.2 t)))∧∀ q∈SHX,(∀ p∈LIT,p.1≠q.1)→PySem.W.nsIn K aL q.1=some none
theorem GX.gp {K:Frag} {w:World} {mg:Str→Option Value} (x:GX K w mg):GP8 K w mg:=by
 obtain ⟨aS,m1,k1,h1⟩:=x.sh
 obtain ⟨aL,m2,k2,h2,h3⟩:=x.li
 refine ⟨⟨aS,m1,k1,fun p hp=>?_⟩,⟨aL,m2,k2,h2,fun p hp=>?_⟩⟩
 ·obtain ⟨q,hq,rfl⟩:=List.mem_map.mp (wV p hp)
  obtain ⟨a,b,e1,e2,e3⟩:=h1 q hq
  exact ⟨a,b,_,_,e1,e2,e3⟩
 ·have hn:=zK p hp
  obtain ⟨q,hq,rfl⟩:=List.mem_map.mp (wV p hp)
  exact h3 q hq hn
abbrev GcE (K:Frag) (C:Addr) (l:List Str):Prop:=(PySem.W.plainGet K C Str.empty,PySem.W.hasDictIn K C,PySem.W.plainOver K C,PySem.W.findIn K (.ref C) "__setattr__",PySem.W.makesIn K C,keepIn K (.ref C),l.map fun z=>PySem.W.findIn K (.ref C) z)=(true,true,true,some (some (.builtin "object.__setattr__")),true,true,l.map fun _=>some none)
theorem xj {K:Frag} {C:Addr} {l:List Str} (e:GcE K C l):(Cls K C∧∀ z∈l,cD K C z)∧∀ {f:Addr},sG K C "__init__" f→Mk K C f:=by
 obtain ⟨e1,e⟩:=Prod.mk.inj e
 obtain ⟨e2,e⟩:=Prod.mk.inj e
 obtain ⟨e3,e⟩:=Prod.mk.inj e
 obtain ⟨e4,e⟩:=Prod.mk.inj e
 obtain ⟨e5,e⟩:=Prod.mk.inj e
 obtain ⟨e6,e7⟩:=Prod.mk.inj e
 exact ⟨⟨⟨e1,e2,e3,e4⟩,fun z hz=>List.map_inj_left.mp e7 z hz⟩,fun m=>⟨e5,m.at_,m.fn,e6⟩⟩
def qSh (l:List (Addr×Addr)):List yn:=(SHX.zip l).map fun p=>(p.1.1,p.2.1,p.2.2,[.str p.1.2.1,.int p.1.2.2.1,.ref p.2.2],p.1.2.2.2.map V.int)
abbrev LiE (K:Frag) (a:Addr):Prop:=(LIT.map fun p=>PySem.W.nsIn K a p.1,(SHX.filter fun q=>LIT.all fun p=>!(p.1==q.1)).map fun q=>PySem.W.nsIn K a q.1)=(LIT.map fun p=>some (some (.int p.2 (zO K a p.1))),(SHX.filter fun q=>LIT.all fun p=>!(p.1==q.1)).map fun _=>some none)
section
variable {K:Frag} {mg:Str→Option Value} {h:Heap} {w:World}
theorem yI (X:K.In h) (G:h.Ns mainGlobals mg) {aS aL:Addr} {l:List (Addr×Addr)} (hl:l.length=28) (mS:PySem.W.nsIn K mainGlobals "SHAPES"=some (some (.ref aS))) (mL:PySem.W.nsIn K mainGlobals "LISTED"=some (some (.ref aL))) (kS:KDv K w aS) (kL:KDv K w aL) (tS:TbE K aS (qSh l)) (tL:LiE K aL):GX K w mg:=by
 refine ⟨⟨aS,mg_of X G mS,kS,fun q hq=>?_⟩,⟨aL,mg_of X G mL,kL,fun p hp=>?_,fun q hq hn=>?_⟩⟩
 ·obtain ⟨y,hy⟩:=uL (m:=l) (by rw [hl]; rfl) q hq
  obtain ⟨e1,e2,e3⟩:=xO tS _ (List.mem_map.mpr ⟨_,hy,rfl⟩)
  exact ⟨_,_,e1,e2,e3⟩
 ·exact ⟨_,List.map_inj_left.mp (Prod.mk.inj tL).1 p hp⟩
 ·refine List.map_inj_left.mp (Prod.mk.inj tL).2 q (List.mem_filter.mpr ⟨hq,List.all_eq_true.mpr fun p hp=>?_⟩)
  simp only [Bool.not_eq_true',beq_eq_false_iff_ne]
  exact hn p hp
end
section
variable {P:Program} {w:World} {K:Frag} {mg:Str→Option Value} {base:Heap} {CF CR f f1 f2 f3 f4 f5 f6:Addr} {fd d1 d2 d3 d4 d5 d6:FuncData}
theorem wI (hC:CR≠CF) (T:G0 mg) (TRv:mg "reversed"=none) (TR:GR K CR) (TF:GF K CF) (F:Fun K "run" "run" rX f fd) (Yg:Dm K CR "give" "Run.give" eI ["self", "value"] f1 d1) (Yf:Dm K CR "fork" "Run.fork" eX pDo f2 d2) (Yc:Dm K CR "call" "Run.call" eM pDo f3 d3) (Yd:Dm K CR "do" "Run.do" mP pDo f4 d4) (Ys:Dm K CR "step" "Run.step" eP ["self"] f5 d5) (Yi:Dm K CR "__init__" "Run.__init__" eT pRi f6 d6) (mk:Mk K CR f6) (mR:mg "Run"=some (.ref CR))
  (Dr:MCal P w K mg base CR 6 "reckon" ["self", "frame", "e"] (mU K CR CF)) (Da:MCal P w K mg base CR 7 "asked" ["self", "frame", "c"] (uH K CR CF)) (Dn:Cal P w K mg base 5 "numbered_bodies" ["k", "statement"] (vP K)) (Df:Cal P w K mg base 1 "function_of" ["program", "f"] (wb K)) (Do:Cal P w K mg base 1 "nought" ["program", "kind"] wM) (MF:MkF P w K mg base CF) :
  bg P w K mg base CX0 11 f fd ["program", "f", "values", "ticks"] (vv K):=bg.ex2 fun x=>by
 have A1:=Yg.cal (P:=P) (w:=w) (mg:=mg) (base:=base) (wL (FS:=eC x.1 x.2) hC TR TF T Yg.F)
 have A2:=Yf.cal (P:=P) (w:=w) (mg:=mg) (base:=base) (wn (FS:=eC x.1 x.2) T TRv TR TF Yf.F Da Dn)
 have A3:=Yc.cal (P:=P) (w:=w) (mg:=mg) (base:=base) (vW (FS:=eC x.1 x.2) TR TF Yc.F Dr Df MF)
 have A4:=Yd.cal (P:=P) (w:=w) (mg:=mg) (base:=base) (yD TR TF Yd.F A2 A3 Dr A1)
 exact yo T TR F ⟨_,_,zw hC TR Yi.F Df MF,Yi.b,mk,mR⟩ (Ys.cal (wN hC T TR TF Ys.F A4 A1 Do))
end
open PySem L2
theorem x1 (P:Params):DfE (HD.HK P) "inner_of" 140 cX:=by kernel_rfl
theorem x2 (P:Params):DfE (HD.HK P) "function_of" 180 cH:=by kernel_rfl
theorem x3 (P:Params):DfE (HD.HK P) "variable_kinds" 187 bN:=by kernel_rfl
theorem x4 (P:Params):DfE (HD.HK P) "bodies_of" 194 dw:=by kernel_rfl
theorem x5 (P:Params):DfE (HD.HK P) "lines_in" 201 ek:=by kernel_rfl
theorem x6 (P:Params):DfE (HD.HK P) "within" 208 iM:=by kernel_rfl
theorem x7 (P:Params):DfE (HD.HK P) "numbered" 215 dY:=by kernel_rfl
theorem x8 (P:Params):DfE (HD.HK P) "numbered_bodies" 222 bH:=by kernel_rfl
theorem x9 (P:Params):DfE (HD.HK P) "of_numbers" 248 cT:=by kernel_rfl
theorem x10 (P:Params):DfE (HD.HK P) "reckoned" 253 cP:=by kernel_rfl
theorem x11 (P:Params):DfE (HD.HK P) "truth_of" 258 cW:=by kernel_rfl
theorem x12 (P:Params):DfE (HD.HK P) "nought" 265 iG:=by kernel_rfl
theorem x13 (P:Params):DfE (HD.HK P) "run" 370 rX:=by kernel_rfl
theorem x14 (P:Params):DfE (HD.HK P) "_law_feed" 377 iE:=by kernel_rfl
theorem x15 (P:Params):DfE (HD.HK P) "_law_draw" 384 jg:=by kernel_rfl
theorem x16 (P:Params):DfE (HD.HK P) "_law_program" 391 dA:=by kernel_rfl
theorem x17 (P:Params):DfE (HD.HK P) "_law_events" 398 eA:=by kernel_rfl
theorem x18 (P:Params):DfE (HD.HK P) "_law_due" 405 my:=by kernel_rfl
theorem x19 (P:Params):DfE (HD.HK P) "law" 412 rn:=by kernel_rfl
theorem y1 (P:Params):DmE (HD.HK P) 282 "__init__" "Frame.__init__" 279 jt:=by kernel_rfl
theorem y2 (P:Params):DmE (HD.HK P) 359 "__init__" "Run.__init__" 300 eT:=by kernel_rfl
theorem y3 (P:Params):DmE (HD.HK P) 359 "step" "Run.step" 307 eP:=by kernel_rfl
theorem y4 (P:Params):DmE (HD.HK P) 359 "do" "Run.do" 314 mP:=by kernel_rfl
theorem y5 (P:Params):DmE (HD.HK P) 359 "reckon" "Run.reckon" 321 er:=by kernel_rfl
theorem y6 (P:Params):DmE (HD.HK P) 359 "asked" "Run.asked" 328 gK:=by kernel_rfl
theorem y7 (P:Params):DmE (HD.HK P) 359 "fork" "Run.fork" 335 eX:=by kernel_rfl
theorem y8 (P:Params):DmE (HD.HK P) 359 "call" "Run.call" 342 eM:=by kernel_rfl
theorem y9 (P:Params):DmE (HD.HK P) 359 "give" "Run.give" 349 eI:=by kernel_rfl
theorem xJ {l:PySem.W.OpenLaw} {w:World} {h:Heap} {mg:Str→Option Value} {fa:Addr} (X:(HD.HK w.params).In h) (G0:h.Ns mainGlobals mg) (hfa:mg "law"=some (.ref fa)) :
  ∃ fd:FuncData,(∀ (s:Shared) (v:Value),BindsTo s fd ⟨[v],[]⟩ [("_law_script",v)])∧∀ base:Heap,(HD.HK w.params).In base→base.Ns mainGlobals mg→bg l.prog w (HD.HK w.params) mg base CX0 12 fa fd ["_law_script"] (vp (HD.HK w.params)):=by
 have E1:=bM X G0 (ps:=["shaped"]) (x1 _) fun _ _ _ _ _ _=>bl1 fun _=>rfl
 have E2:=bM X G0 (ps:=["program", "f"]) (x2 _) fun _ _ _ _ _ _=>bl2 fun _ _=>rfl
 have E3:=bM X G0 (ps:=["function"]) (x3 _) fun _ _ _ _ _ _=>bl1 fun _=>rfl
 have E4:=bM X G0 (ps:=["statement"]) (x4 _) fun _ _ _ _ _ _=>bl1 fun _=>rfl
 have E5:=bM X G0 (ps:=["body"]) (x5 _) fun _ _ _ _ _ _=>bl1 fun _=>rfl
 have E6:=bM X G0 (ps:=["statement"]) (x6 _) fun _ _ _ _ _ _=>bl1 fun _=>rfl
 have E7:=bM X G0 (ps:=["body", "first"]) (x7 _) fun _ _ _ _ _ _=>bl2 fun _ _=>rfl
 have E8:=bM X G0 (ps:=["k", "statement"]) (x8 _) fun _ _ _ _ _ _=>bl2 fun _ _=>rfl
 have E9:=bM X G0 (ps:=["e", "inner"]) (x9 _) fun _ _ _ _ _ _=>bl2 fun _ _=>rfl
 have E10:=bM X G0 (ps:=["program", "kinds", "held", "e"]) (x10 _) fun _ _ _ _ _ _=>bl4 fun _ _ _ _=>rfl
 have E11:=bM X G0 (ps:=["program", "kinds", "held", "c"]) (x11 _) fun _ _ _ _ _ _=>bl4 fun _ _ _ _=>rfl
 have E12:=bM X G0 (ps:=["program", "kind"]) (x12 _) fun _ _ _ _ _ _=>bl2 fun _ _=>rfl
 have E13:=bM X G0 (ps:=["program", "f", "values", "ticks"]) (x13 _) fun _ _ _ _ _ _=>bl4 fun _ _ _ _=>rfl
 have E14:=bM X G0 (ps:=["_law_script"]) (x14 _) fun _ _ _ _ _ _=>bl1 fun _=>rfl
 have E15:=bM X G0 (ps:=["_law_feed_here", "_law_many"]) (x15 _) fun _ _ _ _ _ _=>bl2 fun _ _=>rfl
 have E16:=bM X G0 (ps:=["_law_more", "_law_last"]) (x16 _) fun _ _ _ _ _ _=>bl2 fun _ _=>rfl
 have E17:=bM X G0 (ps:=["_law_n"]) (x17 _) fun _ _ _ _ _ _=>bl1 fun _=>rfl
 have E18:=bM X G0 (ps:=["_law_events_here", "_law_ticks", "_law_value"]) (x18 _) fun _ _ _ _ _ _=>bl3 fun _ _ _=>rfl
 have E19:=bM X G0 (ps:=["_law_script"]) (x19 _) fun _ _ _ _ _ _=>bl1 fun _=>rfl
 have Y1:=eV (ps:=["self", "program", "function", "given", "target"]) (y1 w.params) fun _ _ _ _ _ _=>bl5 fun _ _ _ _ _=>rfl
 have Y2:=eV (ps:=["self", "program", "f", "given", "ticks"]) (y2 w.params) fun _ _ _ _ _ _=>bl5 fun _ _ _ _ _=>rfl
 have Y3:=eV (ps:=["self"]) (y3 w.params) fun _ _ _ _ _ _=>bl1 fun _=>rfl
 have Y4:=eV (ps:=["self", "frame", "k", "statement"]) (y4 w.params) fun _ _ _ _ _ _=>bl4 fun _ _ _ _=>rfl
 have Y5:=eV (ps:=["self", "frame", "e"]) (y5 w.params) fun _ _ _ _ _ _=>bl3 fun _ _ _=>rfl
 have Y6:=eV (ps:=["self", "frame", "c"]) (y6 w.params) fun _ _ _ _ _ _=>bl3 fun _ _ _=>rfl
 have Y7:=eV (ps:=["self", "frame", "k", "statement"]) (y7 w.params) fun _ _ _ _ _ _=>bl4 fun _ _ _ _=>rfl
 have Y8:=eV (ps:=["self", "frame", "k", "statement"]) (y8 w.params) fun _ _ _ _ _ _=>bl4 fun _ _ _ _=>rfl
 have Y9:=eV (ps:=["self", "value"]) (y9 w.params) fun _ _ _ _ _ _=>bl2 fun _ _=>rfl
 have e:=hfa.symm.trans E19.m
 cases e
 have z:=fun x e=>mg_none_of (n:=x) X G0 e
 have T:K6.G0 mg:=⟨z _ (by kernel_rfl),z _ (by kernel_rfl),z _ (by kernel_rfl),z _ (by kernel_rfl),z _ (by kernel_rfl),z _ (by kernel_rfl),z _ (by kernel_rfl),z _ (by kernel_rfl),z _ (by kernel_rfl),z _ (by kernel_rfl),z _ (by kernel_rfl),z _ (by kernel_rfl)⟩
 have TRv:=z "reversed" (by kernel_rfl)
 have TZ:=z "zip" (by kernel_rfl)
 have TX:GX (HD.HK w.params) w mg:=yI X G0 (l:=[(62,61),(64,63),(66,65),(68,67),(70,69),(72,71),(74,73),(76,75),(78,77),(80,79),(82,81),(84,83),(86,85),(88,87),(90,89),(92,91),(94,93),(97,96),(99,98),(101,100),(103,102),(105,104),(107,106),(109,108),(111,110),(113,112),(115,114),(117,116)]) rfl (by kernel_rfl) (by kernel_rfl) (qO (a:=60) (by kernel_rfl) rfl) (qO (a:=118) (by kernel_rfl) rfl) (by kernel_rfl) (by kernel_rfl)
 have TP:=TX.gp
 have TNo:GNo (HD.HK w.params) w mg:=⟨259,mg_of X G0 (by kernel_rfl),qO (by kernel_rfl) rfl,zO (HD.HK w.params) 259 "num",by kernel_rfl⟩
 obtain ⟨⟨c1,c2⟩,MkF⟩:=xj (K:=HD.HK w.params) (C:=282) (l:=["function", "kinds", "held", "tasks", "target"]) (by kernel_rfl)
 have TF:GF (HD.HK w.params) 282:=⟨c1,c2⟩
 obtain ⟨⟨c3,c4⟩,MkR⟩:=xj (K:=HD.HK w.params) (C:=359) (l:=["program", "ticks", "frames", "spots", "end"]) (by kernel_rfl)
 have TR:GR (HD.HK w.params) 359:=⟨c3,c4⟩
 have hC:(359:Addr)≠282:=by decide
 refine ⟨fdO (HD.HK w.params) 412 "law" rn,fun s v=>.of_eq rfl,fun base _ _=>?_⟩
 have D1:=E1.cal (base:=base) (P:=l.prog) (w:=w) (yi TP T E1.F)
 have D2:=E2.cal (base:=base) (P:=l.prog) (w:=w) (zR E2.F)
 have D3:=E3.cal (base:=base) (P:=l.prog) (w:=w) (wx T E3.F)
 have D4:=E4.cal (base:=base) (P:=l.prog) (w:=w) (wf E4.F)
 have D5:=E5.cal (base:=base) (P:=l.prog) (w:=w) (yB T TRv E5.F D4)
 have D6:=E6.cal (base:=base) (P:=l.prog) (w:=w) (sJ T E6.F D4 D5)
 have D7:=E7.cal (base:=base) (P:=l.prog) (w:=w) (xI T E7.F D6)
 have D8:=E8.cal (base:=base) (P:=l.prog) (w:=w) (yj T E8.F D4 D5 D7)
 have D9:=E9.cal (base:=base) (P:=l.prog) (w:=w) (yP E9.F)
 have D10:=E10.cal (base:=base) (P:=l.prog) (w:=w) (vO E10.F E10.b E10.m D9 D1 3)
 have D11:=E11.cal (base:=base) (P:=l.prog) (w:=w) (yS E11.F D1 D10)
 have D12:=E12.cal (base:=base) (P:=l.prog) (w:=w) (zx TNo E12.F)
 have DM5:=Y5.cal (mg:=mg) (base:=base) (P:=l.prog) (w:=w) (vY (CF:=282) TR TF Y5.F D10)
 have DM6:=Y6.cal (mg:=mg) (base:=base) (P:=l.prog) (w:=w) (xL (CF:=282) TR TF Y6.F D11)
 have D13:=E13.cal (base:=base) (P:=l.prog) (w:=w) (wI hC T TRv TR TF E13.F Y9 Y7 Y8 Y4 Y3 Y2 (MkR Y2.m) (mg_of X G0 (by kernel_rfl)) DM5 DM6 D8 D2 D12 ⟨_,_,zj TF T TZ TRv Y1.F D7 D12 D3,Y1.b,MkF Y1.m,mg_of X G0 (by kernel_rfl)⟩)
 have D14:=E14.cal (base:=base) (P:=l.prog) (w:=w) (Ag T E14.F)
 have D15:=E15.cal (base:=base) (P:=l.prog) (w:=w) (zC T E15.F)
 have D16:=E16.cal (base:=base) (P:=l.prog) (w:=w) (yV E16.F)
 have D17:=E17.cal (base:=base) (P:=l.prog) (w:=w) (Ad E17.F)
 have D18:=E18.cal (base:=base) (P:=l.prog) (w:=w) (xN E18.F)
 exact yd T (z "max" (by kernel_rfl)) (z "min" (by kernel_rfl)) E19.F D13 D15 D18 D17 D16 D14
theorem walk {l:PySem.W.OpenLaw} {q:Program} {loose:List Str} {XP:(Str→Option Value)→Heap→Prop} {YP:World→Heap→Prop} {d:DefRec} (hn:l.most=some 63) (hdf:d.params.defaults=[])
  (hY:∀ (w:World) (h:Heap),YP w h→(HD.HK w.params).In h) (hd:d.name = "law"):PySem.W.WalkO q loose XP YP l.row.toRowW d [] (fun f vs=>PySem.call f vs) :=
 L2.walk_of (K:=HD.HK) (n:=63) (k:=12) (x := "_law_script") (CX:=fun _=>CX0) (sp:=fun w=>vp (HD.HK w.params)) hn (by decide) hdf ⟨rfl,by decide,by decide,rfl⟩ hY (fun w mg fa h KX G hmg=>xJ KX G (hd ▸ hmg)) (fun _ _ a ns hl _ hS=>⟨a,ns,rfl,hS,fun _=>rfl⟩) fun _ _ _ _ _ z=>z
end K6
open PySem PySem.W PyProof.Rows
set_option maxHeartbeats 0 in
theorem wB:PySem.Challenge.rw_everyfork_k20_deep_calls.wellSaid=true:=by
 unfold OpenLaw.wellSaid
 iterate 18 refine look_both ?_ (by decide +kernel)
 unfold OpenRow.wellSaid
 iterate 2 refine look_both ?_ (by decide +kernel)
 unfold OpenRow.partSaid
 iterate 13 refine look_both ?_ (by decide +kernel)
 unfold looksOpen
 iterate 5 refine look_both ?_ (by decide +kernel)
 decide +kernel
set_option maxRecDepth 100000 in
set_option maxHeartbeats 0 in
theorem PySem.Challenge.cw_everyfork_k20_deep_calls_holds : PySem.Challenge.rw_everyfork_k20_deep_calls.Holds := by
 refine holds_law wB fun said=>?_
 refine holds_open (q:=HD.qV) (loose:=HD.lo) (Xt:=HD.Xt) (XP:=XL HD.qV []) (Yf:=Hook.obs HD.hk) (Ya:=Hook.val HD.hk) (YP:=Hook.says HD.hk) (N:=5000) HD.left (Hook.of HD.hk) (Hook.keeps HD.hk)
  (fun s e=>xl_of s (Bool.and_eq_true_iff.mp e).1) XL.keeps (by rfl) (by rfl) (by rfl) (fun s e=>recFacts_of (Bool.and_eq_true_iff.mp e).2) (by rfl) said (by decide +kernel) ⟨rfl,rfl,rfl,rfl,rfl,by decide +kernel⟩ ?hw
  (K6.walk (l:=PySem.Challenge.rw_everyfork_k20_deep_calls) rfl rfl (fun w h Y=>kIn_of Y) rfl)
 case hw=>w_witness2