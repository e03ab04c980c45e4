import PyProof.Rows.All
import Wide.All
import OpenK.AllK
import Wide.FinOn
import PyProof.EqAt
import PyProof.EqKinds
import PyProof.TupleKey
import PyProof.P3Eq
import PyProof.FactsAll.tuple_2
import KE.KSortTup
import KE.KDictList
import PyProof.SetNew
import PyProof.SetRoads
import PyProof.Rows.SetFrom
import Lean
import PyProof.TupleCall
import PyProof.AttrMiss
import PyProof.IsiH_tuple
import KE.KDictOf
import PyProof.ZipIter
import PyProof.Draws
import PyProof.Rows.FactsT2
import KE.KRevIter
import PyProof.EnumStmt
import PyProof.TupleOps
import PyProof.ListRange
import PyProof.EnumFor
import PyProof.EnumMake
import PyProof.Rows.SumAny
import PyProof.AutoListH
import PyProof.FactsAll.list_3
import KE.KIntText
import PyProof.StrBlockG
import PyProof.StrLawsTight
import PyProof.StrLawsChain
import PyProof.Rows.StrItems
import PyProof.DictWalks
import PyProof.ListStr
import PyProof.DictValues
import PySem.Challenge.RW_everyfork_k25_facts_of_a_room
open PySem.W (Frag mg_of mg_none_of keepIn KeysLit)
noncomputable section
set_option Elab.async false
set_option linter.all false
set_option maxRecDepth 100000
set_option maxHeartbeats 4000000
namespace L2
open PySem PySem.Spec PyProof.Rows
mutual
def pk:PyData→Bool
 | .int _=>true
 | .str x=>PyData.strOk x
 | .tuple l=>pks l
 | _=>false
def pks:List PyData→Bool
 | []=>true
 | d::r=>pk d&&pks r
end
mutual
def hsh (w:World):PyData→Int
 | .int i=>hashInt i
 | .str x=>hashStr w x
 | .tuple l=>reduceHash (Builtin.Tuple.tupleHashOf (jb w l))
 | _=>0
def jb (w:World):List PyData→List Int
 | []=>[]
 | d::r=>hsh w d::jb w r
end
mutual
def drw:PyData→Nat
 | .tuple l=>vN l+1
 | _=>1
def vN:List PyData→Nat
 | []=>0
 | d::r=>drw d+vN r
end
mutual
inductive RdT (h:Heap):Value→PyData→Prop
 | int (i:Int) (t:Tok):RdT h (.int i t) (.int i)
 | str (x:Str) (t:Tok):RdT h (.str x t) (.str x)
 | tup {a:Addr} {o:Obj} {vs:Array Value} {n:Nat} {ds:List PyData}:h.get? a=some o→o.cls=.type "tuple"→o.data=.seq vs n→cF h vs.toList ds→RdT h (.ref a) (.tuple ds)
inductive cF (h:Heap):List Value→List PyData→Prop
 | nil:cF h [] []
 | cons {v:Value} {vs:List Value} {d:PyData} {ds:List PyData}:RdT h v d→cF h vs ds→cF h (v::vs) (d::ds)
end
mutual
theorem RdT.reads {h:Heap}:∀ {v:Value} {d:PyData},RdT h v d→∃ as,Reads h v d as
 | _,_,.int i t=>⟨_,.int i t⟩
 | _,_,.str x t=>⟨_,.str x t⟩
 | _,_,.tup h1 h2 h3 r=>by
  obtain ⟨as,q⟩:=cF.reads r
  exact ⟨_,.tuple h1 h2 h3 q⟩
theorem cF.reads {h:Heap}:∀ {v:List Value} {d:List PyData},cF h v d→∃ as,ReadsAll h v d as
 | _,_,.nil=>⟨_,.nil⟩
 | _,_,.cons h r=>by
  obtain ⟨as,q⟩:=RdT.reads h
  obtain ⟨bs,p⟩:=cF.reads r
  exact ⟨_,.cons q p⟩
end
mutual
theorem RdT.inj {h:Heap}:∀ {v:Value} {d e:PyData},RdT h v d→RdT h v e→d=e
 | _,_,_,.int i t,q=>by cases q; rfl
 | _,_,_,.str x t,q=>by cases q; rfl
 | _,_,_,.tup h1 h2 h3 r,q=>by
  cases q with
  | tup k1 k2 k3 r2 =>
   rw [h1] at k1
   cases k1
   rw [h3] at k3
   cases k3
   rw [cF.inj r r2]
theorem cF.inj {h:Heap}:∀ {v:List Value} {d e:List PyData},cF h v d→cF h v e→d=e
 | _,_,_,.nil,q=>by cases q; rfl
 | _,_,_,.cons h r,q=>by
  cases q with
  | cons h' r'=>rw [RdT.inj h h',cF.inj r r']
end
mutual
theorem RdT.keeps {h h':Heap} (k:∀ a o vs n,h.get? a=some o→o.data=.seq vs n→h'.get? a=some o):∀ {v:Value} {d:PyData},RdT h v d→RdT h' v d
 | _,_,.int i t=>.int i t
 | _,_,.str x t=>.str x t
 | _,_,.tup h1 h2 h3 r=>.tup (k _ _ _ _ h1 h3) h2 h3 (cF.keeps k r)
theorem cF.keeps {h h':Heap} (k:∀ a o vs n,h.get? a=some o→o.data=.seq vs n→h'.get? a=some o):∀ {v:List Value} {d:List PyData},cF h v d→cF h' v d
 | _,_,.nil=>.nil
 | _,_,.cons h r=>.cons (RdT.keeps k h) (cF.keeps k r)
end
mutual
theorem gw:∀ {d:PyData},pk d=true→d.canLay0=true
 | .int i,_=>rfl
 | .str x,h=>h
 | .tuple l,h=>by
  simp only [PyData.canLay0]
  exact md (by simpa only [pk] using h)
 | .none,h=>by cases h
 | .bool _,h=>by cases h
 | .list _,h=>by cases h
 | .dict _,h=>by cases h
theorem md:∀ {l:List PyData},pks l=true→PyData.canLayAll0 l=true
 | [],_=>rfl
 | d::r,h=>by
  simp only [pks,Bool.and_eq_true] at h
  simp only [PyData.canLayAll0,Bool.and_eq_true]
  exact ⟨gw h.1,md h.2⟩
end
mutual
theorem uP:∀ {d e:PyData},pk d=true→pk e=true→(PyData.eqv d e=true↔d=e)
 | .int i,e,_,h=>by
  cases e with
  | int j=>simp [PyData.eqv]
  | str y=>simp [PyData.eqv]
  | tuple l=>simp [PyData.eqv]
  | _=>cases h
 | .str x,e,_,h=>by
  cases e with
  | int j=>simp [PyData.eqv]
  | str y=>simp [PyData.eqv]
  | tuple l=>simp [PyData.eqv]
  | _=>cases h
 | .tuple l,e,h1,h=>by
  cases e with
  | int j=>simp [PyData.eqv]
  | str y=>simp [PyData.eqv]
  | tuple m =>
   simp only [PyData.eqv,PyData.tuple.injEq]
   exact mj (by simpa only [pk] using h1) (by simpa only [pk] using h)
  | _=>cases h
 | .none,_,h,_=>by cases h
 | .bool _,_,h,_=>by cases h
 | .list _,_,h,_=>by cases h
 | .dict _,_,h,_=>by cases h
theorem mj:∀ {l m:List PyData},pks l=true→pks m=true→(PyData.eqvAll l m=true↔l=m)
 | [],[],_,_=>by simp [PyData.eqvAll]
 | [],_::_,_,_=>by simp [PyData.eqvAll]
 | _::_,[],_,_=>by simp [PyData.eqvAll]
 | d::r,e::m,h1,h2=>by
  simp only [pks,Bool.and_eq_true] at h1 h2
  simp only [PyData.eqvAll,Bool.and_eq_true,List.cons.injEq]
  rw [uP h1.1 h2.1,mj h1.2 h2.2]
end
noncomputable instance decPD:DecidableEq PyData:=fun a b=>Classical.propDecidable (a=b)
theorem ql {d e:PyData} (h1:pk d=true) (h2:pk e=true):PyData.eqv d e=decide (d=e):=by
 rw [Bool.eq_iff_iff,decide_eq_true_eq]
 exact uP h1 h2
open PySem PySem.Spec PyProof.Rows
section
variable {prog:Program} {w:World}
theorem dX {s:Shared} {a:Addr} {d:PyData} (r:RdT s.heap (.ref a) d):s.TypeIs (.ref a) "tuple":=by
 cases r with
 | tup h1 h2 h3 r=>exact ⟨_,h1,h2⟩
mutual
theorem ms:∀ (d:PyData) {A:Around} {E:Value→Shared→Prop} {s:Shared} {v:Value} {Q:Int→Shared→Prop},RdT s.heap v d→A.units+d.depth<cLine→Q (hsh w d) { s with toks:=s.toks+drw d } →
  wpAny (model prog w) A (pyHash v) Q E s
 | .int i,A,E,s,v,Q,r,hu,h=>by
  cases r
  exact wpAny_pyHash_int (by simpa only [hsh,drw] using h)
 | .str x,A,E,s,v,Q,r,hu,h=>by
  cases r
  exact wpAny_pyHash_str (by simpa only [hsh,drw] using h)
 | .tuple ds,A,E,s,v,Q,r,hu,h=>by
  obtain ⟨a,rfl⟩:∃ a,v=.ref a:=by cases r; exact ⟨_,rfl⟩
  have hT:=dX r
  cases r with
  | @tup _ o items n _ ho _ hd hi =>
   have hu':A.units<cLine:=by omega
   unfold pyHash
   first | unfold pyHashByItsType | skip
   first | refine wpAny_bind (wpAny_cRoomFor_or (.inr hu') ?_) | skip
   refine wpAny_bind (wpAny_specialOf hT F.slot_tuple_hash.lookup ?_)
   show wpAny _ _ (if (some (Value.builtin "tuple.__hash__")==some Value.none)=true then _ else _) Q E s
   rw [if_neg (by rw [beq_builtin_none]; exact Bool.false_ne_true)]
   refine wpAny_bind (wpAny_specialOf hT F.slot_tuple_hash.lookup ?_)
   show wpAny _ _ (callSpecialIfBoundUnlessNone? (.ref a) "__hash__" _ >>= _) Q E s
   refine wpAny_bind (wpAny_callSpecialIfBoundUnlessNone?_slot hT F.slot_tuple_hash (wpAny_call_entry F.slot_tuple_hash hT F.entry_tuple_hash ?_ (F.args_tuple_hash_1 _)))
   show wpAny _ _ (Builtin.Tuple.tupleItemsOf (.ref a) >>= _) _ _ s
   refine wpAny_bind (wpAny_tupleItemsOf ho hd ?_)
   refine wpAny_bind ?_
   rw [← Array.forIn_toList]
   have hin:A.in1.units≤A.units+1:=by simp [Around.in1]
   refine nM ds (b:=#[]) hi (by simp only [PyData.depth] at hu; omega) ?_
   show wpAny _ _ (retInt (Builtin.Tuple.tupleHashOf ((#[]:Array Int)++(jb w ds).toArray).toList)) _ _ _
   rw [show ((#[]:Array Int)++(jb w ds).toArray).toList=jb w ds from by simp]
   refine wpAny_ret_mkInt ?_
   show wpAny _ _ (if (decide (-(2:Int) ^ 63≤Builtin.Tuple.tupleHashOf (jb w ds))&&decide (Builtin.Tuple.tupleHashOf (jb w ds)<2 ^ 63))=true then _ else _) Q E _
   simp only [hsh,drw] at h
   unfold reduceHash at h
   by_cases hr:(decide (-(2:Int) ^ 63≤Builtin.Tuple.tupleHashOf (jb w ds))&&decide (Builtin.Tuple.tupleHashOf (jb w ds)<2 ^ 63))=true
   ·rw [if_pos hr]
    rw [if_pos hr] at h
    exact wpAny_pure (by simpa [Nat.add_assoc] using h)
   ·rw [if_neg hr]
    rw [if_neg hr] at h
    exact wpAny_bind (wpAny_rule (wpAny_pure (by simpa [Nat.add_assoc] using h)))
 | .none,A,E,s,v,Q,r,hu,h=>by cases r
 | .bool _,A,E,s,v,Q,r,hu,h=>by cases r
 | .list _,A,E,s,v,Q,r,hu,h=>by cases r
 | .dict _,A,E,s,v,Q,r,hu,h=>by cases r
theorem nM:∀ (ds:List PyData) {A:Around} {E:Value→Shared→Prop} {s:Shared} {vs:List Value} {b:Array Int} {Q:Array Int→Shared→Prop},cF s.heap vs ds→A.units+PyData.depthAll ds<cLine→Q (b++(jb w ds).toArray) { s with toks:=s.toks+vN ds } →
  wpAny (model prog w) A (forIn vs b fun x hs=>do
   let h ← pyHash x
   pure (ForInStep.yield (hs.push h))) Q E s
 | [],A,E,s,vs,b,Q,r,hu,h=>by
  cases r
  rw [List.forIn_nil]
  exact wpAny_pure (by simpa [jb,vN] using h)
 | d::ds,A,E,s,vs,b,Q,r,hu,h=>by
  cases r with
  | @cons v vs _ _ r1 r2 =>
   rw [List.forIn_cons]
   simp only [PyData.depthAll] at hu
   refine wpAny_bind (wpAny_bind (ms d r1 (by omega) (wpAny_pure ?_)))
   refine nM ds (s:={ s with toks:=s.toks+drw d }) r2 (by omega) ?_
   simpa [jb,vN,Nat.add_assoc] using h
end
mutual
theorem nB:∀ (d:PyData) {A:Around} {E:Value→Shared→Prop} {s:Shared} {v:Value} {n:Nat} {Q:Bool→Shared→Prop},RdT s.heap v d→d.depth≤n→Q true s→wpAny (model prog w) A (eqIsQuiet n v) Q E s
 | .int i,A,E,s,v,n,Q,r,hu,h=>by
  cases r
  rw [eqIsQuiet_byValue _ (by rfl)]
  exact wpAny_pure h
 | .str x,A,E,s,v,n,Q,r,hu,h=>by
  cases r
  rw [eqIsQuiet_byValue _ (by rfl)]
  exact wpAny_pure h
 | .tuple ds,A,E,s,v,n,Q,r,hu,h=>by
  obtain ⟨a,rfl⟩:∃ a,v=.ref a:=by cases r; exact ⟨_,rfl⟩
  have hT:=dX r
  cases n with
  | zero=>simp [PyData.depth] at hu
  | succ m =>
   cases r with
   | @tup _ o items n _ ho _ hd hi =>
    unfold eqIsQuiet
    refine wpAny_bind (wpAny_specialOf hT F.slot_tuple_eq.lookup ?_)
    show wpAny _ _ (isInstance (.ref a) (.type "tuple") >>= _) _ _ s
    refine wpAny_bind (wpAny_isInstance hT isSubtype_tuple_tuple ?_)
    simp only [Bool.not_true,Bool.false_eq_true,if_false]
    refine wpAny_bind (wpAny_seqItems ho hd ?_)
    refine wpAny_bind ?_
    show wpAny _ _ (forIn items _ _) _ _ s
    rw [← Array.forIn_toList]
    refine lL ds (m:=m) hi (by simp only [PyData.depth] at hu; omega) ?_
    exact wpAny_pure h
 | .none,A,E,s,v,n,Q,r,hu,h=>by cases r
 | .bool _,A,E,s,v,n,Q,r,hu,h=>by cases r
 | .list _,A,E,s,v,n,Q,r,hu,h=>by cases r
 | .dict _,A,E,s,v,n,Q,r,hu,h=>by cases r
theorem lL:∀ (ds:List PyData) {A:Around} {E:Value→Shared→Prop} {s:Shared} {vs:List Value} {m:Nat} {Q:Option Bool×Unit→Shared→Prop},cF s.heap vs ds→PyData.depthAll ds≤m→Q (none,()) s →
  wpAny (model prog w) A (forIn vs (none,()) fun y __s=>do
   let __do_lift ← eqIsQuiet m y
   if (!__do_lift)=true then pure (ForInStep.done (some false,())) else pure (ForInStep.yield (none,()))) Q E s
 | [],A,E,s,vs,m,Q,r,hu,h=>by
  cases r
  rw [List.forIn_nil]
  exact wpAny_pure h
 | d::ds,A,E,s,vs,m,Q,r,hu,h=>by
  cases r with
  | @cons v vs _ _ r1 r2 =>
   rw [List.forIn_cons]
   simp only [PyData.depthAll] at hu
   refine wpAny_bind (wpAny_bind (nB d r1 (by omega) ?_))
   simp only [Bool.not_true,Bool.false_eq_true,if_false]
   exact wpAny_pure (lL ds r2 (by omega) h)
end
def Be (h:Heap) (d:PyData) (a:Addr):Prop:=RdT h (.ref a) d∧pk d=true∧d.depth≤8
noncomputable def dm (prog:Program) (w:World):HeapKind prog w PyData where
 is:=Be
 hash:=hsh w
 draws:=drw
 room:=fun A=>A.units+40<cLine
 inj:=fun hx hy=>hx.1.inj hy.1
 keeps:=fun {h h' k a d o es ep} x ho hd hs=>⟨x.1.keeps fun b o' vs n e1 e2=>(hs.2 b (by
  rintro rfl
  rw [ho] at e1
  cases e1
  rw [hd] at e2
  cases e2)).trans e1,x.2⟩
 pyHash:=fun hu hk h=>ms _ hk.1 (by have:=hk.2.2; omega) h
 eqBool:=fun {A E s x y a b Q} hu hx hy h=>by
  obtain ⟨as,r1⟩:=hx.1.reads
  obtain ⟨bs,r2⟩:=hy.1.reads
  have d1:=hx.2.2
  have d2:=hy.2.2
  refine SeqAt.eqAt_reads x y A s _ _ as bs r1 r2 (gw hx.2.1) (gw hy.2.1) (by omega) prog w E Q ?_
  rw [ql hx.2.1 hy.2.1]
  exact h
 quiet:=fun hk h=>nB _ hk.1 hk.2.2 h
end
open PySem PySem.Spec PyProof.Rows
mutual
noncomputable def dlt:PyData→PyData→Bool
 | .int a,.int b=>decide (a<b)
 | .str x,.str y=>decide (x.cps.toList<y.cps.toList)
 | .tuple l,.tuple m=>qC l m
 | _,_=>false
noncomputable def qC:List PyData→List PyData→Bool
 | [],[]=>false
 | [],_::_=>true
 | _::_,[]=>false
 | a::l,b::m=>if a=b then qC l m else dlt a b
end
mutual
inductive Cok:PyData→PyData→Prop
 | int (i j:Int):Cok (.int i) (.int j)
 | str (x y:Str):Cok (.str x) (.str y)
 | tup {l m:List PyData}:jw l m→Cok (.tuple l) (.tuple m)
inductive jw:List PyData→List PyData→Prop
 | nil (m:List PyData):jw [] m
 | nil2 (l:List PyData):jw l []
 | eq {a:PyData} {l m:List PyData}:jw l m→jw (a::l) (a::m)
 | ne {a b:PyData} {l m:List PyData}:a≠b→Cok a b→jw (a::l) (b::m)
end
noncomputable def dif:List PyData→List PyData→Option Bool
 | a::l,b::m=>if a=b then dif l m else some (dlt a b)
 | _,_=>none
theorem jB:∀ l m:List PyData,qC l m=(dif l m).getD (decide (l.length<m.length))
 | [],[]=>by simp [qC,dif]
 | [],_::_=>by simp [qC,dif]
 | _::_,[]=>by simp [qC,dif]
 | a::l,b::m=>by
  simp only [qC,dif]
  by_cases h:a=b
  ·rw [if_pos h,if_pos h,jB l m]
   simp only [List.length_cons,Nat.add_lt_add_iff_right]
  ·rw [if_neg h,if_neg h]
   rfl
theorem ga {h:Heap}:∀ {vs:List Value} {ds:List PyData},cF h vs ds→vs.length=ds.length
 | _,_,.nil=>rfl
 | _,_,.cons _ r=>by rw [List.length_cons,List.length_cons,ga r]
theorem gG (A:Around):A.in1.units≤A.units+1:=by simp [Around.in1]
section
variable {prog:Program} {w:World}
mutual
theorem yd:∀ (d e:PyData) {A:Around} {E:Value→Shared→Prop} {s:Shared} {u v:Value} {Q:Value→Shared→Prop},RdT s.heap u d→RdT s.heap v e→pk d=true→pk e=true→Cok d e→A.units+d.depth+2<cLine→Q (.bool (dlt d e)) s →
  wpAny (model prog w) A (richCompare .Lt u v) Q E s
 | .int i,.int j,A,E,s,u,v,Q,r1,r2,p1,p2,c,hu,h=>by
  cases r1
  cases r2
  exact lt_int (by simpa only [dlt] using h)
 | .str x,.str y,A,E,s,u,v,Q,r1,r2,p1,p2,c,hu,h=>by
  cases r1
  cases r2
  exact lt_str (by simpa only [dlt] using h)
 | .tuple l,.tuple m,A,E,s,u,v,Q,r1,r2,p1,p2,c,hu,h=>by
  obtain ⟨a,rfl⟩:∃ a,u=.ref a:=by cases r1; exact ⟨_,rfl⟩
  obtain ⟨b,rfl⟩:∃ a,v=.ref a:=by cases r2; exact ⟨_,rfl⟩
  have hTa:=dX r1
  have hTb:=dX r2
  cases r1 with
  | @tup _ oa xs na _ hoa _ hda hia =>
   cases r2 with
   | @tup _ ob ys nb _ hob _ hdb hib =>
    have hin:=gG A
    simp only [PyData.depth] at hu
    refine wpAny_richCompare_same_room (op:=.Lt) hTa hTb F.slot_tuple_lt (wpAny_call_entry F.slot_tuple_lt hTa F.entry_tuple_lt ?_ (F.args_tuple_lt_2 _ _)) (by omega)
    show wpAny _ _ (isInstance (.ref b) (.type "tuple") >>= _) _ _ s
    refine wpAny_bind (wpAny_isInstance hTb isSubtype_tuple_tuple ?_)
    simp only [Bool.not_true,Bool.false_eq_true,if_false]
    refine wpAny_bind (wpAny_tupleItemsOf hoa hda ?_)
    refine wpAny_bind (wpAny_tupleItemsOf hob hdb ?_)
    refine wpAny_bind ?_
    have hc:jw l m:=by cases c; assumption
    simp only [dlt,jB] at h
    have e1:=ga hia
    have e2:=ga hib
    refine uo l m hia hib (by simpa only [pk] using p1) (by simpa only [pk] using p2) hc (by omega) (fun z hz=>?_) (fun hz=>?_)
    ·rw [hz] at h
     exact wpAny_pure ⟨_,rfl,(fun e=>nomatch e),h⟩
    ·rw [hz] at h
     refine wpAny_pure ⟨_,rfl,(fun e=>nomatch e),?_⟩
     show Q (.bool (decide (xs.size<ys.size))) s
     rw [← Array.length_toList,← Array.length_toList,e1,e2]
     exact h
 | .none,_,A,E,s,u,v,Q,r1,r2,p1,p2,c,hu,h=>by cases r1
 | .bool _,_,A,E,s,u,v,Q,r1,r2,p1,p2,c,hu,h=>by cases r1
 | .list _,_,A,E,s,u,v,Q,r1,r2,p1,p2,c,hu,h=>by cases r1
 | .dict _,_,A,E,s,u,v,Q,r1,r2,p1,p2,c,hu,h=>by cases r1
 | .int _,.str _,A,E,s,u,v,Q,r1,r2,p1,p2,c,hu,h=>by cases c
 | .int _,.tuple _,A,E,s,u,v,Q,r1,r2,p1,p2,c,hu,h=>by cases c
 | .str _,.int _,A,E,s,u,v,Q,r1,r2,p1,p2,c,hu,h=>by cases c
 | .str _,.tuple _,A,E,s,u,v,Q,r1,r2,p1,p2,c,hu,h=>by cases c
 | .tuple _,.int _,A,E,s,u,v,Q,r1,r2,p1,p2,c,hu,h=>by cases c
 | .tuple _,.str _,A,E,s,u,v,Q,r1,r2,p1,p2,c,hu,h=>by cases c
 | _,.none,A,E,s,u,v,Q,r1,r2,p1,p2,c,hu,h=>by cases r2
 | _,.bool _,A,E,s,u,v,Q,r1,r2,p1,p2,c,hu,h=>by cases r2
 | _,.list _,A,E,s,u,v,Q,r1,r2,p1,p2,c,hu,h=>by cases r2
 | _,.dict _,A,E,s,u,v,Q,r1,r2,p1,p2,c,hu,h=>by cases r2
theorem uo:∀ (l m:List PyData) {A:Around} {E:Value→Shared→Prop} {s:Shared} {us vs:List Value} {R:Option PySem.Fin×Unit→Shared→Prop},cF s.heap us l→cF s.heap vs m→pks l=true→pks m=true→jw l m→A.units+PyData.depthAll l+2<cLine →
  (∀ b,dif l m=some b→R (some (.done (.ret (.bool b))),()) s)→(dif l m=none→R (none,()) s) →
  wpAny (model prog w) A (forIn (us.zip vs) (none,()) fun x __s=>do
   let __do_lift ← eqBool x.fst x.snd
   if (!__do_lift)=true then do
       rule "tuple.compare.by-the-first-pair-that-differs"
       let __do_lift ← richCompare CmpOp.Lt x.fst x.snd
       let __do_lift ← ret __do_lift
       pure (ForInStep.done (some __do_lift,()))
    else pure (ForInStep.yield (none,()))) R E s
 | [],m,A,E,s,us,vs,R,r1,r2,p1,p2,c,hu,h1,h2=>by
  cases r1
  rw [List.zip_nil_left,List.forIn_nil]
  exact wpAny_pure (h2 (by simp [dif]))
 | a::l,[],A,E,s,us,vs,R,r1,r2,p1,p2,c,hu,h1,h2=>by
  cases r2
  rw [List.zip_nil_right,List.forIn_nil]
  exact wpAny_pure (h2 (by simp [dif]))
 | a::l,b::m,A,E,s,us,vs,R,r1,r2,p1,p2,c,hu,h1,h2=>by
  cases r1 with
  | @cons u us _ _ q1 r1 =>
   cases r2 with
   | @cons v vs _ _ q2 r2 =>
    simp only [pks,Bool.and_eq_true] at p1 p2
    simp only [PyData.depthAll] at hu
    rw [List.zip_cons_cons,List.forIn_cons]
    obtain ⟨as,ra⟩:=q1.reads
    obtain ⟨bs,rb⟩:=q2.reads
    refine wpAny_bind (wpAny_bind (SeqAt.eqAt_reads a b A s _ _ as bs ra rb (gw p1.1) (gw p2.1) (by omega) prog w E _ ?_))
    rw [ql p1.1 p2.1]
    by_cases hab:a=b
    ·have hd:dif (a::l) (b::m)=dif l m:=by simp only [dif]; rw [if_pos hab]
     rw [decide_eq_true hab]
     simp only [Bool.not_true,Bool.false_eq_true,if_false]
     rw [hd] at h1 h2
     refine wpAny_pure (uo l m r1 r2 p1.2 p2.2 ?_ (by omega) h1 h2)
     cases c with
     | eq c=>exact c
     | ne n _=>exact absurd hab n
    ·have hd:dif (a::l) (b::m)=some (dlt a b):=by simp only [dif]; rw [if_neg hab]
     rw [decide_eq_false hab]
     simp only [Bool.not_false,if_true]
     refine wpAny_bind (wpAny_rule (wpAny_bind (yd a b q1 q2 p1.1 p2.1 ?_ (by omega) ?_)))
     ·cases c with
      | eq c=>exact absurd rfl hab
      | ne _ c=>exact c
     ·exact wpAny_bind (wpAny_pure (wpAny_pure (wpAny_pure (h1 _ hd))))
end
end
open PySem PySem.W PySem.Spec PyProof.Rows
def cG {α:Type} (n:Nat) (lt:Nat→Nat→Bool) (P:α→Prop):KasT α→Prop
 | .ret a=>P a
 | .ask i j k=>i<n∧j<n∧cG n lt P (k (lt i j))
theorem cG.bind {α β:Type} {n:Nat} {lt:Nat→Nat→Bool} {P:α→Prop} {R:β→Prop} {f:α→KasT β} (hf:∀ a,P a→cG n lt R (f a)):∀ {t:KasT α},cG n lt P t→cG n lt R (t.bind f)
 | .ret a,h=>hf a h
 | .ask i j k,h=>⟨h.1,h.2.1,cG.bind hf (t:=k (lt i j)) h.2.2⟩
theorem ni {α:Type} {n:Nat} {lt:Nat→Nat→Bool} {P R:α→Prop}:∀ {t:KasT α},cG n lt P t→cG n lt R t→cG n lt (fun a=>P a∧R a) t
 | .ret a,h,k=>⟨h,k⟩
 | .ask i j k,h,q=>⟨h.1,h.2.1,ni (t:=k (lt i j)) h.2.2 q.2.2⟩
theorem cG.wp {α:Type} {n:Nat} {lt:Nat→Nat→Bool} {P:α→Prop} {cmp:Nat→Nat→(Bool→Shared→Prop)→Shared→Prop} {Q:α→Shared→Prop} {J:Shared→Prop}
  (hc:∀ i j (C:Bool→Shared→Prop) s,i<n→j<n→J s→(∀ s',J s'→C (lt i j) s')→cmp i j C s) (hQ:∀ a s,P a→J s→Q a s):∀ {t:KasT α} {s:Shared},cG n lt P t→J s→t.kasWp cmp Q s
 | .ret a,s,h,j=>hQ a s h j
 | .ask i j k,s,h,jj=>hc i j _ s h.1 h.2.1 jj fun s' j'=>cG.wp hc hQ (t:=k (lt i j)) h.2.2 j'
def Gp (n:Nat) (p:Array Nat):Prop:=p.Perm (List.range n).toArray
theorem Gp.size {n:Nat} {p:Array Nat} (h:Gp n p):p.size=n:=by
 have:=h.size_eq
 simpa using this
theorem Gp.get {n:Nat} {p:Array Nat} (h:Gp n p) (hn:0<n) (i:Nat):p.getD i 0<n:=by
 unfold Array.getD
 split
 ·rename_i hi
  have:p[i]∈p:=Array.getElem_mem hi
  have:=h.mem_iff.mp this
  simpa using this
 ·exact hn
theorem Gp.mirror {n:Nat} {p:Array Nat} (h:Gp n p) (i j:Nat):Gp n (kas_rev p i j):=(mirror_perm p i j _).trans h
theorem Gp.bubble {n:Nat} {p:Array Nat} (h:Gp n p) (i j:Nat):Gp n (bubble p i j):=(bubble_perm p i j).trans h
section
variable {n:Nat} {lt:Nat→Nat→Bool} (hn:0<n)
include hn
theorem mv {p:Array Nat} (h:Gp n p):∀ f m:Nat,cG n lt (fun _=>True) (kas_asc p f m)
 | 0,m=>trivial
 | f+1,m=>by
  refine ⟨h.get hn _,h.get hn _,?_⟩
  dsimp only
  split
  ·trivial
  ·exact mv h f (m+1)
theorem hJ:∀ (f:Nat) {p:Array Nat} (m q:Nat),Gp n p→cG n lt (fun r=>Gp n r.1) (kas_desc f p m q)
 | 0,p,m,q,h=>h
 | f+1,p,m,q,h=>by
  refine ⟨h.get hn _,h.get hn _,?_⟩
  dsimp only
  split
  ·split
   ·exact hJ f _ _ (h.mirror _ _)
   ·exact hJ f _ _ h
  ·refine ⟨h.get hn _,h.get hn _,?_⟩
   dsimp only
   split
   ·exact h
   ·exact hJ f _ _ h
theorem lJ {m nrem:Nat} {p:Array Nat} (h:Gp n p):cG n lt (fun r=>Gp n r.2) (kas_tail3 m nrem p):=by
 unfold kas_tail3
 refine cG.bind (P:=fun _=>True) (fun _ _=>?_) (mv hn (h.mirror 0 m) _ _)
 exact h.mirror 0 m
theorem ic {m nrem:Nat} {p:Array Nat} (h:Gp n p):cG n lt (fun r=>Gp n r.2) (kas_descPart m nrem p):=by
 unfold kas_descPart
 refine cG.bind (fun r hr=>?_) (hJ hn _ _ _ h)
 split
 ·exact lJ hn (hr.mirror _ _)
 ·exact lJ hn hr
theorem tj {nrem:Nat} {p:Array Nat} (h:Gp n p):cG n lt (fun r=>Gp n r.2) (kas_count nrem p):=by
 unfold kas_count
 refine cG.bind (P:=fun _=>True) (fun m _=>?_) (mv hn h _ _)
 split
 ·exact h
 ·split
  ·refine ⟨h.get hn _,h.get hn _,?_⟩
   dsimp only
   split
   ·exact h
   ·exact ic hn (h.mirror _ _)
  ·exact ic hn h
theorem ir {p:Array Nat} (h:Gp n p) (k:Nat):∀ f l r:Nat,cG n lt (fun _=>True) (kas_place p k f l r)
 | 0,l,r=>trivial
 | f+1,l,r=>by
  unfold kas_place
  split
  ·trivial
  ·refine ⟨h.get hn _,h.get hn _,?_⟩
   dsimp only
   split
   ·exact ir h k f _ _
   ·exact ir h k f _ _
theorem qY:∀ (f:Nat) {p:Array Nat} (k:Nat),Gp n p→cG n lt (Gp n) (kas_bin f p k)
 | 0,p,k,h=>h
 | f+1,p,k,h=>cG.bind (fun l _=>qY f _ (h.bubble _ _)) (ir hn h k _ _ _)
theorem wn:cG n lt (Gp n) (kas_sort n):=by
 unfold kas_sort
 refine cG.bind (fun r hr=>?_) (tj hn (Array.Perm.refl _))
 split
 ·exact qY hn _ _ hr
 ·exact hr
end
open PySem PySem.W PySem.Calls PySem.Spec PyProof.Rows
section
variable {prog:Program} {w:World} {A:Around} {E:Value→Shared→Prop} {s:Shared} {a:Addr} {us:List Value} {κ:SortKind} {lt:Nat→Nat→Bool} {R:Array Nat→Prop}
def dQ (us:List Value) (p:Array Nat):List Value:=p.toList.map fun i=>us.getD i Value.none
theorem oX (us:List Value):dQ us (List.range us.length).toArray=us:=by
 unfold dQ
 apply List.ext_getElem?
 intro i
 by_cases h:i<us.length
 ·simp [h,List.getElem?_range]
 ·simp [h,Nat.le_of_not_lt h]
theorem vj {n:Nat} {P:PySem.Fin→Shared→Prop} (ho:s.heap.get? a=some (seqObj "list" us.toArray n)) (h64:us.length<64)
  (hk:2≤us.length→∀ (h':Heap) (Qk:SortKind→Shared→Prop),(∀ b o,b≠a→s.heap.get? b=some o→h'.get? b=some o)→Qk κ { s with heap:=h' }→wpAny (model prog w) A (keyKind' us.toArray) Qk (fun _ _=>False) { s with heap:=h' })
  (hc:∀ (h':Heap) (t i j:Nat) (C:Bool→Shared→Prop),(∀ b o,b≠a→s.heap.get? b=some o→h'.get? b=some o)→i<us.length→j<us.length→(∀ t',C (lt i j) { s with heap:=h',toks:=t' })→kas_ask prog w A κ us i j C { s with heap:=h',toks:=t })
  (hR:2≤us.length→cG us.length lt R (kas_sort us.length))
  (fin:∀ (h':Heap) (t c:Nat) (p:Array Nat),Gp us.length p→(2≤us.length→R p)→(∀ b o,b≠a→s.heap.get? b=some o→h'.get? b=some o)→h'.get? a=some (seqObj "list" (dQ us p).toArray c)→P (.done (.ret .none)) { s with heap:=h',toks:=t }) :
  wpAny (model prog w) A (Builtin.«list.sort» ⟨[.ref a],[]⟩) P E s:=by
 have la:a<s.heap.objs.size:=Heap.lt_size ho
 rw [list_sort_plain]
 refine wpAny_bind (listItems_at ho rfl ?_)
 obtain ⟨e1,g1⟩:∃ e1,(s.heap.update a (Obj.mapSeq fun _=>(#[]:Array Value))).get? a=some (seqObj "list" #[] e1):=⟨_,get?_update_seq ho fun _=>#[]⟩
 have k1:∀ b o,b≠a→s.heap.get? b=some o→(s.heap.update a (Obj.mapSeq fun _=>(#[]:Array Value))).get? b=some o:=fun b o ne q=>by rw [Heap.get?_update_ne _ _ _ _ ne]; exact q
 refine wpAny_bind (listUpdate_at ho rfl ?_ (by rw [List.size_toArray,sizeLine_eq]; omega) (Nat.zero_le _))
 generalize (s.heap.update a (Obj.mapSeq fun _=>(#[]:Array Value)))=h1 at g1 k1
 refine wpAny_bind (seqEpoch_at g1 rfl ?_)
 refine wpAny_bind (wpAny_newTuple ?_ (by show us.length≤_; rw [sizeLine_eq]; omega))
 refine wpAny_bind (wpAny_newList ?_ (Nat.zero_le _))
 refine wpAny_holding ?_
 dsimp only
 obtain ⟨h2,eh2⟩:∃ h2,h2=(h1.push (seqObj "tuple" us.toArray 0)).push (seqObj "list" #[] 0):=⟨_,rfl⟩
 have g2:h2.get? a=some (seqObj "list" #[] e1):=by rw [eh2]; exact Heap.get?_push_of_some _ (Heap.get?_push_of_some _ g1)
 have k2:∀ b o,b≠a→s.heap.get? b=some o→h2.get? b=some o:=fun b o ne q=>by rw [eh2]; exact Heap.get?_push_of_some _ (Heap.get?_push_of_some _ (k1 b o ne q))
 show wpAny (model prog w) A _ P E { s with heap:=(h1.push (seqObj "tuple" us.toArray 0)).push (seqObj "list" #[] 0) }
 rw [← eh2]
 have close:∀ (st:SortSt) (p:Array Nat) (t:Nat),Gp us.length p→(2≤us.length→R p)→(arrOf st).map (·.2)=(dQ us p).toArray→failedOf st=none →
   wpAny (model prog w) A (do
    let touched:=(← seqEpoch a) != e1
    Builtin.List.listUpdate (.ref a) fun _=>(arrOf st).map (·.2)
    if let some e:=failedOf st then rule "list.sort.comparison-raised"; throw e
    if touched then rule "list.sort.modified"; raiseError "ValueError" "list modified during sort"
    ret .none) P E { s with heap:=h2,toks:=t }:=by
  intro st p t gp rp ha hf
  have hl:(dQ us p).length=us.length:=by unfold dQ; rw [List.length_map,Array.length_toList,gp.size]
  refine wpAny_bind (seqEpoch_at g2 rfl ?_)
  rw [ha]
  obtain ⟨e3,g3⟩:∃ e3,(h2.update a (Obj.mapSeq fun _=>(dQ us p).toArray)).get? a=some (seqObj "list" (dQ us p).toArray e3):=⟨_,get?_update_seq g2 fun _=>(dQ us p).toArray⟩
  refine wpAny_bind (listUpdate_at g2 rfl ?_ (Nat.zero_le _) (by rw [List.size_toArray,hl,sizeLine_eq]; omega))
  rw [hf]
  simp only [bne_self_eq_false,Bool.false_eq_true,if_false]
  refine wpAny_pure (fin _ t e3 p gp rp (fun b o ne q=>?_) g3)
  rw [Heap.get?_update_ne _ _ _ _ ne]
  exact k2 b o ne q
 by_cases hn:us.length<2
 ·have hn2:us.toArray.size<2:=by rw [List.size_toArray]; exact hn
  rw [if_pos hn2,if_pos hn2]
  refine wpAny_bind (wpAny_pure (wpAny_bind ?_))
  show wpAny (model prog w) A (pure ((),SortSt.mk' general' (us.toArray.zip us.toArray) #[] 7 none)) _ E _
  refine wpAny_pure ?_
  refine close _ (List.range us.length).toArray s.toks (Array.Perm.refl _) (fun z=>by omega) ?_ rfl
  rw [oX]
  show (us.toArray.zip us.toArray).map (·.2)=us.toArray
  apply Array.toList_inj.mp
  simp only [Array.toList_map,Array.toList_zip]
  exact List.map_snd_zip (Nat.le_refl _)
 ·have hn2:¬ us.toArray.size<2:=by rw [List.size_toArray]; exact hn
  rw [if_neg hn2,if_neg hn2]
  refine wpAny_bind (wpAny_mono (hk (by omega) h2 (fun k s'=>k=κ∧s'={ s with heap:=h2 }) k2 ⟨rfl,rfl⟩) (fun k s' hks=>?_) fun _ _ x=>x.elim)
  obtain ⟨rfl,rfl⟩:=hks
  have run:=kat_run (prog:=prog) (w:=w) (A:=A) (E:=E) (s:={ s with heap:=h2 }) (κ:=k) (ks:=us) (vs:=us) (G:=fun p s'=>R p∧Gp us.length p∧∃ t,s'={ s with heap:=h2,toks:=t })
   (Q:=fun st' s'=>∃ p,R p∧Gp us.length p∧(arrOf st').map (·.2)=(dQ us p).toArray∧failedOf st'=none∧∃ t,s'={ s with heap:=h2,toks:=t }) rfl (by omega) h64
   (fun p st' s' a1 a2 a3 a4=>⟨p,a4.1,a4.2.1,kat_snds rfl a2,a3,a4.2.2⟩)
   (cG.wp (J:=fun s'=>∃ t,s'={ s with heap:=h2,toks:=t }) (P:=fun p=>R p∧Gp us.length p) (n:=us.length) (lt:=lt) (fun i j C s' hi hj ⟨t,e⟩ hC=>by
    subst e
    exact hc h2 t i j C k2 hi hj fun t'=>hC _ ⟨t',rfl⟩) (fun p s' hp hs=>⟨hp.1,hp.2,hs⟩) (ni (hR (by omega)) (wn (by omega))) ⟨s.toks,rfl⟩)
  refine wpAny_bind (wpAny_mono run ?_ fun _ _ e=>e)
  rintro ⟨⟨⟩,st'⟩ s' ⟨p,rp,gp,ha,hf,t,rfl⟩
  exact close st' p t gp (fun _=>rp) ha hf
end
open PySem PySem.W PySem.Calls PySem.Spec PyProof.Rows
def HX (h h':Heap):Prop:=∀ b o,h.get? b=some o→h'.get? b=some o
theorem HX.trans {h h1 h2:Heap} (a:HX h h1) (b:HX h1 h2):HX h h2:=fun c o e=>b c o (a c o e)
section
variable {prog:Program} {w:World} {A:Around} {E:Value→Shared→Prop} {s:Shared}
theorem nk {T:String} {r d:Addr} {n:Nat} {P:Nat→Value→Prop} {OK:Heap→Prop} {Q:List Value→Shared→Prop} (K:KdlSrc prog w T r d n P OK) (hh:A.handled=none) (hok:OK s.heap) (hn:n≤sizeLine)
  (hQ:∀ (h':Heap) (tk:Nat) (acc:Array Value),HX s.heap h'→s.heap.objs.size≤h'.objs.size→ItemsOf P acc n→Q acc.toList { s with heap:=h',toks:=tk }):wpAny (model prog w) A (collect (.ref r)) Q E s:=by
 have th:=K.there _ hok
 have main:∀ R:Result→Shared→Prop,(∀ (h':Heap) (tk c:Nat) (acc:Array Value),HX s.heap h'→h'.get? s.heap.objs.size=some (seqObj "list" acc c)→ItemsOf P acc n→R (.ok (.ret (.ref s.heap.objs.size))) { s with heap:=h',toks:=tk }) →
   codeAny (model prog w) A (.builtin "proto.collect" ⟨[.ref r],[]⟩) R s:=by
  intro R hR
  refine codeAny_builtin entry_proto_collect' ?_
  show wpAny _ _ (do again (.builtin "list.__iadd__" ⟨[← newList [],.ref r],[]⟩)) _ _ s
  refine wpAny_bind (wpAny_newList (wpAny_pure ⟨Code.quiet_builtin _ (by decide +kernel),codeAny_builtin entry_list_iadd' ?_⟩))
  show wpAny _ _ (Builtin.List.listExtendWith (.ref s.heap.objs.size) (.ref r) (.ref s.heap.objs.size)) _ _ { s with heap:=s.heap.push (seqObj "list" #[] 0) }
  rw [Around.under_plainId (show plainId "list.__iadd__"=true by decide +kernel)]
  exact kdl_extend (A:=A) (s:={ s with heap:=s.heap.push (seqObj "list" #[] 0) }) K hh (K.keep _ _ hok fun b _ o e=>Heap.get?_push_of_some _ e) s.heap.objs.size (Nat.ne_of_gt th.1) (Nat.ne_of_gt th.2) _ 0 (Heap.get?_push_size _ rfl) (fun h' tk acc' c' kp e hacc =>
   hR h' tk c' acc' (fun b o q=>kp b o (Nat.ne_of_lt (Heap.lt_size q)) (Heap.get?_push_of_some _ q)) e hacc) hn
 unfold collect
 refine wpAny_bind (wpAny_runValue (main _ fun h' tk c acc x e hacc=>?_))
 show wpAny (model prog w) A (do
   let o ← load s.heap.objs.size
   match o.data with
   | .seq xs _=>pure xs.toList
   | _=>unsupported "internal:collect") Q E { s with heap:=h',toks:=tk }
 refine wpAny_bind (wpAny_load e ?_)
 exact wpAny_pure (hQ h' tk acc x (Nat.le_of_lt (Heap.lt_size e)) hacc)
theorem qy {v:Value} {U:List Value→Prop} {Q:Value→Shared→Prop}
  (hcol:∀ (E':Value→Shared→Prop) (Qc:List Value→Shared→Prop),(∀ (h':Heap) (tk:Nat) (us:List Value),HX s.heap h'→s.heap.objs.size≤h'.objs.size→U us→Qc us { s with heap:=h',toks:=tk })→wpAny (model prog w) A.in1 (collect v) Qc E' s)
  (hu:∀ us,U us→us.length<64∧∃ (κ:SortKind) (lt:Nat→Nat→Bool) (R:Array Nat→Prop),
   (2≤us.length→∀ (h':Heap) (t:Nat) (Qk:SortKind→Shared→Prop),HX s.heap h'→Qk κ { s with heap:=h',toks:=t }→wpAny (model prog w) A.in1.in1 (keyKind' us.toArray) Qk (fun _ _=>False) { s with heap:=h',toks:=t }) ∧
   (∀ (h':Heap) (t i j:Nat) (C:Bool→Shared→Prop),HX s.heap h'→i<us.length→j<us.length→(∀ t',C (lt i j) { s with heap:=h',toks:=t' })→kas_ask prog w A.in1.in1 κ us i j C { s with heap:=h',toks:=t }) ∧
   (2≤us.length→cG us.length lt R (kas_sort us.length)) ∧
   ∀ (h':Heap) (t c D:Nat) (p:Array Nat),Gp us.length p→(2≤us.length→R p)→HX s.heap h'→s.heap.objs.size≤D→h'.get? D=some (seqObj "list" (dQ us p).toArray c)→Q (.ref D) { s with heap:=h',toks:=t }) :
  wpAny (model prog w) A (call (.builtin "sorted") [v]) Q E s:=by
 refine Calls.call_function_entry kind_sorted plain_sorted entry_sorted (args_sorted1 _) ?_
 unfold Builtin.«sorted»
 refine wpAny_bind (m:=checkCount "sorted" 1 1 _) (wpAny_pure ?_)
 refine wpAny_bind (hcol _ _ fun h1 t1 us x1 big u1=>?_)
 obtain ⟨l64,κ,lt,R,hk,hc,hR,fin⟩:=hu us u1
 refine wpAny_bind (wpAny_newList ?_ (by rw [sizeLine_eq]; omega))
 have gL:(h1.push (seqObj "list" us.toArray 0)).get? h1.objs.size=some (seqObj "list" us.toArray 0):=Heap.get?_push_size _ rfl
 have x2:HX s.heap (h1.push (seqObj "list" us.toArray 0)):=fun b o e=>Heap.get?_push_of_some _ (x1 b o e)
 have nb:∀ b o,s.heap.get? b=some o→b≠h1.objs.size:=fun b o e=>Nat.ne_of_lt (Heap.lt_size (x1 b o e))
 show wpAny _ _ _ _ _ { s with heap:=h1.push (seqObj "list" us.toArray 0),toks:=t1 }
 refine wpAny_bind (wpAny_holding (wpAny_call_entry slot_list_sort ⟨_,gL,rfl⟩ entry_list_sort ?body (args_list_sort _)))
 case body =>
  refine vj (s:={ s with heap:=h1.push (seqObj "list" us.toArray 0),toks:=t1 }) (κ:=κ) (lt:=lt) (R:=R) gL l64 (fun h2 h' Qk kp q=>hk h2 h' t1 Qk (fun b o e=>kp b o (nb b o e) (x2 b o e)) q) (fun h' t i j C kp hi hj hC=>hc h' t i j C (fun b o e=>kp b o (nb b o e) (x2 b o e)) hi hj hC) hR (fun h' t c p gp rp kp e=>?_)
  exact ⟨_,rfl,wpAny_pure ⟨_,rfl,fin h' t c h1.objs.size p gp rp (fun b o e=>kp b o (nb b o e) (x2 b o e)) big e⟩⟩
end
open PySem PySem.W PySem.Spec PyProof.Rows
theorem bN:Slot "set_iterator" "__next__" "set_iterator.__next__" :=
 .of (owner := "set_iterator") (n := "__next__") (by rw [typeLookup_type,builtinLookup_eq_fast]; kernel_rfl) (by decide +kernel) (by decide +kernel) (by decide +kernel)
  (by first | exact .inl (by decide +kernel) | exact .inr (by decide +kernel)) (by rw [isSubtype_type]; kernel_rfl)
theorem fb:Slot "set_iterator" "__iter__" "set_iterator.__iter__" :=
 .of (owner := "set_iterator") (n := "__iter__") (by rw [typeLookup_type,builtinLookup_eq_fast]; kernel_rfl) (by decide +kernel) (by decide +kernel) (by decide +kernel)
  (by first | exact .inl (by decide +kernel) | exact .inr (by decide +kernel)) (by rw [isSubtype_type]; kernel_rfl)
theorem fh:Slot "set" "__iter__" "set.__iter__" :=
 .of (owner := "set") (n := "__iter__") (by rw [typeLookup_type,builtinLookup_eq_fast]; kernel_rfl) (by decide +kernel) (by decide +kernel) (by decide +kernel)
  (by first | exact .inl (by decide +kernel) | exact .inr (by decide +kernel)) (by rw [isSubtype_type]; kernel_rfl)
theorem jO:Manifest.owners.lookup (String.ofList ['r','o','t','a','r','e','t','i','_','t','e','s'].reverse)=some Manifest.sig_set_iterator:=by kernel_rfl
theorem eO:entryFor table "set_iterator.__next__"=some Builtin.«set_iterator.__next__»:=entryFor_of_tree (by kernel_rfl)
theorem iZ:entryFor table "set_iterator.__iter__"=some Builtin.«dict_keyiterator.__iter__» :=
 entryFor_alias (id' := "dict_keyiterator.__iter__") (by kernel_rfl) rfl (by decide +kernel) (by kernel_rfl)
theorem jd:entryFor table "set.__iter__"=some Builtin.«frozenset.__iter__» :=
 entryFor_alias (id' := "frozenset.__iter__") (by kernel_rfl) rfl (by decide +kernel) (by kernel_rfl)
theorem fe (a:Value):argsOk "set_iterator.__next__" ⟨[a],[]⟩:=by
 unfold argsOk; rw [signature?_of (id := "set_iterator.__next__") (n:=['_','_','t','x','e','n','_','_']) (o:=['r','o','t','a','r','e','t','i','_','t','e','s']) (by kernel_rfl) jO]; kernel_rfl
theorem jT (a:Value):argsOk "set_iterator.__iter__" ⟨[a],[]⟩:=by
 unfold argsOk; rw [signature?_of (id := "set_iterator.__iter__") (n:=['_','_','r','e','t','i','_','_']) (o:=['r','o','t','a','r','e','t','i','_','t','e','s']) (by kernel_rfl) jO]; kernel_rfl
theorem jI (a:Value):argsOk "set.__iter__" ⟨[a],[]⟩:=by
 unfold argsOk; rw [signature?_of (id := "set.__iter__") (n:=['_','_','r','e','t','i','_','_']) (o:=['t','e','s']) (by kernel_rfl) F.owner_set]; kernel_rfl
section
variable {prog:Program} {w:World} {A:Around} {E:Value→Shared→Prop} {s:Shared} {S:Addr}
def cI (w:World):Bool:=!(w.params.followText "set-order")
structure gF (w:World) (h:Heap) (S:Addr) (es:List (Int×Value)) (ep:Nat) (js:List Nat):Prop where
 ex:∃ o t,h.get? S=some o∧o.ExactSet∧o.data=.set es.toArray ep t∧t.place=js.toArray∧t.dummies=#[]∧t.mask=7∧t.led=cI w
 le:es.length≤1
 ej:js.length=es.length
theorem gF.at {h h':Heap} {es ep js} (x:gF w h S es ep js) (k:∀ o,h.get? S=some o→h'.get? S=some o):gF w h' S es ep js :=
 let ⟨⟨o,t,e,r⟩,a,b⟩:=x; ⟨⟨o,t,k o e,r⟩,a,b⟩
theorem gF.ty {es ep js} (x:gF w s.heap S es ep js):s.TypeIs (.ref S) "set":=let ⟨⟨o,t,e,r,_⟩,_,_⟩:=x; ⟨o,e,r.1⟩
theorem ji {t:SetTable} {es:List (Int×Value)} {js:List Nat} (h1:t.place=js.toArray) (h2:t.dummies=#[]) (h3:t.mask=7) (le:es.length≤1) (ej:js.length=es.length):t.fits es.toArray.size=true:=by
 simp only [SetTable.fits,SetTable.fill,h1,h2,h3,List.size_toArray,ej,Bool.and_eq_true,beq_iff_eq,decide_eq_true_eq,true_and]
 simp
 omega
theorem sC {es ep js} {Q:Value→Shared→Prop} (hm:gF w s.heap S es ep js)
  (hQ:Q (.ref s.heap.objs.size) { s with heap:=s.heap.push { cls:=.type "set_iterator",data:=.fields #[.int 0 0,.int 0 0,.ref S,.int es.length 0,.int ep 0] } }):wpAny (model prog w) A (pyIter (.ref S)) Q E s:=by
 have hT:=hm.ty
 obtain ⟨⟨o,t,ho,hex,hd,h1,h2,h3,h4⟩,le,ej⟩:=hm
 have hf:=ji h1 h2 h3 le ej
 refine wpAny_pyIter_slot hT fh (wpAny_call_entry fh hT jd ?_ (jI _))
 unfold Builtin.«frozenset.__iter__» Builtin.Frozenset.slot0 slotArgs
 simp only [List.isEmpty_nil,Bool.not_true,Bool.false_eq_true,↓reduceIte,bind_assoc,List.length_nil,bne_self_eq_false]
 unfold Builtin.Frozenset.addrOf Builtin.Frozenset.sizeOf
 refine wpAny_bind (wpAny_pure ?_)
 try dsimp only
 refine wpAny_bind (wpAny_pure ?_)
 refine wpAny_bind (wpAny_bind (wpAny_setEntries_of ho hd hf (wpAny_pure ?_)))
 unfold setDrawn
 refine wpAny_bind (wpAny_bind (wpAny_setState_of ho hd hf ?_))
 unfold setsByText
 refine wpAny_bind (wpAny_bind (wpAny_askSetting (wpAny_pure (wpAny_pure ?_))))
 have e:∀ b p:Bool,(!b&&(!p&&decide (es.toArray.size > 1)))=false:=fun b p=>by
  rw [decide_eq_false (by simp; omega)]
  simp
 have e':=e (w.params.followText "set-order") t.plain
 refine wpAny_ite_split (fun hab=>absurd (hab.symm.trans e') (by decide)) (fun _=>?_)
 refine wpAny_bind (wpAny_pure (wpAny_bind (wpAny_setEpoch_of ho hd hf ?_)))
 refine wpAny_bind (wpAny_newObj_type (wpAny_pure ⟨_,rfl, "set_iterator",_,⟨_,Heap.get?_push_size _ rfl,rfl⟩,bN.lookup,?_⟩))
 simpa [rawInt] using hQ
end
open PySem PySem.W PySem.Spec PyProof.Rows
section
variable {prog:Program} {w:World} {A:Around} {E:Value→Shared→Prop} {s:Shared} {S it:Addr}
def dG (w:World) (js:List Nat) (i:Nat):Nat:=if i=0 then 0 else if cI w then js.headD 0+1 else 0
def kI (w:World) (h:Heap) (it S:Addr) (i n ep:Nat) (js:List Nat):Prop:=∃ o,h.get? it=some o∧o.cls=.type "set_iterator"∧o.data=.fields #[.int (dG w js i:Nat) 0,.int (i:Nat) 0,.ref S,.int (n:Nat) 0,.int (ep:Nat) 0]
theorem kI.ty {i n ep js} (x:kI w s.heap it S i n ep js):s.TypeIs (.ref it) "set_iterator":=let ⟨o,e,c,_⟩:=x; ⟨o,e,c⟩
theorem kI.at {h h':Heap} {i n ep js} (x:kI w h it S i n ep js) (k:∀ o,h.get? it=some o→h'.get? it=some o):kI w h' it S i n ep js:=let ⟨o,e,r⟩:=x; ⟨o,k o e,r⟩
theorem oM (j:Nat):SetTable.below #[j] 0=0:=by
 simp [SetTable.below,SetTable.below.go]
theorem ph (j:Nat):SetTable.below #[j] (j+1)=1:=by
 simp [SetTable.below,SetTable.below.go]
theorem um {js:List Nat} {i:Nat} (hl:js.length≤1) (hi:i≤js.length) (hw:cI w=true):SetTable.below js.toArray (dG w js i)=i:=by
 match js,hl,hi with
 | [],_,hi =>
  have:i=0:=by simpa using hi
  subst this
  rfl
 | [j],_,hi =>
  simp only [List.length_cons,List.length_nil] at hi
  rcases Nat.lt_or_ge i 1 with h | h
  ·have:i=0:=by omega
   subst this
   exact oM j
  ·have:i=1:=by omega
   subst this
   simp only [dG,hw]
   exact ph j
theorem vd {f:Nat→Nat} {es:List (Int×Value)} (h:es.length≤1):pickOrder f es.toArray=es.toArray:=by
 match es,h with
 | [],_=>rfl
 | [e],_=>simp [pickOrder,pickOrder.go,Nat.mod_one]
theorem jz {es ep js} {i:Nat} {Q:Option (Value×Nat)→Shared→Prop} (hm:gF w s.heap S es ep js) (hi:i≤es.length)
  (hQ:Q (es[i]?.map fun e=>(e.2,dG w js (i+1))) s):wpAny (model prog w) A (setNext S (dG w js i) i ep) Q E s:=by
 obtain ⟨⟨o,t,ho,hex,hd,h1,h2,h3,h4⟩,le,ej⟩:=hm
 have hf:=ji h1 h2 h3 le ej
 unfold setNext
 refine wpAny_bind (wpAny_setState_of ho hd hf ?_)
 unfold setsByText
 refine wpAny_bind (wpAny_bind (wpAny_askSetting (wpAny_pure ?_)))
 cases hb:w.params.followText "set-order" with
 | true =>
  have hl:cI w=false:=by simp [cI,hb]
  refine wpAny_ite_split (fun _=>?_) (fun hab=>absurd hb hab)
  rw [if_neg (by simp)]
  unfold setWalk
  refine wpAny_bind (wpAny_bind (wpAny_setState_of ho hd hf ?_))
  unfold setsByText
  refine wpAny_bind (wpAny_bind (wpAny_askSetting (wpAny_pure ?_)))
  refine wpAny_ite_split (fun _=>?_) (fun hab=>absurd hb hab)
  refine wpAny_bind (wpAny_askSetting (wpAny_pure ?_))
  refine wpAny_pure ?_
  rw [vd le]
  have e:dG w js i=dG w js (i+1):=by simp [dG,hl]
  rw [e]
  simpa using hQ
 | false =>
  have hl:cI w=true:=by simp [cI,hb]
  refine wpAny_ite_split (fun hab=>absurd (hb.symm.trans hab) (by decide)) (fun _=>?_)
  have e1:∀ p:Bool,(!p&&decide (es.toArray.size > 1))=false:=fun p=>by
   rw [decide_eq_false (by simp; omega)]
   simp
  refine wpAny_ite_split (fun hab=>absurd (hab.symm.trans (e1 t.plain)) (by decide)) (fun _=>?_)
  have e2:(!t.led&&!es.toArray.isEmpty)=false:=by rw [h4,hl]; rfl
  refine wpAny_bind ?_
  refine wpAny_ite_split (fun hab=>absurd (hab.symm.trans e2) (by decide)) (fun _=>?_)
  refine wpAny_pure ?_
  rw [h1,um (by omega) (by omega) hl]
  refine wpAny_pure ?_
  match es,js,ej,le,hi with
  | [],[],_,_,hi =>
   have:i=0:=by simpa using hi
   subst this
   simpa using hQ
  | [e],[j],_,_,hi =>
   simp only [List.length_cons,List.length_nil] at hi
   rcases Nat.lt_or_ge i 1 with h | h
   ·have:i=0:=by omega
    subst this
    simpa [dG,hl] using hQ
   ·have:i=1:=by omega
    subst this
    simpa using hQ
theorem rZ {es ep js} {i:Nat} {Q:Option Value→Shared→Prop} (hit:kI w s.heap it S i es.length ep js) (hm:gF w s.heap S es ep js) (hlt:i<es.length)
  (hQ:∀ h',kI w h' it S (i+1) es.length ep js→Heap.SameBut it s.heap h'→Q (some es[i].2) { s with heap:=h' }):wpAny (model prog w) A (pyNext (.ref it)) Q E s:=by
 obtain ⟨o,ho,hc,hd⟩:=id hit
 have hm0:=hm
 obtain ⟨⟨oS,t,hoS,hex,hdS,h1,h2,h3,h4⟩,le,ej⟩:=hm
 have hf:=ji h1 h2 h3 le ej
 unfold pyNext
 refine wpAny_bind (wpAny_attempt (wpAny_callSpecial?_slot (name:=Str.ofString "__next__") hit.ty bN (wpAny_call_entry bN hit.ty eO ?_ (fe _))))
 unfold Builtin.«set_iterator.__next__» slotArgs
 simp only [List.isEmpty_nil,Bool.not_true,Bool.false_eq_true,↓reduceIte,bind_assoc,List.length_nil,bne_self_eq_false]
 refine wpAny_bind (wpAny_pure ?_)
 refine wpAny_bind (wpAny_fieldsOf ho hd ?_)
 show wpAny _ _ (setEntries S >>= _) _ _ s
 refine wpAny_bind (wpAny_setEntries_of hoS hdS hf ?_)
 rw [if_neg (by simp)]
 show wpAny _ _ (setNext S _ _ _ >>= _) _ _ s
 rw [Int.toNat_natCast,Int.toNat_natCast,Int.toNat_natCast]
 refine wpAny_bind (jz hm0 (Nat.le_of_lt hlt) ?_)
 rw [List.getElem?_eq_getElem hlt]
 show wpAny _ _ (setField (.ref it) 0 _ >>= _) _ _ s
 refine wpAny_bind (wpAny_setField ho hd (by simp) ?_)
 have ho1:=Heap.get?_update_self (Obj.mapFields (·.setIfInBounds 0 (rawInt ((dG w js (i+1):Nat):Int)))) ho (Obj.isFreed_of_fields (Obj.data_mapFields hd _))
 refine wpAny_bind (wpAny_setField ho1 (Obj.data_mapFields hd _) (by simp) ?_)
 refine wpAny_pure ⟨_,rfl,wpAny_pure (hQ _ ?_ ?_)⟩
 ·exact ⟨_,Heap.get?_update_self _ ho1 (Obj.isFreed_of_fields (Obj.data_mapFields (Obj.data_mapFields hd _) _)),(Obj.cls_mapFields ..).trans ((Obj.cls_mapFields ..).trans hc),by rw [Obj.data_mapFields (Obj.data_mapFields hd _)]; simp [rawInt]⟩
 ·exact (Heap.SameBut.update ..).trans (Heap.SameBut.update ..)
theorem vz {es ep js} {Q:Option Value→Shared→Prop} (hh:A.handled=none) (hit:kI w s.heap it S es.length es.length ep js) (hm:gF w s.heap S es ep js)
  (hQ:∀ h',Heap.ExtBut it s.heap h'→Q none { s with heap:=h' }):wpAny (model prog w) A (pyNext (.ref it)) Q E s:=by
 obtain ⟨o,ho,hc,hd⟩:=id hit
 have hm0:=hm
 obtain ⟨⟨oS,t,hoS,hex,hdS,h1,h2,h3,h4⟩,le,ej⟩:=hm
 have hf:=ji h1 h2 h3 le ej
 unfold pyNext
 refine wpAny_bind (wpAny_attempt (wpAny_callSpecial?_slot (name:=Str.ofString "__next__") hit.ty bN (wpAny_call_entry bN hit.ty eO ?_ (fe _))))
 unfold Builtin.«set_iterator.__next__» slotArgs
 simp only [List.isEmpty_nil,Bool.not_true,Bool.false_eq_true,↓reduceIte,bind_assoc,List.length_nil,bne_self_eq_false]
 refine wpAny_bind (wpAny_pure ?_)
 refine wpAny_bind (wpAny_fieldsOf ho hd ?_)
 show wpAny _ _ (setEntries S >>= _) _ _ s
 refine wpAny_bind (wpAny_setEntries_of hoS hdS hf ?_)
 rw [if_neg (by simp)]
 show wpAny _ _ (setNext S _ _ _ >>= _) _ _ s
 rw [Int.toNat_natCast,Int.toNat_natCast,Int.toNat_natCast]
 refine wpAny_bind (jz hm0 (Nat.le_refl _) ?_)
 rw [List.getElem?_eq_none (Nat.le_refl _)]
 show wpAny _ _ (setField (.ref it) 2 .none >>= _) _ _ s
 refine wpAny_bind (wpAny_setField ho hd (by simp) ?_)
 show wpAny _ _ (newExc (.type "StopIteration") [] >>= _) _ _ _
 refine wpAny_bind ?_
 simp only [newExc,newTuple]
 refine wpAny_bind (wpAny_newObj_type ?_ (by size_fits))
 refine wpAny_bind (m:=firstArgMember _ _) (wpAny_of_eq (a:=Value.none) (by first | rfl | (simp only [firstArgMember]; rfl)) ?_)
 refine wpAny_newObj_type ?_ (by size_fits)
 simp only [raiseNew]
 refine wpAny_bind (wpAny_handled ?_)
 rw [show A.in1.handled=none from hh]
 refine wpAny_bind (wpAny_pure (wpAny_throw ?_))
 refine wpAny_bind (wpAny_isInstance (T := "StopIteration") (b:=true) ⟨_,Heap.get?_push_size _ rfl,rfl⟩ isSubtype_stop ?_)
 exact wpAny_pure (hQ _ (((Heap.SameBut.update ..).extBut.push _).push _))
theorem sF {i n ep js} {Q:Value→Shared→Prop} (hit:kI w s.heap it S i n ep js) (h:Q (.ref it) s):wpAny (model prog w) A (pyIter (.ref it)) Q E s:=by
 refine wpAny_pyIter_slot hit.ty fb (wpAny_call_entry fb hit.ty iZ ?_ (jT _))
 show wpAny _ _ (ret (.ref it)) _ _ s
 exact wpAny_pure ⟨_,rfl, "set_iterator",_,hit.ty,bN.lookup,h⟩
theorem sN (hh:A.handled=none) (I S:Addr) (hne:S≠I) (es:List (Int×Value)) (ep:Nat) (js:List Nat) :
  Walks prog w A I [I,S] [I] es.length (fun i v=>∃ e,es[i]?=some e∧v=e.2) (fun i h=>kI w h I S i es.length ep js∧gF w h S es ep js) where
 sub:=fun b hb=>by simp at hb; simp [hb]
 frame:=fun _ _ _ st hk=>⟨st.1.at fun o e=>hk I (by simp) o e,st.2.at fun o e=>hk S (by simp) o e⟩
 item:=fun i s Q E hi st hQ=>rZ st.1 st.2 hi fun h' hit' hs'=>hQ _ h' s.toks ⟨_,List.getElem?_eq_getElem hi,rfl⟩ ⟨hit',st.2.at fun o e=>hs'.extBut S o hne e⟩ fun b o hb e=>hs'.extBut b o (fun h=>hb (by simp [h])) e
 done:=fun s Q E st hQ=>vz hh st.1 st.2 fun h' he'=>hQ h' s.toks fun b o hb e=>he' b o (fun h=>hb (by simp [h])) e
 self:=fun _ _ _ _ st hQ=>sF st.1 hQ
theorem uY {Q:Bool→Shared→Prop} (hT:s.TypeIs (.ref S) "set") (h:Q false s):wpAny (model prog w) A (Builtin.List.listLengthHint (.ref S)) Q E s:=by
 unfold Builtin.List.listLengthHint
 refine wpAny_bind (wpAny_specialOf hT PySem.F.slot_set_len.lookup ?_)
 generalize hid:("set.__len__":String)=id0
 wp_delta
 rw [show splitId id0=some ("set", "__len__") from by subst hid; decide +kernel]
 subst hid
 refine wpAny_bind (wpAny_isInstance (T := "set") (b:=true) hT (by rw [isSubtype_type]; kernel_rfl) ?_)
 refine wpAny_ite_split (fun hab=>absurd hab (by decide)) (fun _=>?_)
 refine wpAny_ite_split (fun _=>?_) (fun hab=>absurd (by decide +kernel) hab)
 refine wpAny_bind (wpAny_typeOf hT ?_)
 exact wpAny_pure h
theorem xp (es:List (Int×Value)) (ep:Nat) (js:List Nat):KdlSrc prog w "set" S S es.length (fun i v=>∃ e,es[i]?=some e∧v=e.2) (fun h=>gF w h S es ep js) where
 type:=fun _ hm=>hm.ty
 there:=fun _ hm=>let ⟨⟨_,_,e,_⟩,_,_⟩:=hm; ⟨Heap.lt_size e,Heap.lt_size e⟩
 keep:=fun _ _ hm hk=>hm.at fun o e=>hk S (.inl rfl) o e
 notList:=by decide
 notTuple:=by decide
 hint:=fun _ _ _ _ hm hq=>uY hm.ty hq
 iter:=fun _ _ hh hm=>⟨_,_,(fun _ _ hq=>sC hm hq),sN hh _ S (let ⟨⟨_,_,e,_⟩,_,_⟩:=hm; Nat.ne_of_lt (Heap.lt_size e)) es ep js,⟨⟨_,Heap.get?_push_size _ rfl,rfl,rfl⟩,hm.at fun o e=>Heap.get?_push_of_some _ e⟩⟩
end
open PySem PySem.W PySem.Spec PyProof.Rows
section
variable {prog:Program} {w:World} {A:Around} {E:Value→Shared→Prop} {s:Shared} {S a:Addr}
abbrev km (led:Bool):Obj:={ cls:=.type "set",dict:=none,data:=.set #[] 0 (.fresh 0 0 led) }
theorem tH {z:Str} {ds:List PyData} {Q:Bool→Shared→Prop} (r:RdT s.heap (.ref a) (.tuple (.str z::ds))) (hQ:Q false s):wpAny (model prog w) A (hashByValue 8 (.ref a)) Q E s:=by
 have hT:=dX r
 cases r with
 | @tup _ o items n _ ho _ hd hi =>
  unfold hashByValue
  refine wpAny_bind (wpAny_specialOf hT F.slot_tuple_hash.lookup ?_)
  show wpAny _ _ (seqItems? (.ref a) >>= _) _ _ s
  unfold seqItems?
  refine wpAny_bind (wpAny_bind (wpAny_load ho ?_))
  rw [hd]
  refine wpAny_pure ?_
  refine wpAny_bind ?_
  rw [Option.getD_some,← Array.forIn_toList]
  generalize items.toList=xs at hi
  cases hi with
  | cons q t =>
   cases q
   rw [List.forIn_cons]
   refine wpAny_bind (wpAny_bind ?_)
   unfold hashByValue
   refine wpAny_pure ?_
   refine wpAny_ite_split (fun _=>?_) (fun hab=>absurd rfl hab)
   exact wpAny_pure (wpAny_pure (wpAny_pure hQ))
theorem sj {led:Bool} {j:Nat}:(SetTable.fresh 0 0 led).put j=({ SetTable.fresh 0 0 led with place:=#[j] },0):=by
 simp [SetTable.put,SetTable.fresh,SetTable.below,SetTable.below.go,SetTable.insertAt,SetTable.has]
theorem mX {z:Str} {ds:List PyData} {Q:Bool→Shared→Prop} (ho:s.heap.get? S=some (km (cI w))) (r:RdT s.heap (.ref a) (.tuple (.str z::ds))) (hu:A.units+(PyData.tuple (.str z::ds)).depth<cLine)
  (hQ:∀ h' tk hs j,s.toks≤tk→Heap.SameBut S s.heap h'→gF w h' S [(hs,.ref a)] 1 [j]→Q true { s with heap:=h',toks:=tk }):wpAny (model prog w) A (setAdd S (.ref a)) Q E s:=by
 unfold setAdd
 refine wpAny_holding (wpAny_bind (ms _ r hu ?_))
 generalize hsh w (.tuple (.str z::ds))=hs
 have htk:s.toks≤s.toks+drw (.tuple (.str z::ds)):=Nat.le_add_right _ _
 generalize s.toks+drw (.tuple (.str z::ds))=tk at htk
 unfold setAddHashed setAddHashedIn
 refine wpAny_holding (wpAny_bind (wpAny_setState_of (s:={ s with heap:=s.heap,toks:=tk }) ho rfl rfl ?_))
 dsimp only
 refine wpAny_ite_split (fun hab=>absurd hab (by simp [byScan,Value.scannable])) (fun _=>?_)
 unfold setSearch setSearchFrom
 refine wpAny_bind (wpAny_bind (wpAny_setState_of (s:={ s with heap:=s.heap,toks:=tk }) ho rfl rfl ?_))
 dsimp only
 refine wpAny_ite_split (fun hab=>absurd hab (by simp [SetTable.gaveWay,SetTable.fresh])) (fun _=>?_)
 obtain ⟨j,hj⟩:∃ j,j=SetTable.bits hs % 8:=⟨_,rfl⟩
 show wpAny _ _ (pure (SetFound.free (SetTable.bits hs % 8) false)) _ _ _
 rw [← hj]
 refine wpAny_pure ?_
 dsimp only
 refine wpAny_bind (wpAny_setState_of (s:={ s with heap:=s.heap,toks:=tk }) ho rfl rfl ?_)
 dsimp only
 rw [sj]
 dsimp only
 refine wpAny_ite_split (fun _=>?_) (fun hab=>absurd rfl hab)
 refine wpAny_bind (tH r ?_)
 rw [if_neg (by decide)]
 refine wpAny_bind (wpAny_storeSet_of (s:={ s with heap:=s.heap,toks:=tk }) ho rfl ?_ (by simp [SetTable.insertAt,sizeLine_eq]))
 refine wpAny_ite_split (fun hab=>absurd hab (by simp [SetTable.tooFull,SetTable.fill,SetTable.fresh])) (fun _=>?_)
 refine wpAny_pure (hQ _ tk hs j htk (Heap.SameBut.update ..) ⟨⟨_,_,Heap.get?_update_self _ ho rfl,⟨rfl,rfl,rfl⟩,rfl,rfl,rfl,rfl,rfl⟩,by simp,rfl⟩)
end
open PySem PySem.Spec PyProof.Rows
abbrev Key:=Sum Int Str
def lZ:Key→Value→Bool
 | .inl k,v=>Value.isInt k v
 | .inr x,v=>Value.isStrOf x v
def Bi (w:World):Key→Int
 | .inl k=>hashInt k
 | .inr x=>hashStr w x
theorem bC:∀ {k:Key} {v:Value},lZ k v=true→(∃ i t,k=Sum.inl i∧v=Value.int i t)∨(∃ x t,k=Sum.inr x∧v=Value.str x t)
 | .inl i,v,h=>by
  obtain ⟨t,e⟩:=Value.isInt_shape (k:=i) (v:=v) h
  exact .inl ⟨i,t,rfl,e⟩
 | .inr x,v,h=>by
  obtain ⟨t,e⟩:=Value.isStrOf_shape (x:=x) (v:=v) h
  exact .inr ⟨x,t,rfl,e⟩
theorem sJ (i:Int) (t:Tok):lZ (.inl i) (.int i t)=true:=by simp [lZ,Value.isInt]
theorem sQ (x:Str) (t:Tok):lZ (.inr x) (.str x t)=true:=by simp [lZ,Value.isStrOf]
theorem zp (a b:Int):decide ((Sum.inl a:Key)=Sum.inl b)=(a==b):=by
 by_cases e:a=b
 ·subst e; simp
 ·have h:¬ (Sum.inl a:Key)=Sum.inl b:=fun q=>e (Sum.inl.inj q)
  rw [decide_eq_false h]
  exact (beq_eq_false_iff_ne.mpr e).symm
theorem yL (a b:Str):decide ((Sum.inr a:Key)=Sum.inr b)=decide (a=b):=by
 by_cases e:a=b
 ·subst e; simp
 ·have h:¬ (Sum.inr a:Key)=Sum.inr b:=fun q=>e (Sum.inr.inj q)
  rw [decide_eq_false h,decide_eq_false e]
theorem yI (a:Int) (b:Str):decide ((Sum.inl a:Key)=Sum.inr b)=false:=decide_eq_false (fun q=>nomatch q)
theorem yX (a:Str) (b:Int):decide ((Sum.inr a:Key)=Sum.inl b)=false:=decide_eq_false (fun q=>nomatch q)
def bQ (prog:Program) (w:World):PySem.KeyKind prog w Key where
 is:=lZ
 hash:=Bi w
 inj:=fun v a b ha hb=>by
  rcases bC ha with ⟨i,t,rfl,rfl⟩ | ⟨x,t,rfl,rfl⟩
  ·rcases bC hb with ⟨j,u,rfl,e⟩ | ⟨y,u,rfl,e⟩
   ·injection e with e1 _; rw [e1]
   ·exact nomatch e
  ·rcases bC hb with ⟨j,u,rfl,e⟩ | ⟨y,u,rfl,e⟩
   ·exact nomatch e
   ·injection e with e1 _; rw [e1]
 byValue:=fun k v h=>by
  rcases bC h with ⟨i,t,rfl,rfl⟩ | ⟨x,t,rfl,rfl⟩<;>rfl
 pyHash:=fun hv h=>by
  rcases bC hv with ⟨i,t,rfl,rfl⟩ | ⟨x,t,rfl,rfl⟩
  ·exact wpAny_pyHash_int h
  ·exact wpAny_pyHash_str h
 eqBool:=fun hu hv h=>by
  rcases bC hu with ⟨i,t,rfl,rfl⟩ | ⟨x,t,rfl,rfl⟩
  ·rcases bC hv with ⟨j,u,rfl,rfl⟩ | ⟨y,u,rfl,rfl⟩
   ·rw [zp] at h; exact wpAny_eqBool_int h
   ·rw [yI] at h; exact SeqAt.EqAt.int_str i t y u _ _ _ _ h
  ·rcases bC hv with ⟨j,u,rfl,rfl⟩ | ⟨y,u,rfl,rfl⟩
   ·rw [yX] at h; exact SeqAt.EqAt.str_int x t j u _ _ _ _ h
   ·rw [yL] at h; exact wpAny_eqBool_str h
 «strs»:=fun k x t v h=>by
  rcases bC h with ⟨i,u,rfl,e⟩ | ⟨y,u,rfl,e⟩
  ·exact nomatch e
  ·injection e with e1 _
   subst e1
   cases v<;>rfl
theorem nN (prog:Program) (w:World) (i:Int) (t:Tok):(bQ prog w).is (.inl i) (.int i t)=true:=sJ i t
theorem fk (prog:Program) (w:World) (x:Str) (t:Tok):(bQ prog w).is (.inr x) (.str x t)=true:=sQ x t
inductive V where
 | non | bl (b:Bool) | int (i:Int) | str (x:Str) | byt (b:Array UInt8) | flt (b:UInt64) | ref (a:Addr) | ty (n:String)
 deriving DecidableEq
def aX:V→Value→Prop
 | .non,u=>u=Value.none
 | .bl b,u=>u=Value.bool b
 | .int i,u=>∃ t,u=Value.int i t
 | .str x,u=>∃ t,u=Value.str x t
 | .byt b,u=>∃ t,u=Value.bytes b t
 | .flt b,u=>∃ t,u=Value.float b t
 | .ref a,u=>u=Value.ref a
 | .ty n,u=>u=Value.type n
abbrev aR:List V→List Value→Prop:=Paired aX
theorem aR.length {xs:List V} {us:List Value} (r:aR xs us):xs.length=us.length:=Paired.length r
theorem aR.get:∀ {xs:List V} {us:List Value} {i:Nat} {x:V},aR xs us→xs[i]?=some x→∃ u,us[i]?=some u∧aX x u
 | _,_,_,_,.nil,e=>by simp at e
 | _,_,0,_,.cons r _,e=>by simp at e; subst e; exact ⟨_,rfl,r⟩
 | _,_,i+1,x,.cons _ t,e=>by
  obtain ⟨u,h1,h2⟩:=aR.get (i:=i) (x:=x) t (by simpa using e)
  exact ⟨u,by simpa using h1,h2⟩
theorem aR.set {x:V} {u:Value} (r:aX x u):∀ {xs:List V} {us:List Value} (i:Nat),aR xs us→aR (xs.set i x) (us.set i u)
 | _,_,_,.nil=>.nil
 | _,_,0,.cons _ t=>.cons r t
 | _,_,i+1,.cons q t=>.cons q (aR.set r i t)
theorem aR.append:∀ {xs ys:List V} {us ws:List Value},aR xs us→aR ys ws→aR (xs++ys) (us++ws)
 | _,_,_,_,.nil,s=>s
 | _,_,_,_,.cons r t,s=>.cons r (aR.append t s)
theorem aR.take:∀ {xs:List V} {us:List Value} (n:Nat),aR xs us→aR (xs.take n) (us.take n)
 | _,_,0,_=>.nil
 | _,_,_+1,.nil=>.nil
 | _,_,n+1,.cons r t=>.cons r (aR.take n t)
theorem aR.drop:∀ {xs:List V} {us:List Value} (n:Nat),aR xs us→aR (xs.drop n) (us.drop n)
 | _,_,0,r=>r
 | _,_,_+1,.nil=>.nil
 | _,_,n+1,.cons _ t=>aR.drop n t
def il:Option V→Option Value→Prop
 | some v,some u=>aX v u
 | none,none=>True
 | _,_=>False
def KV {κ:Type}:List (κ×V)→List (κ×Value)→Prop:=Paired fun (p:κ×V) (q:κ×Value)=>p.1=q.1∧aX p.2 q.2
def kV:Key→V
 | .inl i=>.int i
 | .inr x=>.str x
inductive HO where
 /-- a list -/
 | lst (xs:List V)
 /-- a tuple (never changes) -/
 | tup (xs:List V)
 /-- a dict whose keys are ints and texts; one whose keys are tuples of ints and texts (the empty one is both) -/
 | dK (kvs:List (Key×V)) | dT (kvs:List (PyData×V))
 /-- a set of ints: its members,its size -/
 | set (S:Int→Bool) (n:Nat)
 /-- an instance of the class at C,its dict at dx,its attributes -/
 | ins (C dx:Addr) (fs:List (Str×V))
 /-- the dict of the instance at x -/
 | own (x:Addr)
 /-- the dict of an exception -/
 | xd (fs:List (Str×V))
 /-- a bound method,f of x -/
 | met (f x:Addr)
 /-- a range object lo,lo+1,.. below hi -/
 | rng (lo hi:Int)
 /-- a thing that is known to the object (the script; a dict while a loop walks it): read,never written while it is so -/
 | frz (o:Obj) (u:HO)
 /-- a code object's table -/
 | tbl (ps:Array Value)
 /-- any other thing,by what is true of its one object (a def of one's own: SetO a S n:=HO.ext fun h=>..) -/
 | ext (φ:Heap→Prop)
abbrev Hp:=Addr→Option HO
mutual
inductive KAt (H:Hp):V→PyData→Prop
 | int (i:Int):KAt H (.int i) (.int i)
 | str (x:Str):KAt H (.str x) (.str x)
 | tup {a:Addr} {xs:List V} {ds:List PyData}:H a=some (.tup xs)→bP H xs ds→KAt H (.ref a) (.tuple ds)
inductive bP (H:Hp):List V→List PyData→Prop
 | nil:bP H [] []
 | cons {x:V} {xs:List V} {d:PyData} {ds:List PyData}:KAt H x d→bP H xs ds→bP H (x::xs) (d::ds)
end
mutual
theorem KAt.mono {H H':Hp} (e:∀ b xs,H b=some (.tup xs)→H' b=some (.tup xs)):∀ {v:V} {d:PyData},KAt H v d→KAt H' v d
 | _,_,.int i=>.int i
 | _,_,.str x=>.str x
 | _,_,.tup h r=>.tup (e _ _ h) (bP.mono e r)
theorem bP.mono {H H':Hp} (e:∀ b xs,H b=some (.tup xs)→H' b=some (.tup xs)):∀ {v:List V} {d:List PyData},bP H v d→bP H' v d
 | _,_,.nil=>.nil
 | _,_,.cons h r=>.cons (KAt.mono e h) (bP.mono e r)
end
structure NAt (H:Hp) (a:Addr) (d:PyData):Prop where
 k:KAt H (.ref a) d
 p:pk d=true
 d8:d.depth≤8
theorem NAt.mono {H H':Hp} {a:Addr} {d:PyData} (n:NAt H a d) (e:∀ b xs,H b=some (.tup xs)→H' b=some (.tup xs)):NAt H' a d:=⟨n.k.mono e,n.p,n.d8⟩
def upd (H:Hp) (a:Addr) (o:HO):Hp:=fun b=>if b=a then some o else H b
theorem ae {H:Hp} {a:Addr} {o:HO}:upd H a o a=some o:=by unfold upd; rw [if_pos rfl]
theorem aW {H:Hp} {a b:Addr} {o:HO} (h:b≠a):upd H a o b=H b:=by unfold upd; rw [if_neg h]
theorem gq {H:Hp} {a b:Addr} {o u:HO} (h:H a=some o) (h':H b=some u) (d:o≠u):a≠b:=by
 intro e; subst e; rw [h] at h'; exact d (Option.some.inj h')
theorem ar {H:Hp} {a b:Addr} {o:HO} (h:H a=some o) (h':H b=none):a≠b:=by
 intro e; subst e; rw [h] at h'; cases h'
section
variable (P:Program) (w:World)
def bm (H:Hp) (h:Heap) (a:Addr):HO→Prop
 | .lst xs=>xs.length≤sizeLine∧∃ (its:List Value) (n:Nat),aR xs its∧h.get? a=some { cls:=.type "list",data:=.seq its.toArray n }
 | .tup xs=>xs.length≤sizeLine∧∃ its:List Value,aR xs its∧IsTup h a its.toArray∧∃ o,h.get? a=some o∧o.dict=none
 | .dK kvs=>kvs.length≤sizeLine∧(a==sysModules)=false∧∃ vs,KV kvs vs∧h.DictOf (bQ P w) a vs
 | .dT kvs=>kvs.length≤sizeLine∧(a==sysModules)=false∧∃ xs:List (PyData×Addr×Value),
   Paired (fun (p:PyData×V) (q:PyData×Addr×Value)=>p.1=q.1∧NAt H q.2.1 p.1∧aX p.2 q.2.2) kvs xs ∧
   ∃ o es ep,h.get? a=some o∧o.ExactDict∧o.data=.dict es ep∧es.toList=xs.map (entryOfKey (dm P w))∧(xs.map (·.1)).Nodup
 | .set S n=>h.SetOf (intKind P w) a S n
 | .ins C dx fs=>H dx=some (.own a)∧fs.length≤1000∧dx≠a∧h.get? a=some (PySem.W.instObj C dx) ∧
   ∃ mA,h.Ns1 dx mA∧(∀ f,il (fs.lookup f) (mA f))∧PySem.Within mA (fs.map (·.1))
 | .own _=>∃ o,h.get? a=some o
 | .xd fs=>∃ mA,h.Ns1 a mA∧∀ f,il (fs.lookup f) (mA f)
 | .rng lo hi=>∃ t u v,h.get? a=some { cls:=.type "range",data:=.fields #[.int lo t,.int hi u,.int 1 v] }
 | .frz o u=>h.get? a=some o∧bm H h a u
 | .tbl ps=>h.get? a=some { cls:=.none,data:=.fields ps }
 | .met f x=>h.get? a=some (PySem.W.methodObj (.ref f) (.ref x))
 | .ext φ=>φ h∧(∃ o,h.get? a=some o)∧∀ h1 h2:Heap,φ h1→(∀ o,h1.get? a=some o→h2.get? a=some o)→φ h2
def HOk (H:Hp) (h:Heap):Prop:=∀ a o,H a=some o→bm P w H h a o
end
section
variable {P:Program} {w:World} {H H':Hp} {h h':Heap} {a:Addr} {o:HO}
theorem bm.lt (x:bm P w H h a o):a<h.objs.size:=by
 cases o with
 | lst xs=>obtain ⟨_,_,_,_,e⟩:=x; exact Heap.lt_size e
 | tup xs=>obtain ⟨_,_,_,p,_⟩:=x; exact p.lt
 | dK kvs=>obtain ⟨_,_,_,_,o,_,_,e,_⟩:=x; exact Heap.lt_size e
 | dT kvs=>obtain ⟨_,_,_,_,o,_,_,e,_⟩:=x; exact Heap.lt_size e
 | set S n=>obtain ⟨o,_,_,_,e,_⟩:=x; exact Heap.lt_size e
 | ins C dx fs=>obtain ⟨_,_,_,e,_⟩:=x; exact Heap.lt_size e
 | own y=>obtain ⟨_,e⟩:=x; exact Heap.lt_size e
 | xd fs=>obtain ⟨_,⟨_,_,_,e,_⟩,_⟩:=x; exact Heap.lt_size e
 | rng lo hi=>obtain ⟨_,_,_,e⟩:=x; exact Heap.lt_size e
 | frz ob u=>obtain ⟨e,_⟩:=x; exact Heap.lt_size e
 | tbl ps=>exact Heap.lt_size (show h.get? a=some _ from x)
 | met f y=>exact Heap.lt_size (show h.get? a=some _ from x)
 | ext φ=>obtain ⟨_,⟨_,e⟩,_⟩:=x; exact Heap.lt_size e
theorem Paired.mapP {α β:Type} {F G:α→β→Prop}:∀ {l₁:List α} {l₂:List β},Paired F l₁ l₂→(∀ a b,F a b→G a b)→Paired G l₁ l₂
 | _,_,.nil,_=>.nil
 | _,_,.cons r t,f=>.cons (f _ _ r) (Paired.mapP t f)
theorem bm.stay (x:bm P w H h a o) (k:∀ b u,(b=a∨H b=some (.own a))→h.get? b=some u→h'.get? b=some u)
  (ho:∀ b,H b=some (.own a)→H' b=some (.own a)) (ht:∀ b xs,H b=some (.tup xs)→H' b=some (.tup xs)):bm P w H' h' a o:=by
 induction o with
 | lst xs=>obtain ⟨z,its,n,r,e⟩:=x; exact ⟨z,its,n,r,k _ _ (.inl rfl) e⟩
 | tup xs=>obtain ⟨z,its,r,⟨ob,e,c⟩,o2,e2,d2⟩:=x; exact ⟨z,its,r,⟨ob,k _ _ (.inl rfl) e,c⟩,o2,k _ _ (.inl rfl) e2,d2⟩
 | dK kvs=>obtain ⟨z,y,vs,r,ob,es,ep,e,c⟩:=x; exact ⟨z,y,vs,r,ob,es,ep,k _ _ (.inl rfl) e,c⟩
 | dT kvs =>
  obtain ⟨z,y,xs,r,ob,es,ep,e,c⟩:=x
  exact ⟨z,y,xs,Paired.mapP r fun p q z=>⟨z.1,z.2.1.mono ht,z.2.2⟩,ob,es,ep,k _ _ (.inl rfl) e,c⟩
 | set S n=>obtain ⟨ob,es,ep,t,e,c⟩:=x; exact ⟨ob,es,ep,t,k _ _ (.inl rfl) e,c⟩
 | ins C dx fs =>
  obtain ⟨d,z,ne,e,mA,⟨od,es,ep,e2,c⟩,r⟩:=x
  exact ⟨ho _ d,z,ne,k _ _ (.inl rfl) e,mA,⟨od,es,ep,k _ _ (.inr d) e2,c⟩,r⟩
 | own y=>obtain ⟨ob,e⟩:=x; exact ⟨ob,k _ _ (.inl rfl) e⟩
 | xd fs=>obtain ⟨mA,⟨od,es,ep,e,c⟩,r⟩:=x; exact ⟨mA,⟨od,es,ep,k _ _ (.inl rfl) e,c⟩,r⟩
 | rng lo hi=>obtain ⟨t,u,v,e⟩:=x; exact ⟨t,u,v,k _ _ (.inl rfl) e⟩
 | frz ob u ih=>obtain ⟨e,q⟩:=x; exact ⟨k _ _ (.inl rfl) e,ih q⟩
 | tbl ps =>
  have e:h.get? a=some { cls:=.none,data:=.fields ps }:=x
  show h'.get? a=some { cls:=.none,data:=.fields ps }
  exact k a _ (.inl rfl) e
 | met f y =>
  have e:h.get? a=some (PySem.W.methodObj (.ref f) (.ref y)):=x
  show h'.get? a=some (PySem.W.methodObj (.ref f) (.ref y))
  exact k a _ (.inl rfl) e
 | ext φ=>obtain ⟨p,⟨o,e⟩,st⟩:=x; exact ⟨st _ _ p fun o q=>k _ _ (.inl rfl) q,⟨o,k _ _ (.inl rfl) e⟩,st⟩
theorem HOk.lt (x:HOk P w H h) (e:H a=some o):a<h.objs.size:=(x a o e).lt
theorem HOk.fresh (x:HOk P w H h) (e:h.objs.size≤a):H a=none:=by
 cases q:H a with
 | none=>rfl
 | some u=>exact absurd (Nat.lt_of_lt_of_le (x.lt q) e) (Nat.lt_irrefl _)
theorem HOk.kept (x:HOk P w H h) (k:∀ b u,h.get? b=some u→h'.get? b=some u):HOk P w H h':=fun a o e =>
 (x a o e).stay (fun b u _ q=>k b u q) (fun _ q=>q) fun _ _ q=>q
theorem HOk.laid (x:HOk P w H h) (k:∀ b u,h.get? b=some u→h'.get? b=some u) (hp:h.objs.size≤a) (new:bm P w (upd H a o) h' a o):HOk P w (upd H a o) h':=fun b u e=>by
 have hn:=x.fresh hp
 by_cases hb:b=a
 ·subst hb; rw [ae] at e; cases e; exact new
 ·rw [aW hb] at e
  exact (x b u e).stay (fun c v _ q=>k c v q) (fun c q=>by rw [aW (ar q hn)]; exact q) fun c xs q=>by rw [aW (ar q hn)]; exact q
end
def Rd (H:Hp) (a:Addr) (u:HO):Prop:=H a=some u∨∃ o,H a=some (.frz o u)
theorem Rd.ok {P:Program} {w:World} {H:Hp} {h:Heap} {a:Addr} {u:HO} (r:Rd H a u) (x:HOk P w H h):bm P w H h a u:=by
 rcases r with r | ⟨o,r⟩
 ·exact x a u r
 ·obtain ⟨_,q⟩:=x a _ r
  exact q
def Mut:Option HO→Prop
 | some (.lst _)=>True
 | some (.dK _)=>True
 | some (.dT _)=>True
 | some (.set _ _)=>True
 | some (.ins _ _ _)=>True
 | some (.ext _)=>True
 | _=>False
section
variable {P:Program} {w:World} {H:Hp} {h h':Heap} {x e:Addr} {o':HO}
theorem HOk.write (ok:HOk P w H h) (mu:Mut (H x)) (he:e=x∨H e=some (.own x)) (k:∀ b u,b≠e→h.get? b=some u→h'.get? b=some u) (heo:∃ u,h'.get? e=some u)
  (new:bm P w (upd H x o') h' x o'):HOk P w (upd H x o') h':=fun b u q=>by
 have nown:∀ c y,H c=some (.own y)→c≠x:=fun c y r z=>by subst z; rw [r] at mu; exact mu
 have ntup:∀ c xs,H c=some (.tup xs)→c≠x:=fun c xs r z=>by subst z; rw [r] at mu; exact mu
 by_cases hb:b=x
 ·subst hb; rw [ae] at q; cases q; exact new
 ·rw [aW hb] at q
  by_cases hbe:b=e
  ·have q':H b=some (.own x):=by
    rcases he with z | z
    ·exact absurd (hbe.trans z) hb
    ·rw [hbe]; exact z
   rw [q] at q'; cases q'
   obtain ⟨v,hv⟩:=heo
   exact ⟨v,by rw [hbe]; exact hv⟩
  ·refine (ok b u q).stay (fun c v hc r=>k c v ?_ r) (fun c r=>by rw [aW (nown c b r)]; exact r) fun c xs r=>by rw [aW (ntup c xs r)]; exact r
   rcases hc with rfl | hc
   ·exact hbe
   ·rintro rfl
    rcases he with z | z
    ·exact nown c b hc z
    ·rw [hc] at z; cases z; exact hb rfl
end
structure Un (fs ex:List Addr) (H H':Hp) (h h':Heap):Prop where
 keep:∀ b o,h.get? b=some o→H b=none→b∉fs→b∉ex→h'.get? b=some o
 slot:∀ b o,h.get? b=some o→H b=none→b∈fs→b∉ex→∃ sl,h'.get? b=some { o with slots:=sl }
 free:∀ b o,h.get? b=some o→H b=none→b∉ex→H' b=none
 there:∀ b o,h.get? b=some o→b∉ex→∃ o',h'.get? b=some o'
 tups:∀ b xs,H b=some (.tup xs)→H' b=some (.tup xs)
 frzs:∀ b o u,H b=some (.frz o u)→H' b=some (.frz o u)
 tbls:∀ b ps,H b=some (.tbl ps)→∃ more,H' b=some (.tbl (ps++more))
section
variable {fs fs' ex ex':List Addr} {H H1 H2:Hp} {h h1 h2 h':Heap} {a x e:Addr} {o:HO}
theorem Un.any (u:Un fs ex H H1 h h1) {b:Addr} {ob:Obj} (q:h.get? b=some ob) (n:H b=none) (hx:b∉ex):∃ sl,h1.get? b=some { ob with slots:=sl }:=by
 by_cases hb:b∈fs
 ·exact u.slot b ob q n hb hx
 ·exact ⟨ob.slots,u.keep b ob q n hb hx⟩
theorem Un.kept (k:∀ b u,h.get? b=some u→h'.get? b=some u):Un fs ex H H h h' :=
 ⟨fun b ob q _ _ _=>k b ob q,fun b ob q _ _ _=>⟨ob.slots,k b ob q⟩,fun _ _ _ n _=>n,fun b ob q _=>⟨ob,k b ob q⟩,fun _ _ q=>q,fun _ _ _ q=>q,fun _ ps q=>⟨#[],by rw [q]; simp⟩⟩
theorem Un.refl:Un fs ex H H h h:=Un.kept fun _ _ q=>q
theorem Un.laid (k:∀ b u,h.get? b=some u→h'.get? b=some u) (hp:h.objs.size≤a) (hn:H a=none):Un fs ex H (upd H a o) h h' where
 keep:=fun b u q _ _ _=>k b u q
 slot:=fun b u q _ _ _=>⟨u.slots,k b u q⟩
 free:=fun b u q n _=>by rw [aW (Nat.ne_of_lt (Nat.lt_of_lt_of_le (Heap.lt_size q) hp))]; exact n
 there:=fun b u q _=>⟨u,k b u q⟩
 tups:=fun b xs q=>by rw [aW (ar q hn)]; exact q
 frzs:=fun b u xs q=>by rw [aW (ar q hn)]; exact q
 tbls:=fun b ps q=>⟨#[],by rw [aW (ar q hn),q]; simp⟩
theorem Un.write (mu:Mut (H x)) (he:e=x∨H e=some (.own x)) (k:∀ b u,b≠e→h.get? b=some u→h'.get? b=some u) (heo:∃ u,h'.get? e=some u):Un fs ex H (upd H x o) h h':=by
 have hx:∀ b,H b=none→b≠x:=fun b n z=>by subst z; rw [n] at mu; exact mu
 have hb:∀ b,H b=none→b≠e:=fun b n z=>by
  subst z
  rcases he with r | r
  ·exact hx b n r
  ·rw [n] at r; cases r
 have hm:∀ b u,H b=some u→¬ Mut (some u)→b≠x:=fun b u q nm z=>by subst z; rw [q] at mu; exact nm mu
 refine ⟨fun b u q n _ _=>k b u (hb b n) q,fun b u q n _ _=>⟨u.slots,k b u (hb b n) q⟩,fun b u q n _=>by rw [aW (hx b n)]; exact n,fun b u q _=>?_,
  fun b xs q=>by rw [aW (hm b _ q fun z=>z)]; exact q,fun b u xs q=>by rw [aW (hm b _ q fun z=>z)]; exact q,fun b ps q=>⟨#[],by rw [aW (hm b _ q fun z=>z),q]; simp⟩⟩
 by_cases hbe:b=e
 ·subst hbe; exact heo
 ·exact ⟨u,k b u hbe q⟩
end
def trk (h:Heap) (H:Hp):List Addr:=(List.range h.objs.size).filter fun a=>(H a).isSome
def mU (h:Heap) (H:Hp):Heap:=PySem.W.hideAll h (trk h H)
theorem tE (h:Heap) (H:Hp):(mU h H).objs.size=h.objs.size:=PySem.W.hideAll_size _ _
theorem vh {h:Heap} {H:Hp} {b:Addr} {o:Obj} (e:h.get? b=some o) (n:H b=none):(mU h H).get? b=some o :=
 PySem.W.hideAll_get _ e fun hm=>by
  have q:(H b).isSome=true:=(List.mem_filter.mp hm).2
  rw [n] at q; simp at q
theorem wU {h:Heap} {H:Hp} {b:Addr} {o:Obj} (e:(mU h H).get? b=some o):h.get? b=some o∧H b=none:=by
 have e':h.get? b=some o:=PySem.W.of_hideAll (trk h H) e
 refine ⟨e',?_⟩
 cases q:H b with
 | none=>rfl
 | some x =>
  have hm:b∈trk h H:=List.mem_filter.mpr ⟨List.mem_range.mpr (Heap.lt_size e'),by simp [q]⟩
  have z:(mU h H).get? b=none:=PySem.W.hideAll_none (trk h H) hm
  rw [z] at e; cases e
open PySem PySem.Spec PyProof.Rows
structure Mod (K:Frag) (mg:Str→Option Value) (base:Heap):Prop where
 kin:K.In base
 glob:base.Ns mainGlobals mg
 blt:∃ mb,base.Ns builtinsNs mb∧∀ x:Str,x ≠ "__name__"→mb x=bootBuiltins x
 nolimit:base.NoLimit
structure Cx where
 prog:Program
 w:World
 K:Frag
 mg:Str→Option Value
 base:Heap
 A:Around
 N:List Str
 s₀:Shared
 H₀:Hp
 env:Env
 outer:List Env
 stack:List Env
 ex:List Addr
 fn:Str→Bool
 calm:Bool
 pn:List (Addr×Obj)
 xe:Value→Shared→Prop
def frs (l:List Env):List Addr:=l.filterMap (·.frame)
abbrev Cx.fs (X:Cx):List Addr:=frs X.outer
def Vis (sc:Scope) (x:Str):Prop:=sc.names.lookup x=some .local∨sc.names.lookup x=some .cell∨sc.names.lookup x=some .free
def Loc (sc:Scope) (x:Str):Prop:=sc.names.lookup x=some .local∨sc.names.lookup x=some .cell
def AQ (env:Env) (h:Heap) (m:Str→Option Value) (x:Str) (u:Value):Prop :=
 (env.kindOf x=some .local∧m x=some u)∨((env.kindOf x=some .cell∨env.kindOf x=some .free)∧∃ c,env.cells.lookup x=some c∧h.IsCell c (some u))
structure Cx.Ok (X:Cx):Prop where
 mod:Mod X.K X.mg X.base
 kind:X.env.scope.kind=.function
 glob:X.env.globals=mainGlobals
 blt:X.env.builtins=builtinsNs
 above:X.s₀.heap.objs.size≤X.env.locals
 inj:∀ x y c,X.env.cells.lookup x=some c→X.env.cells.lookup y=some c→x=y
 has:∀ x,(X.env.kindOf x=some .cell∨X.env.kindOf x=some .free)→∃ c,X.env.cells.lookup x=some c
 cab:∀ x c,X.fn x=true→X.env.cells.lookup x=some c→X.s₀.heap.objs.size≤c
 hd:X.calm=true→X.A.handled=none
 frames:X.A.frames=some X.stack
 stk:X.stack=X.outer∨(X.stack=X.env::X.outer∧X.env.frame=some X.env.locals)
 exf:∀ b∈X.ex,b≠X.env.locals∧∀ x c,X.env.cells.lookup x=some c→c≠b
 bs:∀ b o,X.base.get? b=some o→X.s₀.heap.get? b=some o∧X.H₀ b=none
 bsz:X.base.objs.size≤X.s₀.heap.objs.size
 noex:∀ b o,X.base.get? b=some o→b∉X.ex
 exfs:∀ b∈X.ex,b∉X.fs
 funs:X.s₀.heap.FunFrames X.base X.outer
 frf:∀ b∈X.fs,X.H₀ b=none
structure Inv (X:Cx) (pins:List (Addr×Obj)) (σ:List (Option V)) (H:Hp) (s:Shared):Prop where
 ok:X.Ok
 os:s.os=X.s₀.os
 bare:AllBare s.gens
 base:Un X.fs X.ex X.H₀ H X.s₀.heap s.heap
 loc:∃ m,s.heap.Ns X.env.locals m∧∀ (i:Nat) (x:Str) (v:V),X.N[i]?=some x→σ[i]?=some (some v)→Vis X.env.scope x→∃ u,aX v u∧AQ X.env s.heap m x u
 cell:∀ x c,X.env.cells.lookup x=some c→∃ v,s.heap.IsCell c v
 free:H X.env.locals=none
 freeC:∀ x c,X.env.cells.lookup x=some c→H c=none
 pin:∀ p∈X.pn++pins,s.heap.get? p.1=some p.2∧H p.1=none∧p.1≠X.env.locals∧p.1∉X.fs∧∀ v,p.2.data≠.cell v
 hok:HOk X.prog X.w H s.heap
 len:σ.length=X.N.length
section
variable {X:Cx} {pins:List (Addr×Obj)} {σ:List (Option V)} {H H':Hp} {s:Shared} {h':Heap}
theorem Cx.Ok.nofr (ok:X.Ok) {b:Addr} {o:Obj} (e:X.base.get? b=some o):b∉X.fs:=fun hb=>by
 have:=(ok.funs.mem hb).1
 rw [e] at this; cases this
theorem Inv.bs (I:Inv X pins σ H s):∀ b o,X.base.get? b=some o→s.heap.get? b=some o∧H b=none:=fun b o e =>
 ⟨I.base.keep b o (I.ok.bs b o e).1 (I.ok.bs b o e).2 (I.ok.nofr e) (I.ok.noex b o e),I.base.free b o (I.ok.bs b o e).1 (I.ok.bs b o e).2 (I.ok.noex b o e)⟩
theorem Inv.bk (I:Inv X pins σ H s):∀ b o,X.base.get? b=some o→s.heap.get? b=some o:=fun b o e=>(I.bs b o e).1
theorem Inv.mod (I:Inv X pins σ H s):Mod X.K X.mg X.base:=I.ok.mod
theorem Inv.kIn (I:Inv X pins σ H s):X.K.In s.heap:=I.ok.mod.kin.keeps I.bk
theorem Inv.fr (I:Inv X pins σ H s):∃ m,Fr X.base X.env.locals s.heap m :=
 let ⟨m,hn,_⟩:=I.loc
 ⟨m,hn,I.bk,Nat.le_trans I.ok.bsz I.ok.above⟩
theorem Inv.lt (I:Inv X pins σ H s):X.env.locals<s.heap.objs.size:=let ⟨_,hn,_⟩:=I.loc; hn.lt
theorem Inv.sz (I:Inv X pins σ H s):X.s₀.heap.objs.size≤s.heap.objs.size:=Nat.le_trans I.ok.above (Nat.le_of_lt I.lt)
theorem Inv.nofs (I:Inv X pins σ H s) {a:Addr} (h:s.heap.objs.size≤a):a∉X.fs:=fun hb=>by
 obtain ⟨_,o,ho,_⟩:=I.ok.funs.mem hb
 exact absurd (Nat.lt_of_lt_of_le (Heap.lt_size ho) (Nat.le_trans I.sz h)) (Nat.lt_irrefl _)
theorem Inv.cne (I:Inv X pins σ H s):∀ x c,X.env.cells.lookup x=some c→c≠X.env.locals:=fun x c e z=>by
 obtain ⟨v,o,ho,hd⟩:=I.cell x c e
 obtain ⟨m,⟨o',es,ep,ho',hd',_⟩,_⟩:=I.loc
 rw [z,ho'] at ho; cases ho; rw [hd'] at hd; cases hd
theorem Inv.funs (I:Inv X pins σ H s):s.heap.FunFrames X.base X.outer:=by
 have all:∀ (l:List Env),(∀ b∈frs l,b∈X.fs)→X.s₀.heap.FunFrames X.base l→s.heap.FunFrames X.base l:=by
  intro l
  induction l with
  | nil=>intro _ _; trivial
  | cons env r ih =>
   intro hs hl
   obtain ⟨hk,⟨L,o,hf,hn,ho,hd⟩,hr⟩:=hl
   have hL:L∈X.fs:=hs L (by unfold frs; rw [List.filterMap_cons,hf]; exact List.mem_cons_self)
   obtain ⟨sl,e⟩:=I.base.slot L o ho (I.ok.frf L hL) hL fun z=>I.ok.exfs L z hL
   exact ⟨hk,⟨L,_,hf,hn,e,hd⟩,ih (fun b hb=>hs b (by unfold frs; rw [List.filterMap_cons,hf]; exact List.mem_cons_of_mem _ hb)) hr⟩
 exact all X.outer (fun _ hb=>hb) I.ok.funs
theorem Inv.stack (I:Inv X pins σ H s):s.heap.FunFrames X.base X.stack:=by
 rcases I.ok.stk with e | ⟨e,hf⟩
 ·rw [e]; exact I.funs
 ·rw [e]
  obtain ⟨m,hn,_⟩:=I.loc
  refine .cons (by rw [I.ok.kind]; decide) hf hn ?_ I.funs
  exact Heap.get?_none_of_le (Nat.le_trans I.ok.bsz I.ok.above)
theorem Inv.stkSub (I:Inv X pins σ H s):∀ b∈frs X.stack,b∈X.env.locals::X.fs:=fun b hb=>by
 rcases I.ok.stk with e | ⟨e,hf⟩
 ·rw [e] at hb; exact List.mem_cons_of_mem _ hb
 ·rw [e] at hb
  unfold frs at hb
  rw [List.filterMap_cons,hf] at hb
  exact hb
theorem Inv.stkFree (I:Inv X pins σ H s):∀ b∈frs X.stack,H b=none:=fun b hb=>by
 rcases List.mem_cons.mp (I.stkSub b hb) with e | hb
 ·rw [e]; exact I.free
 ·obtain ⟨_,o,ho,_⟩:=I.ok.funs.mem hb
  exact I.base.free b o ho (I.ok.frf b hb) fun z=>I.ok.exfs b z hb
theorem Inv.step {g':Array GenState} {t':Nat} {d':Drawn} {ch:List Addr} (I:Inv X pins σ H s)
  (hch:∀ b∈ch,(b∈X.ex∨X.s₀.heap.objs.size≤b)∧b≠X.env.locals∧(∀ x c,X.env.cells.lookup x=some c→c≠b)∧∀ p∈X.pn++pins,p.1≠b)
  (keep:∀ b o,b≠X.env.locals→b∉X.fs→b∉ch→s.heap.get? b=some o→H b=none→h'.get? b=some o)
  (slot:∀ b o,b≠X.env.locals→b∈X.fs→b∉ch→s.heap.get? b=some o→H b=none→∃ sl,h'.get? b=some { o with slots:=sl }) (free:∀ b o,b∉ch→s.heap.get? b=some o→H b=none→H' b=none)
  (there:∀ b o,b∉ch→s.heap.get? b=some o→∃ o',h'.get? b=some o')
  (tups:∀ b xs,H b=some (.tup xs)→H' b=some (.tup xs)) (frzs:∀ b o u,H b=some (.frz o u)→H' b=some (.frz o u)) (tbls:∀ b ps,H b=some (.tbl ps)→∃ more,H' b=some (.tbl (ps++more)))
  (ns:∀ m,s.heap.Ns X.env.locals m→h'.Ns X.env.locals m) (hok:HOk X.prog X.w H' h') (hg:AllBare g') :
  Inv X pins σ H' { s with heap:=h',gens:=g',drawn:=d',toks:=t' }:=by
 have neL:∀ b o,X.s₀.heap.get? b=some o→b≠X.env.locals:=fun b o e=>Nat.ne_of_lt (Nat.lt_of_lt_of_le (Heap.lt_size e) I.ok.above)
 have neC:∀ b o,X.s₀.heap.get? b=some o→b∉X.ex→b∉ch:=fun b o e hx hb=>by
  rcases (hch b hb).1 with z | z
  ·exact hx z
  ·exact absurd (Nat.lt_of_lt_of_le (Heap.lt_size e) z) (Nat.lt_irrefl _)
 have cellK:∀ x c,X.env.cells.lookup x=some c→∀ v,s.heap.IsCell c v→h'.IsCell c v:=fun x c e v ⟨o,ho,hd⟩=>by
  have nch:c∉ch:=fun z=>(hch c z).2.2.1 x c e rfl
  by_cases hc:c∈X.fs
  ·obtain ⟨sl,q⟩:=slot c o (I.cne x c e) hc nch ho (I.freeC x c e)
   exact ⟨_,q,hd⟩
  ·exact ⟨o,keep c o (I.cne x c e) hc nch ho (I.freeC x c e),hd⟩
 refine ⟨I.ok,I.os,hg,⟨fun b o e n hb hx=>?_,fun b o e n hb hx=>?_,fun b o e n hx=>?_,fun b o e hx=>?_,fun b xs e=>tups b xs (I.base.tups b xs e),fun b o xs e=>frzs b o xs (I.base.frzs b o xs e),fun b ps e=>?_⟩,?_,fun x c e=>?_,?_,fun x c e=>?_,fun p hp=>?_,hok,I.len⟩
 ·exact keep b o (neL b o e) hb (neC b o e hx) (I.base.keep b o e n hb hx) (I.base.free b o e n hx)
 ·obtain ⟨sl,e1⟩:=I.base.slot b o e n hb hx
  obtain ⟨sl',e2⟩:=slot b _ (neL b o e) hb (neC b o e hx) e1 (I.base.free b o e n hx)
  exact ⟨sl',e2⟩
 ·obtain ⟨o',e1⟩:=I.base.there b o e hx
  exact free b o' (neC b o e hx) e1 (I.base.free b o e n hx)
 ·obtain ⟨o',e1⟩:=I.base.there b o e hx
  exact there b o' (neC b o e hx) e1
 ·obtain ⟨m1,e1⟩:=I.base.tbls b ps e
  obtain ⟨m2,e2⟩:=tbls b _ e1
  exact ⟨m1++m2,by rw [e2,Array.append_assoc]⟩
 ·obtain ⟨m,hn,hl⟩:=I.loc
  refine ⟨m,ns m hn,fun i x v e1 e2 e3=>?_⟩
  obtain ⟨u,r,l⟩:=hl i x v e1 e2 e3
  refine ⟨u,r,?_⟩
  rcases l with l | ⟨k,c,e,z⟩
  ·exact .inl l
  ·exact .inr ⟨k,c,e,cellK x c e _ z⟩
 ·obtain ⟨v,z⟩:=I.cell x c e
  exact ⟨v,cellK x c e v z⟩
 ·obtain ⟨m,⟨o,_,_,ho,_⟩,_⟩:=I.loc
  exact free _ o (fun z=>(hch _ z).2.1 rfl) ho I.free
 ·obtain ⟨v,o,ho,hd⟩:=I.cell x c e
  exact free c o (fun z=>(hch c z).2.2.1 x c e rfl) ho (I.freeC x c e)
 ·obtain ⟨e,n,ne,nf,d⟩:=I.pin p hp
  have nch:p.1∉ch:=fun z=>(hch p.1 z).2.2.2 p hp rfl
  exact ⟨keep p.1 p.2 ne nf nch e n,free p.1 p.2 nch e n,ne,nf,d⟩
theorem Inv.un {t':Nat} (I:Inv X pins σ H s) (u:Un X.fs [] H H' s.heap h') (hok:HOk X.prog X.w H' h'):Inv X pins σ H' { s with heap:=h',toks:=t' }:=by
 obtain ⟨m,⟨o,es,ep,ho,r⟩,_⟩:=id I.loc
 obtain ⟨sl,hL⟩:=u.any ho I.free (by simp)
 exact I.step (g':=s.gens) (d':=s.drawn) (ch:=[]) (fun _ z=>nomatch z) (fun b o _ hb _ e n=>u.keep b o e n hb (by simp)) (fun b o _ hb _ e n=>u.slot b o e n hb (by simp)) (fun b o _ e n=>u.free b o e n (by simp)) (fun b o _ e=>u.there b o e (by simp)) u.tups u.frzs u.tbls (fun m' hm=>by
  obtain ⟨o',es',ep',ho',r'⟩:=hm
  rw [ho] at ho'; cases ho'
  exact ⟨_,es',ep',hL,r'⟩) hok I.bare
theorem Inv.call {g':Array GenState} {t':Nat} {d':Drawn} {ch:List Addr} (I:Inv X pins σ H s) (u:Un (frs X.stack) ch H H' s.heap h') (hok:HOk X.prog X.w H' h') (hg:AllBare g')
  (hch:∀ b∈ch,(b∈X.ex∨X.s₀.heap.objs.size≤b)∧b≠X.env.locals∧(∀ x c,X.env.cells.lookup x=some c→c≠b)∧∀ p∈X.pn++pins,p.1≠b) :
  Inv X pins σ H' { s with heap:=h',gens:=g',drawn:=d',toks:=t' }:=by
 obtain ⟨m,⟨o,es,ep,ho,r⟩,_⟩:=id I.loc
 obtain ⟨sl,hL⟩:=u.any ho I.free fun z=>(hch _ z).2.1 rfl
 exact I.step (ch:=ch) hch (fun b o hL hb hc e n=>u.keep b o e n (fun z=>(List.mem_cons.mp (I.stkSub b z)).elim hL hb) hc) (fun b o _ _ hc e n=>u.any e n hc) (fun b o hc e n=>u.free b o e n hc) (fun b o hc e=>u.there b o e hc) u.tups u.frzs u.tbls (fun m' hm=>by
  obtain ⟨o',es',ep',ho',r'⟩:=hm
  rw [ho] at ho'; cases ho'
  exact ⟨_,es',ep',hL,r'⟩) hok hg
theorem Inv.turned {t':Nat} {it:Addr} (I:Inv X pins σ H s) (k:∀ b o,b≠it→s.heap.get? b=some o→h'.get? b=some o) (hn:H it=none) (hL:it≠X.env.locals)
  (h1:it∈X.ex∨X.s₀.heap.objs.size≤it) (h2:∀ x c,X.env.cells.lookup x=some c→c≠it) (h3:∀ p∈X.pn++pins,p.1≠it):Inv X pins σ H { s with heap:=h',toks:=t' }:=by
 have nit:∀ b u,H b=some u→b≠it:=fun b u e z=>by rw [z,hn] at e; cases e
 refine I.step (g':=s.gens) (d':=s.drawn) (ch:=[it]) (fun b hb=>?_) (fun b o _ _ hc e _=>k b o (fun z=>hc (by simp [z])) e) (fun b o _ _ hc e _=>⟨o.slots,k b o (fun z=>hc (by simp [z])) e⟩) (fun _ _ _ _ n=>n)
  (fun b o hc e=>⟨o,k b o (fun z=>hc (by simp [z])) e⟩) (fun _ _ e=>e) (fun _ _ _ e=>e) (fun b ps e=>⟨#[],by rw [e]; simp⟩) (fun m hm=>?_) (fun b u e=>?_) I.bare
 ·have e:b=it:=by simpa using hb
  subst e
  exact ⟨h1,hL,h2,h3⟩
 ·obtain ⟨o,es,ep,ho,r⟩:=hm
  exact ⟨o,es,ep,k _ o (Ne.symm hL) ho,r⟩
 ·refine (I.hok b u e).stay (fun c v hc q=>k c v ?_ q) (fun _ q=>q) fun _ _ q=>q
  rcases hc with z | z
  ·rw [z]; exact nit b u e
  ·exact nit c _ z
theorem Inv.tok (I:Inv X pins σ H s) (t:Nat):Inv X pins σ H { s with toks:=t }:=I.un (h':=s.heap) (t':=t) Un.refl I.hok
theorem Inv.kept {t':Nat} (I:Inv X pins σ H s) (k:∀ b u,s.heap.get? b=some u→h'.get? b=some u):Inv X pins σ H { s with heap:=h',toks:=t' }:=I.un (Un.kept k) (I.hok.kept k)
theorem Inv.laid {a:Addr} {o:HO} {t':Nat} (I:Inv X pins σ H s) (k:∀ b u,s.heap.get? b=some u→h'.get? b=some u) (hp:s.heap.objs.size≤a) (new:bm X.prog X.w (upd H a o) h' a o) :
  Inv X pins σ (upd H a o) { s with heap:=h',toks:=t' }:=I.un (Un.laid k hp (I.hok.fresh hp)) (I.hok.laid k hp new)
theorem Inv.write {x e:Addr} {o:HO} {t':Nat} (I:Inv X pins σ H s) (mu:Mut (H x)) (he:e=x∨H e=some (.own x)) (k:∀ b u,b≠e→s.heap.get? b=some u→h'.get? b=some u) (heo:∃ u,h'.get? e=some u)
  (new:bm X.prog X.w (upd H x o) h' x o):Inv X pins σ (upd H x o) { s with heap:=h',toks:=t' }:=I.un (Un.write mu he k heo) (I.hok.write mu he k heo new)
theorem Inv.weak {σ':List (Option V)} (I:Inv X pins σ H s) (hl:σ'.length=σ.length) (w:∀ (i:Nat) v,σ'[i]?=some (some v)→σ[i]?=some (some v)):Inv X pins σ' H s :=
 ⟨I.ok,I.os,I.bare,I.base,let ⟨m,hn,hl'⟩:=I.loc; ⟨m,hn,fun i x v e1 e2 e3=>hl' i x v e1 (w i v e2) e3⟩,I.cell,I.free,I.freeC,I.pin,I.hok,hl.trans I.len⟩
theorem Inv.pins_of {pins':List (Addr×Obj)} (I:Inv X pins σ H s) (h:∀ p∈pins',s.heap.get? p.1=some p.2∧H p.1=none∧p.1≠X.env.locals∧p.1∉X.fs∧∀ v,p.2.data≠.cell v):Inv X pins' σ H s :=
 ⟨I.ok,I.os,I.bare,I.base,I.loc,I.cell,I.free,I.freeC,fun p hp=>(List.mem_append.mp hp).elim (fun z=>I.pin p (List.mem_append_left _ z)) (h p),I.hok,I.len⟩
theorem ow {N:List Str} (hN:N.Nodup) {i j:Nat} {x:Str} (a:N[i]?=some x) (b:N[j]?=some x):i=j:=by
 obtain ⟨h1,e1⟩:=List.getElem?_eq_some_iff.mp a
 obtain ⟨h2,e2⟩:=List.getElem?_eq_some_iff.mp b
 exact (List.getElem_inj hN).mp (e1.trans e2.symm)
theorem sR {M:Model} {A:Around} {E:Value→Shared→Prop} {i:Nat} {x:Str} {v:V} {u:Value} {Q:Unit→Shared→Prop} (I:Inv X pins σ H s) (hN:X.N.Nodup) (hi:X.N[i]?=some x) (hx:Loc X.env.scope x) (r:aX v u)
  (h:∀ s',Inv X pins (σ.set i (some v)) H s'→(∃ a,Heap.SameBut a s.heap s'.heap∧(a=X.env.locals∨X.env.cells.lookup x=some a))→Q () s') (hf:X.fn x=true∨X.env.scope.names.lookup x=some .local:=by first | exact .inl rfl | exact .inr rfl | assumption):wpAny M A (storeName X.env x u) Q E s:=by
 obtain ⟨m,hn,hl⟩:=id I.loc
 have hcls:(X.env.scope.kind==.class||(X.env.scope.kind==.module&&X.env.locals != X.env.globals))=false:=by rw [I.ok.kind]; rfl
 have hiσ:i<σ.length:=by rw [I.len]; exact (List.getElem?_eq_some_iff.mp hi).1
 have cne:=I.cne
 have tracked:∀ {a:Addr} {h':Heap},(∃ o,s.heap.get? a=some o∧H a=none)→Heap.SameBut a s.heap h'→HOk X.prog X.w H h':=fun {a h'} ha hs b ob e=>by
  obtain ⟨_,_,hfree⟩:=ha
  refine (I.hok b ob e).stay (fun c w' hc q=>(hs.2 c ?_).trans q) (fun _ q=>q) fun _ _ q=>q
  rintro rfl
  rcases hc with rfl | hc
  ·rw [hfree] at e; cases e
  ·rw [hfree] at hc; cases hc
 rcases hx with hk | hk
 ·refine wpAny_storeName_local hk hn (fun h' hn' hs=>?_) hcls
  obtain ⟨oL,_,_,hoL,_⟩:=id hn
  refine h _ ⟨I.ok,I.os,I.bare,⟨fun b o e n hb hx=>?_,fun b o e n hb hx=>?_,I.base.free,fun b o e hx=>?_,I.base.tups,I.base.frzs,I.base.tbls⟩,⟨_,hn',fun j y v' e1 e2 e3=>?_⟩,fun y c e=>?_,I.free,I.freeC,fun p hp=>?_,tracked ⟨oL,hoL,I.free⟩ hs,by simpa using I.len⟩ ⟨_,hs,.inl rfl⟩
  ·exact (hs.2 b (Nat.ne_of_lt (Nat.lt_of_lt_of_le (Heap.lt_size e) I.ok.above))).trans (I.base.keep b o e n hb hx)
  ·obtain ⟨sl,e1⟩:=I.base.slot b o e n hb hx
   exact ⟨sl,(hs.2 b (Nat.ne_of_lt (Nat.lt_of_lt_of_le (Heap.lt_size e) I.ok.above))).trans e1⟩
  ·obtain ⟨o',e1⟩:=I.base.there b o e hx
   exact ⟨o',(hs.2 b (Nat.ne_of_lt (Nat.lt_of_lt_of_le (Heap.lt_size e) I.ok.above))).trans e1⟩
  ·by_cases hj:j=i
   ·subst hj
    rw [hi] at e1; cases e1
    rw [List.getElem?_set_self hiσ] at e2
    cases e2
    exact ⟨u,r,.inl ⟨hk,by simp⟩⟩
   ·rw [List.getElem?_set_ne (Ne.symm hj)] at e2
    obtain ⟨u',r',q⟩:=hl j y v' e1 e2 e3
    refine ⟨u',r',?_⟩
    rcases q with ⟨k,e⟩ | ⟨k,c,e,z⟩
    ·refine .inl ⟨k,?_⟩
     have:y≠x:=fun e=>hj (ow hN e1 (e ▸ hi))
     simp [this,e]
    ·exact .inr ⟨k,c,e,z.sameBut hs (cne y c e)⟩
  ·obtain ⟨w',z⟩:=I.cell y c e
   exact ⟨w',z.sameBut hs (cne y c e)⟩
  ·obtain ⟨e,n,ne,nf,d⟩:=I.pin p hp
   exact ⟨(hs.2 p.1 ne).trans e,n,ne,nf,d⟩
 ·have hfn:X.fn x=true:=by
   rcases hf with z | z
   ·exact z
   ·rw [z] at hk; cases hk
  obtain ⟨c,hc⟩:=I.ok.has x (.inl hk)
  obtain ⟨w',z⟩:=I.cell x c hc
  refine wpAny_storeName_cell I.ok.kind hk hc z (fun h' hc' hs=>?_)
  obtain ⟨oc,hoc,hocd⟩:=id z
  refine h { s with heap:=h' } ⟨I.ok,I.os,I.bare,⟨fun b o e n hb hx=>?_,fun b o e n hb hx=>?_,I.base.free,fun b o e hx=>?_,I.base.tups,I.base.frzs,I.base.tbls⟩,⟨m,hn.sameBut hs (Ne.symm (cne x c hc)),fun j y v' e1 e2 e3=>?_⟩,fun y c' e=>?_,I.free,I.freeC,fun p hp=>?_,tracked ⟨oc,hoc,I.freeC x c hc⟩ hs,by simpa using I.len⟩ ⟨c,hs,.inr hc⟩
  ·exact (hs.2 b (Nat.ne_of_lt (Nat.lt_of_lt_of_le (Heap.lt_size e) (I.ok.cab x c hfn hc)))).trans (I.base.keep b o e n hb hx)
  ·obtain ⟨sl,e1⟩:=I.base.slot b o e n hb hx
   exact ⟨sl,(hs.2 b (Nat.ne_of_lt (Nat.lt_of_lt_of_le (Heap.lt_size e) (I.ok.cab x c hfn hc)))).trans e1⟩
  ·obtain ⟨o',e1⟩:=I.base.there b o e hx
   exact ⟨o',(hs.2 b (Nat.ne_of_lt (Nat.lt_of_lt_of_le (Heap.lt_size e) (I.ok.cab x c hfn hc)))).trans e1⟩
  ·by_cases hj:j=i
   ·subst hj
    rw [hi] at e1; cases e1
    rw [List.getElem?_set_self hiσ] at e2
    cases e2
    exact ⟨u,r,.inr ⟨.inl hk,c,hc,hc'⟩⟩
   ·rw [List.getElem?_set_ne (Ne.symm hj)] at e2
    obtain ⟨u',r',q⟩:=hl j y v' e1 e2 e3
    refine ⟨u',r',?_⟩
    rcases q with q | ⟨k,c',e,z'⟩
    ·exact .inl q
    ·refine .inr ⟨k,c',e,z'.sameBut hs ?_⟩
     rintro rfl
     exact hj (ow hN e1 (I.ok.inj _ _ _ e hc ▸ hi))
  ·by_cases hcc:c'=c
   ·subst hcc; exact ⟨_,hc'⟩
   ·obtain ⟨w2,z2⟩:=I.cell y c' e
    exact ⟨w2,z2.sameBut hs hcc⟩
  ·obtain ⟨e,n,ne,nf,d⟩:=I.pin p hp
   refine ⟨(hs.2 p.1 ?_).trans e,n,ne,nf,d⟩
   intro q
   rw [q,hoc] at e
   have q':oc=p.2:=Option.some.inj e
   exact d w' (by rw [← q']; exact hocd)
theorem jE {M:Model} {A:Around} {E:Value→Shared→Prop} {i:Nat} {x:Str} {v:V} {u:Value} {Q:Unit→Shared→Prop} (I:Inv X pins σ H s) (hN:X.N.Nodup) (hi:X.N[i]?=some x) (hx:Loc X.env.scope x) (r:aX v u)
  (h:∀ s',Inv X pins (σ.set i (some v)) H s'→Q () s') (hf:X.fn x=true∨X.env.scope.names.lookup x=some .local:=by first | exact .inl rfl | exact .inr rfl | assumption):wpAny M A (storeName X.env x u) Q E s :=
 sR I hN hi hx r (fun s' I' _=>h s' I') hf
theorem Inv.call' {s':Shared} {ch:List Addr} (I:Inv X pins σ H s) (ho:s'.os=s.os) (u:Un (frs X.stack) ch H H' s.heap s'.heap) (hok:HOk X.prog X.w H' s'.heap) (hg:AllBare s'.gens)
  (hch:∀ b∈ch,(b∈X.ex∨X.s₀.heap.objs.size≤b)∧b≠X.env.locals∧(∀ x c,X.env.cells.lookup x=some c→c≠b)∧∀ p∈X.pn++pins,p.1≠b):Inv X pins σ H' s':=by
 obtain ⟨h',g',d',t',o'⟩:=s'
 have e:o'=s.os:=ho
 subst e
 exact I.call (g':=g') (t':=t') (d':=d') u hok hg hch
end
abbrev XK:=Value→Option Addr→Hp→Prop
abbrev St:=List (Option V)
abbrev VK:=V→Hp→Prop
abbrev TE:=St→Hp→VK→Prop
abbrev TT:=St→Hp→(Bool→Hp→Prop)→Prop
abbrev TA:=St→Hp→(List V→Hp→Prop)→Prop
structure kH where
 nx:St→Hp→Prop
 rt:VK
 bk:St→Hp→Prop:=fun _ _=>False
 ct:St→Hp→Prop:=fun _ _=>False
abbrev TS:=kH→St→Hp→Prop
def EP (X:Cx) (pins:List (Addr×Obj)) (σ:St) (Q:VK) (u:Value) (s':Shared):Prop:=∃ v H',Inv X pins σ H' s'∧aX v u∧Q v H'
def TP (X:Cx) (pins:List (Addr×Obj)) (σ:St) (Q:Bool→Hp→Prop) (b:Bool) (s':Shared):Prop:=∃ H',Inv X pins σ H' s'∧Q b H'
def AP (X:Cx) (pins:List (Addr×Obj)) (σ:St) (Q:List V→Hp→Prop) (us:List Value) (s':Shared):Prop:=∃ vs H',Inv X pins σ H' s'∧aR vs us∧Q vs H'
def SP (X:Cx) (pins:List (Addr×Obj)) (D:kH) (f:Flow) (s':Shared):Prop :=
 match f with
 | .next=>∃ σ' H',Inv X pins σ' H' s'∧D.nx σ' H'
 | .brk=>∃ σ' H',Inv X pins σ' H' s'∧D.bk σ' H'
 | .cont=>∃ σ' H',Inv X pins σ' H' s'∧D.ct σ' H'
 | .ret u=>∃ v σ' H',Inv X pins σ' H' s'∧aX v u∧D.rt v H'
def PE (X:Cx) (e:Expr) (t:TE):Prop :=
 ∀ (pins:List (Addr×Obj)) (s:Shared) (σ:St) (H:Hp) (Q:VK),Inv X pins σ H s→t σ H Q→wpAny (model X.prog X.w) X.A (eval e X.env) (EP X pins σ Q) X.xe s
def PT (X:Cx) (e:Expr) (t:TT):Prop :=
 ∀ (pins:List (Addr×Obj)) (s:Shared) (σ:St) (H:Hp) (Q:Bool→Hp→Prop),Inv X pins σ H s→t σ H Q→wpAny (model X.prog X.w) X.A (isTrue e X.env (eval e X.env)) (TP X pins σ Q) X.xe s
def PW (X:Cx) (e:Expr) (t:TT):Prop :=
 ∀ (whole:Sem Value) (pins:List (Addr×Obj)) (s:Shared) (σ:St) (H:Hp) (Q:Bool→Hp→Prop),Inv X pins σ H s→t σ H Q→wpAny (model X.prog X.w) X.A (isTrue e X.env whole) (TP X pins σ Q) X.xe s
theorem PW.pt {X:Cx} {e:Expr} {t:TT} (h:PW X e t):PT X e t:=h _
def PA (X:Cx) (es:List Expr) (t:TA):Prop :=
 ∀ (pos:Pos) (pins:List (Addr×Obj)) (s:Shared) (σ:St) (H:Hp) (Q:List V→Hp→Prop),Inv X pins σ H s→t σ H Q→wpAny (model X.prog X.w) X.A (spliced (backTo pos (starEach es X.env))) (AP X pins σ Q) X.xe s
def PS (X:Cx) (st:Stmt) (t:TS):Prop :=
 ∀ (pins:List (Addr×Obj)) (s:Shared) (σ:St) (H:Hp) (D:kH),Inv X pins σ H s→t D σ H→wpAny (model X.prog X.w) X.A (exec st X.env) (SP X pins D) X.xe s
def PSs (X:Cx) (st:List Stmt) (t:TS):Prop :=
 ∀ (pins:List (Addr×Obj)) (s:Shared) (σ:St) (H:Hp) (D:kH),Inv X pins σ H s→t D σ H→wpAny (model X.prog X.w) X.A (execs st X.env) (SP X pins D) X.xe s
theorem thn {α:Type} {t:Sem α} {Q Q':α→Shared→Prop} {M:Model} {A:Around} {E:Value→Shared→Prop} {s:Shared} (h:wpAny M A t Q E s) (hQ:∀ a s,Q a s→Q' a s):wpAny M A t Q' E s:=wpAny_mono h hQ fun _ _ x=>x
open PySem PySem.Spec PyProof.Rows
section
variable {X:Cx}
def AE (i:Nat):TE:=fun σ H Q=>∃ v,σ[i]?=some (some v)∧Q v H
def tC (v:V):TE:=fun _ H Q=>Q v H
theorem zE {i:Nat} {x:Str} {pos:Pos} (hN:X.N[i]?=some x) (hv:Vis X.env.scope x) (hd:(x==("__debug__":Str))=false:=by decide) (hcd:(x==("__classdict__":Str))=false:=by decide):PE X (.Name x pos) (AE i):=by
 intro pins s σ H Q I h
 obtain ⟨v,e,h⟩:=h
 obtain ⟨m,hn,hl⟩:=I.loc
 obtain ⟨u,r,l⟩:=hl i x v hN e hv
 have fin:EP X pins σ Q u s:=⟨v,H,I,r,h⟩
 rcases l with ⟨hk,hm⟩ | ⟨hk,c,hc,hcell⟩
 ·exact wpAny_Name (wpAny_loadName_local I.ok.kind hk hn hm fin) hd
 ·rcases hk with hk | hk
  ·exact wpAny_Name (wpAny_loadName_cell I.ok.kind hk hc hcell fin) hd
  ·exact wpAny_Name (wpAny_loadName_free I.ok.kind hk hc hcell fin hcd) hd
theorem ag {i j pos}:PE X (.Constant (.int i) j pos) (tC (.int i)):=fun _ _ _ H _ I h=>wpAny_Constant_int ⟨.int i,H,I.tok _,⟨_,rfl⟩,h⟩
theorem cH {b j pos}:PE X (.Constant (.bool b) j pos) (tC (.bl b)):=fun _ _ _ H _ I h=>Constant_bool ⟨.bl b,H,I,rfl,h⟩
theorem zK {j pos}:PE X (.Constant .none j pos) (tC .non):=fun _ _ _ H _ I h=>Constant_none ⟨.non,H,I,rfl,h⟩
theorem aF {x j pos}:PE X (.Constant (.str x) j pos) (tC (.str x)):=fun _ _ _ H _ I h=>Calls.Constant_str ⟨.str x,H,I.tok _,⟨_,rfl⟩,h⟩
def Gl (X:Cx) (x:Str):Prop:=X.env.kindOf x=some .globalImplicit
theorem qR {E:Value→Shared→Prop} {pins:List (Addr×Obj)} {s:Shared} {σ:St} {H:Hp} {x:Str} {u:Value} {pos:Pos} {Q:Value→Shared→Prop} (I:Inv X pins σ H s) (hg:Gl X x) (hm:X.mg x=some u) (h:Q u s)
  (hd:(x==("__debug__":Str))=false:=by decide):wpAny (model X.prog X.w) X.A (eval (.Name x pos) X.env) Q E s :=
 Calls.Name_function_global I.ok.kind hg (Calls.loadGlobal_global (by rw [I.ok.glob]; exact I.mod.glob.keeps I.bk) hm h) hd
theorem eY {E:Value→Shared→Prop} {pins:List (Addr×Obj)} {s:Shared} {σ:St} {H:Hp} {x:Str} {u:Value} {pos:Pos} {Q:Value→Shared→Prop} (I:Inv X pins σ H s) (hg:Gl X x) (hm:X.mg x=none) (hv:bootBuiltins x=some u) (h:Q u s)
  (hn:x ≠ "__name__":=by decide) (hd:(x==("__debug__":Str))=false:=by decide):wpAny (model X.prog X.w) X.A (eval (.Name x pos) X.env) Q E s:=by
 obtain ⟨mb,h1,h2⟩:=I.mod.blt
 exact Calls.Name_function_global I.ok.kind hg (Calls.loadGlobal_builtin (by rw [I.ok.glob]; exact I.mod.glob.keeps I.bk) hm (by rw [I.ok.blt]; exact h1.keeps I.bk) ((h2 x hn).trans hv) h) hd
theorem xm {x:Str} {v:V} {u:Value} {pos:Pos} (hg:Gl X x) (hm:X.mg x=some u) (r:aX v u) (hd:(x==("__debug__":Str))=false:=by decide):PE X (.Name x pos) (tC v) :=
 fun _ _ _ H _ I h=>qR I hg hm ⟨v,H,I,r,h⟩ hd
theorem bR {x:Str} {v:V} {u:Value} {pos:Pos} (hg:Gl X x) (hm:X.mg x=none) (hv:bootBuiltins x=some u) (r:aX v u) (hn:x ≠ "__name__":=by decide) (hd:(x==("__debug__":Str))=false:=by decide):PE X (.Name x pos) (tC v) :=
 fun _ _ _ H _ I h=>eY I hg hm hv ⟨v,H,I,r,h⟩ hn hd
variable {a b:Expr} {ta tb:TE} {pos:Pos}
def tB (t:TE):TT:=fun σ H Q=>t σ H fun x H1=>∃ c,x=.bl c∧Q c H1
theorem bV {e:Expr} {t:TE} (h:PE X e t) (he:∀ whole,isTrue e X.env whole=(do let v ← whole; standAt e.pos; holding [v] (truthy v)):=by intro _; rfl):PT X e (tB t):=by
 intro pins s σ H Q I hw
 refine isTrue_plain (thn (h pins s σ H _ I hw) fun v s1 ⟨x,H1,I1,r1,q1⟩=>?_) (he _)
 obtain ⟨d,rfl,q⟩:=q1
 cases r1
 exact wpAny_truthy_bool ⟨H1,I1,q⟩
variable {tA tB':TT} {rest:List Expr}
def AY (t u:TT):TT:=fun σ H Q=>t σ H fun c H1=>if c=true then u σ H1 Q else Q false H1
def tOr (t u:TT):TT:=fun σ H Q=>t σ H fun c H1=>if c=true then Q true H1 else u σ H1 Q
def Bh (t:TT):TT:=fun σ H Q=>t σ H fun c H1=>Q (!c) H1
theorem ml (ha:PT X a tA):PW X (.BoolOp .And [a] pos) tA:=by
 intro wh pins s σ H Q I h
 refine isTrue_and (thn (ha pins s σ H Q I h) fun c s1 e=>?_)
 cases c with
 | true=>exact isTrue_and_nil e
 | false=>exact e
theorem eX (ha:PT X a tA):PW X (.BoolOp .Or [a] pos) tA:=by
 intro wh pins s σ H Q I h
 refine isTrue_or (thn (ha pins s σ H Q I h) fun c s1 e=>?_)
 cases c with
 | false=>exact isTrue_or_nil e
 | true=>exact e
theorem pV (ha:PT X a tA) (hb:PW X (.BoolOp .And (b::rest) pos) tB'):PW X (.BoolOp .And (a::b::rest) pos) (AY tA tB'):=by
 intro wh pins s σ H Q I h
 refine isTrue_and (thn (ha pins s σ H _ I h) fun c s1 ⟨H1,I1,q1⟩=>?_)
 cases c with
 | true=>exact hb wh pins s1 σ H1 Q I1 q1
 | false=>exact ⟨H1,I1,q1⟩
theorem dE (ha:PT X a tA) (hb:PW X (.BoolOp .Or (b::rest) pos) tB'):PW X (.BoolOp .Or (a::b::rest) pos) (tOr tA tB'):=by
 intro wh pins s σ H Q I h
 refine isTrue_or (thn (ha pins s σ H _ I h) fun c s1 ⟨H1,I1,q1⟩=>?_)
 cases c with
 | true=>exact ⟨H1,I1,q1⟩
 | false=>exact hb wh pins s1 σ H1 Q I1 q1
theorem cU (ha:PT X a tA):PT X (.UnaryOp .Not a pos) (Bh tA):=by
 intro pins s σ H Q I h
 exact isTrue_not (ha pins s σ H (fun c H1=>Q (!c) H1) I h)
def zO (ta tb:TE):TE:=fun σ H Q=>ta σ H fun x H1=>∃ c,x=.bl c∧if c=true then tb σ H1 Q else Q (.bl false) H1
def zM (ta:TE):TE:=fun σ H Q=>ta σ H fun x H1=>∃ c,x=.bl c∧Q (.bl (!c)) H1
theorem iq {op} {t:TE} (h:PE X a t):PE X (.BoolOp op [a] pos) t:=fun pins s σ H Q I hw=>BoolOp_one (h pins s σ H Q I hw)
theorem gE (ha:PE X a ta) (hb:PE X (.BoolOp .And (b::rest) pos) tb):PE X (.BoolOp .And (a::b::rest) pos) (zO ta tb):=by
 intro pins s σ H Q I h
 refine BoolOp_and (thn (ha pins s σ H _ I h) fun v s1 ⟨x,H1,I1,r1,q1⟩=>?_)
 obtain ⟨c,rfl,q1⟩:=q1
 cases r1
 refine wpAny_truthy_bool ?_
 cases c with
 | true=>exact hb pins s1 σ H1 Q I1 q1
 | false=>exact ⟨.bl false,H1,I1,rfl,q1⟩
theorem yU (ha:PE X a ta):PE X (.UnaryOp .Not a pos) (zM ta):=by
 intro pins s σ H Q I h
 refine UnaryOp_ (thn (ha pins s σ H _ I h) fun v s1 ⟨x,H1,I1,r1,q1⟩=>?_)
 obtain ⟨c,rfl,q1⟩:=q1
 cases r1
 exact not_of (wpAny_truthy_bool ⟨.bl (!c),H1,I1,rfl,q1⟩)
def tIf (t:TT) (ta tb:TE):TE:=fun σ H Q=>t σ H fun c H1=>if c=true then ta σ H1 Q else tb σ H1 Q
theorem cY {c:Expr} (hc:PT X c tA) (ha:PE X a ta) (hb:PE X b tb):PE X (.IfExp c a b pos) (tIf tA ta tb):=by
 intro pins s σ H Q I h
 refine wpAny_IfExp (thn (hc pins s σ H _ I h) fun d s1 ⟨H1,I1,q1⟩=>?_)
 cases d with
 | true=>exact ha pins s1 σ H1 Q I1 q1
 | false=>exact hb pins s1 σ H1 Q I1 q1
end
open PySem PySem.Spec PyProof.Rows
def SqL (K:Frag) (H:Hp) (a:Addr) (xs:List V):Prop :=
 Rd H a (.lst xs) ∨
  ∃ (o:Obj) (its:Array Value) (n:Nat),K.lookup a=some o∧o.cls=.type "list"∧o.dict=none∧o.data=.seq its n∧its.size≤sizeLine∧aR xs its.toList
def SqT (K:Frag) (H:Hp) (a:Addr) (xs:List V):Prop :=
 Rd H a (.tup xs) ∨
  ∃ (o:Obj) (its:Array Value) (n:Nat),K.lookup a=some o∧o.cls=.type "tuple"∧o.data=.seq its n∧its.size≤sizeLine∧aR xs its.toList
def Bf:Value→Option V
 | .none=>some .non
 | .bool b=>some (.bl b)
 | .int i _=>some (.int i)
 | .str x _=>some (.str x)
 | .bytes b _=>some (.byt b)
 | .float b _=>some (.flt b)
 | .ref a=>some (.ref a)
 | .type n=>some (.ty n)
 | _=>none
theorem aX.abs {x:V} {u:Value} (r:aX x u):Bf u=some x:=by
 cases x with
 | non=>cases r; rfl
 | bl _=>cases r; rfl
 | int _=>obtain ⟨t,rfl⟩:=r; rfl
 | str _=>obtain ⟨t,rfl⟩:=r; rfl
 | byt _=>obtain ⟨t,rfl⟩:=r; rfl
 | flt _=>obtain ⟨t,rfl⟩:=r; rfl
 | ref _=>cases r; rfl
 | ty _=>cases r; rfl
theorem aX.inj {x y:V} {u:Value} (r:aX x u) (q:aX y u):x=y:=Option.some.inj (r.abs.symm.trans q.abs)
theorem aR.inj:∀ {xs ys:List V} {us:List Value},aR xs us→aR ys us→xs=ys
 | _,_,_,.nil,.nil=>rfl
 | _,_,_,.cons r t,.cons r' t'=>by rw [r.inj r',aR.inj t t']
section
variable {X:Cx} {pins:List (Addr×Obj)} {σ:St} {H:Hp} {s:Shared} {a:Addr} {xs ys:List V}
theorem SqL.of {K:Frag} (h:H a=some (.lst xs)):SqL K H a xs:=.inl (.inl h)
theorem SqT.of {K:Frag} (h:H a=some (.tup xs)):SqT K H a xs:=.inl (.inl h)
theorem Inv.list (I:Inv X pins σ H s) (h:SqL X.K H a xs):∃ its:List Value,aR xs its∧PlainL s.heap a its.toArray∧xs.length≤sizeLine:=by
 rcases h with h | ⟨o,its,n,hk,hc,hd,hs,hz,r⟩
 ·obtain ⟨z,its,n,r,e⟩:=h.ok I.hok
  exact ⟨its,r,⟨_,n,e,rfl,rfl,rfl⟩,z⟩
 ·refine ⟨its.toList,r,⟨o,n,I.kIn a o hk,hc,hd,by simpa using hs⟩,?_⟩
  have e:=r.length
  simp only [Array.length_toList] at e
  omega
theorem Inv.tuple (I:Inv X pins σ H s) (h:SqT X.K H a xs):∃ its:List Value,aR xs its∧IsTup s.heap a its.toArray∧xs.length≤sizeLine:=by
 rcases h with h | ⟨o,its,n,hk,hc,hs,hz,r⟩
 ·obtain ⟨z,its,r,p,_⟩:=h.ok I.hok
  exact ⟨its,r,p,z⟩
 ·refine ⟨its.toList,r,⟨o,I.kIn a o hk,hc,n,by simpa using hs⟩,?_⟩
  have e:=r.length
  simp only [Array.length_toList] at e
  omega
theorem Inv.list_inj (I:Inv X pins σ H s) (h:SqL X.K H a xs) (h':SqL X.K H a ys):xs=ys:=by
 obtain ⟨its,r,⟨o,n,e,_,_,d⟩,_⟩:=I.list h
 obtain ⟨its',r',⟨o',n',e',_,_,d'⟩,_⟩:=I.list h'
 rw [e] at e'; cases e'
 rw [d] at d'
 injection d' with d1 _
 have:its=its':=by simpa using congrArg Array.toList d1
 subst this
 exact r.inj r'
theorem Inv.tuple_inj (I:Inv X pins σ H s) (h:SqT X.K H a xs) (h':SqT X.K H a ys):xs=ys:=by
 obtain ⟨its,r,⟨o,e,_,n,d⟩,_⟩:=I.tuple h
 obtain ⟨its',r',⟨o',e',_,n',d'⟩,_⟩:=I.tuple h'
 rw [e] at e'; cases e'
 rw [d] at d'
 injection d' with d1 _
 have:its=its':=by simpa using congrArg Array.toList d1
 subst this
 exact r.inj r'
end
abbrev Cx.wish (X:Cx) (E:Value→Shared→Prop):Cx:={ X with xe:=E }
abbrev Cx.nox (X:Cx):Cx:=X.wish fun _ _=>False
theorem Cx.Ok.wish {X:Cx} (ok:X.Ok) (E:Value→Shared→Prop):(X.wish E).Ok :=
 ⟨ok.mod,ok.kind,ok.glob,ok.blt,ok.above,ok.inj,ok.has,ok.cab,ok.hd,ok.frames,ok.stk,ok.exf,ok.bs,ok.bsz,ok.noex,ok.exfs,ok.funs,ok.frf⟩
theorem Cx.Ok.unwish {X:Cx} {E:Value→Shared→Prop} (ok:(X.wish E).Ok):X.Ok :=
 ⟨ok.mod,ok.kind,ok.glob,ok.blt,ok.above,ok.inj,ok.has,ok.cab,ok.hd,ok.frames,ok.stk,ok.exf,ok.bs,ok.bsz,ok.noex,ok.exfs,ok.funs,ok.frf⟩
section
variable {X:Cx} {pins:List (Addr×Obj)} {σ:St} {H:Hp} {s:Shared} {E:Value→Shared→Prop}
theorem Inv.wish (I:Inv X pins σ H s) (E:Value→Shared→Prop):Inv (X.wish E) pins σ H s:=⟨I.ok.wish E,I.os,I.bare,I.base,I.loc,I.cell,I.free,I.freeC,I.pin,I.hok,I.len⟩
theorem Inv.unwish (I:Inv (X.wish E) pins σ H s):Inv X pins σ H s:=⟨I.ok.unwish,I.os,I.bare,I.base,I.loc,I.cell,I.free,I.freeC,I.pin,I.hok,I.len⟩
theorem SP.unwish {D:kH} {f:Flow} {s':Shared} (h:SP (X.wish E) pins D f s'):SP X pins D f s':=by
 cases f with
 | next=>obtain ⟨σ',H',I,q⟩:=h; exact ⟨σ',H',I.unwish,q⟩
 | brk=>obtain ⟨σ',H',I,q⟩:=h; exact ⟨σ',H',I.unwish,q⟩
 | cont=>obtain ⟨σ',H',I,q⟩:=h; exact ⟨σ',H',I.unwish,q⟩
 | ret u=>obtain ⟨v,σ',H',I,r,q⟩:=h; exact ⟨v,σ',H',I.unwish,r,q⟩
theorem PSs.nox {st:List Stmt} {t:TS} (h:PSs X.nox st t):PSs X st t:=fun pins s σ H D I hw =>
 wpAny_mono (h pins s σ H D (I.wish _) hw) (fun _ _ q=>q.unwish) fun _ _ z=>False.elim z
end
def xo:Expr→Bool
 | .Starred _ _=>true
 | _=>false
theorem ac {e:Expr} {es:List Expr} {env:Env} (h:xo e=false):starEach (e::es) env=(false,eval e env)::starEach es env:=by
 cases e<;>first | rfl | cases h
theorem kj {env:Env}:∀ {es:List Expr},es.all (fun e=>!xo e)=true→starEach es env=es.map fun e=>(false,eval e env)
 | [],_=>rfl
 | e::es,h=>by
  rw [List.all_cons,Bool.and_eq_true] at h
  rw [ac (by simpa using h.1),kj h.2]
  rfl
theorem aj {es:List Expr} {env:Env} {pos:Pos} (h:es.all (fun e=>!xo e)=true):(backTo pos (starEach es env)).any (·.1)=false:=by
 rw [kj h]
 unfold backTo
 rw [List.map_map,List.any_map,List.any_eq_false]
 intro x _
 simp
theorem cL {e:Expr} {es:List Expr} {env:Env} {cpos:Pos} (h:(e::es).all (fun e=>!xo e)=true) (h2:decide ((e::es).length<29)=true):((backTo cpos (starEach (e::es) env)).all (fun x=>!x.1)&&(backToKw cpos (keywordEach [] env)).all (fun x=>x.1.isSome)
 &&decide ((e::es).length+([]:List Keyword).length+(if ([]:List Keyword).isEmpty then 0 else 1)<30))=true:=by
 rw [kj h]
 have e1:(backTo cpos ((e::es).map fun e=>(false,eval e env))).all (fun x=>!x.1)=true:=by
  unfold backTo
  rw [List.map_map,List.all_map,List.all_eq_true]
  intro x _
  simp
 have e2:(backToKw cpos (keywordEach [] env)).all (fun x=>x.1.isSome)=true:=rfl
 have e3:=of_decide_eq_true h2
 rw [e1,e2]
 simp at e3 ⊢
 omega
def zr:Expr→Bool
 | .ListComp _ _ _ _ | .SetComp _ _ _ _ | .DictComp _ _ _ _ _=>false
 | _=>true
theorem ap {e:Expr} {t:Option Expr} {l:Nat} {env:Env} (h:zr e=true):swapsWith e t l env=pure false:=by
 cases e<;>first | rfl | cases h
section
variable {X:Cx} {st:Stmt} {rest:List Stmt} {t u:TS} {e:Expr} {te:TE} {pos:Pos}
def ul:TS:=fun D σ H=>D.nx σ H
def xq (t u:TS):TS:=fun D σ H=>t { D with nx:=u D } σ H
theorem aS:PSs X [] ul:=fun _ _ σ H _ I h=>wpAny_execs_nil ⟨σ,H,I,h⟩
theorem ak (h1:PS X st t) (h2:PSs X rest u):PSs X (st::rest) (xq t u):=by
 intro pins s σ H D I h
 refine wpAny_execs_cons (thn (h1 pins s σ H { D with nx:=u D } I h) fun f s1 q=>?_)
 cases f with
 | next =>
  obtain ⟨σ',H',I',q⟩:=q
  exact h2 pins s1 σ' H' D I' q
 | ret v=>exact q
 | brk=>exact q
 | cont=>exact q
theorem ao (h1:PS X st t):PSs X [st] t:=by
 intro pins s σ H D I h
 refine wpAny_execs_cons (thn (h1 pins s σ H D I h) fun f s1 q=>?_)
 cases f with
 | next=>exact wpAny_execs_nil q
 | ret v=>exact q
 | brk=>exact q
 | cont=>exact q
theorem Inv.quiet {pins:List (Addr×Obj)} {σ:St} {H:Hp} {s:Shared} (I:Inv X pins σ H s):interactive X.env=false:=by simp [interactive,I.ok.kind]
def Af (te:TE):TS:=fun D σ H=>te σ H fun _ H1=>D.nx σ H1
theorem cD (he:PE X e te) (hs:swapsWith e none pos.line X.env=pure false:=by first | exact ap rfl | rfl):PS X (.Expr e pos) (Af te):=by
 intro pins s σ H D I h
 exact wpAny_Expr_any (thn (he pins s σ H _ I h) fun v s1 ⟨x,H1,I1,r1,q1⟩=>⟨σ,H1,I1,q1⟩) I.quiet hs
def AT (te:TE):TS:=fun D σ H=>te σ H D.rt
theorem aH (he:PE X e te):PS X (.Return (some e) pos) (AT te):=by
 intro pins s σ H D I h
 exact wpAny_Return_some (thn (he pins s σ H _ I h) fun v s1 ⟨x,H1,I1,r1,q1⟩=>⟨x,σ,H1,I1,r1,q1⟩)
def AM (c:TT) (t u:TS):TS:=fun D σ H=>c σ H fun b H1=>if b=true then t D σ H1 else u D σ H1
theorem bf {c:Expr} {a b:List Stmt} {tc:TT} (hc:PT X c tc) (ha:PSs X a t) (hb:PSs X b u):PS X (.If c a b pos) (AM tc t u):=by
 intro pins s σ H D I h
 refine wpAny_If (thn (hc pins s σ H _ I h) fun d s1 ⟨H1,I1,q1⟩=>?_)
 cases d with
 | true=>exact ha pins s1 σ H1 D I1 q1
 | false=>exact hb pins s1 σ H1 D I1 q1
def zv:TS:=fun _ _ _=>False
theorem gb {sts:List Stmt}:PSs X sts zv:=fun _ _ _ _ _ _ h=>h.elim
end
abbrev TG:=V→St→Hp→(St→Hp→Prop)→Prop
abbrev TGs:=List V→St→Hp→(St→Hp→Prop)→Prop
def PG (X:Cx) (target:Expr) (t:TG):Prop :=
 ∀ (pins:List (Addr×Obj)) (s:Shared) (σ:St) (H:Hp) (v:V) (u:Value) (Q:St→Hp→Prop),Inv X pins σ H s→aX v u→t v σ H Q →
  wpAny (model X.prog X.w) X.A (assign target X.env u) (fun _ s'=>∃ σ' H',Inv X pins σ' H' s'∧Q σ' H') X.xe s
def PGs (X:Cx) (ts:List Expr) (t:TGs):Prop :=
 ∀ (pins:List (Addr×Obj)) (s:Shared) (σ:St) (H:Hp) (vs:List V) (us:List Value) (Q:St→Hp→Prop),Inv X pins σ H s→aR vs us→t vs σ H Q →
  wpAny (model X.prog X.w) X.A (assignInOrder ((assignEach ts X.env).map (·.2)) us) (fun _ s'=>∃ σ' H',Inv X pins σ' H' s'∧Q σ' H') X.xe s
abbrev yO:=V→V→V→Hp→(Hp→Prop)→Prop
def Ad (X:Cx) (t:yO):Prop :=
 ∀ (pins:List (Addr×Obj)) (s:Shared) (σ:St) (H:Hp) (o i v:V) (ov iv u:Value) (Q:Hp→Prop),Inv X pins σ H s→aX o ov→aX i iv→aX v u→t o i v H Q →
  wpAny (model X.prog X.w) X.A (setItem ov iv u) (fun _ s'=>∃ H',Inv X pins σ H' s'∧Q H') X.xe s
section
variable {X:Cx} {pos:Pos}
def jD (i:Nat):TG:=fun v σ H Q=>Q (σ.set i (some v)) H
theorem ax {i:Nat} {x:Str} (hN:X.N.Nodup) (hi:X.N[i]?=some x) (hx:Loc X.env.scope x) (hf:X.fn x=true∨X.env.scope.names.lookup x=some .local:=by first | exact .inl rfl | exact .inr rfl | assumption):PG X (.Name x pos) (jD i):=by
 intro pins s σ H v u Q I r h
 exact wpAny_assign_Name (jE I hN hi hx r (fun s' I'=>⟨_,H,I',h⟩) hf)
def AR:TGs:=fun vs σ H Q=>vs=[]∧Q σ H
def Al (t:TG) (u:TGs):TGs:=fun vs σ H Q=>∃ v r,vs=v::r∧t v σ H fun σ' H'=>u r σ' H' Q
theorem cf:PGs X [] AR:=by
 intro pins s σ H vs us Q I r h
 obtain ⟨e,h⟩:=h
 subst e
 cases r
 exact assignInOrder_nil ⟨σ,H,I,h⟩
theorem aV {e:Expr} {es:List Expr} {t:TG} {u:TGs} (h1:PG X e t) (h2:PGs X es u)
  (hs:(assignEach (e::es) X.env).map (·.2)=assign e X.env::(assignEach es X.env).map (·.2):=by rfl):PGs X (e::es) (Al t u):=by
 intro pins s σ H vs us Q I r h
 obtain ⟨v,vr,e1,h⟩:=h
 subst e1
 cases r with
 | cons r rr =>
  rw [hs]
  refine assignInOrder_cons (thn (h1 pins s σ H _ _ _ I r h) fun _ s1 ⟨σ1,H1,I1,q1⟩=>?_)
  exact h2 pins s1 σ1 H1 _ _ Q I1 rr q1
def Ak (K:Frag) (n:Nat) (t:TGs):TG:=fun v σ H Q=>∃ a xs,v=.ref a∧SqT K H a xs∧xs.length=n∧t xs σ H Q
theorem cQ {es:List Expr} {k:Nat} {t:TGs} {n:Nat} (hc:X.calm=true) (h:PGs X es t)
  (hn:(assignEach es X.env).length=n:=by rfl) (hst:(assignEach es X.env).findIdx? (·.1)=none:=by rfl):PG X (.Tuple es k pos) (Ak X.K n t):=by
 intro pins s σ H v u Q I r hw
 obtain ⟨a,xs,e1,hq,hl,hw⟩:=hw
 subst e1
 cases r
 obtain ⟨its,rv,ht,hz⟩:=I.tuple hq
 refine assign_Tuple_tuple (I.ok.hd hc) ht (by simp [hn,← hl,rv.length]) hst fun h' hx=>?_
 have I1:Inv X pins σ H { s with heap:=h' }:=I.kept (t':=s.toks) fun b o e=>hx b o (Nat.ne_of_lt (Heap.lt_size e)) e
 exact h pins _ σ H xs _ Q I1 (by simpa using rv) hw
def Bd (to ti:TE) (t:yO):TG:=fun v σ H Q=>to σ H fun o H1=>ti σ H1 fun i H2=>t o i v H2 fun H3=>Q σ H3
theorem cS {o i:Expr} {to ti:TE} {t:yO} (ho:PE X o to) (hi:PE X i ti) (hs:Ad X t)
  (ha:∀ v,assign (.Subscript o i pos) X.env v=(do
   let ov ← holding [v] (eval o X.env)
   let iv ← holding [v,ov] (eval i X.env)
   standAt pos
   holding [v,ov,iv] (setItem ov iv v)
   release [v,ov,iv] []):=by intro _; rfl):PG X (.Subscript o i pos) (Bd to ti t):=by
 intro pins s σ H v u Q I r h
 rw [ha]
 refine wpAny_bind (wpAny_holding (thn (ho pins s σ H _ I h) fun ov s1 ⟨x,H1,I1,r1,q1⟩=>?_))
 refine wpAny_bind (wpAny_holding (thn (hi pins s1 σ H1 _ I1 q1) fun iv s2 ⟨y,H2,I2,r2,q2⟩=>?_))
 refine wpAny_bind (wpAny_standAt (wpAny_bind (wpAny_holding (thn (hs pins s2 σ H2 x y v ov iv u _ I2 r1 r2 r q2) fun _ s3 ⟨H3,I3,q3⟩=>?_))))
 exact wpAny_release ⟨σ,H3,I3,q3⟩
def zF (te:TE) (g:TG):TS:=fun D σ H=>te σ H fun x H1=>g x σ H1 D.nx
theorem dc {tg e:Expr} {te:TE} {g:TG} (he:PE X e te) (hg:PG X tg g) (hs:swapsWithSole [tg] e pos.line X.env=pure false:=by rfl) (hw:swappedStores [tg] e X.env=pure none:=by rfl)
  (h1:(assignEach [tg] X.env).map (·.2)=[assign tg X.env]:=by rfl):PS X (.Assign [tg] e pos) (zF te g):=by
 intro pins s σ H D I h
 refine wpAny_Assign_stores (thn (he pins s σ H _ I h) fun v s1 ⟨x,H1,I1,r1,q1⟩=>?_) hs hw
 rw [h1]
 exact thn (hg pins s1 σ H1 x v _ I1 r1 q1) fun _ s2 q=>q
theorem aB {i:Nat} {x:Str} {e:Expr} {te:TE} {pos':Pos} (hN:X.N.Nodup) (hi:X.N[i]?=some x) (hx:Loc X.env.scope x) (he:PE X e te) (hs:swapsWith e (some (.Name x pos')) pos.line X.env=pure false:=by first | exact ap rfl | rfl) (hf:X.fn x=true∨X.env.scope.names.lookup x=some .local:=by first | exact .inl rfl | exact .inr rfl | assumption) :
  PS X (.Assign [.Name x pos'] e pos) (zF te (jD i)):=by
 intro pins s σ H D I h
 refine wpAny_Assign_Name (thn (he pins s σ H _ I h) fun v s1 ⟨y,H1,I1,r1,q1⟩=>?_) hs
 exact jE I1 hN hi hx r1 (fun s2 I2=>⟨_,H1,I2,q1⟩) hf
def yP (c:TT) (tb:TS):TS:=fun D σ H=>∃ W:Nat→St→Hp→Prop,(∃ m,W m σ H)∧∀ m σ H,W m σ H →
 c σ H fun b H1=>if b=true then ∃ N:St→Hp→Prop,(∀ σ' H',N σ' H'→∃ m',m'<m∧W m' σ' H')∧tb { D with nx:=N,ct:=N,bk:=D.nx } σ H1 else D.nx σ H1
theorem wE {c:Expr} {body:List Stmt} {tc:TT} {tb:TS} (hp:PassesOwn (model X.prog X.w) X.A X.env X.xe) (hc:PT X c tc) (hb:PSs X body tb):PS X (.While c body [] pos) (yP tc tb):=by
 intro pins s σ H D I h
 obtain ⟨W,⟨m0,w0⟩,turn⟩:=h
 refine wpAny_While (codeAny_whileLoop (fun n s'=>∃ σ' H',Inv X pins σ' H' s'∧W n σ' H') ?_ m0 ⟨σ,H,I,w0⟩)
 rintro n s1 ⟨σ1,H1,I1,w1⟩
 refine wpAny_passesOwn hp (thn (hc pins s1 σ1 H1 _ I1 (turn n σ1 H1 w1)) fun b s2 ⟨H2,I2,q2⟩=>?_)
 cases b with
 | true =>
  obtain ⟨N,hN,q2⟩:=q2
  rw [if_pos rfl]
  refine wpAny_passesOwn hp (thn (hb pins s2 σ1 H2 _ I2 q2) fun f s3 q3=>?_)
  cases f with
  | next =>
   obtain ⟨σ3,H3,I3,n3⟩:=q3
   obtain ⟨m',hm,w3⟩:=hN σ3 H3 n3
   exact ⟨m',hm,σ3,H3,I3,w3⟩
  | cont =>
   obtain ⟨σ3,H3,I3,n3⟩:=q3
   obtain ⟨m',hm,w3⟩:=hN σ3 H3 n3
   exact ⟨m',hm,σ3,H3,I3,w3⟩
  | brk=>exact q3
  | ret v=>exact q3
 | false =>
  rw [if_neg Bool.false_ne_true]
  exact wpAny_execs_nil ⟨σ1,H2,I2,q2⟩
end
structure It where
 go:Nat→Hp→Prop
 yld:Nat→Hp→V→Hp→Prop
 stop:Nat→Hp→Prop
def gH (X:Cx) (pins:List (Addr×Obj)) (H:Hp) (b:Addr):Prop :=
 H b=none∧b≠X.env.locals∧b∉X.fs∧(b∈X.ex∨X.s₀.heap.objs.size≤b)∧(∀ x c,X.env.cells.lookup x=some c→c≠b)∧∀ p∈X.pn++pins,p.1≠b
theorem Inv.fpOk {X:Cx} {pins:List (Addr×Obj)} {σ:St} {H H':Hp} {s:Shared} {b:Addr} (I:Inv X pins σ H s) (hb:s.heap.objs.size≤b) (hn:H' b=none):gH X pins H' b:=by
 refine ⟨hn,Nat.ne_of_gt (Nat.lt_of_lt_of_le I.lt hb),I.nofs hb,.inr (Nat.le_trans I.sz hb),fun x c e z=>?_,fun p hp z=>?_⟩
 ·obtain ⟨v,q⟩:=I.cell x c e
  exact absurd (Nat.lt_of_lt_of_le q.lt (by rw [z]; exact hb)) (Nat.lt_irrefl _)
 ·exact absurd (Nat.lt_of_lt_of_le (Heap.lt_size (I.pin p hp).1) (by rw [z]; exact hb)) (Nat.lt_irrefl _)
structure mq (P:Program) (w:World) (K:Frag) (tg:Expr) (J:It) (fp:List Addr) (it:Addr) (tn:Nat→Heap→Prop):Prop where
 mem:it∈fp
 obj:∀ i h,tn i h→∀ b∈fp,∃ o,h.get? b=some o∧∀ v,o.data≠.cell v
 keep:∀ i h h',tn i h→(∀ b∈fp,∀ o,h.get? b=some o→h'.get? b=some o)→tn i h'
 item:∀ (X:Cx),X.prog=P→X.w=w→X.K=K→X.calm=true→∀ (i:Nat) (pins:List (Addr×Obj)) (s:Shared) (σ:St) (H:Hp) (E:Value→Shared→Prop),Inv X pins σ H s→(∀ b∈fp,gH X pins H b)→tn i s.heap→J.go i H →
  wpAny (model P w) X.A (pyNext (.ref it)) (fun r s1=>∃ u,r=some u ∧
   wpAny (model P w) X.A (letOwnedTupleGo tg (.ref it) u) (fun _ s2=>∃ x H',Inv X pins σ H' s2∧aX x u∧J.yld i H x H'∧tn (i+1) s2.heap∧∀ b∈fp,H' b=none) E s1) E s
 done:∀ (X:Cx),X.prog=P→X.w=w→X.K=K→X.calm=true→∀ (i:Nat) (pins:List (Addr×Obj)) (s:Shared) (σ:St) (H:Hp) (E:Value→Shared→Prop),Inv X pins σ H s→(∀ b∈fp,gH X pins H b)→tn i s.heap→J.stop i H →
  wpAny (model P w) X.A (pyNext (.ref it)) (fun r s1=>r=none∧Inv X pins σ H s1) E s
 self:∀ (A:Around) (i:Nat) (s:Shared) (Q:Value→Shared→Prop) (E:Value→Shared→Prop),tn i s.heap→Q (.ref it) s→wpAny (model P w) A (pyIter (.ref it)) Q E s
abbrev TI:=St→Hp→(It→Hp→Prop)→Prop
def PIE (X:Cx) (pins:List (Addr×Obj)) (σ:St) (tg:Expr) (R:It→Hp→Prop) (itv:Value) (s2:Shared):Prop :=
 ∃ (it:Addr) (fp:List Addr) (tn:Nat→Heap→Prop) (J:It) (H':Hp),itv=.ref it∧Inv X pins σ H' s2∧mq X.prog X.w X.K tg J fp it tn∧tn 0 s2.heap∧(∀ b∈fp,gH X pins H' b)∧R J H'
def PI (X:Cx) (tg iter:Expr) (wi:TI):Prop :=
 ∀ (pins:List (Addr×Obj)) (s:Shared) (σ:St) (H:Hp) (R:It→Hp→Prop),Inv X pins σ H s→wi σ H R →
  wpAny (model X.prog X.w) X.A (eval iter X.env) (fun v s1=>wpAny (model X.prog X.w) X.A (pyIter v) (PIE X pins σ tg R) X.xe s1) X.xe s
theorem lK {M:Model} {A:Around} {E:Value→Shared→Prop} {s:Shared} {tg:Expr} {it:Addr} {u:Value} {o:Obj} {n:String} {vs:Array Value} {Q:Unit→Shared→Prop} (ho:s.heap.get? it=some o) (hc:o.cls=.type n) (hd:o.data=.fields vs)
  (hn:["enumerate", "zip", "dict_itemiterator", "dict_reverseitemiterator", "odict_iterator", "itertools.zip_longest", "itertools.pairwise"].contains n=false) (hQ:Q () s):wpAny M A (letOwnedTupleGo tg (.ref it) u) Q E s:=by
 unfold letOwnedTupleGo
 cases tg<;>first
  | exact wpAny_pure hQ
  | (cases u<;>first
    | exact wpAny_pure hQ
    | (refine wpAny_bind (wpAny_load ho ?_)
       rw [hc,hd]
       show wpAny M A (if (["enumerate", "zip", "dict_itemiterator", "dict_reverseitemiterator", "odict_iterator", "itertools.zip_longest", "itertools.pairwise"].contains n&&vs[0]?==some (rawInt _))=true then _ else _) Q E s
       rw [if_neg (by intro h; rw [hn,Bool.false_and] at h; cases h)]
       exact wpAny_pure hQ))
def Itl (K:Frag) (a:Addr):It :=
 ⟨fun i H=>∃ xs x,SqL K H a xs∧xs[i]?=some x,fun i H x H'=>H'=H∧∀ xs,SqL K H a xs→xs[i]?=some x,fun i H=>∃ xs,SqL K H a xs∧xs.length≤i⟩
def Itt (K:Frag) (a:Addr):It :=
 ⟨fun i H=>∃ xs x,SqT K H a xs∧xs[i]?=some x,fun i H x H'=>H'=H∧∀ xs,SqT K H a xs→xs[i]?=some x,fun i H=>∃ xs,SqT K H a xs∧xs.length≤i⟩
def Itr (lo:Int) (n:Nat):It:=⟨fun i _=>i<n,fun i H x H'=>H'=H∧x=.int (lo+i),fun i _=>n≤i⟩
theorem tJ {P:Program} {w:World} {K:Frag} {tg:Expr} (a it:Addr):mq P w K tg (Itl K a) [it] it (fun i h=>h.IsListIter it a i) where
 mem:=by simp
 obj:=fun i h st b hb=>by
  have e:b=it:=by simpa using hb
  subst e
  obtain ⟨o,e,c,d⟩:=st
  exact ⟨o,e,fun v z=>by rw [d] at z; cases z⟩
 keep:=fun i h h' st k=>st.at fun o e=>k it (by simp) o e
 item:=by
  intro X hP hw hK hc i pins s σ H E I hf st hg
  subst hP hw hK
  obtain ⟨xs,x,hq,hx⟩:=hg
  obtain ⟨its,rv,p,hz⟩:=I.list hq
  obtain ⟨u,hu,ru⟩:=rv.get hx
  obtain ⟨f0,f1,f2,f3,f4,f5⟩:=hf it (by simp)
  refine wpAny_pyNext_list_item st p.isList (x:=u) (by simpa using hu) fun h' st' sb=>?_
  have I1:Inv X pins σ H { s with heap:=h' }:=I.turned (t':=s.toks) (fun b o hb e=>(sb.2 b hb).trans e) f0 f1 f3 f4 f5
  obtain ⟨o,e,c,d⟩:=id st'
  exact ⟨u,rfl,lK (s:={ s with heap:=h' }) e c d (by decide) ⟨x,H,I1,ru,⟨rfl,fun ys hy=>by rw [I.list_inj hy hq]; exact hx⟩,st',fun b hb=>(hf b hb).1⟩⟩
 done:=by
  intro X hP hw hK hc i pins s σ H E I hf st hg
  subst hP hw hK
  obtain ⟨xs,hq,hx⟩:=hg
  obtain ⟨its,rv,p,hz⟩:=I.list hq
  obtain ⟨f0,f1,f2,f3,f4,f5⟩:=hf it (by simp)
  have hl:=rv.length
  exact wpAny_pyNext_list_end (I.ok.hd hc) st p.isList (by simp; omega) fun h' eb=>⟨rfl,I.turned (t':=s.toks) (fun b o hb e=>eb b o hb e) f0 f1 f3 f4 f5⟩
 self:=fun _ _ _ _ _ st h=>wpAny_pyIter_listiter st h
theorem qB {P:Program} {w:World} {K:Frag} {tg:Expr} (a it:Addr):mq P w K tg (Itt K a) [it] it (fun i h=>h.IsTupleIter it a i) where
 mem:=by simp
 obj:=fun i h st b hb=>by
  have e:b=it:=by simpa using hb
  subst e
  obtain ⟨o,e,c,d⟩:=st
  exact ⟨o,e,fun v z=>by rw [d] at z; cases z⟩
 keep:=fun i h h' st k=>st.at fun o e=>k it (by simp) o e
 item:=by
  intro X hP hw hK hc i pins s σ H E I hf st hg
  subst hP hw hK
  obtain ⟨xs,x,hq,hx⟩:=hg
  obtain ⟨its,rv,p,hz⟩:=I.tuple hq
  obtain ⟨u,hu,ru⟩:=rv.get hx
  obtain ⟨f0,f1,f2,f3,f4,f5⟩:=hf it (by simp)
  refine wpAny_pyNext_tuple_item st (show s.heap.IsTuple a its.toArray from p) (x:=u) (by simpa using hu) fun h' st' sb=>?_
  have I1:Inv X pins σ H { s with heap:=h' }:=I.turned (t':=s.toks) (fun b o hb e=>(sb.2 b hb).trans e) f0 f1 f3 f4 f5
  obtain ⟨o,e,c,d⟩:=id st'
  exact ⟨u,rfl,lK (s:={ s with heap:=h' }) e c d (by decide) ⟨x,H,I1,ru,⟨rfl,fun ys hy=>by rw [I.tuple_inj hy hq]; exact hx⟩,st',fun b hb=>(hf b hb).1⟩⟩
 done:=by
  intro X hP hw hK hc i pins s σ H E I hf st hg
  subst hP hw hK
  obtain ⟨xs,hq,hx⟩:=hg
  obtain ⟨its,rv,p,hz⟩:=I.tuple hq
  obtain ⟨f0,f1,f2,f3,f4,f5⟩:=hf it (by simp)
  have hl:=rv.length
  exact wpAny_pyNext_tuple_end (I.ok.hd hc) st (show s.heap.IsTuple a its.toArray from p) (by simp; omega) fun h' eb=>⟨rfl,I.turned (t':=s.toks) (fun b o hb e=>eb b o hb e) f0 f1 f3 f4 f5⟩
 self:=fun _ _ _ _ _ st h=>wpAny_pyIter_tupleiter st h
theorem pq {P:Program} {w:World} {K:Frag} {tg:Expr} (it:Addr) (lo:Int) (n:Nat):mq P w K tg (Itr lo n) [it] it (fun i h=>IsRangeIter h it (lo+(i:Nat)*1) ((n:Int) - (i:Nat)) 1) where
 mem:=by simp
 obj:=fun i h st b hb=>by
  have e:b=it:=by simpa using hb
  subst e
  exact ⟨_,st,fun v z=>by
   have z':Data.fields _=Data.cell v:=z
   cases z'⟩
 keep:=fun i h h' st k=>k it (by simp) _ st
 item:=by
  intro X hP hw hK hc i pins s σ H E I hf st hg
  subst hP hw hK
  obtain ⟨f0,f1,f2,f3,f4,f5⟩:=hf it (by simp)
  have W:=Walks.range (prog:=X.prog) (w:=X.w) (I.ok.hd hc) it lo 1 n
  refine W.item i s _ _ hg st fun v h' tk hv st' kk=>?_
  obtain ⟨t,rfl⟩:=hv
  have I1:Inv X pins σ H { s with heap:=h',toks:=tk }:=I.turned (fun b o hb e=>kk b o (by simpa using hb) e) f0 f1 f3 f4 f5
  refine ⟨_,rfl,lK (s:={ s with heap:=h',toks:=tk }) (n := "range_iterator") st' rfl rfl (by decide) ⟨.int (lo+i),H,I1,⟨t,?_⟩,⟨rfl,rfl⟩,st',fun b hb=>(hf b hb).1⟩⟩
  rw [Int.mul_one]
 done:=by
  intro X hP hw hK hc i pins s σ H E I hf st hg
  subst hP hw hK
  obtain ⟨f0,f1,f2,f3,f4,f5⟩:=hf it (by simp)
  exact wpAny_pyNext_range_end (I.ok.hd hc) st (by have:n≤i:=hg; omega) fun h' eb=>⟨rfl,I.turned (t':=s.toks) (fun b o hb e=>eb b o hb e) f0 f1 f3 f4 f5⟩
 self:=fun _ _ _ _ _ st h=>wpAny_pyIter_rangeiter st h
open PySem PySem.Spec PyProof.Rows
section
variable {X:Cx} {tg:Expr}
def Ac (K:Frag) (tl:TE):TI:=fun σ H R=>tl σ H fun x H1=>∃ a,x=.ref a∧(∃ xs,SqL K H1 a xs)∧R (Itl K a) H1
def AX (K:Frag) (tl:TE):TI:=fun σ H R=>tl σ H fun x H1=>∃ a,x=.ref a∧(∃ xs,SqT K H1 a xs)∧R (Itt K a) H1
theorem br {l:Expr} {tl:TE} (hl:PE X l tl):PI X tg l (Ac X.K tl):=by
 intro pins s σ H R I h
 refine thn (hl pins s σ H _ I h) fun v s1 ⟨x,H1,I1,r1,q1⟩=>?_
 obtain ⟨a,e,⟨xs,hq⟩,q⟩:=q1
 subst e
 cases r1
 obtain ⟨its,rv,p,hz⟩:=I1.list hq
 refine wpAny_pyIter_list p.isList ?_
 refine ⟨s1.heap.objs.size,[s1.heap.objs.size],_,_,H1,rfl,I1.kept (t':=s1.toks) fun b o e=>Heap.get?_push_of_some _ e,tJ a _,⟨_,Heap.get?_push_size _ rfl,rfl,rfl⟩,fun b hb=>?_,q⟩
 have e:b=s1.heap.objs.size:=by simpa using hb
 subst e
 exact I1.fpOk (Nat.le_refl _) (I1.hok.fresh (Nat.le_refl _))
theorem cZ {l:Expr} {tl:TE} (hl:PE X l tl):PI X tg l (AX X.K tl):=by
 intro pins s σ H R I h
 refine thn (hl pins s σ H _ I h) fun v s1 ⟨x,H1,I1,r1,q1⟩=>?_
 obtain ⟨a,e,⟨xs,hq⟩,q⟩:=q1
 subst e
 cases r1
 obtain ⟨its,rv,p,hz⟩:=I1.tuple hq
 refine wpAny_pyIter_tuple (show s1.heap.IsTuple a its.toArray from p) ?_
 refine ⟨s1.heap.objs.size,[s1.heap.objs.size],_,_,H1,rfl,I1.kept (t':=s1.toks) fun b o e=>Heap.get?_push_of_some _ e,qB a _,⟨_,Heap.get?_push_size _ rfl,rfl,rfl⟩,fun b hb=>?_,q⟩
 have e:b=s1.heap.objs.size:=by simpa using hb
 subst e
 exact I1.fpOk (Nat.le_refl _) (I1.hok.fresh (Nat.le_refl _))
theorem nJ {pins:List (Addr×Obj)} {σ:St} {H:Hp} {s:Shared} {R:It→Hp→Prop} {E:Value→Shared→Prop} {lo hi:Int} {t u v:Tok} {tk:Nat} (I:Inv X pins σ H s) (h1:-(2 ^ 62)≤lo) (h2:lo<2 ^ 62) (h3:-(2 ^ 62)≤hi) (h4:hi<2 ^ 62)
  (q:R (Itr lo (hi - lo).toNat) H):wpAny (model X.prog X.w) X.A (pyIter (.ref s.heap.objs.size)) (PIE X pins σ tg R) E { s with heap:=s.heap.push { cls:=.type "range",data:=.fields #[.int lo t,.int hi u,.int 1 v] },toks:=tk }:=by
 refine wpAny_pyIter_range (IsRange.new ..) (small_one h1 h2 h3 h4) ?_
 have I1:Inv X pins σ H { s with heap:=s.heap.push { cls:=.type "range",data:=.fields #[.int lo t,.int hi u,.int 1 v] },toks:=tk }:=I.kept fun b o e=>Heap.get?_push_of_some _ e
 refine ⟨(s.heap.push { cls:=.type "range",data:=.fields #[.int lo t,.int hi u,.int 1 v] }).objs.size,[(s.heap.push { cls:=.type "range",data:=.fields #[.int lo t,.int hi u,.int 1 v] }).objs.size],_,_,H,rfl,
  I1.kept (t':=tk) fun b o e=>Heap.get?_push_of_some _ e,pq _ lo (hi - lo).toNat,?_,fun b hb=>?_,q⟩
 ·have e1:lo+((0:Nat):Int)*1=lo:=by simp
  have e2:(((hi - lo).toNat:Nat):Int) - ((0:Nat):Int)=Builtin.Range.rangeSize lo hi 1:=by rw [rangeSize_one]; split<;>omega
  show IsRangeIter _ _ (lo+((0:Nat):Int)*1) ((((hi - lo).toNat:Nat):Int) - ((0:Nat):Int)) 1
  rw [e1,e2]
  exact Heap.get?_push_size _ rfl
 ·have e:b=(s.heap.push { cls:=.type "range",data:=.fields #[.int lo t,.int hi u,.int 1 v] }).objs.size:=by simpa using hb
  subst e
  exact I1.fpOk (Nat.le_refl _) (I1.hok.fresh (Nat.le_refl _))
def zZ (ta:TA):TI:=fun σ H R=>ta σ H fun vs H1=>∃ j:Int,vs=[.int j]∧-(2 ^ 62)≤j∧j<2 ^ 62∧R (Itr 0 j.toNat) H1
def zR (ta:TA):TI:=fun σ H R=>ta σ H fun vs H1=>∃ i j:Int,vs=[.int i,.int j]∧(-(2 ^ 62)≤i∧i<2 ^ 62∧-(2 ^ 62)≤j∧j<2 ^ 62)∧R (Itr i (j - i).toNat) H1
theorem cX {a:Expr} {ta:TA} {p pos:Pos} (hg:Gl X "range") (hm:X.mg "range"=none) (ha:PA X [a] ta) (hs:starEach [a] X.env=[(false,eval a X.env)]:=by rfl):PI X tg (.Call (.Name "range" p) [a] [] pos) (zZ ta):=by
 intro pins s σ H R I h
 refine Call_ (eY I hg hm boot_range (PyProof.Rows.callWith_type1 (thn (ha pos pins s σ H _ I h) fun us s1 ⟨vs,H1,I1,r1,q1⟩=>?_) hs rfl))
 obtain ⟨j,e,q1,q2,q⟩:=q1
 subst e
 cases r1 with
 | cons r rr =>
  cases rr
  obtain ⟨t,rfl⟩:=r
  exact call_range_1 (nJ I1 (by omega) (by omega) q1 q2 (by simpa using q))
theorem sM {a b:Expr} {ta:TA} {p pos:Pos} (hg:Gl X "range") (hm:X.mg "range"=none) (ha:PA X [a,b] ta) (hs:starEach [a,b] X.env=[(false,eval a X.env),(false,eval b X.env)]:=by rfl) (hs2:starEach [b] X.env=[(false,eval b X.env)]:=by rfl) :
  PI X tg (.Call (.Name "range" p) [a,b] [] pos) (zR ta):=by
 intro pins s σ H R I h
 refine Call_ (eY I hg hm boot_range (PyProof.Rows.callWith_type1 (thn (ha pos pins s σ H _ I h) fun us s1 ⟨vs,H1,I1,r1,q1⟩=>?_) (by rw [hs,hs2]) (by rw [hs2]; rfl)))
 obtain ⟨i,j,e,⟨q1,q2,q3,q4⟩,q⟩:=q1
 subst e
 cases r1 with
 | cons r rr =>
  cases rr with
  | cons r' rr =>
   cases rr
   obtain ⟨t,rfl⟩:=r
   obtain ⟨t',rfl⟩:=r'
   exact call_range_2 (nJ I1 q1 q2 q3 q4 q)
def AW (wi:TI) (g:TG) (tb:TS):TS:=fun D σ H=>wi σ H fun J H1=>∃ W:Nat→Nat→St→Hp→Prop,(∃ m,W 0 m σ H1)∧∀ i m σ H,W i m σ H →
 (J.stop i H∧D.nx σ H)∨(J.go i H∧∃ N:St→Hp→Prop,(∀ σ' H',N σ' H'→∃ m',m'<m∧W (i+1) m' σ' H')∧∀ x H',J.yld i H x H'→g x σ H' fun σ2 H2=>tb { D with nx:=N,ct:=N,bk:=D.nx } σ2 H2)
def iH (fp:List Addr) (h:Heap):List (Addr×Obj):=fp.filterMap fun b=>(h.get? b).map fun o=>(b,o)
theorem dh {fp:List Addr} {h:Heap} {b:Addr} {o:Obj} (hb:b∈fp) (e:h.get? b=some o):(b,o)∈iH fp h:=List.mem_filterMap.mpr ⟨b,hb,by rw [e]; rfl⟩
theorem sB {fp:List Addr} {h:Heap} {p:Addr×Obj} (hp:p∈iH fp h):p.1∈fp∧h.get? p.1=some p.2:=by
 obtain ⟨b,hb,e⟩:=List.mem_filterMap.mp hp
 cases q:h.get? b with
 | none=>rw [q] at e; cases e
 | some o =>
  rw [q] at e
  have e':(b,o)=p:=Option.some.inj e
  subst e'
  exact ⟨hb,q⟩
theorem Inv.pinned {pins:List (Addr×Obj)} {σ:St} {H:Hp} {s:Shared} {fp:List Addr} (I:Inv X pins σ H s) (hf:∀ b∈fp,gH X pins H b) (ho:∀ b∈fp,∃ o,s.heap.get? b=some o∧∀ v,o.data≠.cell v):Inv X (pins++iH fp s.heap) σ H s :=
 I.pins_of fun p hp=>(List.mem_append.mp hp).elim (fun z=>I.pin p (List.mem_append_right _ z)) fun z=>by
  obtain ⟨hb,e⟩:=sB z
  obtain ⟨f0,f1,f2,_⟩:=hf p.1 hb
  obtain ⟨o,e',d⟩:=ho p.1 hb
  rw [e] at e'; cases e'
  exact ⟨e,f0,f1,f2,d⟩
theorem Inv.unpinned {pins pl:List (Addr×Obj)} {σ:St} {H:Hp} {s:Shared} (I:Inv X (pins++pl) σ H s):Inv X pins σ H s:=I.pins_of fun p hp=>I.pin p (List.mem_append_right _ (List.mem_append_left _ hp))
theorem bF {iter:Expr} {body:List Stmt} {wi:TI} {g:TG} {tb:TS} {pos:Pos} (hp:PassesOwn (model X.prog X.w) X.A X.env X.xe) (hc:X.calm=true) (hi:PI X tg iter wi) (hg:PG X tg g) (hb:PSs X body tb)
  (hs:∀ x,foldedSetIterable iter X.env x=pure x:=by intro _; rfl):PS X (.For tg iter body [] pos) (AW wi g tb):=by
 intro pins s σ H D I h
 refine wpAny_For (thn (hi pins s σ H _ I h) fun v s1 h1=>thn h1 fun itv s2 h2=>?_) hs
 obtain ⟨it,fp,tn,J,H2,e,I2,T,st2,f2,W,⟨m0,w0⟩,turn⟩:=h2
 subst e
 -- what stays true of the iterator's objects through the loop
 have stat:∀ {H':Hp},(∀ b∈fp,H' b=none)→∀ b∈fp,gH X pins H' b:=fun hn b hb=>⟨hn b hb,(f2 b hb).2⟩
 refine codeAny_forLoop_any (fun n s'=>∃ i σ' H',Inv X pins σ' H' s'∧tn i s'.heap∧(∀ b∈fp,H' b=none)∧W i n σ' H') ?_ m0 ⟨0,σ,H2,I2,st2,fun b hb=>(f2 b hb).1,w0⟩
 rintro n s3 ⟨i,σ3,H3,I3,st3,fr3,w3⟩
 rcases turn i n σ3 H3 w3 with ⟨stop,qn⟩ | ⟨go,N,hN,step⟩
 ·refine wpAny_passesOwn hp (thn (T.done X rfl rfl rfl hc i pins s3 σ3 H3 X.xe I3 (stat fr3) st3 stop) fun r s4 ⟨hr,I4⟩=>?_)
  subst hr
  exact wpAny_execs_nil ⟨σ3,H3,I4,qn⟩
 ·refine wpAny_passesOwn hp (thn (T.item X rfl rfl rfl hc i pins s3 σ3 H3 X.xe I3 (stat fr3) st3 go) fun r s4 ⟨u,hr,h4⟩=>?_)
  subst hr
  refine wpAny_passesOwn hp (thn h4 fun _ s5 ⟨x,H5,I5,r5,y5,st5,fr5⟩=>?_)
  have I5':=I5.pinned (stat fr5) (T.obj _ _ st5)
  refine wpAny_passesOwn hp (thn (hg _ s5 σ3 H5 x u _ I5' r5 (step x H5 y5)) fun _ s6 ⟨σ6,H6,I6,q6⟩=>?_)
  refine wpAny_passesOwn hp (thn (hb _ s6 σ6 H6 _ I6 q6) fun f s7 q7=>?_)
  have again:∀ {σ7:St} {H7:Hp},Inv X (pins++iH fp s5.heap) σ7 H7 s7→N σ7 H7→∃ m,m<n∧∃ i σ' H',Inv X pins σ' H' s7∧tn i s7.heap∧(∀ b∈fp,H' b=none)∧W i m σ' H':=fun {σ7 H7} I7 n7=>by
   obtain ⟨m',hm,w7⟩:=hN σ7 H7 n7
   refine ⟨m',hm,i+1,σ7,H7,I7.unpinned,T.keep _ _ _ st5 fun b hb o e=>(I7.pin (b,o) (List.mem_append_right _ (List.mem_append_right _ (dh hb e)))).1,fun b hb=>?_,w7⟩
   obtain ⟨o,e,d⟩:=T.obj _ _ st5 b hb
   exact (I7.pin (b,o) (List.mem_append_right _ (List.mem_append_right _ (dh hb e)))).2.1
  cases f with
  | next=>obtain ⟨σ7,H7,I7,n7⟩:=q7; exact again I7 n7
  | cont=>obtain ⟨σ7,H7,I7,n7⟩:=q7; exact again I7 n7
  | brk=>obtain ⟨σ7,H7,I7,q7⟩:=q7; exact ⟨σ7,H7,I7.unpinned,q7⟩
  | ret v=>obtain ⟨x7,σ7,H7,I7,r7,q7⟩:=q7; exact ⟨x7,σ7,H7,I7.unpinned,r7,q7⟩
end
theorem dv {K:Frag} {a:Addr} {xs:List V} {g:TG} {tb:TS} {D:kH} {σ:St} {H:Hp} (Pv:Nat→St→Hp→Prop) (h0:Pv 0 σ H) (hl:∀ i σ H,i≤xs.length→Pv i σ H→SqL K H a xs)
  (hs:∀ i x σ H,xs[i]?=some x→Pv i σ H→g x σ H fun σ2 H2=>tb { D with nx:=Pv (i+1),ct:=Pv (i+1),bk:=D.nx } σ2 H2) (hd:∀ σ H,Pv xs.length σ H→D.nx σ H) :
  ∃ W:Nat→Nat→St→Hp→Prop,(∃ m,W 0 m σ H)∧∀ i m σ H,W i m σ H →
   ((Itl K a).stop i H∧D.nx σ H)∨((Itl K a).go i H∧∃ N:St→Hp→Prop,(∀ σ' H',N σ' H'→∃ m',m'<m∧W (i+1) m' σ' H')∧∀ x H',(Itl K a).yld i H x H'→g x σ H' fun σ2 H2=>tb { D with nx:=N,ct:=N,bk:=D.nx } σ2 H2):=by
 refine ⟨fun i m σ H=>m=xs.length - i∧i≤xs.length∧Pv i σ H,⟨xs.length,by simp,Nat.zero_le _,h0⟩,?_⟩
 rintro i m σ H ⟨rfl,hi,p⟩
 have q:=hl i σ H hi p
 by_cases hlt:i<xs.length
 ·refine .inr ⟨⟨xs,xs[i],q,by simp [hlt]⟩,Pv (i+1),fun σ' H' p'=>⟨xs.length - (i+1),by omega,rfl,hlt,p'⟩,fun x H' y=>?_⟩
  obtain ⟨e,y⟩:=y
  subst e
  exact hs i x σ _ (y xs q) p
 ·have e:i=xs.length:=by omega
  subst e
  exact .inl ⟨⟨xs,q,Nat.le_refl _⟩,hd σ H p⟩
theorem dB {K:Frag} {a:Addr} {xs:List V} {g:TG} {tb:TS} {D:kH} {σ:St} {H:Hp} (Pv:Nat→St→Hp→Prop) (h0:Pv 0 σ H) (hl:∀ i σ H,i≤xs.length→Pv i σ H→SqT K H a xs)
  (hs:∀ i x σ H,xs[i]?=some x→Pv i σ H→g x σ H fun σ2 H2=>tb { D with nx:=Pv (i+1),ct:=Pv (i+1),bk:=D.nx } σ2 H2) (hd:∀ σ H,Pv xs.length σ H→D.nx σ H) :
  ∃ W:Nat→Nat→St→Hp→Prop,(∃ m,W 0 m σ H)∧∀ i m σ H,W i m σ H →
   ((Itt K a).stop i H∧D.nx σ H)∨((Itt K a).go i H∧∃ N:St→Hp→Prop,(∀ σ' H',N σ' H'→∃ m',m'<m∧W (i+1) m' σ' H')∧∀ x H',(Itt K a).yld i H x H'→g x σ H' fun σ2 H2=>tb { D with nx:=N,ct:=N,bk:=D.nx } σ2 H2):=by
 refine ⟨fun i m σ H=>m=xs.length - i∧i≤xs.length∧Pv i σ H,⟨xs.length,by simp,Nat.zero_le _,h0⟩,?_⟩
 rintro i m σ H ⟨rfl,hi,p⟩
 have q:=hl i σ H hi p
 by_cases hlt:i<xs.length
 ·refine .inr ⟨⟨xs,xs[i],q,by simp [hlt]⟩,Pv (i+1),fun σ' H' p'=>⟨xs.length - (i+1),by omega,rfl,hlt,p'⟩,fun x H' y=>?_⟩
  obtain ⟨e,y⟩:=y
  subst e
  exact hs i x σ _ (y xs q) p
 ·have e:i=xs.length:=by omega
  subst e
  exact .inl ⟨⟨xs,q,Nat.le_refl _⟩,hd σ H p⟩
theorem dM {lo:Int} {n:Nat} {g:TG} {tb:TS} {D:kH} {σ:St} {H:Hp} (Pv:Nat→St→Hp→Prop) (h0:Pv 0 σ H)
  (hs:∀ i σ H,i<n→Pv i σ H→g (.int (lo+i)) σ H fun σ2 H2=>tb { D with nx:=Pv (i+1),ct:=Pv (i+1),bk:=D.nx } σ2 H2) (hd:∀ σ H,Pv n σ H→D.nx σ H) :
  ∃ W:Nat→Nat→St→Hp→Prop,(∃ m,W 0 m σ H)∧∀ i m σ H,W i m σ H →
   ((Itr lo n).stop i H∧D.nx σ H)∨((Itr lo n).go i H∧∃ N:St→Hp→Prop,(∀ σ' H',N σ' H'→∃ m',m'<m∧W (i+1) m' σ' H')∧∀ x H',(Itr lo n).yld i H x H'→g x σ H' fun σ2 H2=>tb { D with nx:=N,ct:=N,bk:=D.nx } σ2 H2):=by
 refine ⟨fun i m σ H=>m=n - i∧i≤n∧Pv i σ H,⟨n,by simp,Nat.zero_le _,h0⟩,?_⟩
 rintro i m σ H ⟨rfl,hi,p⟩
 by_cases hlt:i<n
 ·refine .inr ⟨hlt,Pv (i+1),fun σ' H' p'=>⟨n - (i+1),by omega,rfl,hlt,p'⟩,fun x H' y=>?_⟩
  obtain ⟨e,y⟩:=y
  subst e y
  exact hs i σ _ hlt p
 ·have e:i=n:=by omega
  subst e
  exact .inl ⟨Nat.le_refl _,hd σ H p⟩
open PySem PySem.Spec PyProof.Rows
abbrev R2:=V→V→Hp→VK→Prop
def OpR (X:Cx) (f:Value→Value→Sem Value) (r:R2):Prop :=
 ∀ (pins:List (Addr×Obj)) (s:Shared) (σ:St) (H:Hp) (x y:V) (v u:Value) (Q:VK),Inv X pins σ H s→aX x v→aX y u→r x y H Q →
  wpAny (model X.prog X.w) X.A (f v u) (EP X pins σ Q) X.xe s
def UnR (X:Cx) (f:Value→Sem Value) (r:V→Hp→VK→Prop):Prop :=
 ∀ (pins:List (Addr×Obj)) (s:Shared) (σ:St) (H:Hp) (x:V) (v:Value) (Q:VK),Inv X pins σ H s→aX x v→r x H Q →
  wpAny (model X.prog X.w) X.A (f v) (EP X pins σ Q) X.xe s
def bW (X:Cx) (f:Value) (r:List V→Hp→VK→Prop):Prop :=
 ∀ (pins:List (Addr×Obj)) (s:Shared) (σ:St) (H:Hp) (xs:List V) (us:List Value) (Q:VK),Inv X pins σ H s→aR xs us→r xs H Q →
  wpAny (model X.prog X.w) X.A (call f us) (EP X pins σ Q) X.xe s
def tOp (r:R2) (ta tb:TE):TE:=fun σ H Q=>ta σ H fun x H1=>tb σ H1 fun y H2=>r x y H2 Q
def tUn (r:V→Hp→VK→Prop) (ta:TE):TE:=fun σ H Q=>ta σ H fun x H1=>r x H1 Q
def rI (C:Int→Int→Prop) (g:Int→Int→V):R2:=fun x y H Q=>∃ i j,x=.int i∧y=.int j∧C i j∧Q (g i j) H
def rI0 (g:Int→Int→V):R2:=fun x y H Q=>∃ i j,x=.int i∧y=.int j∧Q (g i j) H
def rU (g:Int→V):V→Hp→VK→Prop:=fun x H Q=>∃ i,x=.int i∧Q (g i) H
section
variable {X:Cx} {a b c:Expr} {ta tb tc:TE} {pos:Pos}
theorem yY (ha:PE X a ta) (hb:PE X b tb) {pins:List (Addr×Obj)} {s:Shared} {σ:St} {H:Hp} {R:V→V→Hp→Prop} (I:Inv X pins σ H s)
  (h:ta σ H fun x H1=>tb σ H1 fun y H2=>R x y H2) {Q:Value→Shared→Prop} {f:Value→Value→Sem Value}
  (hf:∀ v u s2 x y H2,Inv X pins σ H2 s2→aX x v→aX y u→R x y H2→wpAny (model X.prog X.w) X.A (f v u) Q X.xe s2) :
  wpAny (model X.prog X.w) X.A (eval a X.env) (fun v s₁=>wpAny (model X.prog X.w) X.A (eval b X.env) (fun u s₂=>wpAny (model X.prog X.w) X.A (f v u) Q X.xe s₂) X.xe s₁) X.xe s:=by
 refine thn (ha pins s σ H _ I h) fun v s1 ⟨x,H1,I1,r1,q1⟩=>?_
 refine thn (hb pins s1 σ H1 _ I1 q1) fun u s2 ⟨y,H2,I2,r2,q2⟩=>?_
 exact hf v u s2 x y H2 I2 r1 r2 q2
theorem aN {op:Operator} {r:R2} (ho:OpR X (binaryOp op) r) (ha:PE X a ta) (hb:PE X b tb):PE X (.BinOp a op b pos) (tOp r ta tb):=by
 intro pins s σ H Q I h
 exact wpAny_BinOp (yY ha hb I h fun v u s2 x y H2 I2 rx ry q=>ho pins s2 σ H2 x y v u Q I2 rx ry q)
theorem hV {op:UnaryOp} {r:V→Hp→VK→Prop} (ho:UnR X (unaryOp op) r) (ha:PE X a ta):PE X (.UnaryOp op a pos) (tUn r ta):=by
 intro pins s σ H Q I h
 exact UnaryOp_ (thn (ha pins s σ H _ I h) fun v s1 ⟨x,H1,I1,r1,q1⟩=>ho pins s1 σ H1 x v Q I1 r1 q1)
theorem opI {f:Value→Value→Sem Value} {C:Int→Int→Prop} {g:Int→Int→Int}
  (rule:∀ (i j:Int) (t u:Tok) (s:Shared) (Q:Value→Shared→Prop) (E:Value→Shared→Prop),C i j→Q (.int (g i j) s.toks) { s with toks:=s.toks+1 }→wpAny (model X.prog X.w) X.A (f (.int i t) (.int j u)) Q E s) :
  OpR X f (rI C fun i j=>.int (g i j)):=by
 intro pins s σ H x y v u Q I rx ry h
 obtain ⟨i,j,rfl,rfl,hc,q⟩:=h
 obtain ⟨t,rfl⟩:=rx
 obtain ⟨t',rfl⟩:=ry
 exact rule i j t t' s _ _ hc ⟨.int (g i j),H,I.tok _,⟨_,rfl⟩,q⟩
theorem Ae {f:Value→Value→Sem Value} {g:Int→Int→Int}
  (rule:∀ (i j:Int) (t u:Tok) (s:Shared) (Q:Value→Shared→Prop) (E:Value→Shared→Prop),Q (.int (g i j) s.toks) { s with toks:=s.toks+1 }→wpAny (model X.prog X.w) X.A (f (.int i t) (.int j u)) Q E s) :
  OpR X f (rI0 fun i j=>.int (g i j)):=by
 intro pins s σ H x y v u Q I rx ry h
 obtain ⟨i,j,rfl,rfl,q⟩:=h
 obtain ⟨t,rfl⟩:=rx
 obtain ⟨t',rfl⟩:=ry
 exact rule i j t t' s _ _ ⟨.int (g i j),H,I.tok _,⟨_,rfl⟩,q⟩
theorem wW {f:Value→Value→Sem Value} {g:Int→Int→Bool}
  (rule:∀ (i j:Int) (t u:Tok) (s:Shared) (Q:Value→Shared→Prop) (E:Value→Shared→Prop),Q (.bool (g i j)) s→wpAny (model X.prog X.w) X.A (f (.int i t) (.int j u)) Q E s) :
  OpR X f (rI0 fun i j=>.bl (g i j)):=by
 intro pins s σ H x y v u Q I rx ry h
 obtain ⟨i,j,rfl,rfl,q⟩:=h
 obtain ⟨t,rfl⟩:=rx
 obtain ⟨t',rfl⟩:=ry
 exact rule i j t t' s _ _ ⟨.bl (g i j),H,I,rfl,q⟩
def Bg (i j:Int):Prop:=0<j∧j<1073741824
def zI (i j:Int):Prop:=0≤j∧j≤1000000∧i.natAbs<2 ^ 64
def wx (i j:Int):Prop:=(-(2 ^ 64)<i∧i<2 ^ 64)∨(-(2 ^ 64)<j∧j<2 ^ 64)
theorem wx.ok {i j:Int} (h:wx i j):IntMulOk i j:=by
 rcases h with ⟨h1,h2⟩ | ⟨h1,h2⟩
 ·exact .of_left (intBits_le_64 h1 h2)
 ·exact .of_right (intBits_le_64 h1 h2)
theorem bx:OpR X (binaryOp .Add) (rI0 fun i j=>.int (i+j)):=Ae fun _ _ _ _ _ _ _ q=>add_int q
theorem kD:OpR X (binaryOp .Sub) (rI0 fun i j=>.int (i - j)):=Ae fun _ _ _ _ _ _ _ q=>sub_int q
theorem dJ:OpR X (binaryOp .Mult) (rI wx fun i j=>.int (i*j)):=opI fun _ _ _ _ _ _ _ hc q=>mul_int q hc.ok
theorem mS:OpR X (binaryOp .FloorDiv) (rI Bg fun i j=>.int (i / j)):=opI fun i j _ _ _ _ _ hc q=>by
 have h1:(0:Int)<j:=hc.1
 have h2:j<1073741824:=hc.2
 exact floordiv_int (by omega) (by rw [Int.fdiv_eq_ediv_of_nonneg i (by omega)]; exact q) (.inl (PyProof.noPylong_small (by omega)))
theorem dg:OpR X (binaryOp .Mod) (rI (fun _ j=>0<j) fun i j=>.int (i % j)):=opI fun i j _ _ _ _ _ hc q=>by
 have h1:(0:Int)<j:=hc
 exact mod_int' (by omega) (by rw [Int.fmod_eq_emod_of_nonneg i (by omega)]; exact q)
theorem oT:OpR X (binaryOp .Pow) (rI zI fun i j=>.int (i ^ j.toNat)):=opI fun _ _ _ _ _ _ _ hc q=>pow_int_small hc.1 hc.2.1 hc.2.2 q
theorem unI {f:Value→Sem Value} {g:Int→Int}
  (rule:∀ (i:Int) (t:Tok) (s:Shared) (Q:Value→Shared→Prop) (E:Value→Shared→Prop),Q (.int (g i) s.toks) { s with toks:=s.toks+1 }→wpAny (model X.prog X.w) X.A (f (.int i t)) Q E s) :
  UnR X f (rU fun i=>.int (g i)):=by
 intro pins s σ H x v Q I rx h
 obtain ⟨i,rfl,q⟩:=h
 obtain ⟨t,rfl⟩:=rx
 exact rule i t s _ _ ⟨.int (g i),H,I.tok _,⟨_,rfl⟩,q⟩
theorem eu:UnR X (unaryOp .USub) (rU fun i=>.int (-i)):=unI fun _ _ _ _ _ q=>neg_int q
end
def zQ:V→V→Bool
 | .non,.non=>true | .non,.int _=>true | .int _,.non=>true | .non,.bl _=>true | .bl _,.non=>true | .non,.str _=>true | .str _,.non=>true
 | .int _,.int _=>true | .bl _,.bl _=>true | .str _,.str _=>true | .byt _,.byt _=>true
 | .int _,.str _=>true | .str _,.int _=>true | .bl _,.str _=>true | .str _,.bl _=>true
 | _,_=>false
def rEq:R2:=fun x y H Q=>zQ x y=true∧Q (.bl (decide (x=y))) H
def rNe:R2:=fun x y H Q=>zQ x y=true∧Q (.bl (!decide (x=y))) H
theorem qP {i j:Int}:decide (V.int i=V.int j)=(i==j):=by
 rw [Bool.eq_iff_iff]
 simp
theorem uv {i j:Bool}:decide (V.bl i=V.bl j)=(i==j):=by
 rw [Bool.eq_iff_iff]
 simp
theorem rO {i j:Str}:decide (V.str i=V.str j)=(i==j):=by
 rw [Bool.eq_iff_iff]
 simp
theorem qU {i j:Array UInt8}:decide (V.byt i=V.byt j)=(i.toList==j.toList):=by
 rw [Bool.eq_iff_iff]
 cases i
 cases j
 simp
section
variable {X:Cx} {a b c:Expr} {ta tb tc:TE} {pos:Pos}
theorem bc {pins:List (Addr×Obj)} {σ:St} {H:Hp} {s:Shared} {Q:VK} {k k':Bool} (I:Inv X pins σ H s) (q:Q (.bl k) H) (e:k=k'):EP X pins σ Q (.bool k') s:=by
 subst e
 exact ⟨.bl k,H,I,rfl,q⟩
theorem bt:OpR X (compareOp .Eq) rEq:=by
 intro pins s σ H x y v u Q I rx ry h
 obtain ⟨hs,q⟩:=h
 cases x with
 | non =>
  cases rx
  cases y with
  | non=>cases ry; exact PySem.EqNone.eq_none_none (bc I q (by simp))
  | bl j=>cases ry; exact PySem.EqNone.eq_none_bool (bc I q (by simp))
  | int j=>obtain ⟨t',rfl⟩:=ry; exact PySem.EqNone.eq_none_int (bc I q (by simp))
  | str j=>obtain ⟨t',rfl⟩:=ry; exact PySem.EqNone.eq_none_str (bc I q (by simp))
  | _=>exact absurd (show false=true from hs) Bool.false_ne_true
 | bl i =>
  cases rx
  cases y with
  | non=>cases ry; exact PySem.EqNone.eq_bool_none (bc I q (by simp))
  | bl j=>cases ry; exact eq_bool (bc I q uv)
  | str j=>obtain ⟨t',rfl⟩:=ry; exact PySem.EqMixed.eq_bool_str (bc I q (by simp))
  | _=>exact absurd (show false=true from hs) Bool.false_ne_true
 | int i =>
  obtain ⟨t,rfl⟩:=rx
  cases y with
  | non=>cases ry; exact PySem.EqNone.eq_int_none (bc I q (by simp))
  | int j=>obtain ⟨t',rfl⟩:=ry; exact eq_int (bc I q qP)
  | str j=>obtain ⟨t',rfl⟩:=ry; exact PySem.EqMixed.eq_int_str (bc I q (by simp))
  | _=>exact absurd (show false=true from hs) Bool.false_ne_true
 | str i =>
  obtain ⟨t,rfl⟩:=rx
  cases y with
  | non=>cases ry; exact PySem.EqNone.eq_str_none (bc I q (by simp))
  | bl j=>cases ry; exact PySem.EqMixed.eq_str_bool (bc I q (by simp))
  | int j=>obtain ⟨t',rfl⟩:=ry; exact PySem.EqMixed.eq_str_int (bc I q (by simp))
  | str j=>obtain ⟨t',rfl⟩:=ry; exact eq_str (bc I q rO)
  | _=>exact absurd (show false=true from hs) Bool.false_ne_true
 | byt i =>
  obtain ⟨t,rfl⟩:=rx
  cases y with
  | byt j=>obtain ⟨t',rfl⟩:=ry; exact PySem.W.eq_bytes (bc I q qU)
  | _=>exact absurd (show false=true from hs) Bool.false_ne_true
 | _=>cases y<;>exact absurd (show false=true from hs) Bool.false_ne_true
theorem lV:OpR X (compareOp .NotEq) rNe:=by
 intro pins s σ H x y v u Q I rx ry h
 obtain ⟨hs,q⟩:=h
 cases x with
 | non =>
  cases rx
  cases y with
  | non=>cases ry; exact PySem.EqNone.ne_none_none (bc I q (by simp))
  | bl j=>cases ry; exact PySem.EqNone.ne_none_bool (bc I q (by simp))
  | int j=>obtain ⟨t',rfl⟩:=ry; exact PySem.EqNone.ne_none_int (bc I q (by simp))
  | str j=>obtain ⟨t',rfl⟩:=ry; exact PySem.EqNone.ne_none_str (bc I q (by simp))
  | _=>exact absurd (show false=true from hs) Bool.false_ne_true
 | bl i =>
  cases rx
  cases y with
  | non=>cases ry; exact PySem.EqNone.ne_bool_none (bc I q (by simp))
  | bl j=>cases ry; exact ne_bool (bc I q (congrArg not uv))
  | str j=>obtain ⟨t',rfl⟩:=ry; exact PySem.EqMixed.ne_bool_str (bc I q (by simp))
  | _=>exact absurd (show false=true from hs) Bool.false_ne_true
 | int i =>
  obtain ⟨t,rfl⟩:=rx
  cases y with
  | non=>cases ry; exact PySem.EqNone.ne_int_none (bc I q (by simp))
  | int j=>obtain ⟨t',rfl⟩:=ry; exact ne_int (bc I q (congrArg not qP))
  | str j=>obtain ⟨t',rfl⟩:=ry; exact PySem.EqMixed.ne_int_str (bc I q (by simp))
  | _=>exact absurd (show false=true from hs) Bool.false_ne_true
 | str i =>
  obtain ⟨t,rfl⟩:=rx
  cases y with
  | non=>cases ry; exact PySem.EqNone.ne_str_none (bc I q (by simp))
  | bl j=>cases ry; exact PySem.EqMixed.ne_str_bool (bc I q (by simp))
  | int j=>obtain ⟨t',rfl⟩:=ry; exact PySem.EqMixed.ne_str_int (bc I q (by simp))
  | str j=>obtain ⟨t',rfl⟩:=ry; exact ne_str (bc I q (congrArg not rO))
  | _=>exact absurd (show false=true from hs) Bool.false_ne_true
 | byt i =>
  obtain ⟨t,rfl⟩:=rx
  cases y with
  | byt j=>obtain ⟨t',rfl⟩:=ry; exact PySem.W.ne_bytes (bc I q (congrArg not qU))
  | _=>exact absurd (show false=true from hs) Bool.false_ne_true
 | _=>cases y<;>exact absurd (show false=true from hs) Bool.false_ne_true
theorem uh:OpR X (compareOp .Lt) (rI0 fun i j=>.bl (decide (i<j))):=wW fun _ _ _ _ _ _ _ q=>lt_int q
theorem ia:OpR X (compareOp .LtE) (rI0 fun i j=>.bl (decide (i≤j))):=wW fun _ _ _ _ _ _ _ q=>le_int q
theorem jJ:OpR X (compareOp .Gt) (rI0 fun i j=>.bl (decide (j<i))):=wW fun _ _ _ _ _ _ _ q=>gt_int q
theorem vo:OpR X (compareOp .GtE) (rI0 fun i j=>.bl (decide (j≤i))):=wW fun _ _ _ _ _ _ _ q=>ge_int q
theorem OpR.or {f:Value→Value→Sem Value} {r r':R2} (h:OpR X f r) (h':OpR X f r'):OpR X f (fun x y H Q=>r x y H Q∨r' x y H Q):=by
 intro pins s σ H x y v u Q I rx ry q
 rcases q with q | q
 ·exact h pins s σ H x y v u Q I rx ry q
 ·exact h' pins s σ H x y v u Q I rx ry q
theorem aD (b:Expr) {op:CmpOp} (h:op≠.In:=by decide) (h2:op≠.NotIn:=by decide):behindInMarks op b=false:=by
 have e1:(op==CmpOp.In)=false:=by cases op<;>first | rfl | exact absurd rfl h
 have e2:(op==CmpOp.NotIn)=false:=by cases op<;>first | rfl | exact absurd rfl h2
 cases b<;>simp [behindInMarks,e1,e2]
theorem bw {op:CmpOp} {r:R2} (ho:OpR X (compareOp op) r) (ha:PE X a ta) (hb:PE X b tb) (hm:behindInMarks op b=false):PE X (.Compare a [op] [b] pos) (tOp r ta tb):=by
 intro pins s σ H Q I h
 exact wpAny_Compare1 (yY ha hb I h fun v u s2 x y H2 I2 rx ry q=>ho pins s2 σ H2 x y v u Q I2 rx ry q) hm
def xY (t:TE):TT:=fun σ H Q=>t σ H fun x H'=>∃ k,x=.bl k∧Q k H'
theorem aC {op:CmpOp} {r:R2} (ho:OpR X (compareOp op) r) (ha:PE X a ta) (hb:PE X b tb) (hm:behindInMarks op b=false):PT X (.Compare a [op] [b] pos) (xY (tOp r ta tb)):=by
 intro pins s σ H Q I h
 refine wpAny_isTrue_Compare1 (thn (ha pins s σ H _ I h) fun v s1 ⟨x,H1,I1,r1,q1⟩=>thn (hb pins s1 σ H1 _ I1 q1) fun u s2 ⟨y,H2,I2,r2,q2⟩ =>
  thn (ho pins s2 σ H2 x y v u _ I2 r1 r2 q2) fun c s3 ⟨z,H3,I3,r3,k,e,q3⟩=>?_) hm
 subst e
 cases r3
 exact wpAny_truthy_bool ⟨H3,I3,q3⟩
def vx (r r':R2) (ta tb tc:TE):TE:=fun σ H Q=>ta σ H fun x H1=>tb σ H1 fun y H2=>r x y H2 fun z H3=>∃ k,z=.bl k ∧
 (if k=true then tc σ H3 fun w' H4=>r' y w' H4 Q else Q (.bl false) H3)
theorem jQ {op op':CmpOp} {r r':R2} (ho:OpR X (compareOp op) r) (ho':OpR X (compareOp op') r') (ha:PE X a ta) (hb:PE X b tb) (hc:PE X c tc)
  (hm:lastMarks [op,op'] [b,c]=false:=by with_unfolding_all rfl):PE X (.Compare a [op,op'] [b,c] pos) (vx r r' ta tb tc):=by
 intro pins s σ H Q I h
 refine Compare_chain (thn (ha pins s σ H _ I h) fun v s1 ⟨x,H1,I1,r1,q1⟩=>chain_link (thn (hb pins s1 σ H1 _ I1 q1) fun u s2 ⟨y,H2,I2,r2,q2⟩ =>
  thn (ho pins s2 σ H2 x y v u _ I2 r1 r2 q2) fun d s3 ⟨z,H3,I3,r3,k,e,q3⟩=>?_)) hm
 subst e
 cases r3
 refine wpAny_truthy_bool ?_
 cases k with
 | false=>exact ite_ff ⟨.bl false,H3,I3,rfl,q3⟩
 | true=>exact ite_tt (chain_last (thn (hc pins s3 σ H3 _ I3 q3) fun w' s4 ⟨z',H4,I4,r4,q4⟩=>ho' pins s4 σ H4 y z' u w' Q I4 r2 r4 q4))
theorem oo {op op':CmpOp} {r r':R2} (ho:OpR X (compareOp op) r) (ho':OpR X (compareOp op') r') (ha:PE X a ta) (hb:PE X b tb) (hc:PE X c tc)
  (hm:lastMarks [op,op'] [b,c]=false:=by with_unfolding_all rfl):PT X (.Compare a [op,op'] [b,c] pos) (xY (vx r r' ta tb tc)):=by
 intro pins s σ H Q I h
 refine isTrue_chain (thn (ha pins s σ H _ I h) fun v s1 ⟨x,H1,I1,r1,q1⟩=>test_link (thn (hb pins s1 σ H1 _ I1 q1) fun u s2 ⟨y,H2,I2,r2,q2⟩ =>
  thn (ho pins s2 σ H2 x y v u _ I2 r1 r2 q2) fun d s3 ⟨z,H3,I3,r3,k,e,q3⟩=>?_)) hm
 subst e
 cases r3
 refine wpAny_truthy_bool ?_
 cases k with
 | false =>
  obtain ⟨k',e',q'⟩:=q3
  cases e'
  exact ite_ff ⟨H3,I3,q'⟩
 | true =>
  refine ite_tt (test_last (thn (hc pins s3 σ H3 _ I3 q3) fun w' s4 ⟨z',H4,I4,r4,q4⟩=>thn (ho' pins s4 σ H4 y z' u w' _ I4 r2 r4 q4) fun d' s5 ⟨z2,H5,I5,r5,k2,e2,q5⟩=>?_))
  subst e2
  cases r5
  exact wpAny_truthy_bool ⟨H5,I5,q5⟩
theorem iy:(sizeLine:Nat)<2 ^ 63:=by rw [sizeLine_eq]; decide
theorem eN {x:V} {us:List Value} (r:aR [x] us):∃ u,us=[u]∧aX x u:=by
 cases r with
 | cons r1 r2=>cases r2; exact ⟨_,rfl,r1⟩
theorem mZ {x y:V} {us:List Value} (r:aR [x,y] us):∃ u w',us=[u,w']∧aX x u∧aX y w':=by
 cases r with
 | cons r1 r2 =>
  cases r2 with
  | cons r3 r4=>cases r4; exact ⟨_,_,rfl,r1,r3⟩
theorem rP (hc:X.calm=true):bW X (.builtin "min") (fun xs H Q=>∃ i j,xs=[.int i,.int j]∧Q (.int (if j<i then j else i)) H):=by
 intro pins s σ H xs us Q I r h
 obtain ⟨i,j,rfl,q⟩:=h
 obtain ⟨u,w',rfl,⟨t,rfl⟩,⟨t',rfl⟩⟩:=mZ r
 refine min_two_ints (I.ok.hd hc) fun h' tk k=>⟨_,H,I.kept k,?_,q⟩
 by_cases hj:j<i
 ·rw [if_pos hj,if_pos hj]; exact ⟨_,rfl⟩
 ·rw [if_neg hj,if_neg hj]; exact ⟨_,rfl⟩
theorem lW:bW X (.type "int") (fun xs H Q=>(∃ i,xs=[.int i]∧Q (.int i) H)∨∃ k,xs=[.bl k]∧Q (.int (if k then 1 else 0)) H):=by
 intro pins s σ H xs us Q I r h
 rcases h with ⟨i,rfl,q⟩ | ⟨k,rfl,q⟩
 ·obtain ⟨u,rfl,t,rfl⟩:=eN r
  exact call_int_int ⟨.int i,H,I,⟨_,rfl⟩,q⟩
 ·obtain ⟨u,rfl,r1⟩:=eN r
  cases r1
  exact call_int_bool ⟨.int (if k then 1 else 0),H,I.tok _,⟨_,rfl⟩,q⟩
theorem jW:bW X (.builtin "ord") (fun xs H Q=>∃ x,xs=[.str x]∧x.length=1∧Q (.int (x.cps.getD 0 0:Nat)) H):=by
 intro pins s σ H xs us Q I r h
 obtain ⟨x,rfl,hz,q⟩:=h
 obtain ⟨u,rfl,t,rfl⟩:=eN r
 exact ord_of_one hz ⟨.int _,H,I.tok _,⟨_,rfl⟩,q⟩
end
open PySem PySem.Spec PyProof.Rows
structure yE (h:Heap) (x dx C:Addr) (mA:Str→Option Value):Prop where
 obj:h.get? x=some (PySem.W.instObj C dx)
 ns:h.Ns1 dx mA
 ne:dx≠x
theorem rX {h:Heap} {dx:Addr} {mA:Str→Option Value} (n:h.Ns1 dx mA):∃ od,h.get? dx=some od∧∀ name,PySem.W.lookIn name od=some (mA name):=by
 obtain ⟨o,es,ep,ho,hd,hk,_,hm⟩:=n
 refine ⟨o,ho,fun name=>?_⟩
 have e:=hm name
 unfold nsFind findBy at e
 rw [← Array.find?_toList] at e
 unfold PySem.W.lookIn
 rw [hd]
 dsimp only
 split
 ·rename_i y q
  rw [q] at e
  exact congrArg some e
 ·rename_i q
  rw [q] at e
  have a:es.toList.any (·.refKey)=false:=by
   rw [List.any_eq_false]
   intro y hy
   obtain ⟨z,t,hkey⟩:=hk y (Array.mem_toList_iff.mp hy)
   simp [DictEntry.refKey,hkey]
  have a':¬ es.toList.any (·.refKey)=true:=by rw [a]; exact Bool.false_ne_true
  rw [if_neg a']
  exact congrArg some e
theorem yE.look {h:Heap} {x dx C:Addr} {mA:Str→Option Value} (I:yE h x dx C mA):∃ od,PySem.W.InstAt h x (PySem.W.instObj C dx) C (some od)∧∀ name,PySem.W.lookIn name od=some (mA name) :=
 let ⟨od,ho,hl⟩:=rX I.ns
 ⟨od,⟨I.obj,rfl,rfl,ho⟩,hl⟩
section
variable {prog:Program} {w:World} {A:Around} {E:Value→Shared→Prop} {s:Shared} {K:Frag} {x dx C f:Addr} {mA:Str→Option Value} {name:Str} {v:Value}
end
theorem il.some_of {v:V} {o:Option Value} (r:il (some v) o):∃ u,o=some u∧aX v u:=by
 cases o with
 | none=>exact (show False from r).elim
 | some u=>exact ⟨u,rfl,r⟩
section
variable {P:Program} {w:World} {H H':Hp} {h h':Heap} {a C dx:Addr} {fs fs':List (Str×V)}
theorem xg (hok:HOk P w H h) (e:H a=some (.ins C dx fs)):∃ mA,yE h a dx C mA∧(∀ f,il (fs.lookup f) (mA f))∧PySem.Within mA (fs.map (·.1))∧fs.length≤1000∧H dx=some (.own a):=by
 obtain ⟨d,z,ne,ob,mA,n,r,q⟩:=(show bm P w H h a (.ins C dx fs) from hok a _ e)
 exact ⟨mA,⟨ob,n,ne⟩,r,q,z,d⟩
end
structure Cls (K:Frag) (C:Addr):Prop where
 pg:PySem.W.plainGet K C Str.empty=true
 hd:PySem.W.hasDictIn K C=true
 po:PySem.W.plainOver K C=true
 sa:PySem.W.findIn K (.ref C) "__setattr__"=some (some (.builtin "object.__setattr__"))
theorem Cls.get {K:Frag} {C:Addr} (c:Cls K C) (f:Str):PySem.W.plainGet K C f=true:=c.pg
section
variable {X:Cx} {pins:List (Addr×Obj)} {σ:St} {H:Hp} {s:Shared} {a C dx:Addr} {fs:List (Str×V)} {f:Str} {v:V} {A:Around} {E:Value→Shared→Prop}
end
section
variable {X:Cx} {o e value:Expr} {f:Str} {pos pos' tpos:Pos} {ta tv:TE}
end
section
variable {X:Cx} {pins:List (Addr×Obj)} {σ:St} {H:Hp} {s:Shared} {A:Around} {E:Value→Shared→Prop} {Q:Value→Shared→Prop} {c:Value} {b:Bool}
inductive gQ (K:Frag) (H:Hp):V→Value→Prop where
 | non:gQ K H .non (.type "NoneType")
 | bl (x:Bool):gQ K H (.bl x) (.type "bool")
 | int (i:Int):gQ K H (.int i) (.type "int")
 | str (x:Str):gQ K H (.str x) (.type "str")
 | flt (x:UInt64):gQ K H (.flt x) (.type "float")
 | lst {a:Addr} {xs:List V} (e:H a=some (.lst xs)):gQ K H (.ref a) (.type "list")
 | frz {a:Addr} {o:Obj} {xs:List V} (e:H a=some (.frz o (.lst xs))):gQ K H (.ref a) (.type "list")
 | tup {a:Addr} {xs:List V} (e:H a=some (.tup xs)):gQ K H (.ref a) (.type "tuple")
 | dK {a:Addr} {kvs:List (Key×V)} (e:H a=some (.dK kvs)):gQ K H (.ref a) (.type "dict")
 | dT {a:Addr} {kvs:List (PyData×V)} (e:H a=some (.dT kvs)):gQ K H (.ref a) (.type "dict")
 | ins {a C dx:Addr} {fs:List (Str×V)} (e:H a=some (.ins C dx fs)) (cl:Cls K C) (ha:PySem.W.findIn K (.ref C) "__class__"=some (some (.builtin "object.__class__")))
   (hn:PySem.W.specialIn K (.builtin "object.__class__") "__get__"=some (some (.builtin "getset_descriptor.__get__"))) (htk:PySem.W.takesIn K (.builtin "object.__class__")=some true)
   (hm:PySem.W.mroIn K C (.type "object")=some true):gQ K H (.ref a) (.ref C)
theorem sm {x:V} {u t:Value} (I:Inv X pins σ H s) (rx:aX x u) (ty:gQ X.K H x t) (e:PySem.W.kitOne X.K t c=some b) (h:∀ tk,Q (.bool b) { s with toks:=tk }) :
  wpAny (model X.prog X.w) A (call (.builtin "isinstance") [u,c]) Q E s:=by
 cases ty with
 | non=>cases (show u=Value.none from rx); exact PySem.W.kia_one PySem.W.kitx_none I.kIn True.intro e (fun z=>nomatch z) h
 | bl y=>cases (show u=Value.bool y from rx); exact PySem.W.kia_one PySem.W.kitx_bool I.kIn True.intro e (fun z=>nomatch z) h
 | int i=>obtain ⟨t,q⟩:=(show ∃ t,u=Value.int i t from rx); cases q; exact PySem.W.kia_one PySem.W.kitx_int I.kIn True.intro e (fun z=>nomatch z) h
 | str y=>obtain ⟨t,q⟩:=(show ∃ t,u=Value.str y t from rx); cases q; exact PySem.W.kia_one PySem.W.kitx_str I.kIn True.intro e (fun z=>nomatch z) h
 | flt y=>obtain ⟨t,q⟩:=(show ∃ t,u=Value.float y t from rx); cases q; exact PySem.W.kia_one PySem.W.kitx_float I.kIn True.intro e (fun z=>nomatch z) h
 | @lst a xs ea =>
  cases (show u=Value.ref a from rx)
  obtain ⟨_,_,n,_,h1⟩:=(show bm X.prog X.w H s.heap a (.lst xs) from I.hok a _ ea)
  exact PySem.W.kia_one PySem.W.kitx_list I.kIn ⟨_,h1,rfl⟩ e (fun z=>nomatch z) h
 | @frz a ob xs ea =>
  cases (show u=Value.ref a from rx)
  obtain ⟨_,_,_,n,_,h1⟩:=(show bm X.prog X.w H s.heap a (.frz ob (.lst xs)) from I.hok a _ ea)
  exact PySem.W.kia_one PySem.W.kitx_list I.kIn ⟨_,h1,rfl⟩ e (fun z=>nomatch z) h
 | @tup a xs ea =>
  cases (show u=Value.ref a from rx)
  obtain ⟨_,_,_,p,_⟩:=(show bm X.prog X.w H s.heap a (.tup xs) from I.hok a _ ea)
  obtain ⟨o,h1,h2,_⟩:=p
  exact PySem.W.kia_one PySem.W.kitx_tuple I.kIn ⟨o,h1,h2⟩ e (fun z=>nomatch z) h
 | @dK a kvs ea =>
  cases (show u=Value.ref a from rx)
  obtain ⟨_,_,vs,_,p⟩:=(show bm X.prog X.w H s.heap a (.dK kvs) from I.hok a _ ea)
  obtain ⟨o,es,ep,h1,h2,_⟩:=p
  exact PySem.W.kia_one PySem.W.kitx_dict I.kIn ⟨o,h1,h2.1⟩ e (fun z=>nomatch z) h
 | @dT a kvs ea =>
  cases (show u=Value.ref a from rx)
  obtain ⟨_,_,xs,_,o,es,ep,h1,h2,_⟩:=(show bm X.prog X.w H s.heap a (.dT kvs) from I.hok a _ ea)
  exact PySem.W.kia_one PySem.W.kitx_dict I.kIn ⟨o,h1,h2.1⟩ e (fun z=>nomatch z) h
 | @ins a C dx fs ea cl ha hn htk hm =>
  cases (show u=Value.ref a from rx)
  obtain ⟨mA,O,_⟩:=xg I.hok ea
  obtain ⟨od,J,_⟩:=O.look
  exact PySem.W.kia_one (PySem.W.kitx_own (cl.get _) cl.hd ha hn htk hm) I.kIn J e (fun z=>nomatch z) h
end
open PySem PySem.Spec PyProof.Rows
structure eQ (k:Nat) (A:Around):Prop where
 hd:A.handled=none
 dp:A.depth+3*k+5<recursionLimit
 un:A.units+16*k+200<cLine
 gd:A.guards=some []
theorem eQ.mono {j k:Nat} {A:Around} (r:eQ k A) (h:j≤k):eQ j A:=⟨r.hd,by have:=r.dp; omega,by have:=r.un; omega,r.gd⟩
theorem eQ.deeper {k:Nat} {A:Around} (r:eQ (k+1) A) (env:Env):eQ k (A.deeper env) :=
 ⟨r.hd,by have:=r.dp; show A.depth+1+3*k+5<_; omega,by have:=r.un; show A.units+3+16*k+200<_; omega,r.gd⟩
theorem eQ.depth {k:Nat} {A:Around} (r:eQ k A):A.depth<recursionLimit:=by have:=r.dp; omega
theorem eQ.units {k:Nat} {A:Around} (r:eQ k A):A.units+64<cLine:=by have:=r.un; omega
def AG:TA:=fun _ H Q=>Q [] H
def xH (ta:TE) (tr:TA):TA:=fun σ H Q=>ta σ H fun x H1=>tr σ H1 fun xs H2=>Q (x::xs) H2
section
variable {X:Cx} {e:Expr} {es:List Expr} {te:TE} {t:TA} {pos:Pos}
theorem ah:PA X [] AG:=fun _ _ _ _ H Q I h=>Calls.spliced_nil ⟨[],H,I,.nil,h⟩
theorem ad (ha:PE X e te) (hr:PA X es t) (hs:starEach (e::es) X.env=(false,eval e X.env)::starEach es X.env:=by exact ac rfl):PA X (e::es) (xH te t):=by
 intro pos pins s σ H Q I h
 rw [hs]
 show wpAny _ _ (spliced ((false,eval e X.env)::backTo pos (starEach es X.env))) _ _ s
 refine Calls.spliced_cons (thn (ha pins s σ H _ I h) fun u s1 ⟨x,H1,I1,r1,q1⟩=>?_)
 exact thn (hr pos pins s1 σ H1 _ I1 q1) fun us s2 ⟨xs,H2,I2,r2,q2⟩=>⟨x::xs,H2,I2,.cons r1 r2,q2⟩
def Ba (t:TA):TE:=fun σ H Q=>t σ H fun xs H1=>xs.length≤sizeLine∧∀ p,H1 p=none→Q (.ref p) (upd H1 p (.tup xs))
def Bc (t:TA):TE:=fun σ H Q=>t σ H fun xs H1=>xs.length≤sizeLine∧∀ p,H1 p=none→Q (.ref p) (upd H1 p (.lst xs))
theorem aQ {x1} (h:PA X es t):PE X (.Tuple es x1 pos) (Ba t):=by
 intro pins s σ H Q I hq
 refine wpAny_Tuple_spliced (thn (h pos pins s σ H _ I hq) fun us s1 ⟨xs,H1,I1,r,z,q⟩=>⟨by rw [← r.length]; exact z,?_⟩)
 have hf:H1 s1.heap.objs.size=none:=I1.hok.fresh (Nat.le_refl _)
 refine ⟨.ref s1.heap.objs.size,upd H1 s1.heap.objs.size (.tup xs),I1.laid (t':=s1.toks) (fun b u e=>Heap.get?_push_of_some _ e) (Nat.le_refl _) ?_,rfl,q _ hf⟩
 exact ⟨z,us,r,⟨_,Heap.get?_push_size _ rfl,rfl,_,rfl⟩,_,Heap.get?_push_size _ rfl,rfl⟩
theorem aY (h:PA X es t):PE X (.List es pos) (Bc t):=by
 intro pins s σ H Q I hq
 refine wpAny_List_spliced (thn (h pos pins s σ H _ I hq) fun us s1 ⟨xs,H1,I1,r,z,q⟩=>⟨by rw [← r.length]; exact z,?_⟩)
 have hf:H1 s1.heap.objs.size=none:=I1.hok.fresh (Nat.le_refl _)
 refine ⟨.ref s1.heap.objs.size,upd H1 s1.heap.objs.size (.lst xs),I1.laid (t':=s1.toks) (fun b u e=>Heap.get?_push_of_some _ e) (Nat.le_refl _) ?_,rfl,q _ hf⟩
 exact ⟨z,us,0,r,Heap.get?_push_size _ rfl⟩
end
abbrev Sp:=List V→Hp→VK→XK→Prop
abbrev CXT:=List Env→Hp→Shared→XK→Value→Shared→Prop
structure xD (P:Program) (w:World) (K:Frag) (mg:Str→Option Value) (base:Heap) (A:Around) (outer:List Env) (s:Shared) (H:Hp):Prop where
 frames:A.frames=some outer
 mod:Mod K mg base
 bs:∀ b o,base.get? b=some o→s.heap.get? b=some o∧H b=none
 bsz:base.objs.size≤s.heap.objs.size
 funs:s.heap.FunFrames base outer
 frf:∀ b∈frs outer,H b=none
 hok:HOk P w H s.heap
 bare:AllBare s.gens
def CE (outer:List Env) (P:Program) (w:World) (H:Hp) (s:Shared) (Q:VK) (u:Value) (s':Shared):Prop :=
 ∃ v H',s'.os=s.os∧AllBare s'.gens∧Un (frs outer) [] H H' s.heap s'.heap∧HOk P w H' s'.heap∧aX v u∧Q v H'
def CR (CX:CXT) (outer:List Env) (P:Program) (w:World) (H:Hp) (s:Shared) (Q:VK) (E:XK) (r:Result) (s':Shared):Prop :=
 match r with
 | .ok (.ret u)=>CE outer P w H s Q u s'
 | .ok _=>False
 | .error e=>CX outer H s E e s'
structure bI (P:Program) (w:World) (K:Frag) (mg:Str→Option Value) (base:Heap) (CX:CXT) (k:Nat) (f:Addr) (fd:FuncData) (ps:List Str) (sp:Sp):Prop where
 len:∀ vs H Q E,sp vs H Q E→vs.length=ps.length
 run:∀ (A:Around) (outer:List Env) (s:Shared) (H:Hp) (args:Args) (us:List Value) (vs:List V) (Q:VK) (E:XK),eQ k A→xD P w K mg base A outer s H→BindsTo s fd args (ps.zip us)→aR vs us→sp vs H Q E →
  codeAny (model P w) A (.call (.ref f) args) (CR CX outer P w H s Q E) s
section
variable {X:Cx} {pins:List (Addr×Obj)} {σ:St} {H:Hp} {s s':Shared}
theorem Inv.env0 (I:Inv X pins σ H s):xD X.prog X.w X.K X.mg X.base X.A X.stack s H :=
 ⟨I.ok.frames,I.ok.mod,I.bs,Nat.le_trans I.ok.bsz I.sz,I.stack,I.stkFree,I.hok,I.bare⟩
theorem Inv.after {Q:VK} {u:Value} (I:Inv X pins σ H s) (h:CE X.stack X.prog X.w H s Q u s'):EP X pins σ Q u s':=by
 obtain ⟨v,H',os,bare,un,hok,r,q⟩:=h
 obtain ⟨hh,g,d,t,os'⟩:=s'
 obtain rfl:os'=s.os:=os
 exact ⟨v,H',I.call (h':=hh) (g':=g) (d':=d) (t':=t) (ch:=[]) un hok bare (fun b z=>absurd z (by simp)),r,q⟩
end
def Ao (sp:Sp) (dvs:List V) (E:XK) (t:TA):TE:=fun σ H Q=>t σ H fun vs H1=>sp (vs++dvs) H1 Q E
def ib (K:Frag) (fd:FuncData) (ps:List Str) (ds:List Value):Prop :=
 ∀ (s:Shared) (us:List Value),K.In s.heap→(us++ds).length=ps.length→BindsTo s fd ⟨us,[]⟩ (ps.zip (us++ds))
theorem ib.all {K:Frag} {fd:FuncData} {ps:List Str} (h:∀ us:List Value,us.length=ps.length→bindArgs fd ⟨us,[]⟩=pure (ps.zip us)):ib K fd ps []:=fun s us _ hl=>by
 rw [List.append_nil] at hl ⊢
 exact .of_eq (h us hl)
def qt (CX:CXT) (X:Cx) (E:XK):Prop:=∀ (pins:List (Addr×Obj)) (σ:St) (H:Hp) (s:Shared) (e:Value) (s':Shared),Inv X pins σ H s→CX X.stack H s E e s'→X.xe e s'
section
variable {X:Cx} {CX:CXT} {k:Nat} {f C:Addr} {fd:FuncData} {ps:List Str} {sp:Sp} {dvs:List V} {ds:List Value} {E:XK} {x m:Str} {p pos apos:Pos} {e o:Expr} {es:List Expr} {ta:TE} {t:TA}
theorem zC {pins:List (Addr×Obj)} {σ:St} {H:Hp} {s:Shared} {Q:VK} {us:List Value} {vs:List V} (F:bI X.prog X.w X.K X.mg X.base CX k f fd ps sp) (hr:eQ k X.A) (hb:ib X.K fd ps ds) (hd:aR dvs ds) (hx:qt CX X E)
  (I:Inv X pins σ H s) (r:aR vs us) (h:sp (vs++dvs) H Q E):wpAny (model X.prog X.w) X.A (call (.ref f) us) (EP X pins σ Q) X.xe s:=by
 have r2:aR (vs++dvs) (us++ds):=r.append hd
 have hl:(us++ds).length=ps.length:=by rw [← r2.length]; exact F.len _ _ _ _ h
 refine wpAny_call (codeAny_mono (F.run X.A X.stack s H ⟨us,[]⟩ (us++ds) (vs++dvs) Q E hr I.env0 (hb s us I.kIn hl) r2 h) fun r s' hq=>?_)
 cases r with
 | error e=>exact hx pins σ H s e s' I hq
 | ok fl =>
  cases fl with
  | ret u=>exact I.after hq
  | next=>exact False.elim hq
  | brk=>exact False.elim hq
  | cont=>exact False.elim hq
theorem au (F:bI X.prog X.w X.K X.mg X.base CX k f fd ps sp) (hr:eQ k X.A) (hg:Gl X x) (hm:X.mg x=some (.ref f)) (hk:keepIn X.K (.ref f)=true) (hb:ib X.K fd ps ds) (hd:aR dvs ds) (hx:qt CX X E)
  (ha:PA X (e::es) t) (hdb:(x==("__debug__":Str))=false:=by decide) (he:starEach (e::es) X.env=(false,eval e X.env)::starEach es X.env:=by exact ac rfl) (hpl:(backTo pos (starEach es X.env)).any (·.1)=false:=by exact aj rfl) :
  PE X (.Call (.Name x p) (e::es) [] pos) (Ao sp dvs E t):=by
 intro pins s σ H Q I h
 refine wpAny_Call_Name_kw (qR I hg hm ?_ hdb)
 refine PySem.W.callWith_K (h₀:=X.base) I.ok.mod.kin hk (thn (ha pos pins s σ H _ I h) fun us s1 ⟨vs,H1,I1,r,q⟩=>⟨I1.kIn,?_⟩) he hpl
 exact zC F hr hb hd hx I1 r q
end
section
variable {X:Cx} {CX:CXT} {k:Nat} {f C:Addr} {fd:FuncData} {ps ks:List Str} {sp:Sp} {E:XK} {x m:Str} {p pos apos kpos:Pos} {e o:Expr} {es:List Expr} {kws:List Keyword} {te ta:TE} {t tk:TA} {nm:Option Str}
variable {g:List Value→List Value→List Value} {gV:List V→List V→List V}
end
structure aU (N P:List Str) (sc:Scope):Prop where
 kind:sc.kind=.function
 co:sc.isCoroutine=false
 gen:sc.isGenerator=false
 nd:N.Nodup
 pre:N.take P.length=P
 par:∀ x∈P,sc.names.lookup x=some .local∨sc.names.lookup x=some .cell
 nofree:∀ y∈sc.names,y.2≠.free
theorem lM {kindOf:Str→Option NameKind} {x:Str}:∀ {binds:List (Str×Value)} {m:Str→Option Value},(∀ v,(x,v)∉binds)→bindL kindOf binds m x=m x
 | [],_,_=>rfl
 | (n,v)::r,m,h=>by
  unfold bindL
  rw [lM fun w hw=>h w (List.mem_cons_of_mem _ hw)]
  split
  ·have:x≠n:=by rintro rfl; exact h v List.mem_cons_self
   simp [this]
  ·rfl
theorem kZ {kindOf:Str→Option NameKind} {x:Str}:∀ {binds:List (Str×Value)} {m:Str→Option Value},(∀ v,(x,v)∉binds)→bindC kindOf binds m x=m x
 | [],_,_=>rfl
 | (n,v)::r,m,h=>by
  unfold bindC
  rw [kZ fun w hw=>h w (List.mem_cons_of_mem _ hw)]
  split
  ·rfl
  ·have:x≠n:=by rintro rfl; exact h v List.mem_cons_self
   simp [this]
theorem lb {kindOf:Str→Option NameKind} {x:Str} {v:Value}:∀ {P:List Str} {vs:List Value} {i:Nat} {m:Str→Option Value},P.Nodup→P[i]?=some x→vs[i]?=some v→kindOf x=some .local →
  bindL kindOf (P.zip vs) m x=some v
 | [],_,_,_,_,h,_,_=>by simp at h
 | _::_,[],_,_,_,_,h,_=>by simp at h
 | p::P,w::vs,0,m,nd,h1,h2,hk=>by
  simp at h1 h2; subst h1; subst h2
  show bindL kindOf ((p,w)::P.zip vs) m p=_
  unfold bindL
  rw [lM fun v hv=>(List.nodup_cons.mp nd).1 (List.of_mem_zip hv).1,if_pos hk]
  simp
 | p::P,w::vs,i+1,m,nd,h1,h2,hk=>by
  show bindL kindOf ((p,w)::P.zip vs) m x=_
  unfold bindL
  exact lb (i:=i) (List.nodup_cons.mp nd).2 (by simpa using h1) (by simpa using h2) hk
theorem lA {kindOf:Str→Option NameKind} {x:Str} {v:Value}:∀ {P:List Str} {vs:List Value} {i:Nat} {m:Str→Option Value},P.Nodup→P[i]?=some x→vs[i]?=some v→kindOf x≠some .local →
  bindC kindOf (P.zip vs) m x=some v
 | [],_,_,_,_,h,_,_=>by simp at h
 | _::_,[],_,_,_,_,h,_=>by simp at h
 | p::P,w::vs,0,m,nd,h1,h2,hk=>by
  simp at h1 h2; subst h1; subst h2
  show bindC kindOf ((p,w)::P.zip vs) m p=_
  unfold bindC
  rw [kZ fun v hv=>(List.nodup_cons.mp nd).1 (List.of_mem_zip hv).1,if_neg hk]
  simp
 | p::P,w::vs,i+1,m,nd,h1,h2,hk=>by
  show bindC kindOf ((p,w)::P.zip vs) m x=_
  unfold bindC
  exact lA (i:=i) (List.nodup_cons.mp nd).2 (by simpa using h1) (by simpa using h2) hk
def iM (N:List Str) (vs:List V):St:=vs.map some++List.replicate (N.length - vs.length) none
def rV (CX:CXT) (P:Program) (w:World) (K:Frag) (mg:Str→Option Value) (base:Heap) (N:List Str) (qual:Str) (scope:Scope) (f:Addr) (cd:Value) (A:Around) (outer:List Env) (s:Shared) (H:Hp) (E:XK):Cx where
 prog:=P
 w:=w
 K:=K
 mg:=mg
 base:=base
 A:=A.deeper (envOfC qual scope s.heap.objs.size f cd)
 N:=N
 s₀:=s
 H₀:=H
 env:=envOfC qual scope s.heap.objs.size f cd
 outer:=outer
 stack:=envOfC qual scope s.heap.objs.size f cd::outer
 ex:=[]
 calm:=true
 fn:=fun _=>true
 pn:=[]
 xe:=fun e s'=>wpAny (model P w) (A.deeper (envOfC qual scope s.heap.objs.size f cd)) (leaving (envOfC qual scope s.heap.objs.size f cd) e) (fun _ s''=>CX outer H s E e s'') (fun e' s''=>CX outer H s E e' s'') s'
theorem ng {sc:Scope} {n:Nat} {x:Str} (h:sc.names.lookup x=some .cell):∃ c,(cellsFrom n sc.names []).lookup x=some c:=by
 have q:=PySem.W.cellsFrom_some sc.names n [] (.inl h)
 exact Option.isSome_iff_exists.mp q
theorem sV {CX:CXT} {P:Program} {w:World} {K:Frag} {mg:Str→Option Value} {base:Heap} {N ps:List Str} {qual:Str} {scope:Scope} {f:Addr} {cd:Value} {A:Around} {outer:List Env} {s s1:Shared} {H:Hp} {E:XK} {us:List Value} {vs:List V}
  (S:aU N ps scope) (hd:A.handled=none) (e0:xD P w K mg base A outer s H) (hl:vs.length=ps.length) (r:aR vs us)
  (x:InCallC s s.heap.objs.size (bindL (envOfC qual scope s.heap.objs.size f cd).kindOf (ps.zip us) fun _=>none) (cellsFrom (s.heap.objs.size+1) scope.names []) (bindC (envOfC qual scope s.heap.objs.size f cd).kindOf (ps.zip us) fun _=>none) s1) :
  Inv (rV CX P w K mg base N qual scope f cd A outer s H E) [] (iM N vs) H s1:=by
 have hpl:ps.length≤N.length:=by have:=congrArg List.length S.pre; rw [List.length_take] at this; omega
 obtain ⟨h1,tk,rfl,hk⟩:=x.done
 have noA:∀ b:Addr,b∉(rV CX P w K mg base N qual scope f cd A outer s H E).ex:=fun b z=>absurd (show b∈([]:List Addr) from z) (by simp)
 refine ⟨⟨e0.mod,S.kind,rfl,rfl,Nat.le_refl _,fun y z c h1 h2=>?_,fun y hy=>?_,fun y c _ h=>?_,fun _=>hd,Around.frames_deeper e0.frames,.inr ⟨rfl,rfl⟩,fun b z=>absurd z (noA b),e0.bs,e0.bsz,fun b _ _=>noA b,fun b z=>absurd z (noA b),e0.funs,e0.frf⟩,
  rfl,e0.bare,Un.kept hk,⟨_,x.toInCall.ns,fun i y v h1 h2 h3=>?_⟩,fun y c h=>⟨_,x.cell y c h⟩,e0.hok.fresh (Nat.le_refl _),fun y c h=>?_,fun p hp=>absurd (show p∈([]:List (Addr×Obj)) from hp) (by simp),e0.hok.kept hk,?_⟩
 ·exact name_of_addr x.apart (PySem.mem_of_lookup h1) (PySem.mem_of_lookup h2)
 ·have hy:scope.names.lookup y=some .cell∨scope.names.lookup y=some .free:=hy
  rcases hy with hy | hy
  ·exact ng hy
  ·exact absurd rfl (S.nofree _ (PySem.mem_of_lookup hy))
 ·exact Nat.le_of_lt (x.above y c (PySem.mem_of_lookup h))
 ·have hi:i<vs.length:=by
   unfold iM at h2
   by_cases hi:i<vs.length
   ·exact hi
   ·rw [List.getElem?_append_right (by simpa using hi)] at h2
    rw [List.getElem?_replicate] at h2
    split at h2<;>cases h2
  have ha:vs[i]?=some v:=by
   unfold iM at h2
   rw [List.getElem?_append_left (by simpa using hi),List.getElem?_map] at h2
   cases e:vs[i]? with
   | none=>rw [e] at h2; cases h2
   | some a=>rw [e] at h2; cases h2; rfl
  obtain ⟨u,hu,rv⟩:=r.get ha
  have hp:ps[i]?=some y:=by
   rw [← S.pre,List.getElem?_take_of_lt (by omega)]; exact h1
  have ndP:ps.Nodup:=by rw [← S.pre]; exact S.nd.sublist (List.take_sublist _ _)
  refine ⟨u,rv,?_⟩
  rcases S.par y (List.mem_of_getElem? hp) with k | k
  ·exact .inl ⟨k,lb ndP hp hu k⟩
  ·obtain ⟨c,e⟩:=ng (n:=s.heap.objs.size+1) k
   refine .inr ⟨.inl k,c,e,?_⟩
   have q:=x.cell y c e
   rw [lA ndP hp hu (by show scope.names.lookup y≠_; rw [k]; decide)] at q
   exact q
 ·exact e0.hok.fresh (Nat.le_of_lt (x.above y c (PySem.mem_of_lookup h)))
 ·unfold iM
  show _=N.length
  rw [List.length_append,List.length_map,List.length_replicate]
  omega
theorem Ap {CX:CXT} {P:Program} {w:World} {K:Frag} {mg:Str→Option Value} {base:Heap} {k:Nat} {f:Addr} {name qual:Str} {params:Arguments} {body:List Stmt} {scope:Scope} {dV kV doc pm cdv ct oc:Value} {an od:Option Addr}
  {osl:Array (Option Value)} {N ps:List Str} {sp:Sp} (lk:K.lookup f=some ⟨oc,od,.func (PySem.W.fnOf name qual params body scope dV kV doc pm an cdv ct),osl⟩) (hcd:PySem.W.codeIn K cdv qual=true) (S:aU N ps scope)
  (len:∀ vs H Q E,sp vs H Q E→vs.length=ps.length)
  (hbody:∀ (A:Around) (outer:List Env) (s:Shared) (H:Hp) (vs:List V) (Q:VK) (E:XK),eQ k (A.deeper (envOfC qual scope s.heap.objs.size f cdv))→sp vs H Q E →
   ∃ t,PSs (rV CX P w K mg base N qual scope f cdv A outer s H E) body t∧t { nx:=fun _ H'=>Q .non H',rt:=Q } (iM N vs) H) :
  bI P w K mg base CX (k+1) f (PySem.W.fnOf name qual params body scope dV kV doc pm an cdv ct) ps sp:=by
 refine ⟨len,fun A outer s H args us vs Q E hr e0 hb r hsp=>?_⟩
 have hl:=len _ _ _ _ hsp
 have KX:K.In s.heap:=e0.mod.kin.keeps fun b o e=>(e0.bs b o e).1
 have lim:s.heap.NoLimit:=e0.mod.nolimit.keeps fun b o e=>(e0.bs b o e).1
 have hkind:∀ y∈ps.zip us,scope.names.lookup y.1=some .local∨(scope.names.lookup y.1=some .cell∧((cellsFrom (s.heap.objs.size+1) scope.names []).lookup y.1).isSome=true):=fun ⟨n,v⟩ hy=>by
  rcases S.par n (List.of_mem_zip hy).1 with q | q
  ·exact .inl q
  ·exact .inr ⟨q,PySem.W.cellsFrom_some _ _ _ (.inl q)⟩
 refine codeAny_call_function hr.depth (KX _ _ lk) rfl S.co S.gen rfl (PySem.W.codeRec_of KX hcd) (hb _ _ _ _ ?_)
 refine wpAny_newFunctionEnv_cells S.kind hkind fun env he s1 x=>?_
 subst he
 refine ⟨lim.keeps x.toInCall.keep,codeAny_func ?_⟩
 obtain ⟨t,ht,hq⟩:=hbody A outer s H vs Q E (hr.deeper _) hsp
 have I:Inv (rV CX P w K mg base N qual scope f cdv A outer s H E) [] (iM N vs) H s1:=sV S hr.hd e0 hl r x
 refine wpAny_mono (ht [] s1 (iM N vs) H _ I hq) (fun fl s' hs=>?_) fun e s' hs=>hs
 have fin:∀ {σ':St} {H':Hp} {v:V} {u:Value},Inv (rV CX P w K mg base N qual scope f cdv A outer s H E) [] σ' H' s'→aX v u→Q v H'→CE outer P w H s Q u s' :=
  fun {σ' H' v u} J rv q=>⟨v,H',J.os,J.bare,J.base,J.hok,rv,q⟩
 cases fl with
 | ret u =>
  obtain ⟨v,σ',H',J,rv,q⟩:=hs
  exact fin J rv q
 | next =>
  obtain ⟨σ',H',J,q⟩:=hs
  exact fin (v:=V.non) (u:=Value.none) J rfl q
 | brk =>
  obtain ⟨_,_,_,q⟩:=hs
  exact False.elim q
 | cont =>
  obtain ⟨_,_,_,q⟩:=hs
  exact False.elim q
open PySem PySem.Spec PyProof.Rows
section
variable {X:Cx} {x:Str} {p pos:Pos} {e:Expr} {es:List Expr} {t:TA} {id T:String} {r:List V→Hp→VK→Prop}
def tCB (r:List V→Hp→VK→Prop) (t:TA):TE:=fun σ H Q=>t σ H fun vs H1=>r vs H1 Q
theorem ay (hc:bW X (.builtin id) r) (hg:Gl X x) (hm:X.mg x=none) (hv:bootBuiltins x=some (.builtin id)) (ha:PA X (e::es) t) (hn:x ≠ "__name__":=by decide) (hdb:(x==("__debug__":Str))=false:=by decide)
  (he:starEach (e::es) X.env=(false,eval e X.env)::starEach es X.env:=by exact ac rfl) (hpl:(backTo pos (starEach es X.env)).any (·.1)=false:=by exact aj rfl):PE X (.Call (.Name x p) (e::es) [] pos) (tCB r t):=by
 intro pins s σ H Q I h
 refine wpAny_Call_Name_kw (eY I hg hm hv ?_ hn hdb)
 exact PyProof.Rows.callWith_builtin1 (thn (ha pos pins s σ H _ I h) fun us s1 ⟨vs,H1,I1,r1,q1⟩=>hc pins s1 σ H1 vs us Q I1 r1 q1) he hpl
theorem bq (hc:bW X (.type T) r) (hg:Gl X x) (hm:X.mg x=none) (hv:bootBuiltins x=some (.type T)) (ha:PA X (e::es) t) (hn:x ≠ "__name__":=by decide) (hdb:(x==("__debug__":Str))=false:=by decide)
  (he:starEach (e::es) X.env=(false,eval e X.env)::starEach es X.env:=by exact ac rfl) (hpl:(backTo pos (starEach es X.env)).any (·.1)=false:=by exact aj rfl):PE X (.Call (.Name x p) (e::es) [] pos) (tCB r t):=by
 intro pins s σ H Q I h
 refine wpAny_Call_Name_kw (eY I hg hm hv ?_ hn hdb)
 exact PyProof.Rows.callWith_type1 (thn (ha pos pins s σ H _ I h) fun us s1 ⟨vs,H1,I1,r1,q1⟩=>hc pins s1 σ H1 vs us Q I1 r1 q1) he hpl
end
end L2
namespace HT
open PySem PyProof.Rows
section
open PySem.SeqAt
open PySem.AutoSeq1 (wpAny_loadPart')
open PySem.MeetsSeq PySem.MeetsSeq2 PySem.MeetsSeq3
end
section
variable {prog:Program} {w:World} {A:Around} {E:Value→Shared→Prop} {s:Shared}
theorem cat_tup {t b:Addr} {vs ws:List Value} {Q:Value→Shared→Prop} (ht:IsTup s.heap t vs.toArray) (hb:IsTup s.heap b ws.toArray) (hv:vs≠[])
  (h1:ws=[]→Q (.ref t) s) (h2:ws≠[]→Q (.ref s.heap.objs.size) { s with heap:=s.heap.push { cls:=.type "tuple",data:=.seq (vs++ws).toArray } })
  (hsz:vs.length+ws.length≤sizeLine):wpAny (model prog w) A (binaryOp .Add (.ref t) (.ref b)) Q E s:=by
 obtain ⟨⟨cls,dd,data,sl⟩,ho,hc,n,hd⟩:=id ht
 obtain ⟨⟨cls2,dd2,data2,sl2⟩,ho2,hc2,n2,hd2⟩:=id hb
 simp only at hc hd hc2 hd2
 subst hc hd hc2 hd2
 have e:vs.toArray++ws.toArray=(vs++ws).toArray:=by simp
 by_cases hw:ws=[]
 ·exact concat_meets ⟨_,ho,rfl⟩ ⟨_,ho2,rfl⟩ noFill_tuple_add seq_tuple_add PySem.F.slot_tuple_add PySem.F.entry_tuple_add (PySem.F.args_tuple_add_2 _ _)
   (tuple_addW1 t b vs.toArray ws.toArray n n2 dd dd2 sl sl2 (by simpa using hv) (by simp [hw])) ⟨ho,ho2,h1 hw⟩
 ·refine concat_meets ⟨_,ho,rfl⟩ ⟨_,ho2,rfl⟩ noFill_tuple_add seq_tuple_add PySem.F.slot_tuple_add PySem.F.entry_tuple_add (PySem.F.args_tuple_add_2 _ _)
   (tuple_addW2 t b vs.toArray ws.toArray n n2 dd dd2 sl sl2 (by simpa using hv) (by simpa using hw) (by rw [List.size_toArray,List.size_toArray]; exact hsz)) ⟨ho,ho2,?_⟩
  rw [e]
  exact h2 hw
def sIx (n d:Nat):Option Int→Nat
 | none=>d
 | some v=>if v<0 then (v+(n:Int)).toNat else min v.toNat n
theorem sIx_none (n d:Nat):sIx n d none=d:=rfl
theorem sIx_nat (n d k:Nat):sIx n d (some (k:Int))=min k n:=by
 show (if (k:Int)<0 then ((k:Int)+(n:Int)).toNat else min (k:Int).toNat n)=min k n
 rw [if_neg (by omega),Int.toNat_natCast]
end
end HT
namespace L2
open PySem PySem.Spec PyProof.Rows
abbrev TO:=St→Hp→(Option Int→Hp→Prop)→Prop
def PO (X:Cx) (e:Option Expr) (t:TO):Prop :=
 ∀ (pins:List (Addr×Obj)) (s:Shared) (σ:St) (H:Hp) (Q:Option Int→Hp→Prop),Inv X pins σ H s→t σ H Q →
  wpAny (model X.prog X.w) X.A (evalPart e X.env) (fun u s'=>∃ o H',Inv X pins σ H' s'∧IsPart u o∧Q o H') X.xe s
def wR:TO:=fun _ H Q=>Q none H
def zP (t:TE):TO:=fun σ H Q=>t σ H fun x H1=>∃ i,x=.int i∧Q (some i) H1
section
variable {X:Cx} {e:Expr} {te:TE} {lo hi:Option Expr} {tl th:TO} {pos p2:Pos}
theorem jm:PO X none wR:=by
 intro pins s σ H Q I h
 rw [evalPart_none]
 exact wpAny_pure ⟨none,H,I,.none,h⟩
theorem ju (h:PE X e te):PO X (some e) (zP te):=by
 intro pins s σ H Q I hw
 rw [evalPart_some]
 refine thn (h pins s σ H _ I hw) fun u s1 ⟨x,H1,I1,r1,q1⟩=>?_
 obtain ⟨i,rfl,q⟩:=q1
 obtain ⟨t,rfl⟩:=r1
 exact ⟨some i,H1,I1,.int i t,q⟩
def SlR (X:Cx) (r:V→Option Int→Option Int→Hp→VK→Prop):Prop :=
 ∀ (pins:List (Addr×Obj)) (s:Shared) (σ:St) (H:Hp) (x:V) (v vl vu:Value) (lo hi:Option Int) (sl:Addr) (Q:VK),Inv X pins σ H s→aX x v→s.heap.IsSliceOf sl vl vu .none→IsPart vl lo→IsPart vu hi→r x lo hi H Q →
  ∃ T id,typeLookup (.type T) "__getitem__"=pure (some (.builtin id))∧s.TypeIs v T∧wpAny (model X.prog X.w) X.A (getItem v (.ref sl)) (EP X pins σ Q) X.xe s
def tSl (r:V→Option Int→Option Int→Hp→VK→Prop) (te:TE) (tl th:TO):TE:=fun σ H Q=>te σ H fun x H1=>tl σ H1 fun l H2=>th σ H2 fun u H3=>r x l u H3 Q
theorem ii {r:V→Option Int→Option Int→Hp→VK→Prop} (hr:SlR X r) (he:PE X e te) (hl:PO X lo tl) (hu:PO X hi th):PE X (.Subscript e (.Slice lo hi none p2) pos) (tSl r te tl th):=by
 intro pins s σ H Q I h
 refine Subscript_ (thn (he pins s σ H _ I h) fun v s1 ⟨x,H1,I1,r1,q1⟩=>?_)
 refine wpAny_Slice (thn (hl pins s1 σ H1 _ I1 q1) fun vl s2 ⟨l,H2,I2,pl,q2⟩=>thn (hu pins s2 σ H2 _ I2 q2) fun vu s3 ⟨u,H3,I3,pu,q3⟩=>?_)
 rw [evalPart_none]
 refine wpAny_pure ?_
 have I4:Inv X pins σ H3 { s3 with heap:=s3.heap.push { cls:=.type "slice",data:=.fields #[vl,vu,.none] } }:=I3.kept (t':=s3.toks) fun b ob q=>Heap.get?_push_of_some _ q
 obtain ⟨T,id,hT,ht,hg⟩:=hr pins { s3 with heap:=s3.heap.push { cls:=.type "slice",data:=.fields #[vl,vu,.none] } } σ H3 x v vl vu l u s3.heap.objs.size Q I4 r1 (Heap.IsSliceOf.new ..) pl pu q3
 show wpAny (model X.prog X.w) X.A (subscriptTail e (.Slice lo hi none p2) v (.ref s3.heap.objs.size)) (EP X pins σ Q) X.xe { s3 with heap:=s3.heap.push { cls:=.type "slice",data:=.fields #[vl,vu,.none] } }
 exact tail_any (ops:=[.ref s3.heap.objs.size,v]) ht hT hg (by with_unfolding_all rfl)
def dj (xs:List V) (lo hi:Option Int):List V:=(xs.drop (HT.sIx xs.length 0 lo)).take (HT.sIx xs.length xs.length hi - HT.sIx xs.length 0 lo)
theorem nW (xs:List V) (lo hi:Option Int):(dj xs lo hi).length≤xs.length:=by
 unfold dj
 rw [List.length_take,List.length_drop]
 omega
def yn (K:Frag):R2:=fun x y H Q=>∃ a b xs ys,x=.ref a∧y=.ref b∧SqT K H a xs∧SqT K H b ys∧xs≠[]∧xs.length+ys.length≤sizeLine ∧
 (ys=[]→Q (.ref a) H)∧(ys≠[]→∀ p,H p=none→Q (.ref p) (upd H p (.tup (xs++ys))))
theorem aR.nil_iff {xs:List V} {us:List Value} (r:aR xs us):us=[]↔xs=[]:=by
 cases r with
 | nil=>simp
 | cons _ _=>simp
theorem jn:OpR X (binaryOp .Add) (yn X.K):=by
 intro pins s σ H x y v u Q I rx ry h
 obtain ⟨a,b,xs,ys,rfl,rfl,ha,hb,hx,hz,q1,q2⟩:=h
 cases rx
 cases ry
 obtain ⟨its,r1,p1,_⟩:=I.tuple ha
 obtain ⟨its2,r2,p2,_⟩:=I.tuple hb
 refine HT.cat_tup p1 p2 (fun z=>hx (r1.nil_iff.mp z)) (fun z=>⟨.ref a,H,I,rfl,q1 (r2.nil_iff.mp z)⟩) (fun z=>?_) (by rw [← r1.length,← r2.length]; exact hz)
 refine ⟨.ref s.heap.objs.size,_,I.laid (t':=s.toks) (o:=.tup (xs++ys)) (fun b ob q=>Heap.get?_push_of_some _ q) (Nat.le_refl _) ?_,rfl,q2 (fun w=>z (r2.nil_iff.mpr w)) _ (I.hok.fresh (Nat.le_refl _))⟩
 exact ⟨by rw [List.length_append]; exact hz,_,r1.append r2,IsTup.new _ _,_,Heap.get?_push_size _ rfl,rfl⟩
end
open PySem PySem.Spec PyProof.Rows
def ixN (n:Nat) (i:Int):Option Nat:=if 0≤i then (if i<n then some i.toNat else none) else if -(n:Int)≤i then some (i+n).toNat else none
def atI {α:Type} (xs:List α) (i:Int):Option α:=(ixN xs.length i).bind fun j=>xs[j]?
theorem mM {n:Nat} {i:Int} {j:Nat} (h:ixN n i=some j):seqIndex? i n=some j∧j<n∧-(n:Int)≤i∧i<n:=by
 unfold ixN at h
 by_cases h0:0≤i
 ·rw [if_pos h0] at h
  by_cases h1:i<n
  ·rw [if_pos h1] at h
   have e:i.toNat=j:=Option.some.inj h
   exact ⟨by rw [seqIndex_of h0 h1,e],by omega,by omega,h1⟩
  ·rw [if_neg h1] at h; cases h
 ·rw [if_neg h0] at h
  by_cases h1:-(n:Int)≤i
  ·rw [if_pos h1] at h
   have e:(i+n).toNat=j:=Option.some.inj h
   exact ⟨by rw [seqIndex_neg (by omega) h1,e],by omega,h1,by omega⟩
  ·rw [if_neg h1] at h; cases h
theorem mw {α:Type} {xs:List α} {i:Int} {v:α} (h:atI xs i=some v):∃ j,seqIndex? i xs.length=some j∧xs[j]?=some v∧j<xs.length∧-(xs.length:Int)≤i∧i<xs.length:=by
 unfold atI at h
 cases e:ixN xs.length i with
 | none=>rw [e] at h; cases h
 | some j =>
  rw [e] at h
  obtain ⟨h1,h2,h3,h4⟩:=mM e
  exact ⟨j,h1,h,h2,h3,h4⟩
theorem qJ {α:Type} {xs:List α} {j:Nat} {v:α} (h:xs[j]?=some v):atI xs (j:Int)=some v:=by
 have hj:j<xs.length:=(List.getElem?_eq_some_iff.mp h).1
 have e:ixN xs.length (j:Int)=some j:=by
  unfold ixN
  rw [if_pos (by omega),if_pos (by omega)]; simp
 unfold atI; rw [e]; exact h
def wJ (b:Expr):Prop:=∀ o i,subscripted b false o i=operate [o,i] (getItem o i)
def IxR (X:Cx) (r:R2):Prop :=
 ∀ (value slice:Expr) (pins:List (Addr×Obj)) (s:Shared) (σ:St) (H:Hp) (x y:V) (v u:Value) (Q:VK),Inv X pins σ H s→aX x v→aX y u→r x y H Q →
  subscripted slice false v u=operate [v,u] (getItem v u)→wpAny (model X.prog X.w) X.A (subscriptTail value slice v u) (EP X pins σ Q) X.xe s
def MtR (X:Cx) (id:String) (r:V→List V→Hp→VK→Prop):Prop :=
 ∀ (pins:List (Addr×Obj)) (s:Shared) (σ:St) (H:Hp) (x:V) (xs:List V) (v:Value) (us:List Value) (Q:VK),Inv X pins σ H s→aX x v→aR xs us→r x xs H Q →
  wpAny (model X.prog X.w) X.A (call (.builtin id) (v::us)) (EP X pins σ Q) X.xe s
section
variable {X:Cx} {a b:Expr} {ta tb:TE} {pos:Pos}
theorem aq {r:R2} (hr:IxR X r) (ha:PE X a ta) (hb:PE X b tb) (hs:wJ b):PE X (.Subscript a b pos) (tOp r ta tb):=by
 intro pins s σ H Q I h
 exact Subscript_ (yY ha hb I h fun v u s2 x y H2 I2 rx ry q=>hr a b pins s2 σ H2 x y v u Q I2 rx ry q (hs _ _))
def AC (K:Frag):R2:=fun x y H Q=>∃ p xs i v,x=.ref p∧y=.int i∧SqL K H p xs∧atI xs i=some v∧Q v H
def Ar (K:Frag):R2:=fun x y H Q=>∃ p xs i v,x=.ref p∧y=.int i∧SqT K H p xs∧atI xs i=some v∧Q v H
def AU:R2:=fun x y H Q=>∃ z i c,x=.str z∧y=.int i∧z.length≤sizeLine∧atI z.cps.toList i=some c∧Q (.str ⟨#[c]⟩) H
theorem aM:IxR X (AC X.K):=by
 intro value slice pins s σ H x y v u Q I rx ry h hs
 obtain ⟨p,xs,i,z,rfl,rfl,hq,he,q⟩:=h
 cases rx
 obtain ⟨t,rfl⟩:=ry
 obtain ⟨its,r,pl,hz⟩:=I.list hq
 obtain ⟨j,h1,h2,h3,h4,h5⟩:=mw he
 obtain ⟨w,ew,rw'⟩:=r.get h2
 have hl:=r.length
 have hn:=iy
 have fin:EP X pins σ Q w s:=⟨z,H,I,rw',q⟩
 by_cases h0:0≤i
 ·have hj:i.toNat=j:=by
   rw [seqIndex_of h0 h5] at h1
   exact Option.some.inj h1
  exact item_listR pl.isList h0 (by omega) (by rw [hj]; simpa using ew) fin hs
 ·have hj:(i+(its.toArray.size:Int)).toNat=j:=by
   rw [seqIndex_neg (by omega) h4] at h1
   rw [List.size_toArray,← hl]
   exact Option.some.inj h1
  exact subscriptTail_builtinR (x:=w) pl.isList.typeIs slot_list_getitem.lookup
   (wpAny_getItem_list_neg (Q:=fun r s'=>r=w∧EP X pins σ Q r s') pl.isList (by omega) (by rw [List.size_toArray]<;>omega) (by omega) (by rw [hj]; simpa using ew) ⟨rfl,fin⟩) hs
theorem aw:IxR X (Ar X.K):=by
 intro value slice pins s σ H x y v u Q I rx ry h hs
 obtain ⟨p,xs,i,z,rfl,rfl,hq,he,q⟩:=h
 cases rx
 obtain ⟨t,rfl⟩:=ry
 obtain ⟨its,r,pl,hz⟩:=I.tuple hq
 obtain ⟨j,h1,h2,h3,h4,h5⟩:=mw he
 obtain ⟨w,ew,rw'⟩:=r.get h2
 have hl:=r.length
 have hn:=iy
 have fin:EP X pins σ Q w s:=⟨z,H,I,rw',q⟩
 exact subscriptTail_builtinR (x:=w) pl.typeIs slot_tuple_getitem.lookup
  (getItem_tuple (j:=j) (Q:=fun r s'=>r=w∧EP X pins σ Q r s') pl (by omega) (by omega) (by rw [List.size_toArray,← hl]; exact h1) (by simpa using ew) ⟨rfl,fin⟩) hs
theorem zA:IxR X AU:=by
 intro value slice pins s σ H x y v u Q I rx ry h hs
 obtain ⟨z,i,c,rfl,rfl,hz,he,q⟩:=h
 obtain ⟨t,rfl⟩:=rx
 obtain ⟨t',rfl⟩:=ry
 obtain ⟨j,h1,h2,h3,h4,h5⟩:=mw he
 have hl:z.cps.toList.length=z.length:=by simp [Str.length]
 rw [hl] at h1 h4 h5
 have hn:=iy
 exact tail_any (typeIs_str s z t) slot_str_getitem.lookup (getItem_str (c:=c) (by
  have e1:decide (i< -(2 ^ 63:Int))=false:=decide_eq_false (by omega)
  have e2:decide (i ≥ 2 ^ 63)=false:=decide_eq_false (by omega)
  rw [e1,e2,Bool.or_false]) (by rw [h1]; simpa using h2) ⟨.str ⟨#[c]⟩,H,I.tok _,⟨_,rfl⟩,q⟩) hs
theorem qk (its:List Value) (n j:Nat) (u:Value):Obj.mapSeq (·.setIfInBounds j u) { cls:=.type "list",data:=.seq its.toArray n }={ cls:=.type "list",data:=.seq (its.set j u).toArray n }:=by
 simp [Obj.mapSeq]
theorem Inv.lst {pins:List (Addr×Obj)} {σ:St} {H:Hp} {s:Shared} {p:Addr} {xs:List V} (I:Inv X pins σ H s) (h:H p=some (.lst xs)) :
  ∃ (its:List Value) (n:Nat),aR xs its∧s.heap.get? p=some { cls:=.type "list",data:=.seq its.toArray n }∧xs.length≤sizeLine:=by
 obtain ⟨z,its,n,r,e⟩:=I.hok p _ h
 exact ⟨its,n,r,e,z⟩
theorem Inv.lstUpd {pins:List (Addr×Obj)} {σ:St} {H:Hp} {s:Shared} {p:Addr} {xs ys:List V} {its its':List Value} {n n':Nat} {f:Obj→Obj} (I:Inv X pins σ H s) (h:H p=some (.lst xs))
  (ho:s.heap.get? p=some { cls:=.type "list",data:=.seq its.toArray n }) (hf:f { cls:=.type "list",data:=.seq its.toArray n }={ cls:=.type "list",data:=.seq its'.toArray n' }) (r:aR ys its') (hz:ys.length≤sizeLine) (t:Nat) :
  Inv X pins σ (upd H p (.lst ys)) { s with heap:=s.heap.update p f,toks:=t }:=by
 have e:(s.heap.update p f).get? p=some { cls:=.type "list",data:=.seq its'.toArray n' }:=by
  rw [Heap.get?_update_self f ho (by rw [hf]<;>rfl),hf]
 refine I.write (x:=p) (e:=p) (by rw [h]; trivial) (.inl rfl) (fun b u hb q=>(Heap.get?_update_other _ _ (Ne.symm hb)).trans q) ⟨_,e⟩ ?_
 exact ⟨hz,its',n',r,e⟩
def Ah:V→V→V→Hp→(Hp→Prop)→Prop:=fun o i v H Q=>∃ p xs k j,o=.ref p∧i=.int k∧H p=some (.lst xs)∧ixN xs.length k=some j∧Q (upd H p (.lst (xs.set j v)))
theorem bS:Ad X Ah:=by
 intro pins s σ H o i v ov iv u Q I ro ri rv h
 obtain ⟨p,xs,k,j,rfl,rfl,hp,hj,q⟩:=h
 cases ro
 obtain ⟨t,rfl⟩:=ri
 obtain ⟨its,n,r,ho,hz⟩:=I.lst hp
 obtain ⟨h1,h2,h3,h4⟩:=mM hj
 have hl:=r.length
 have hn:=iy
 have I':Inv X pins σ (upd H p (.lst (xs.set j v))) { s with heap:=s.heap.update p (Obj.mapSeq (·.setIfInBounds j u)) } :=
  I.lstUpd hp ho (qk its n j u) (r.set rv j) (by rw [List.length_set]; exact hz) s.toks
 by_cases h0:0≤k
 ·have hk:k.toNat=j:=by
   rw [seqIndex_of h0 h4] at h1
   exact Option.some.inj h1
  exact PySem.W.ki_setAt ho h0 (by omega) (by rw [List.size_toArray,← hl]; exact h4) (by rw [hk]; exact ⟨_,I',q⟩)
 ·have hk:(k+(its.toArray.size:Int)).toNat=j:=by
   rw [seqIndex_neg (by omega) h3] at h1
   rw [List.size_toArray,← hl]
   exact Option.some.inj h1
  exact PySem.W.ki_setBack ho (by omega) (by rw [List.size_toArray,← hl]; exact h3) (by omega) (by rw [hk]; exact ⟨_,I',q⟩)
theorem mz (lo hi:Option Int) (n:Nat):(sliceBounds lo hi none n).1=((HT.sIx n 0 lo:Nat):Int)∧(sliceBounds lo hi none n).2.1=((HT.sIx n n hi:Nat):Int)∧(sliceBounds lo hi none n).2.2=1:=by
 refine ⟨?_,?_,rfl⟩
 ·cases lo with
  | none=>simp [sliceBounds,HT.sIx]
  | some i =>
   simp only [sliceBounds,HT.sIx,Option.getD_none,show (1:Int) > 0 by decide,if_true]
   by_cases h:i<0
   ·simp only [h,if_true]<;>omega
   ·simp only [h,if_false]<;>omega
 ·cases hi with
  | none=>simp [sliceBounds,HT.sIx]
  | some i =>
   simp only [sliceBounds,HT.sIx,Option.getD_none,show (1:Int) > 0 by decide,if_true]
   by_cases h:i<0
   ·simp only [h,if_true]<;>omega
   ·simp only [h,if_false]<;>omega
theorem kO (its:List Value) (lo hi:Option Int):slicePick its.toArray lo hi none=((its.drop (HT.sIx its.length 0 lo)).take (HT.sIx its.length its.length hi - HT.sIx its.length 0 lo)).toArray:=by
 obtain ⟨h1,h2,h3⟩:=mz lo hi its.toArray.size
 unfold slicePick
 rw [h1,h2,h3]
 simp only [sliceRange_one,pick_run,List.size_toArray]<;>rfl
def AZ (K:Frag):V→Option Int→Option Int→Hp→VK→Prop:=fun x lo hi H Q=>∃ a xs,x=.ref a∧SqL K H a xs∧∀ p,H p=none→Q (.ref p) (upd H p (.lst (dj xs lo hi)))
theorem jq:SlR X (AZ X.K):=by
 intro pins s σ H x v vl vu lo hi sl Q I rx hs pl pu h
 obtain ⟨a,xs,rfl,hx,q⟩:=h
 cases rx
 obtain ⟨its,r,ht,hz⟩:=I.list hx
 have hlen:=r.length
 refine ⟨"list",_,slot_list_getitem.lookup,ht.isList.typeIs,?_⟩
 refine wpAny_getItem_list_slice ht.isList hs pl pu .none (by simp) ?_ (by rw [List.size_toArray]<;>omega)
 rw [kO,← hlen]
 refine ⟨.ref s.heap.objs.size,_,I.laid (t':=s.toks) (o:=.lst (dj xs lo hi)) (fun b ob q=>Heap.get?_push_of_some _ q) (Nat.le_refl _) ?_,rfl,q _ (I.hok.fresh (Nat.le_refl _))⟩
 exact ⟨Nat.le_trans (nW xs lo hi) hz,_,0,(r.drop (HT.sIx xs.length 0 lo)).take (HT.sIx xs.length xs.length hi - HT.sIx xs.length 0 lo),Heap.get?_push_size _ rfl⟩
def gm:V→Bool
 | .non=>true
 | .bl _=>true
 | .int _=>true
 | .str _=>true
 | _=>false
def eqV:V→V→Bool
 | .non,.non=>true
 | .bl a,.bl b=>a==b
 | .bl a,.int b=>(if a then 1 else 0)==b
 | .int a,.bl b=>a==(if b then 1 else 0)
 | .int a,.int b=>a==b
 | .str a,.str b=>a==b
 | _,_=>false
theorem zw {A:Around} {s:Shared} {y x:V} {u v:Value} (ry:aX y u) (rx:aX x v) (fy:gm y=true) (fx:gm x=true):SeqAt.EqAt A s u v (eqV y x):=by
 cases y with
 | non =>
  cases ry
  cases x with
  | non=>cases rx; exact SeqAt.EqAt.same _
  | bl b=>cases rx; exact SeqAt.EqAt.none_bool b
  | int b=>obtain ⟨t,rfl⟩:=rx; exact SeqAt.EqAt.none_int b t
  | str b=>obtain ⟨t,rfl⟩:=rx; exact SeqAt.EqAt.none_str b t
  | _=>exact absurd (show false=true from fx) Bool.false_ne_true
 | bl a =>
  cases ry
  cases x with
  | non=>cases rx; exact SeqAt.EqAt.bool_none a
  | bl b=>cases rx; exact SeqAt.EqAt.bool_bool a b
  | int b=>obtain ⟨t,rfl⟩:=rx; exact SeqAt.EqAt.bool_int a b t
  | str b=>obtain ⟨t,rfl⟩:=rx; exact SeqAt.EqAt.bool_str a b t
  | _=>exact absurd (show false=true from fx) Bool.false_ne_true
 | int a =>
  obtain ⟨t',rfl⟩:=ry
  cases x with
  | non=>cases rx; exact SeqAt.EqAt.int_none a t'
  | bl b=>cases rx; exact SeqAt.EqAt.int_bool a t' b
  | int b=>obtain ⟨t,rfl⟩:=rx; exact SeqAt.EqAt.int_int a t' b t
  | str b=>obtain ⟨t,rfl⟩:=rx; exact SeqAt.EqAt.int_str a t' b t
  | _=>exact absurd (show false=true from fx) Bool.false_ne_true
 | str a =>
  obtain ⟨t',rfl⟩:=ry
  cases x with
  | non=>cases rx; exact SeqAt.EqAt.str_none a t'
  | bl b=>cases rx; exact SeqAt.EqAt.str_bool a t' b
  | int b=>obtain ⟨t,rfl⟩:=rx; exact SeqAt.EqAt.str_int a t' b t
  | str b=>obtain ⟨t,rfl⟩:=rx; exact SeqAt.EqAt.str_str a t' b t
  | _=>exact absurd (show false=true from fx) Bool.false_ne_true
 | _=>exact absurd (show false=true from fy) Bool.false_ne_true
def eqU (x:V) (u:Value):Bool:=match u with
 | .none=>eqV .non x
 | .bool b=>eqV (.bl b) x
 | .int i _=>eqV (.int i) x
 | .str z _=>eqV (.str z) x
 | _=>false
theorem wu {x y:V} {u:Value} (r:aX y u) (f:gm y=true):eqU x u=eqV y x:=by
 cases y with
 | non=>cases r; rfl
 | bl b=>cases r; rfl
 | int i=>obtain ⟨t,rfl⟩:=r; rfl
 | str z=>obtain ⟨t,rfl⟩:=r; rfl
 | _=>exact absurd (show false=true from f) Bool.false_ne_true
theorem ij {x:V}:∀ {xs:List V} {us:List Value},aR xs us→xs.all gm=true→us.any (eqU x)=xs.any fun y=>eqV y x
 | _,_,.nil,_=>rfl
 | y::xs,u::us,.cons r t,f=>by
  rw [List.all_cons,Bool.and_eq_true] at f
  rw [List.any_cons,List.any_cons,wu r f.1,ij t f.2]
theorem eV {A:Around} {s:Shared} {x:V} {v:Value} (rx:aX x v) (fx:gm x=true):∀ {xs:List V} {us:List Value},aR xs us→xs.all gm=true→∀ u∈us,SeqAt.EqAt A s u v (eqU x u)
 | _,_,.nil,_=>fun u hu=>by cases hu
 | y::xs,u::us,.cons r t,f=>fun u' hu=>by
  rw [List.all_cons,Bool.and_eq_true] at f
  rcases List.mem_cons.mp hu with rfl | hu
  ·rw [wu r f.1]; exact zw r rx f.1 fx
  ·exact eV rx fx t f.2 u' hu
def inV (x:V) (xs:List V):Bool:=xs.any fun y=>eqV y x
def rIn (K:Frag) (neg:Bool):R2:=fun x y H Q=>∃ p xs,y=.ref p∧(SqL K H p xs∨SqT K H p xs)∧gm x=true∧xs.all gm=true∧Q (.bl (if neg then !inV x xs else inV x xs)) H
theorem fU:OpR X (compareOp .In) (rIn X.K false):=by
 intro pins s σ H x y v u Q I rx ry h
 obtain ⟨p,xs,rfl,hq,fx,fs,q⟩:=h
 cases ry
 rcases hq with hq | hq
 ·obtain ⟨its,r,pl,hz⟩:=I.list hq
  refine SeqAt.in_listAt (eqU x) pl.isList (fun w hw=>eV rx fx r fs w (by simpa using hw)) ⟨.bl _,H,I,rfl,?_⟩
  rw [show its.toArray.any (eqU x)=its.any (eqU x) by simp,ij r fs]
  exact q
 ·obtain ⟨its,r,pl,hz⟩:=I.tuple hq
  refine SeqAt.in_tupleAt (eqU x) pl (fun w hw=>eV rx fx r fs w (by simpa using hw)) ⟨.bl _,H,I,rfl,?_⟩
  rw [show its.toArray.any (eqU x)=its.any (eqU x) by simp,ij r fs]
  exact q
theorem cn:OpR X (compareOp .NotIn) (rIn X.K true):=by
 intro pins s σ H x y v u Q I rx ry h
 obtain ⟨p,xs,rfl,hq,fx,fs,q⟩:=h
 cases ry
 rcases hq with hq | hq
 ·obtain ⟨its,r,pl,hz⟩:=I.list hq
  refine SeqAt.notIn_listAt (eqU x) pl.isList (fun w hw=>eV rx fx r fs w (by simpa using hw)) ⟨.bl _,H,I,rfl,?_⟩
  rw [show its.toArray.any (eqU x)=its.any (eqU x) by simp,ij r fs]
  exact q
 ·obtain ⟨its,r,pl,hz⟩:=I.tuple hq
  refine SeqAt.notIn_tupleAt (eqU x) pl (fun w hw=>eV rx fx r fs w (by simpa using hw)) ⟨.bl _,H,I,rfl,?_⟩
  rw [show its.toArray.any (eqU x)=its.any (eqU x) by simp,ij r fs]
  exact q
theorem aI:bW X (.builtin "len") (fun xs H Q=>∃ p ys,xs=[.ref p]∧(SqL X.K H p ys∨SqT X.K H p ys)∧Q (.int ys.length) H):=by
 intro pins s σ H xs us Q I r h
 obtain ⟨p,ys,rfl,hq,q⟩:=h
 obtain ⟨u,rfl,rx⟩:=eN r
 cases rx
 have hn:=iy
 rcases hq with hq | hq
 ·obtain ⟨its,r',pl,hz⟩:=I.list hq
  have hlen:=r'.length
  exact Calls.call_len_list pl.isList (by simp only [List.size_toArray]<;>omega) ⟨.int ys.length,H,I.tok _,⟨s.toks+1,by rw [List.size_toArray,hlen]⟩,q⟩
 ·obtain ⟨its,r',pl,hz⟩:=I.tuple hq
  have hlen:=r'.length
  exact len_tuple pl (by simp only [List.size_toArray]<;>omega) ⟨.int ys.length,H,I.tok _,⟨s.toks+1,by rw [List.size_toArray,hlen]⟩,q⟩
theorem mK:bW X (.builtin "len") (fun xs H Q=>∃ z,xs=[.str z]∧z.length≤sizeLine∧Q (.int z.length) H):=by
 intro pins s σ H xs us Q I r h
 obtain ⟨z,rfl,hz,q⟩:=h
 obtain ⟨u,rfl,t,rfl⟩:=eN r
 have hn:=iy
 exact len_str (by omega) ⟨.int z.length,H,I.tok _,⟨_,rfl⟩,q⟩
theorem bW.or {f:Value} {r r':List V→Hp→VK→Prop} (h:bW X f r) (h':bW X f r'):bW X f (fun xs H Q=>r xs H Q∨r' xs H Q):=by
 intro pins s σ H xs us Q I rs q
 rcases q with q | q
 ·exact h pins s σ H xs us Q I rs q
 ·exact h' pins s σ H xs us Q I rs q
theorem mJ:bW X (.type "list") (fun xs H Q=>∃ p ys,xs=[.ref p]∧(SqL X.K H p ys∨SqT X.K H p ys)∧∀ l,H l=none→Q (.ref l) (upd H l (.lst ys))):=by
 intro pins s σ H xs us Q I r h
 obtain ⟨p,ys,rfl,hq,q⟩:=h
 obtain ⟨u,rfl,rx⟩:=eN r
 cases rx
 have fin:∀ (its:List Value),aR ys its→ys.length≤sizeLine→∀ (h':Heap) (c':Nat),(∀ b o',s.heap.get? b=some o'→h'.get? b=some o') →
   h'.get? s.heap.objs.size=some { cls:=.type "list",dict:=none,data:=.seq its.toArray c',slots:=#[] }→EP X pins σ Q (.ref s.heap.objs.size) { s with heap:=h' }:=fun its r' hz h' c' kp e =>
  ⟨.ref s.heap.objs.size,_,I.laid (t':=s.toks) kp (Nat.le_refl _) (show bm X.prog X.w _ h' _ (.lst ys) from ⟨hz,its,c',r',e⟩),rfl,q _ (I.hok.fresh (Nat.le_refl _))⟩
 rcases hq with hq | hq
 ·obtain ⟨its,r',pl,hz⟩:=I.list hq
  have hlen:=r'.length
  obtain ⟨o,ho,hc,n,hd⟩:=pl.isList
  exact call_list_seq p (.inl rfl) ho hc hd (fun h' c' kp e=>fin its r' hz h' c' kp e) (by simp only [List.size_toArray]<;>omega)
 ·obtain ⟨its,r',pl,hz⟩:=I.tuple hq
  have hlen:=r'.length
  obtain ⟨o,ho,hc,n,hd⟩:=pl
  exact call_list_seq p (.inr rfl) ho hc hd (fun h' c' kp e=>fin its r' hz h' c' kp e) (by simp only [List.size_toArray]<;>omega)
theorem bE:bW X (.type "tuple") (fun xs H Q=>∃ p ys,xs=[.ref p]∧((SqL X.K H p ys∧∀ l,H l=none→Q (.ref l) (upd H l (.tup ys)))∨(SqT X.K H p ys∧Q (.ref p) H))):=by
 intro pins s σ H xs us Q I r h
 obtain ⟨p,ys,rfl,h⟩:=h
 obtain ⟨u,rfl,rx⟩:=eN r
 cases rx
 rcases h with ⟨hq,q⟩ | ⟨hq,q⟩
 ·obtain ⟨its,r',pl,hz⟩:=I.list hq
  have hlen:=r'.length
  refine call_tuple_list pl.isList (fun h' kp=>?_) (by simp only [List.size_toArray]<;>omega)
  have I1:Inv X pins σ H { s with heap:=h' }:=I.kept (t':=s.toks) kp
  have I2:Inv X pins σ (upd H h'.objs.size (.tup ys)) { s with heap:=h'.push { cls:=.type "tuple",data:=.seq its.toArray } } :=
   I1.laid (t':=s.toks) (fun b o e=>Heap.get?_push_of_some _ e) (Nat.le_refl _) (show bm X.prog X.w _ _ _ (.tup ys) from ⟨hz,its,r',IsTup.new _ _,_,Heap.get?_push_size _ rfl,rfl⟩)
  exact ⟨.ref h'.objs.size,_,I2,rfl,q _ (I1.hok.fresh (Nat.le_refl _))⟩
 ·obtain ⟨its,r',pl,hz⟩:=I.tuple hq
  exact call_tuple_same pl ⟨.ref p,H,I,rfl,q⟩
def tyV (K:Frag) (T:String) (x:V) (H:Hp):Prop:=match x with
 | .str _=>T = "str"
 | .int _=>T = "int"
 | .ref p=>(T = "list"∧∃ xs,SqL K H p xs)∨(T = "tuple"∧∃ o,K.lookup p=some o∧o.cls=.type "tuple"∧o.dict=none) ∨
   (T = "dict"∧((∃ kvs,H p=some (.dK kvs))∨∃ kvs,H p=some (.dT kvs)))∨(T = "set"∧∃ S n,H p=some (.set S n))
 | _=>False
theorem zJ {pins:List (Addr×Obj)} {σ:St} {H:Hp} {s:Shared} {T:String} {x:V} {v:Value} (I:Inv X pins σ H s) (r:aX x v) (ty:tyV X.K T x H) :
  s.TypeIs v T∧∀ a,v=.ref a→∃ ob,s.heap.get? a=some ob∧ob.dict=none:=by
 cases x with
 | str z =>
  obtain ⟨t,rfl⟩:=r
  cases (show T = "str" from ty)
  exact ⟨typeIs_str s z t,fun _ e=>nomatch e⟩
 | int i =>
  obtain ⟨t,rfl⟩:=r
  cases (show T = "int" from ty)
  exact ⟨typeIs_int s i t,fun _ e=>nomatch e⟩
 | ref p =>
  cases r
  rcases ty with ⟨rfl,xs,hq⟩ | ⟨rfl,o,hk,hc,hd⟩ | ⟨rfl,hk⟩ | ⟨rfl,S,n,hk⟩
  ·obtain ⟨its,_,pl,_⟩:=I.list hq
   refine ⟨pl.isList.typeIs,fun a e=>?_⟩
   cases e
   obtain ⟨o,n,e,c,hd,_⟩:=pl
   exact ⟨o,e,hd⟩
  ·refine ⟨⟨o,I.kIn p o hk,hc⟩,fun a e=>?_⟩
   cases e
   exact ⟨o,I.kIn _ o hk,hd⟩
  ·have z:∃ o,s.heap.get? p=some o∧o.ExactDict:=by
    rcases hk with ⟨kvs,hk⟩ | ⟨kvs,hk⟩
    ·obtain ⟨_,_,_,_,o,_,_,e,ex,_⟩:=I.hok p _ hk
     exact ⟨o,e,ex⟩
    ·obtain ⟨_,_,_,_,o,_,_,e,ex,_⟩:=I.hok p _ hk
     exact ⟨o,e,ex⟩
   obtain ⟨o,e,ex⟩:=z
   refine ⟨⟨o,e,ex.1⟩,fun a e2=>?_⟩
   cases e2
   exact ⟨o,e,ex.2.1⟩
  ·obtain ⟨o,_,_,_,e,ex,_⟩:=I.hok p _ hk
   refine ⟨⟨o,e,ex.1⟩,fun a e2=>?_⟩
   cases e2
   exact ⟨o,e,ex.2.1⟩
 | _=>exact False.elim ty
def tBM (K:Frag) (T:String) (r:V→List V→Hp→VK→Prop) (to:TE) (t:TA):TE:=fun σ H Q=>to σ H fun x H1=>tyV K T x H1∧t σ H1 fun xs H2=>r x xs H2 Q
variable {o e:Expr} {es:List Expr} {to:TE} {t:TA} {name:Str} {apos cpos:Pos} {T id:String} {r:V→List V→Hp→VK→Prop}
theorem dR (pa:PlainAttrs T) (slot:Slot T name id) (hty:typeOf (.builtin id)=pure (.type "method_descriptor")) (hm:MtR X id r) (ho:PE X o to) (ha:PA X (e::es) t)
  (hbase:attributeBase o name X.env (eval o X.env)=eval o X.env:=by rfl)
  (hfew:((backTo cpos (starEach (e::es) X.env)).all (fun x=>!x.1)&&(backToKw cpos (keywordEach [] X.env)).all (fun x=>x.1.isSome)
  &&decide ((e::es).length+([]:List Keyword).length+(if ([]:List Keyword).isEmpty then 0 else 1)<30))=true:=by exact cL rfl rfl)
  (hline:(apos.endLine==cpos.line)=true:=by rfl) (hs:starEach (e::es) X.env=(false,eval e X.env)::starEach es X.env:=by exact ac rfl) (hplain:(backTo cpos (starEach es X.env)).any (·.1)=false:=by exact aj rfl) :
  PE X (.Call (.Attribute o name apos) (e::es) [] cpos) (tBM X.K T r to t):=by
 intro pins s σ H Q I h
 refine wpAny_Call_method_late hbase hfew hline rfl (thn (ho pins s σ H _ I h) fun v s1 ⟨x,H1,I1,r1,ty,q1⟩=>?_)
 obtain ⟨h1,h2⟩:=zJ I1 r1 ty
 refine ⟨T,id,pa,slot,hty,h1,h2,?_⟩
 have hA:=ha cpos pins s1 σ H1 _ I1 q1
 rw [hs] at hA ⊢
 refine Calls.callWith_builtin (by show (false||(backTo cpos (starEach es X.env)).any (·.1))=false; rw [hplain]<;>rfl) (Calls.evalArgs_plain ?_)
 exact thn hA fun us s2 ⟨vs,H2,I2,r2,q2⟩=>hm pins s2 σ H2 x vs v us Q I2 r1 r2 q2
end
open PySem PySem.Spec PyProof.Rows
def MtM (X:Cx) (id:String) (r:V→List V→Hp→VK→Prop):Prop :=
 ∀ (pins:List (Addr×Obj)) (s:Shared) (σ:St) (H:Hp) (x:V) (xs:List V) (v:Value) (us:List Value) (Q:VK),Inv X pins σ H s→aX x v→aR xs us→r x xs H Q →
  wpAny (model X.prog X.w) X.A (call (.builtin id) (v::us)) (EP X pins σ Q) X.xe s
theorem aR.one:∀ {x:V} {us:List Value},aR [x] us→∃ u,us=[u]∧aX x u
 | _,_,.cons r .nil=>⟨_,rfl,r⟩
theorem aR.eraseIdx:∀ {xs:List V} {us:List Value} (i:Nat),aR xs us→aR (xs.eraseIdx i) (us.eraseIdx i)
 | _,_,_,.nil=>.nil
 | _,_,0,.cons _ t=>t
 | _,_,i+1,.cons r t=>.cons r (aR.eraseIdx i t)
theorem aR.rep {xs:List V} {us:List Value} (h:aR xs us):∀ k:Nat,aR (List.replicate k xs).flatten (List.replicate k us).flatten
 | 0=>.nil
 | k+1=>by
  rw [List.replicate_succ,List.replicate_succ,List.flatten_cons,List.flatten_cons]
  exact aR.append h (aR.rep h k)
theorem lX {α:Type}:∀ (l:List α) (i:Nat),(l.eraseIdx i).length≤l.length
 | [],_=>Nat.le_refl _
 | _::_,0=>Nat.le_succ _
 | _::r,i+1=>Nat.succ_le_succ (lX r i)
theorem lh (its:List Value):∀ (k:Nat) (acc:List Value),
  List.foldl (fun x1 x2=>x1++x2) acc.toArray (List.replicate k its.toArray)=(acc++(List.replicate k its).flatten).toArray
 | 0,acc=>by simp
 | k+1,acc=>by
  have e:acc.toArray++its.toArray=(acc++its).toArray:=by simp
  have e2:(acc++its)++(List.replicate k its).flatten=acc++(List.replicate (k+1) its).flatten:=by
   rw [List.replicate_succ,List.flatten_cons,List.append_assoc]
  rw [← e2,← lh its k (acc++its),← e,List.replicate_succ,List.foldl_cons]
section
variable {X:Cx} {pins:List (Addr×Obj)} {σ:St} {H:Hp} {s:Shared} {l b:Addr} {xs ys zs:List V}
theorem Inv.lset {its its':List Value} {n:Nat} {f:Array Value→Array Value} {t':Nat} (I:Inv X pins σ H s) (hH:H l=some (.lst xs))
  (e:s.heap.get? l=some { cls:=.type "list",data:=.seq its.toArray n }) (hf:f its.toArray=its'.toArray) (hv:aR ys its') (hz:ys.length≤sizeLine) :
  Inv X pins σ (upd H l (.lst ys)) { s with heap:=s.heap.update l (Obj.mapSeq f),toks:=t' }:=by
 have q:=PySem.IsL.update e f
 rw [hf] at q
 refine I.write (x:=l) (e:=l) (by rw [hH]; exact trivial) (.inl rfl) (fun b' u hb hu=>(Heap.get?_update_other s.heap (Obj.mapSeq f) (Ne.symm hb)).trans hu) ⟨_,q⟩ ?_
 exact ⟨hz,its',_,hv,q⟩
theorem Inv.lnew {its:List Value} {t':Nat} (I:Inv X pins σ H s) (hv:aR ys its) (hz:ys.length≤sizeLine) :
  Inv X pins σ (upd H s.heap.objs.size (.lst ys)) { s with heap:=s.heap.push { cls:=.type "list",data:=.seq its.toArray },toks:=t' } :=
 I.laid (fun _ _ q=>Heap.get?_push_of_some _ q) (Nat.le_refl _) ⟨hz,its,0,hv,Heap.get?_push_size _ rfl⟩
theorem Inv.fresh (I:Inv X pins σ H s):H s.heap.objs.size=none:=I.hok.fresh (Nat.le_refl _)
theorem Inv.lstM (I:Inv X pins σ H s) (hH:H l=some (.lst xs)):xs.length≤sizeLine∧∃ (its:List Value) (n:Nat),aR xs its∧xs.length=its.length∧s.heap.get? l=some { cls:=.type "list",data:=.seq its.toArray n }:=by
 obtain ⟨z,its,n,r,e⟩:=I.hok l _ hH
 exact ⟨z,its,n,r,r.length,e⟩
theorem oI {n:Nat} (h:n≤sizeLine):Builtin.List.listTooLong n=false:=by
 unfold Builtin.List.listTooLong
 exact decide_eq_false (by omega)
end
section
variable {X:Cx}
def wV:V→List V→Hp→VK→Prop:=fun x vs H Q=>∃ l xs y,x=.ref l∧vs=[y]∧H l=some (.lst xs)∧xs.length<sizeLine∧Q .non (upd H l (.lst (xs++[y])))
theorem dY:MtM X "list.append" wV:=by
 intro pins s σ H x vs v us Q I rx rv h
 obtain ⟨l,xs,y,rfl,rfl,hH,hz,q⟩:=h
 cases rx
 obtain ⟨u,rfl,ru⟩:=rv.one
 obtain ⟨z,its,n,r,hl,e⟩:=I.lstM hH
 refine call_meets F.slot_list_append ⟨_,e,rfl⟩ F.entry_list_append (F.args_list_append_2 _ _) (PySem.list_append l its.toArray n u (by rw [List.size_toArray]; omega)) ⟨e,?_⟩
 refine ⟨.non,_,I.lset (its':=its++[u]) hH e (by simp) (r.append (.cons ru .nil)) ?_,rfl,q⟩
 rw [List.length_append,List.length_singleton]
 omega
def xB:V→List V→Hp→VK→Prop:=fun x vs H Q=>∃ l b xs zs,x=.ref l∧vs=[.ref b]∧H l=some (.lst xs)∧H b=some (.lst zs)∧xs.length+zs.length≤sizeLine∧Q .non (upd H l (.lst (xs++zs)))
theorem fQ:MtM X "list.extend" xB:=by
 intro pins s σ H x vs v us Q I rx rv h
 obtain ⟨l,b,xs,zs,rfl,rfl,hH,hB,hz,q⟩:=h
 cases rx
 obtain ⟨u,rfl,ru⟩:=rv.one
 cases ru
 obtain ⟨z,its,n,r,hl,e⟩:=I.lstM hH
 obtain ⟨z2,its2,n2,r2,hl2,e2⟩:=I.lstM hB
 have hsz:its.toArray.size+its2.toArray.size≤sizeLine:=by rw [List.size_toArray,List.size_toArray]; omega
 have hlong:¬ (!its.toArray.isEmpty&&Builtin.List.listTooLong (its.toArray.size+its2.toArray.size))=true:=by
  rw [oI hsz,Bool.and_false]
  exact Bool.false_ne_true
 refine call_meets F.slot_list_extend ⟨_,e,rfl⟩ F.entry_list_extend (F.args_list_extend_2 _ _)
  (AutoSeq1.list_extend_list_list_0 l its.toArray n b its2.toArray n2 hlong (by rw [List.size_toArray]; omega) (by omega)) ⟨e,e2,?_⟩
 refine ⟨.non,_,I.lset (its':=its++its2) hH e (by simp) (r.append r2) ?_,rfl,q⟩
 rw [List.length_append]
 omega
def zG:V→List V→Hp→VK→Prop:=fun x vs H Q=>∃ l xs i k y,x=.ref l∧vs=[.int i]∧H l=some (.lst xs)∧-(2 ^ 63)≤i∧i<2 ^ 63∧seqIndex? i xs.length=some k∧xs[k]?=some y∧Q y (upd H l (.lst (xs.eraseIdx k)))
theorem tQ:MtM X "list.pop" zG:=by
 intro pins s σ H x vs v us Q I rx rv h
 obtain ⟨l,xs,i,k,y,rfl,rfl,hH,h1,h2,hk,hy,q⟩:=h
 cases rx
 obtain ⟨u,rfl,ru⟩:=rv.one
 obtain ⟨t,rfl⟩:=ru
 obtain ⟨z,its,n,r,hl,e⟩:=I.lstM hH
 obtain ⟨w,hw,rw'⟩:=r.get hy
 refine call_meets F.slot_list_pop ⟨_,e,rfl⟩ F.entry_list_pop (F.args_list_pop_2 _ _)
  (MeetsSeq.list_pop_at l its.toArray n i t k w (fitsIndex_both h1 h2) (by rw [List.size_toArray,← hl]; exact hk) (by rw [← Array.getElem?_toList]; exact hw) (by rw [List.size_toArray]; omega)) ⟨e,?_⟩
 refine ⟨y,_,I.lset (its':=its.eraseIdx k) hH e ?_ (r.eraseIdx k) ?_,rw',q⟩
 ·show its.toArray.eraseIdxIfInBounds k=(its.eraseIdx k).toArray
  rw [List.eraseIdxIfInBounds_toArray]
 ·have:=lX xs k
  omega
def AL:R2:=fun x y H Q=>∃ l b xs zs,x=.ref l∧y=.ref b∧H l=some (.lst xs)∧H b=some (.lst zs)∧xs.length+zs.length≤sizeLine∧∀ p,H p=none→Q (.ref p) (upd H p (.lst (xs++zs)))
theorem me:OpR X (binaryOp .Add) AL:=by
 intro pins s σ H x y v u Q I rx ry h
 obtain ⟨l,b,xs,zs,rfl,rfl,hH,hB,hz,q⟩:=h
 cases rx
 cases ry
 obtain ⟨z,its,n,r,hl,e⟩:=I.lstM hH
 obtain ⟨z2,its2,n2,r2,hl2,e2⟩:=I.lstM hB
 refine PySem.P.add_list e e2 ?_ (by rw [List.size_toArray,List.size_toArray]; omega)
 have ea:its.toArray++its2.toArray=(its++its2).toArray:=by simp
 rw [ea]
 exact ⟨.ref _,_,I.lnew (t':=s.toks) (r.append r2) (by rw [List.length_append]; omega),rfl,q _ I.fresh⟩
def Bb:R2:=fun x y H Q=>∃ l k xs,x=.ref l∧y=.int k∧H l=some (.lst xs)∧-(2 ^ 63)≤k∧k<2 ^ 63∧xs.length*k.toNat≤sizeLine ∧
 ∀ p,H p=none→Q (.ref p) (upd H p (.lst (List.replicate k.toNat xs).flatten))
theorem wN {α:Type} (xs:List α) (k:Nat):(List.replicate k xs).flatten.length=k*xs.length:=by
 induction k with
 | zero=>simp
 | succ k ih=>rw [List.replicate_succ,List.flatten_cons,List.length_append,ih,Nat.succ_mul,Nat.add_comm]
theorem zk:OpR X (binaryOp .Mult) Bb:=by
 intro pins s σ H x y v u Q I rx ry h
 obtain ⟨l,k,xs,rfl,rfl,hH,h1,h2,hz,q⟩:=h
 cases rx
 obtain ⟨t,rfl⟩:=ry
 obtain ⟨z,its,n,r,hl,e⟩:=I.lstM hH
 have hlen:its.toArray.size*k.toNat≤sizeLine:=by rw [List.size_toArray,← hl]; exact hz
 have hcap:¬ its.toArray.size*k.toNat > (2 ^ 63 - 1) / 8:=by
  have:(sizeLine:Nat)≤(2 ^ 63 - 1) / 8:=by decide
  omega
 have hfit:¬ (!Builtin.List.listFitsIndex k)=true:=by
  rw [fitsIndex_both h1 h2]
  exact Bool.false_ne_true
 have hlong:¬ Builtin.List.listTooLong (its.toArray.size*k.toNat)=true:=by
  rw [oI hlen]
  exact Bool.false_ne_true
 have hnew:List.foldl (fun x1 x2=>x1++x2) #[] (List.replicate (if its.toArray.isEmpty=true then 0 else k.toNat) its.toArray)=(List.replicate k.toNat its).flatten.toArray:=by
  have f0:∀ m:Nat,List.foldl (fun x1 x2=>x1++x2) #[] (List.replicate m its.toArray)=(List.replicate m its).flatten.toArray:=fun m=>by
   have:=lh its m []
   rw [List.nil_append] at this
   exact this
  rw [f0]
  cases its with
  | nil=>simp
  | cons a r'=>rw [if_neg (by simp)]
 refine wpAny_binaryOp_repeat_ref (T := "list") (U := "int") (by decide) ⟨_,e,rfl⟩ (fun s'=>typeIs_int s' k t) noFill_list_mul F.fills_int_mul F.slot_int_rmul repeat_list F.slot_int_index.lookup
  (call_meets F.slot_int_rmul (typeIs_int s k t) F.entry_int_rmul (F.args_int_rmul_2 _ _) (int___rmul___int_list k t l its.toArray n)
   ⟨e,rfl,⟨_,e,rfl⟩,call_meets F.slot_list_mul ⟨_,e,rfl⟩ F.entry_list_mul (F.args_list_mul_2 _ _) (AutoListH.list___mul___list_int_3 l its.toArray n k t hfit hcap hlong) ⟨e,?_⟩⟩)
 rw [hnew]
 exact ⟨.ref _,_,I.lnew (t':=s.toks) (r.rep k.toNat) (by rw [wN,Nat.mul_comm]; exact hz),rfl,q _ I.fresh⟩
end
section
variable {prog:Program} {w:World} {A:Around} {E:Value→Shared→Prop} {s:Shared}
end
section
variable {X:Cx}
end
end L2
namespace Att
open PySem PySem.W PySem.Calls PyProof.Rows
theorem jh {P:Params} {h:Heap}:∀ (ns:List Int) (vs:List Value),WellAll P h vs (ns.map WData.int)→IntsAre vs ns:=by
 intro ns
 induction ns with
 | nil =>
  intro vs w
  rw [List.map_nil] at w
  cases w
  exact .nil
 | cons n ns ih =>
  intro vs w
  rw [List.map_cons] at w
  cases w with
  | cons a b =>
   cases a
   exact .cons _ _ (ih _ b)
theorem sU {l:OpenLaw} {n:Nat} (hn:l.most=some n) {P:Params} {h:Heap} {args:List WData} {vals:List Value}
  (hpre:l.row.toRowW.claim.pre args=true) (hwl:WellAll P h vals args) :
  ∃ a vs ns,vals=[Value.ref a]∧args=[WData.list (ns.map WData.int)]∧h.get? a=some { cls:=.type "list",data:=.seq vs.toArray }∧IntsAre vs ns∧ns.length≤n:=by
 have hsh:WShape.hasAll [] args [.list .int]=true:=(pre_splitW hpre).1
 have hc:l.pre.holds [] { args:=args }=true:=(pre_splitW hpre).2
 obtain ⟨d,r,rfl,h1,h2⟩:=hasAllW_cons hsh
 obtain rfl:=hasAllW_nil h2
 obtain ⟨xs,rfl,h3⟩:=hasW_list h1
 obtain ⟨ns,rfl⟩:=items_int h3
 have hlen:ns.length≤n:=by
  unfold OpenLaw.pre at hc
  have h4:(WTm.not (.lt (.lit (.int (n:Int))) (.len (.arg 0)))).holds [] { args:=[.list (ns.map .int)] }=true:=by
   have h4:=(holds_andW hc).1
   rw [hn] at h4
   exact h4
  have h5:=condW_of h4 (w_not (w_lt w_lit (w_len_list (w_arg rfl))))
  rw [List.length_map] at h5
  refine Nat.le_of_not_lt fun q=>?_
  have q':(n:Int)<((ns.length:Nat):Int):=by omega
  first
   | (rw [decide_eq_true q'] at h5; exact absurd h5 (by decide))
   | (simp at h5; omega)
 cases hwl with
 | cons w1 w2 =>
  cases w2
  cases w1 with
  | list ho hall=>exact ⟨_,_,ns,rfl,rfl,ho,jh ns _ hall,hlen⟩
theorem sn (l:OpenLaw) (args:List WData):l.row.toRowW.claim.post args (.bool true) args=true :=
 postW_of (r:=l.row.toRowW) (X:=(true==true))
  (show WShape.has [] (.bool true) .bool=true by first | rfl | decide | simp [WShape.has,WShape.arms,WShape.armsAll])
  (show (WTm.eq .res (.lit (.bool true))).value [] { args:=args,res:=some (.bool true),after:=args }=some (.bool (true==true)) from w_eq_bool (w_res rfl) w_lit) rfl
theorem attach_call {l:OpenLaw} {n:Nat} {q:Program} {loose:List Str} {XP:(Str→Option Value)→Heap→Prop} {YP:World→Heap→Prop} {d:DefRec}
  (hn:l.most=some n) (hdf:d.params.defaults=[])
  (call:∀ (w:World) (s₀ s₁:Shared) (mg mb:Str→Option Value) (fa:Addr) (o:Obj) (pm cd doc:Value) (a:Addr) (vs:List Value) (ns:List Int),
   Ground q loose [] XP w s₀ mg mb s₁.heap→YP w s₁.heap →
   s₁.heap.get? fa=some o→o.data=.func (docDef d.name d.params d.body d.scope pm cd doc)→s₁.heap.CodeRec cd d.name→mg d.name=some (.ref fa) →
   s₁.heap.get? a=some { cls:=.type "list",data:=.seq vs.toArray }→IntsAre vs ns→ns.length≤n→s₁.gens=#[] →
   codeAny (model l.prog w) callerA (.call (.ref fa) ⟨[.ref a],[]⟩) (fun r s'=>r=.ok (.ret (.bool true))∧OldK s₁.heap s'.heap∧s'.os=s₁.os∧AllBare s'.gens) s₁) :
  WalkO q loose XP YP l.row.toRowW d [] (fun f vs=>PySem.call f vs):=by
 intro w s₀ s₁ mg mb G Y fa o pm cd doc dV kV ho hd hcd hD hmg hg args vals as hpre hlay hrd hwl hlo
 obtain rfl:dV=.none:=Dflts.none hD hdf
 obtain rfl:kV=.none:=Dflts.noKw hD
 obtain ⟨a,vs,ns,rfl,rfl,hobj,hints,hlen⟩:=sU hn hpre hwl
 refine enter_call (codeAny_mono (call w s₀ s₁ mg mb fa o pm cd doc a vs ns G Y ho (fd_plain hd) hcd hmg hobj hints hlen hg) fun r s' hq=>?_)
 obtain ⟨rfl,h2,h3,h4⟩:=hq
 exact ⟨.inl ⟨.bool true,.bool true,[],rfl,fun _=>rfl,.bool true,sn l _,fun _=>⟨List.Pairwise.nil,fun _ hm=>(nomatch hm)⟩⟩,h2,h3,h4⟩
section
variable {prog:Program} {w:World} {A:Around} {E:Value→Shared→Prop} {s:Shared} {K:Frag}
end
end Att
namespace L2
open PySem PySem.Spec PyProof.Rows
theorem lC:∀ {vs:List Value} {ns:List Int},IntsAre vs ns→aR (ns.map V.int) vs
 | _,_,.nil=>.nil
 | _,_,.cons n t h=>.cons ⟨t,rfl⟩ (lC h)
def yD (H:Hp):Prop:=∀ b,H b=none∨∃ o xs,H b=some (.frz o (.lst xs))
theorem uQ {P:Program} {w:World} {K:Frag} {mg mb:Str→Option Value} {CX:CXT} {k:Nat} {fa a:Addr} {fd:FuncData} {x:Str} {sp:Sp} {s₁:Shared} {vs:List Value} {ns:List Int}
  (KX:K.In s₁.heap) (hns:s₁.heap.Ns mainGlobals mg) (hb:s₁.heap.Ns builtinsNs mb) (hbb:∀ x:Str,x ≠ "__name__"→mb x=bootBuiltins x) (hlim:s₁.heap.NoLimit) (hg:s₁.gens=#[])
  (ha:s₁.heap.get? a=some { cls:=.type "list",data:=.seq vs.toArray }) (hi:IntsAre vs ns) (hl:ns.length≤sizeLine) (hr:eQ k callerA)
  (F:∀ base:Heap,K.In base→base.Ns mainGlobals mg→bI P w K mg base CX k fa fd [x] sp) (hbind:∀ (s:Shared) (u:Value),BindsTo s fd ⟨[u],[]⟩ [(x,u)])
  (hsp:∀ H:Hp,yD H→SqL K H a (ns.map V.int)→sp [.ref a] H (fun v _=>v=.bl true) fun _ _ _=>False)
  (hCX:∀ H e s',CX [] H s₁ (fun _ _ _=>False) e s'→False) :
  codeAny (model P w) callerA (.call (.ref fa) ⟨[.ref a],[]⟩) (fun r s'=>r=.ok (.ret (.bool true))∧OldK s₁.heap s'.heap∧s'.os=s₁.os∧AllBare s'.gens) s₁:=by
 have rv:=lC hi
 have lenV:=hi.length
 -- from an abstract heap in which nothing but the script may be tracked
 have core:∀ H:Hp,yD H→SqL K H a (ns.map V.int)→HOk P w H s₁.heap→(∀ b,H b≠none→b=a)→(H a≠none→K.lookup a=none) →
   codeAny (model P w) callerA (.call (.ref fa) ⟨[.ref a],[]⟩) (fun r s'=>r=.ok (.ret (.bool true))∧OldK s₁.heap s'.heap∧s'.os=s₁.os∧AllBare s'.gens) s₁:=by
  intro H hO hS hok hA hK
  have base_of:∀ {b:Addr} {o:Obj},s₁.heap.get? b=some o→H b=none→(mU s₁.heap H).get? b=some o:=fun e n=>vh e n
  have noA:∀ {b:Addr} {o:Obj} {es:Array DictEntry} {ep:Nat},s₁.heap.get? b=some o→o.data=.dict es ep→H b=none:=fun {b o es ep} e d=>by
   cases q:H b with
   | none=>rfl
   | some u =>
    have e':b=a:=hA b (by rw [q]; simp)
    subst e'
    rw [ha] at e; cases e
    have d':Data.seq vs.toArray _=Data.dict es ep:=d
    cases d'
  have nsK:∀ {b:Addr} {m:Str→Option Value},s₁.heap.Ns b m→(mU s₁.heap H).Ns b m:=fun {b m} ⟨o,es,ep,e,d,r⟩=>⟨o,es,ep,base_of e (noA e d),d,r⟩
  have hKb:K.In (mU s₁.heap H):=fun b o e=>base_of (KX b o e) (by
   cases q:H b with
   | none=>rfl
   | some u =>
    have e':b=a:=hA b (by rw [q]; simp)
    subst e'
    rw [hK (by rw [q]; simp)] at e; cases e)
  have hM:Mod K mg (mU s₁.heap H):=⟨hKb,nsK hns,⟨mb,nsK hb,hbb⟩,let ⟨mc,h1,h2⟩:=hlim; ⟨mc,nsK h1,h2⟩⟩
  have e0:xD P w K mg (mU s₁.heap H) callerA [] s₁ H:=⟨rfl,hM,fun b o e=>wU e,Nat.le_of_eq (tE _ _),trivial,fun b hb=>absurd (show b∈([]:List Addr) from hb) (by simp),hok,.of_eq hg⟩
  refine codeAny_mono ((F _ hKb (nsK hns)).run callerA [] s₁ H ⟨[.ref a],[]⟩ [.ref a] [.ref a] _ _ hr e0 (hbind s₁ (.ref a)) (.cons rfl .nil) (hsp H hO hS)) fun r s' h=>?_
  cases r with
  | error e=>exact (hCX H e s' h).elim
  | ok fl =>
   cases fl with
   | next=>exact False.elim h
   | brk=>exact False.elim h
   | cont=>exact False.elim h
   | ret u =>
    obtain ⟨v,H',os,bare,un,hok',r',q⟩:=h
    have q':v=.bl true:=q
    subst q'
    obtain rfl:u=Value.bool true:=r'
    refine ⟨rfl,OldK.of_keep fun b o e=>?_,os,bare⟩
    cases q:H b with
    | none=>exact un.keep b o e q (by intro z; exact absurd (show b∈([]:List Addr) from z) (by simp)) (by simp)
    | some u =>
     rcases hO b with z | ⟨ob,xs,z⟩
     ·rw [q] at z; cases z
     ·have z2:=un.frzs b ob _ z
      obtain ⟨e1,_⟩:=hok b _ z
      obtain ⟨e2,_⟩:=hok' b _ z2
      rw [e] at e1; cases e1
      exact e2
 cases hk:K.lookup a with
 | some o =>
  -- the script is one of the module's own objects
  have e:=KX a o hk
  rw [ha] at e
  cases e
  refine core (fun _=>none) (fun _=>.inl rfl) (.inr ⟨_,vs.toArray,_,hk,rfl,rfl,rfl,by rw [List.size_toArray,lenV]; exact hl,by simpa using rv⟩) (fun b u z=>by have z':(none:Option HO)=some u:=z; cases z') (fun b z=>absurd rfl z) fun z=>absurd rfl z
 | none =>
  refine core (fun b=>if b=a then some (.frz { cls:=.type "list",data:=.seq vs.toArray } (.lst (ns.map V.int))) else none) (fun b=>?_) (.inl (.inr ⟨{ cls:=.type "list",data:=.seq vs.toArray },if_pos rfl⟩)) (fun b u z=>?_) (fun b z=>?_) fun _=>hk
  ·by_cases hb:b=a
   ·exact .inr ⟨_,_,if_pos hb⟩
   ·exact .inl (if_neg hb)
  ·by_cases hb:b=a
   ·have z':=(if_pos hb).symm.trans z
    cases z'
    subst hb
    exact ⟨ha,by rw [List.length_map]; exact hl,vs,_,rv,ha⟩
   ·have z':=(if_neg hb).symm.trans z
    cases z'
  ·by_cases hb:b=a
   ·exact hb
   ·exact absurd (if_neg hb) z
theorem walk_of {l:PySem.W.OpenLaw} {n k:Nat} {q:Program} {loose:List Str} {XP:(Str→Option Value)→Heap→Prop} {YP:World→Heap→Prop} {d:DefRec} {K:Params→Frag} {CX:World→CXT} {sp:World→Sp} {x:Str}
  (hn:l.most=some n) (hn2:n≤sizeLine) (hdf:d.params.defaults=[]) (hr:eQ k callerA)
  (hY:∀ (w:World) (h:Heap),YP w h→(K w.params).In h)
  (F:∀ (w:World) (mg:Str→Option Value) (fa:Addr) (h:Heap),(K w.params).In h→h.Ns mainGlobals mg→mg d.name=some (.ref fa) →
   ∃ fd:FuncData,(∀ (s:Shared) (u:Value),BindsTo s fd ⟨[u],[]⟩ [(x,u)]) ∧
    ∀ base:Heap,(K w.params).In base→base.Ns mainGlobals mg→bI l.prog w (K w.params) mg base (CX w) k fa fd [x] (sp w))
  (hsp:∀ (w:World) (H:Hp) (a:Addr) (ns:List Int),ns.length≤n→yD H→SqL (K w.params) H a (ns.map V.int)→sp w [.ref a] H (fun v _=>v=.bl true) fun _ _ _=>False)
  (hCX:∀ (w:World) (H:Hp) (s:Shared) (e:Value) (s':Shared),CX w [] H s (fun _ _ _=>False) e s'→False) :
  PySem.W.WalkO q loose XP YP l.row.toRowW d [] (fun f vs=>PySem.call f vs):=by
 refine Att.attach_call hn hdf fun w s₀ s₁ mg mb fa o pm cd doc a vs ns G Y ho hd hcd hmg hobj hints hlen hg=>?_
 have KX:=hY w _ Y
 obtain ⟨fd,hb,hF⟩:=F w mg fa _ KX G.T.g hmg
 exact uQ KX G.T.g G.T.b G.T.builtins G.T.nolimit hg hobj hints (Nat.le_trans hlen hn2) hr hF hb (fun H hO hS=>hsp w H a ns hlen hO hS) fun H e s'=>hCX w H s₁ e s'
end L2
/- THE LAST THEOREM (shape; LID,My.* are yours):
  My.Adr: a structure of the addresses that your layer names (classes,functions); My.Txt K t: a structure (Prop) of the equations over K;
  My.txt_mk:{K} {implicit addresses ..} (e1:nsIn K mainGlobals "law"=some (some (.ref f))) (e2:K.lookup f=some ⟨oc,od,.func (fnOf "law" "law" params body scope dV kV doc pm an cdv ct),sl⟩) (e3:codeIn K cdv "law"=true) ..:∃ t,My.Txt K t
(the tactic k_is has no namespace: write k_is) -/
namespace L2
open PySem PySem.Spec PyProof.Rows
def defArgs (s:Stmt):Arguments:=match s with
 | .FunctionDef _ a _ _ _ _ _ _ _ _=>a
 | _=>{ posonlyargs:=[],args:=[],vararg:=none,kwonlyargs:=[],kw_defaults:=[],kwarg:=none,defaults:=[] }
def defBody (s:Stmt):List Stmt:=match s with
 | .FunctionDef _ _ b _ _ _ _ _ _ _=>b
 | _=>[]
def defScope (s:Stmt):Scope:=match s with
 | .FunctionDef _ _ _ _ _ _ sc _ _ _=>sc
 | _=>{ kind:=.function,names:=[],isGenerator:=false,isCoroutine:=false }
abbrev CX0:CXT:=fun _ _ _ _ _ _=>False
abbrev E0:XK:=fun _ _ _=>False
theorem aO {X:Cx}:qt CX0 X E0:=fun _ _ _ _ _ _ _ h=>h.elim
structure Fun (K:Frag) (x qual:Str) (st:Stmt) (f:Addr) (fd:FuncData):Prop where
 ex:∃ (oc:Value) (od:Option Addr) (kV doc pm:Value) (an:Option Addr) (cdv ct:Value) (osl:Array (Option Value)),
  fd=PySem.W.fnOf x qual (defArgs st) (defBody st) (defScope st) .none kV doc pm an cdv ct∧K.lookup f=some ⟨oc,od,.func fd,osl⟩∧PySem.W.codeIn K cdv qual=true
 kp:keepIn K (.ref f)=true
section
variable {P:Program} {w:World} {K:Frag} {mg:Str→Option Value} {base:Heap}
theorem Fun.ok {x qual:Str} {st:Stmt} {f:Addr} {fd:FuncData} {N ps:List Str} {k:Nat} {sp:Sp} (F:Fun K x qual st f fd) (S:aU N ps (defScope st)) (len:∀ vs H Q E,sp vs H Q E→vs.length=ps.length)
  (hbody:∀ (cdv:Value) (A:Around) (outer:List Env) (s:Shared) (H:Hp) (vs:List V) (Q:VK) (E:XK),eQ k (A.deeper (envOfC qual (defScope st) s.heap.objs.size f cdv))→sp vs H Q E →
   ∃ t,PSs (rV CX0 P w K mg base N qual (defScope st) f cdv A outer s H E).nox (defBody st) t∧t { nx:=fun _ H'=>Q .non H',rt:=Q } (iM N vs) H):bI P w K mg base CX0 (k+1) f fd ps sp:=by
 obtain ⟨oc,od,kV,doc,pm,an,cdv,ct,osl,rfl,lk,hcd⟩:=F.ex
 refine Ap lk hcd S len fun A outer s H vs Q E hr hsp=>?_
 obtain ⟨t,h,q⟩:=hbody cdv A outer s H vs Q E hr hsp
 exact ⟨t,h.nox,q⟩
theorem Fun.binds {x qual:Str} {st:Stmt} {f:Addr} {fd:FuncData} {ps:List Str} (F:Fun K x qual st f fd)
  (h:∀ (kV doc pm:Value) (an:Option Addr) (cdv ct:Value) (us:List Value),us.length=ps.length→bindArgs (PySem.W.fnOf x qual (defArgs st) (defBody st) (defScope st) .none kV doc pm an cdv ct) ⟨us,[]⟩=pure (ps.zip us)):ib K fd ps []:=by
 obtain ⟨oc,od,kV,doc,pm,an,cdv,ct,osl,rfl,lk,hcd⟩:=F.ex
 exact .all (h kV doc pm an cdv ct)
theorem yF {x qual:Str} {st:Stmt} {f:Addr} {oc:Value} {od an:Option Addr} {osl:Array (Option Value)} {kV doc pm cdv ct:Value} (l:K.lookup f=some ⟨oc,od,.func (PySem.W.fnOf x qual (defArgs st) (defBody st) (defScope st) .none kV doc pm an cdv ct),osl⟩)
  (c:PySem.W.codeIn K cdv qual=true) (k:keepIn K (.ref f)=true):Fun K x qual st f (PySem.W.fnOf x qual (defArgs st) (defBody st) (defScope st) .none kV doc pm an cdv ct):=⟨⟨oc,od,kV,doc,pm,an,cdv,ct,osl,rfl,l,c⟩,k⟩
end
theorem aL {n:Nat} (h:n≤1000):n<sizeLine:=Nat.lt_of_le_of_lt h (by decide)
section
variable {X:Cx}
theorem pv (i:Nat) {x:Str} {pos:Pos} (hN:X.N[i]?=some x:=by rfl) (hv:Vis X.env.scope x:=by first | exact Or.inl rfl | exact Or.inr (Or.inl rfl) | exact Or.inr (Or.inr rfl)) (hd:(x==("__debug__":Str))=false:=by decide)
  (hcd:(x==("__classdict__":Str))=false:=by decide):PE X (.Name x pos) (AE i):=zE hN hv hd hcd
end
theorem bU {A B:Prop} (h:B):if false=true then A else B:=by
 rw [if_neg Bool.false_ne_true]
 exact h
theorem eP {A B:Prop} (h:A):if true=true then A else B:=by
 rw [if_pos rfl]
 exact h
theorem bh {c A B:Prop} [Decidable c] (h1:c→A) (h2:¬ c→B):if c then A else B:=by
 by_cases h:c
 ·rw [if_pos h]
  exact h1 h
 ·rw [if_neg h]
  exact h2 h
def aA (H H':Hp):Prop:=∀ b o,H b=some o→H' b=some o
theorem aA.refl (H:Hp):aA H H:=fun _ _ h=>h
theorem aA.trans {H H1 H2:Hp} (a:aA H H1) (b:aA H1 H2):aA H H2:=fun c o h=>b c o (a c o h)
theorem aA.free {H H':Hp} (e:aA H H') {l:Addr} (h:H' l=Option.none):H l=Option.none:=by
 cases q:H l with
 | none=>rfl
 | some o =>
  rw [e l o q] at h
  cases h
open PySem PySem.Spec PyProof.Rows
section
variable {prog:Program} {w:World} {A:Around} {R:Result→Shared→Prop} {s:Shared}
theorem nP {elt target iter:Expr} {ifs:List Expr} {scope:Scope} {pos:Pos} {it acc:Value} {env:Env} (I:Nat→Shared→Prop)
  (turn:∀ n s,I n s→wpAny (model prog w) A (pyNext it) (fun r s₁=>match r with
   | none=>R (.ok .next) s₁
   | some v=>wpAny (model prog w) A (letOwnedTupleGo target it v) (fun _ s₁'=>wpAny (model prog w) A (assign target env v) (fun _ s₂ =>
     wpAny (model prog w) A (forIn ifs true fun c r=>if r=true then do let ok ← isTrue c env (eval c env); pure (ForInStep.yield ok) else pure (ForInStep.yield r)) (fun ok s₃ =>
      if ok=true then wpAny (model prog w) A (eval elt env) (fun x s₄ =>
       wpAny (model prog w) A (call (.builtin "list.append") [acc,x]) (fun _ s₅=>∃ m,m<n∧I m s₅) (fun _ _=>False) s₄) (fun _ _=>False) s₃
      else ∃ m,m<n∧I m s₃) (fun _ _=>False) s₂) (fun _ _=>False) s₁') (fun _ _=>False) s₁) (fun _ _=>False) s)
  (n:Nat) (h:I n s) :
  codeAny (model prog w) A (.compLoop (.ListComp elt [⟨target,iter,ifs,0⟩] scope pos) 0 it acc env) R s:=by
 refine codeAny_loop rfl I (fun n s hI=>?_) n h
 show wpAny _ A ((compTurn (.ListComp elt [⟨target,iter,ifs,0⟩] scope pos) 0 it acc env).onRaise (fun x=>do noteFrame x env; theTreesLotGoes x)) _ _ s
 refine wpAny_noted ?_
 rw [compTurn_list]
 refine wpAny_bind (wpAny_standAt (wpAny_bind (wpAny_mono (turn n s hI) (fun r s₁ h₁=>?_) fun _ _ h'=>h'.elim)))
 cases r with
 | none=>exact wpAny_pure h₁
 | some v =>
  refine wpAny_bind (wpAny_mono h₁ (fun _ s₁' h₁'=>?_) fun _ _ h'=>h'.elim)
  refine wpAny_bind (wpAny_mono h₁' (fun _ s₂ h₂=>wpAny_bind (wpAny_mono h₂ (fun ok s₃ h₃=>?_) fun _ _ h'=>h'.elim)) fun _ _ h'=>h'.elim)
  cases ok with
  | false=>exact wpAny_pure ⟨rfl,h₃⟩
  | true =>
   exact wpAny_bind (wpAny_bind (wpAny_mono h₃ (fun x s₄ h₄=>wpAny_bind (wpAny_mono h₄ (fun _ s₅ h₅=>wpAny_pure (wpAny_pure ⟨rfl,h₅⟩)) fun _ _ h'=>h'.elim)) fun _ _ h'=>h'.elim))
end
def clo (env:Env):List (Str×NameKind)→List (Str×Addr)→List (Str×Addr)
 | [],cs=>cs
 | (n,k)::r,cs=>if k==.free then (match env.cells.lookup n with
  | some c=>clo env r ((n,c)::cs)
  | none=>clo env r cs) else clo env r cs
theorem fq {scope:Scope} {env:Env} (h:∀ x∈scope.names,x.2=.free→∃ c,env.cells.lookup x.1=some c):closureFor scope env=pure (clo env scope.names []):=by
 have go:∀ (l:List (Str×NameKind)) (cs:List (Str×Addr)),(∀ x∈l,x.2=.free→∃ c,env.cells.lookup x.1=some c) →
   (forIn (m:=Sem) l cs fun x r=>if (x.2==NameKind.free)=true then do let c ← cellOf env x.1; pure (ForInStep.yield ((x.1,c)::r)) else pure (ForInStep.yield r))=pure (clo env l cs):=by
  intro l
  induction l with
  | nil=>intro cs _; rfl
  | cons x r ih =>
   intro cs hx
   obtain ⟨n,k⟩:=x
   rw [List.forIn_cons]
   unfold clo
   cases hk:k==NameKind.free with
   | true =>
    obtain ⟨c,hc⟩:=hx (n,k) List.mem_cons_self (by simpa using hk)
    simp only [hk,if_true,cellOf,hc]
    exact ih _ fun y hy=>hx y (List.mem_cons_of_mem _ hy)
   | false =>
    simp only [hk,Bool.false_eq_true,if_false]
    exact ih _ fun y hy=>hx y (List.mem_cons_of_mem _ hy)
 have e:=go scope.names [] h
 unfold closureFor
 exact congrArg (fun t:Sem (List (Str×Addr))=>t >>= fun r=>pure r) e
theorem eh {env:Env}:∀ (l:List (Str×NameKind)) (cs:List (Str×Addr)),(∀ p∈cs,env.cells.lookup p.1=some p.2)→∀ p∈clo env l cs,env.cells.lookup p.1=some p.2
 | [],cs,h,p,hp=>h p hp
 | (n,k)::r,cs,h,p,hp=>by
  unfold clo at hp
  split at hp
  ·split at hp
   ·next c hc =>
    refine eh r _ (fun q hq=>?_) p hp
    rcases List.mem_cons.mp hq with e | hq
    ·subst e; exact hc
    ·exact h q hq
   ·exact eh r cs h p hp
  ·exact eh r cs h p hp
theorem ig {env:Env}:∀ (l:List (Str×NameKind)) (cs:List (Str×Addr)),∀ p∈cs,p∈clo env l cs
 | [],_,_,hp=>hp
 | (n,k)::r,cs,p,hp=>by
  unfold clo
  split
  ·split
   ·exact ig r _ p (List.mem_cons_of_mem _ hp)
   ·exact ig r _ p hp
  ·exact ig r _ p hp
theorem jp {env:Env} {x:Str} {c:Addr} (hc:env.cells.lookup x=some c):∀ (l:List (Str×NameKind)) (cs:List (Str×Addr)),(x,NameKind.free)∈l→(x,c)∈clo env l cs
 | [],_,h=>nomatch h
 | (n,k)::r,cs,h=>by
  unfold clo
  rcases List.mem_cons.mp h with e | h
  ·cases e
   simp only [beq_self_eq_true,if_true,hc]
   exact ig r _ _ List.mem_cons_self
  ·split
   ·split
    ·exact jp hc r _ h
    ·exact jp hc r _ h
   ·exact jp hc r _ h
theorem dI {cs:List (Str×Addr)} {f:Str→Option Addr} (h:∀ p∈cs,f p.1=some p.2) {x:Str} {c:Addr} (e:cs.lookup x=some c):f x=some c:=h _ (PySem.mem_of_lookup e)
theorem jF {x:Str} {c:Addr}:∀ {cs:List (Str×Addr)},(∀ p∈cs,p.1=x→p.2=c)→(x,c)∈cs→cs.lookup x=some c
 | [],_,h=>nomatch h
 | (n,d)::r,ha,h=>by
  rw [List.lookup_cons]
  cases e:x==n with
  | true =>
   have e':x=n:=by simpa using e
   have:=ha (n,d) List.mem_cons_self e'.symm
   simp at this ⊢
   exact this
  | false =>
   rcases List.mem_cons.mp h with z | h
   ·cases z; simp at e
   ·exact jF (fun p hp=>ha p (List.mem_cons_of_mem _ hp)) h
theorem jP {env:Env} {names:List (Str×NameKind)} {x:Str} {c:Addr} (hc:env.cells.lookup x=some c) (h:(x,NameKind.free)∈names):(clo env names []).lookup x=some c :=
 jF (fun p hp e=>by have:=eh names [] (fun _ z=>nomatch z) p hp; rw [e,hc] at this; exact (Option.some.inj this).symm) (jp hc names [] h)
def slots (ρ:List (Option Nat)) (σ:St):St:=ρ.map fun o=>o.bind fun j=>(σ[j]?).join
def blk (X:Cx) (scope:Scope) (N':List Str) (C:Addr) (s₀:Shared) (H₀:Hp) (ex:List Addr):Cx :=
 { X with N:=N',s₀:=s₀,H₀:=H₀,env:=compEnvC scope (clo X.env scope.names []) C X.env,outer:=X.stack,stack:=X.stack,ex:=ex,fn:=fun _=>false,pn:=[],xe:=fun _ _=>False }
structure bH (X:Cx) (scope:Scope) (N':List Str) (ρ:List (Option Nat)) (m:Nat):Prop where
 kind:scope.kind=.function
 nocell:∀ x∈scope.names,x.2≠.cell
 names:∀ x∈scope.names,x.2=.local→scope.names.lookup x.1=some .local
 frees:∀ x∈scope.names,x.2=.free→X.env.kindOf x.1=some .cell∨X.env.kindOf x.1=some .free
 len:ρ.length=N'.length
 own:∀ (i j:Nat),ρ[i]?=some (some j)→m≤i
 slot:∀ (i j:Nat) (x:Str),ρ[i]?=some (some j)→N'[i]?=some x→X.N[j]?=some x∧(x,NameKind.free)∈scope.names
 slotNoLocal:∀ (i j:Nat) (x:Str),ρ[i]?=some (some j)→N'[i]?=some x→(relabel scope X.env).names.lookup x≠some .local
theorem cV {env:Env}:∀ {names:List (Str×NameKind)} {x:Str} {k:NameKind},(names.map fun (n,k)=>if (k==NameKind.free&&env.scope.kind==.function&&env.kindOf n==some .cell) then (n,NameKind.cell) else (n,k)).lookup x=some k→(k=.cell∨k=.free)→(∀ y∈names,y.2≠.cell)→(x,NameKind.free)∈names
 | [],_,_,h,_,_=>by simp at h
 | (n,k0)::r,x,k,h,hk,hn=>by
  rw [List.map_cons] at h
  by_cases hc:(k0==NameKind.free&&env.scope.kind==.function&&env.kindOf n==some .cell)=true
  ·simp only [hc,if_true,List.lookup_cons] at h
   cases e:x==n with
   | true =>
    have e':x=n:=by simpa using e
    have hk0:k0=.free:=by simp [Bool.and_eq_true] at hc; exact hc.1.1
    subst e'; subst hk0
    exact List.mem_cons_self
   | false =>
    rw [e] at h
    exact List.mem_cons_of_mem _ (cV h hk fun y hy=>hn y (List.mem_cons_of_mem _ hy))
  ·simp only [hc,Bool.false_eq_true,if_false,List.lookup_cons] at h
   cases e:x==n with
   | true =>
    rw [e] at h
    have e':x=n:=by simpa using e
    subst e'
    have h':k0=k:=by simpa using h
    subst h'
    rcases hk with z | z
    ·exact absurd z (hn (x,k0) List.mem_cons_self)
    ·subst z; exact List.mem_cons_self
   | false =>
    rw [e] at h
    exact List.mem_cons_of_mem _ (cV h hk fun y hy=>hn y (List.mem_cons_of_mem _ hy))
theorem lw {ρ:List (Option Nat)} {σ:St} {i:Nat} {v:V} (h:(slots ρ σ)[i]?=some (some v)):∃ j,ρ[i]?=some (some j)∧σ[j]?=some (some v):=by
 unfold slots at h
 rw [List.getElem?_map] at h
 cases e:ρ[i]? with
 | none=>rw [e] at h; cases h
 | some o =>
  rw [e] at h
  cases o with
  | none=>simp at h
  | some j =>
   refine ⟨j,rfl,?_⟩
   simp at h
   cases q:σ[j]? with
   | none=>rw [q] at h; simp at h
   | some z=>rw [q] at h; simp at h; rw [h]
section
variable {X:Cx} {pins:List (Addr×Obj)} {σ:St} {H:Hp} {s:Shared} {scope:Scope} {N':List Str} {ρ:List (Option Nat)} {m:Nat}
theorem rQ (I:Inv X pins σ H s) (B:bH X scope N' ρ m) {fp:List Addr} (hfp:∀ b∈fp,gH X pins H b) {C D:Addr} {h1:Heap} {tk:Nat} {oD:Obj} {mC:Str→Option Value} (hC:s.heap.objs.size≤C) (hD:s.heap.objs.size≤D) (hDC:D≠C)
  (hfs:∀ b∈fp,b<s.heap.objs.size) (old:∀ b o,s.heap.get? b=some o→h1.get? b=some o) (hns:h1.Ns C mC) (hoD:h1.get? D=some oD) (hdD:∀ v,oD.data≠.cell v) :
  Inv (blk X scope N' C s H fp) [(D,oD)] (slots ρ σ) H { s with heap:=h1,toks:=tk }:=by
 have hcl:∀ x c,(clo X.env scope.names []).lookup x=some c→X.env.cells.lookup x=some c:=fun x c e=>dI (f:=fun y=>X.env.cells.lookup y) (eh scope.names [] fun _ z=>nomatch z) e
 have nofs:∀ b,s.heap.objs.size≤b→b∉frs X.stack:=fun b hb z=>by
  rcases List.mem_cons.mp (I.stkSub b z) with e | z
  ·exact absurd (Nat.lt_of_lt_of_le I.lt hb) (by rw [e]; exact Nat.lt_irrefl _)
  ·exact I.nofs hb z
 have lk:∀ x,((relabel scope X.env).names.lookup x=some .cell∨(relabel scope X.env).names.lookup x=some .free)→(x,NameKind.free)∈scope.names:=fun x hx=>by
  rcases hx with hx | hx
  ·exact cV hx (.inl rfl) B.nocell
  ·exact cV hx (.inr rfl) B.nocell
 refine ⟨⟨I.ok.mod,B.kind,I.ok.glob,I.ok.blt,hC,fun x y c h1 h2=>I.ok.inj x y c (hcl x c h1) (hcl y c h2),fun x hx=>?_,fun x c hf _=>absurd hf Bool.false_ne_true,I.ok.hd,I.ok.frames,.inl rfl,fun b hb=>⟨Nat.ne_of_lt (Nat.lt_of_lt_of_le (hfs b hb) hC),fun x c e=>(hfp b hb).2.2.2.2.1 x c (hcl x c e)⟩,I.bs,Nat.le_trans I.ok.bsz I.sz,fun b o e hb=>?_,fun b hb z=>?_,I.stack,I.stkFree⟩,
  rfl,I.bare,Un.kept old,⟨mC,hns,fun i x v h1 h2 h3=>?_⟩,fun x c e=>?_,I.hok.fresh hC,fun x c e=>I.freeC x c (hcl x c e),fun p hp=>?_,I.hok.kept old,?_⟩
 ·have hm:=lk x hx
  obtain ⟨c,hc⟩:=I.ok.has x (B.frees _ hm rfl)
  exact ⟨c,jP hc hm⟩
 ·rcases (hfp b hb).2.2.2.1 with z | z
  ·exact I.ok.noex b o e z
  ·exact absurd (Nat.lt_of_lt_of_le (Heap.lt_size (I.ok.bs b o e).1) z) (Nat.lt_irrefl _)
 ·rcases List.mem_cons.mp (I.stkSub b z) with e | z
  ·exact (hfp b hb).2.1 e
  ·exact (hfp b hb).2.2.1 z
 ·obtain ⟨j,hj,hσ⟩:=lw h2
  obtain ⟨hN,hm⟩:=B.slot i j x hj h1
  have hk:=B.frees _ hm rfl
  obtain ⟨m0,hn0,hl⟩:=I.loc
  obtain ⟨u,r,l⟩:=hl j x v hN hσ (hk.elim (fun z=>.inr (.inl z)) fun z=>.inr (.inr z))
  rcases l with ⟨z,_⟩ | ⟨_,c,hc,hcell⟩
  ·rcases hk with q | q
   ·rw [q] at z; cases z
   ·rw [q] at z; cases z
  ·refine ⟨u,r,.inr ⟨?_,c,jP hc hm,?_⟩⟩
   ·rcases h3 with z | z | z
    ·-- a free name is no local of the block
     exfalso
     have q:(relabel scope X.env).names.lookup x=some .local:=z
     exact (B.slotNoLocal i j x hj h1 q)
    ·exact .inl z
    ·exact .inr z
   ·obtain ⟨o,ho,hd⟩:=hcell
    exact ⟨o,old _ _ ho,hd⟩
 ·obtain ⟨v,o,ho,hd⟩:=I.cell x c (hcl x c e)
  exact ⟨v,o,old _ _ ho,hd⟩
 ·have e:p=(D,oD):=by
   have hp':p∈([]:List (Addr×Obj))++[(D,oD)]:=hp
   simpa using hp'
  subst e
  exact ⟨hoD,I.hok.fresh hD,hDC,nofs D hD,hdD⟩
 ·show (slots ρ σ).length=N'.length
  unfold slots
  rw [List.length_map]
  exact B.len
end
def PTs (Y:Cx) (ifs:List Expr) (t:TT):Prop :=
 ∀ (pins:List (Addr×Obj)) (s:Shared) (σ:St) (H:Hp) (Q:Bool→Hp→Prop),Inv Y pins σ H s→t σ H Q →
  wpAny (model Y.prog Y.w) Y.A (forIn ifs true fun c r=>if r=true then do let ok ← isTrue c Y.env (eval c Y.env); pure (ForInStep.yield ok) else pure (ForInStep.yield r)) (TP Y pins σ Q) Y.xe s
def yt:TT:=fun _ H Q=>Q true H
theorem bu {Y:Cx}:PTs Y [] yt:=fun _ _ _ H _ I h=>wpAny_tests_nil ⟨H,I,h⟩
theorem mo {Y:Cx} {c:Expr} {t:TT} (h:PT Y c t):PTs Y [c] t:=fun pins s σ H Q I q=>wpAny_tests_one (h pins s σ H Q I q)
def iR (J:It) (m:Nat) (g:TG) (tt:TT) (te:TE) (σ':St) (Z:List V→Hp→Prop) (H1:Hp):Prop :=
 ∃ W:Nat→Nat→List V→Hp→Prop,(∃ k,W 0 k [] H1)∧∀ i k acc H,W i k acc H→acc.length≤sizeLine ∧
  ((J.stop i H∧Z acc H)∨(J.go i H∧∀ x H',J.yld i H x H'→g x σ' H' fun σ2 H2=>(σ2.drop m=σ'.drop m∧σ2.length=σ'.length) ∧
    tt σ2 H2 fun b H3=>if b=true then te σ2 H3 fun v H4=>acc.length<sizeLine∧∃ k',k'<k∧W (i+1) k' (acc++[v]) H4 else ∃ k',k'<k∧W (i+1) k' acc H3))
def xZ (wi:TI) (ρ:List (Option Nat)) (m:Nat) (g:TG) (tt:TT) (te:TE):TE:=fun σ H Q=>wi σ H fun J H1 =>
 iR J m g tt te (slots ρ σ) (fun acc H=>∀ D,H D=none→Q (.ref D) (upd H D (.lst acc))) H1
theorem vV {σ σ':St} {m:Nat} (h:σ.drop m=σ'.drop m) {i:Nat} (hi:m≤i):σ[i]?=σ'[i]?:=by
 have e:(σ.drop m)[i - m]?=(σ'.drop m)[i - m]?:=by rw [h]
 rw [List.getElem?_drop,List.getElem?_drop] at e
 rwa [show m+(i - m)=i by omega] at e
section
variable {X:Cx} {pins:List (Addr×Obj)} {σ:St} {H2:Hp} {s2:Shared} {scope:Scope} {N':List Str} {ρ:List (Option Nat)} {m:Nat} {elt tg iter:Expr} {ifs:List Expr} {g:TG} {tt:TT} {te:TE} {pos:Pos}
theorem qI (hc:X.calm=true) (B:bH X scope N' ρ m) (hg:∀ C s₀ H₀ ex,PG (blk X scope N' C s₀ H₀ ex) tg g) (ht:∀ C s₀ H₀ ex,PTs (blk X scope N' C s₀ H₀ ex) ifs tt) (he:∀ C s₀ H₀ ex,PE (blk X scope N' C s₀ H₀ ex) elt te)
  {J:It} {fp:List Addr} {it:Addr} {tn:Nat→Heap→Prop} {Z:List V→Hp→Prop} (I:Inv X pins σ H2 s2) (T:mq X.prog X.w X.K tg J fp it tn) (st:tn 0 s2.heap) (hfp:∀ b∈fp,gH X pins H2 b) (hL:iR J m g tt te (slots ρ σ) Z H2)
  {RR:Value→Addr→Result→Shared→Prop} {E:Value→Shared→Prop}
  (fin:∀ (D C:Addr) (H':Hp) (acc:List V) (s':Shared) (mC:Str→Option Value),s'.heap.Ns C mC→Inv X pins σ (upd H' D (.lst acc)) s'→gH X pins (upd H' D (.lst acc)) C→H' D=none→Z acc H'→RR (.ref D) C (.ok .next) s') :
  wpAny (model X.prog X.w) X.A (newList []) (fun acc s₃=>wpAny (model X.prog X.w) X.A (newFunctionEnv scope X.env.globals (clo X.env scope.names []) [] X.env.qual none .none (some X.env)) (fun cenv s₄ =>
   codeAny (model X.prog X.w) X.A (.compStart (.ListComp elt [⟨tg,iter,ifs,0⟩] scope pos) 0 (.ref it) acc { cenv with scope:=relabel scope X.env }) (RR acc cenv.locals) s₄) E s₃) E s2:=by
 refine wpAny_newObj_type (wpAny_newFunctionEnv B.nocell (by intro y hy; simp at hy) (fun h₁ hns₁ hsb₁=>?_) B.kind)
 dsimp only at hns₁ hsb₁ ⊢
 generalize hHp:s2.heap.push { cls:=.type "list",dict:=none,data:=.seq ([]:List Value).toArray }=Hp2 at hns₁ hsb₁ ⊢
 have hCe:Hp2.objs.size=s2.heap.objs.size+1:=by rw [← hHp,Heap.size_push]
 have hDC:s2.heap.objs.size≠Hp2.objs.size:=by rw [hCe]; exact Nat.ne_of_lt (Nat.lt_succ_self _)
 have hCle:s2.heap.objs.size≤Hp2.objs.size:=by rw [hCe]; exact Nat.le_succ _
 have below:∀ b,b<s2.heap.objs.size→b≠Hp2.objs.size∧b≠s2.heap.objs.size:=fun b hb=>⟨by rw [hCe]; exact Nat.ne_of_lt (Nat.lt_succ_of_lt hb),Nat.ne_of_lt hb⟩
 have old:∀ b o,s2.heap.get? b=some o→h₁.get? b=some o:=fun b o e=>hsb₁.extBut b o (below b (Heap.lt_size e)).1 (Heap.get?_push_of_some _ (hHp ▸ Heap.get?_push_of_some _ e))
 have hfs:∀ b∈fp,b<s2.heap.objs.size:=fun b hb=>let ⟨o,e,_⟩:=T.obj 0 _ st b hb; Heap.lt_size e
 generalize hDn:s2.heap.objs.size=D at *
 generalize hCn:Hp2.objs.size=C at *
 have hacc:h₁.get? D=some { cls:=.type "list",data:=.seq ([]:List Value).toArray }:=hsb₁.extBut _ _ hDC (Heap.get?_push_of_some _ (by rw [← hHp,← hDn]; exact Heap.get?_push_size _ rfl))
 have st₁:tn 0 h₁:=T.keep _ _ _ st fun b _ o e=>old b o e
 obtain ⟨W,⟨k0,w0⟩,turn⟩:=hL
 have cellLt:∀ x c,(clo X.env scope.names []).lookup x=some c→c<s2.heap.objs.size:=fun x c e=>by
  have e':X.env.cells.lookup x=some c:=dI (f:=fun y=>X.env.cells.lookup y) (eh scope.names [] fun _ z=>nomatch z) e
  obtain ⟨v,o,ho,_⟩:=I.cell x c e'
  exact Heap.lt_size ho
 have stat:∀ {H':Hp} {o:Obj},(∀ b∈fp,H' b=none)→∀ b∈fp,gH (blk X scope N' C s2 H2 fp) [(D,o)] H' b:=fun {H' o} hn b hb=>by
  obtain ⟨_,f1,f2,_,f4,_⟩:=hfp b hb
  refine ⟨hn b hb,(below b (hfs b hb)).1,fun z=>?_,.inl hb,fun x c e=>f4 x c (dI (f:=fun y=>X.env.cells.lookup y) (eh scope.names [] fun _ z=>nomatch z) e),fun p hp=>?_⟩
  ·rcases List.mem_cons.mp (I.stkSub b z) with e | z
   ·exact f1 e
   ·exact f2 z
  ·have e:p=(D,o):=by
    have hp':p∈([]:List (Addr×Obj))++[(D,o)]:=hp
    simpa using hp'
   subst e
   exact Ne.symm (below b (hfs b hb)).2
 have loop:∀ s₃:Shared,s₃={ s2 with heap:=h₁,toks:=s2.toks+([]:List (Str×Value)).length } →
   codeAny (model X.prog X.w) X.A (.compLoop (.ListComp elt [⟨tg,iter,ifs,0⟩] scope pos) 0 (.ref it) (.ref D) (compEnvC scope (clo X.env scope.names []) C X.env)) (RR (.ref D) C) s₃:=by
  rintro s₃ rfl
  have I₁:Inv (blk X scope N' C s2 H2 fp) [(D,{ cls:=.type "list",data:=.seq ([]:List Value).toArray })] (slots ρ σ) H2 { s2 with heap:=h₁,toks:=s2.toks+([]:List (Str×Value)).length } :=
   rQ I B hfp (by rw [hDn]; exact hCle) (by rw [hDn]; exact Nat.le_refl _) hDC (fun b hb=>by rw [hDn]; exact hfs b hb) old hns₁ hacc (fun v z=>by cases z)
  refine nP (fun n s'=>∃ (i:Nat) (acc:List V) (H':Hp) (its:List Value) (kk:Nat),Inv (blk X scope N' C s2 H2 fp) [(D,{ cls:=.type "list",data:=.seq its.toArray kk })] (slots ρ σ) H' s'∧aR acc its∧tn i s'.heap∧(∀ b∈fp,H' b=none)∧W i n acc H') ?_ k0
   ⟨0,[],H2,[],_,I₁,.nil,st₁,fun b hb=>(hfp b hb).1,w0⟩
  rintro n s3 ⟨i,acc,H3,its,kk,I3,rv,st3,fr3,w3⟩
  obtain ⟨hlen,cs⟩:=turn i n acc H3 w3
  rcases cs with ⟨stop,z⟩ | ⟨go,step⟩
  ·refine thn (T.done (blk X scope N' C s2 H2 fp) rfl rfl rfl hc i _ s3 (slots ρ σ) H3 (fun _ _=>False) I3 (stat fr3) st3 stop) fun r s4 ⟨hr,I4⟩=>?_
   subst hr
   obtain ⟨eD,nD,_,_,_⟩:=I4.pin (D,_) (List.mem_append_right _ (List.mem_singleton.mpr rfl))
   obtain ⟨mC,hnsC,_⟩:=I4.loc
   have hD2:H2 D=none:=I.hok.fresh (by rw [hDn]; exact Nat.le_refl _)
   have u:Un (frs X.stack) fp H2 (upd H3 D (.lst acc)) s2.heap s4.heap :=
    ⟨I4.base.keep,I4.base.slot,fun b o e n hx=>by rw [aW (below b (by rw [← hDn]; exact Heap.lt_size e)).2]; exact I4.base.free b o e n hx,I4.base.there,
     fun b xs e=>by rw [aW (ar e hD2)]; exact I4.base.tups b xs e,fun b o u e=>by rw [aW (ar e hD2)]; exact I4.base.frzs b o u e,
     fun b ps e=>by rw [aW (ar e hD2)]; exact I4.base.tbls b ps e⟩
   have hok:HOk X.prog X.w (upd H3 D (.lst acc)) s4.heap:=fun b o e=>by
    by_cases hb:b=D
    ·subst hb
     rw [ae] at e; cases e
     exact ⟨hlen,its,kk,rv,eD⟩
    ·rw [aW hb] at e
     exact (I4.hok b o e).stay (fun c v _ q=>q) (fun c q=>by rw [aW (ar q nD)]; exact q) fun c xs q=>by rw [aW (ar q nD)]; exact q
   have IX:Inv X pins σ (upd H3 D (.lst acc)) s4:=Inv.call' (ch:=fp) I I4.os u hok I4.bare fun b hb=>⟨(hfp b hb).2.2.2.1,(hfp b hb).2.1,(hfp b hb).2.2.2.2.1,(hfp b hb).2.2.2.2.2⟩
   have nC:(upd H3 D (.lst acc)) C=none:=by rw [aW (Ne.symm hDC)]; exact I4.free
   exact fin D C H3 acc s4 mC hnsC IX (I.fpOk (by rw [hDn]; exact hCle) nC) nD z
  ·refine thn (T.item (blk X scope N' C s2 H2 fp) rfl rfl rfl hc i _ s3 (slots ρ σ) H3 (fun _ _=>False) I3 (stat fr3) st3 go) fun r s4 ⟨u,hr,h4⟩=>?_
   subst hr
   refine thn h4 fun _ s5 ⟨x,H5,I5,r5,y5,st5,fr5⟩=>?_
   have I5':=I5.pinned (stat fr5) (T.obj _ _ st5)
   refine thn (hg C s2 H2 fp _ s5 (slots ρ σ) H5 x u _ I5' r5 (step x H5 y5)) fun _ s6 ⟨σ6,H6,I6,⟨d6,l6⟩,q6⟩=>?_
   refine thn (ht C s2 H2 fp _ s6 σ6 H6 _ I6 q6) fun b s7 ⟨H7,I7,q7⟩=>?_
   have le6:∀ (j:Nat) v,(slots ρ σ)[j]?=some (some v)→σ6[j]?=some (some v):=fun j v e=>by
    obtain ⟨k,hk,_⟩:=lw e
    rw [vV d6 (B.own j k hk)]
    exact e
   have kept:∀ {H8:Hp} {s8:Shared},Inv (blk X scope N' C s2 H2 fp) ([(D,{ cls:=.type "list",data:=.seq its.toArray kk })]++iH fp s5.heap) σ6 H8 s8 →
     (∀ b∈fp,∀ o,s5.heap.get? b=some o→s8.heap.get? b=some o)∧∀ b∈fp,H8 b=none:=fun {H8 s8} I8 =>
    ⟨fun b hb o e=>(I8.pin (b,o) (List.mem_append_right _ (List.mem_append_right _ (dh hb e)))).1,fun b hb=>by
     obtain ⟨o,e,d⟩:=T.obj _ _ st5 b hb
     exact (I8.pin (b,o) (List.mem_append_right _ (List.mem_append_right _ (dh hb e)))).2.1⟩
   cases b with
   | false =>
    rw [if_neg Bool.false_ne_true] at q7 ⊢
    obtain ⟨k',hk,w7⟩:=q7
    exact ⟨k',hk,i+1,acc,H7,its,kk,I7.unpinned.weak l6.symm le6,rv,T.keep _ _ _ st5 (kept I7).1,(kept I7).2,w7⟩
   | true =>
    rw [if_pos rfl] at q7 ⊢
    refine thn (he C s2 H2 fp _ s7 σ6 H7 _ I7 q7) fun xv s8 ⟨v,H8,I8,r8,q8⟩=>?_
    obtain ⟨hlt,k',hk,w8⟩:=q8
    obtain ⟨eD,nD,neD,nfD,_⟩:=I8.pin (D,_) (List.mem_append_right _ (List.mem_append_left _ (List.mem_singleton.mpr rfl)))
    have hsz:its.toArray.size≤sizeLine:=by rw [List.size_toArray,← rv.length]; exact hlen
    refine wpAny_list_append_plain (hsz:=hsz) ⟨kk,eD⟩ fun h₉ hl₉ hs₉=>?_
    obtain ⟨kk',e9⟩:=hl₉
    have I8':Inv (blk X scope N' C s2 H2 fp) [] σ6 H8 s8:=I8.pins_of fun p hp=>nomatch hp
    have I9:Inv (blk X scope N' C s2 H2 fp) [] σ6 H8 { s8 with heap:=h₉,toks:=s8.toks }:=I8'.turned (it:=D) (fun b o hb e=>hs₉.extBut b o hb e) nD hDC (.inr (Nat.le_of_eq hDn))
     (fun x c e z=>by have q:=cellLt x c e; rw [hDn,z] at q; exact Nat.lt_irrefl _ q) fun p hp=>nomatch (show p∈([]:List (Addr×Obj)) from hp)
    have e9':h₉.get? D=some { cls:=.type "list",data:=.seq (its++[xv]).toArray kk' }:=by rw [e9,List.push_toArray]
    have I9':Inv (blk X scope N' C s2 H2 fp) [(D,{ cls:=.type "list",data:=.seq (its++[xv]).toArray kk' })] (slots ρ σ) H8 { s8 with heap:=h₉,toks:=s8.toks } :=
     (I9.weak l6.symm le6).pins_of fun p hp=>by
      have e:p=(D,_):=List.mem_singleton.mp hp
      subst e
      exact ⟨e9',nD,hDC,nfD,fun v z=>by cases z⟩
    refine ⟨k',hk,i+1,acc++[v],H8,its++[xv],kk',I9',rv.append (.cons r8 .nil),T.keep _ _ _ st5 fun b hb o e=>?_,(kept I8).2,w8⟩
    exact hs₉.extBut b o (below b (hfs b hb)).2 ((kept I8).1 b hb o e)
 exact codeAny_compStart_list (loop _ rfl) (T.self _ 0 _ _ _ st₁ (loop _ rfl))
theorem bM {wi:TI} (B:bH X scope N' ρ m) (hc:X.calm=true) (hi:PI X tg iter wi) (hg:∀ C s₀ H₀ ex,PG (blk X scope N' C s₀ H₀ ex) tg g) (ht:∀ C s₀ H₀ ex,PTs (blk X scope N' C s₀ H₀ ex) ifs tt) (he:∀ C s₀ H₀ ex,PE (blk X scope N' C s₀ H₀ ex) elt te)
  (hs:∀ x,foldedSetIterable iter X.env x=pure x:=by intro _; rfl):PE X (.ListComp elt [⟨tg,iter,ifs,0⟩] scope pos) (xZ wi ρ m g tt te):=by
 intro pins s σ H Q I h
 rw [eval_ListComp]
 refine wpAny_comprehension_free (use:=none) rfl hs (fq fun x hx hf=>I.ok.has x.1 (B.frees x hx hf)) B.kind B.names (thn (hi pins s σ H _ I h) fun v s1 h1=>thn h1 fun itv s2 h2=>?_)
 obtain ⟨it,fp,tn,J,H2,e,I2,T,st2,f2,hL⟩:=h2
 subst e
 refine qI (RR:=fun acc C=>compPost (model X.prog X.w) X.A X.xe none (EP X pins σ Q) acc C) hc B hg ht he I2 T st2 f2 hL fun D C H' acc s' mC hns IX fC nD z=>?_
 refine ⟨mC,hns,fun h' hs'=>⟨.ref D,_,IX.turned (t':=s'.toks) (it:=C) (fun b o hb e=>hs'.extBut b o hb e) fC.1 fC.2.1 fC.2.2.2.1 fC.2.2.2.2.1 fC.2.2.2.2.2,rfl,z D nD⟩⟩
theorem fN {wi:TI} {i:Nat} {y:Str} {py spos:Pos} (B:bH X scope N' ρ m) (hN:X.N.Nodup) (hi':X.N[i]?=some y) (hy:Loc X.env.scope y) (hc:X.calm=true) (hi:PI X tg iter wi) (hg:∀ C s₀ H₀ ex,PG (blk X scope N' C s₀ H₀ ex) tg g) (ht:∀ C s₀ H₀ ex,PTs (blk X scope N' C s₀ H₀ ex) ifs tt) (he:∀ C s₀ H₀ ex,PE (blk X scope N' C s₀ H₀ ex) elt te)
  (hsw:swapsWith (.ListComp elt [⟨tg,iter,ifs,0⟩] scope pos) (some (.Name y py)) spos.line X.env=pure true:=by rfl)
  (hs:∀ x,foldedSetIterable iter X.env x=pure x:=by intro _; rfl) (hf:X.fn y=true∨X.env.scope.names.lookup y=some .local:=by first | exact .inl rfl | exact .inr rfl | assumption) :
  PS X (.Assign [.Name y py] (.ListComp elt [⟨tg,iter,ifs,0⟩] scope pos) spos) (zF (xZ wi ρ m g tt te) (jD i)):=by
 intro pins s σ H D I h
 rw [exec_Assign_Name_used _ _ _ _ hsw]
 refine wpAny_bind (wpAny_standAt (wpAny_bind ?_))
 show wpAny _ X.A (do let _ ← comprehension (.ListComp elt [⟨tg,iter,ifs,0⟩] scope pos) scope X.env _ (newList []) false (eval iter X.env) (some (assign (.Name y py) X.env))) _ _ s
 refine wpAny_bind (wpAny_mono (wpAny_comprehension_free (use:=some (assign (.Name y py) X.env)) (Q:=fun _ s'=>SP X pins D .next s') rfl hs (fq fun x hx hf=>I.ok.has x.1 (B.frees x hx hf)) B.kind B.names
  (thn (hi pins s σ H _ I h) fun v s1 h1=>thn h1 fun itv s2 h2=>?_)) (fun _ s' hq=>wpAny_pure (wpAny_pure hq)) fun _ _ e=>e)
 obtain ⟨it,fp,tn,J,H2,e,I2,T,st2,f2,hL⟩:=h2
 subst e
 refine qI (RR:=fun acc C=>compPost (model X.prog X.w) X.A X.xe (some (assign (.Name y py) X.env)) (fun _ s'=>SP X pins D .next s') acc C) hc B hg ht he I2 T st2 f2 hL fun Dl C H' acc s' mC hns IX fC nD z=>?_
 show wpAny _ X.A (assign (.Name y py) X.env (.ref Dl)) _ _ _
 obtain ⟨oC,es,ep,hoC,hdC,hrC⟩:=id hns
 have IX':Inv X (pins++iH [C] s'.heap) σ (upd H' Dl (.lst acc)) s':=IX.pinned (fp:=[C]) (fun b hb=>by rw [List.mem_singleton.mp hb]; exact fC) fun b hb=>by
  rw [List.mem_singleton.mp hb]
  exact ⟨oC,hoC,fun v q=>by rw [hdC] at q; cases q⟩
 refine wpAny_assign_Name (jE IX' hN hi' hy (v:=.ref Dl) rfl (fun s'' I''=>?_) hf)
 have pC:=I''.pin (C,oC) (List.mem_append_right _ (List.mem_append_right _ (dh (List.mem_singleton.mpr rfl) hoC)))
 refine ⟨mC,⟨oC,es,ep,pC.1,hdC,hrC⟩,fun h' hs'=>?_⟩
 exact ⟨_,_,I''.unpinned.turned (t':=s''.toks) (it:=C) (fun b o hb e=>hs'.extBut b o hb e) fC.1 fC.2.1 fC.2.2.2.1 fC.2.2.2.2.1 fC.2.2.2.2.2,z Dl nD⟩
end
open PySem PySem.Spec PyProof.Rows
mutual
inductive RdD (K:Frag) (H:Hp):V→PyData→Prop
 | non:RdD K H .non .none
 | bl (b:Bool):RdD K H (.bl b) (.bool b)
 | int (i:Int):RdD K H (.int i) (.int i)
 | str (x:Str):RdD K H (.str x) (.str x)
 | lst {a:Addr} {xs:List V} {ds:List PyData}:SqL K H a xs→eM K H xs ds→RdD K H (.ref a) (.list ds)
 | tup {a:Addr} {xs:List V} {ds:List PyData}:SqT K H a xs→eM K H xs ds→RdD K H (.ref a) (.tuple ds)
inductive eM (K:Frag) (H:Hp):List V→List PyData→Prop
 | nil:eM K H [] []
 | cons {x:V} {xs:List V} {d:PyData} {ds:List PyData}:RdD K H x d→eM K H xs ds→eM K H (x::xs) (d::ds)
end
section
variable {X:Cx} {pins:List (Addr×Obj)} {σ:St} {H:Hp} {s:Shared}
mutual
theorem RdD.reads (I:Inv X pins σ H s):∀ {x:V} {d:PyData} {u:Value},RdD X.K H x d→aX x u→∃ as,Reads s.heap u d as
 | _,_,_,.non,r=>by cases r; exact ⟨_,.none⟩
 | _,_,_,.bl b,r=>by cases r; exact ⟨_,.bool b⟩
 | _,_,_,.int i,r=>by obtain ⟨t,rfl⟩:=r; exact ⟨_,.int i t⟩
 | _,_,_,.str x,r=>by obtain ⟨t,rfl⟩:=r; exact ⟨_,.str x t⟩
 | _,_,_,.lst h q,r=>by
  cases r
  obtain ⟨its,rv,p,_⟩:=I.list h
  obtain ⟨as,ra⟩:=eM.reads I q rv
  obtain ⟨o,ho,hc,n,hd⟩:=p.isList
  exact ⟨_,.list ho hc hd (by simpa using ra)⟩
 | _,_,_,.tup h q,r=>by
  cases r
  obtain ⟨its,rv,p,_⟩:=I.tuple h
  obtain ⟨as,ra⟩:=eM.reads I q rv
  obtain ⟨o,ho,hc,n,hd⟩:=p
  exact ⟨_,.tuple ho hc hd (by simpa using ra)⟩
theorem eM.reads (I:Inv X pins σ H s):∀ {xs:List V} {ds:List PyData} {us:List Value},eM X.K H xs ds→aR xs us→∃ as,ReadsAll s.heap us ds as
 | _,_,_,.nil,.nil=>⟨_,.nil⟩
 | _,_,_,.cons q r,.cons q' r'=>by
  obtain ⟨as,ra⟩:=RdD.reads I q q'
  obtain ⟨bs,rb⟩:=eM.reads I r r'
  exact ⟨_,.cons ra rb⟩
end
end
section
variable {X:Cx}
def zN (K:Frag) (neg:Bool):R2:=fun x y H Q=>∃ d e,RdD K H x d∧RdD K H y e∧SeqAt.shaped d=true∧SeqAt.shaped e=true∧Q (.bl (if neg then !PyData.eqv d e else PyData.eqv d e)) H
theorem uR (hu:X.A.units+64<cLine):OpR X (compareOp .Eq) (zN X.K false):=by
 intro pins s σ H x y v u Q I rx ry h
 obtain ⟨d,e,hd,he,sd,se,q⟩:=h
 obtain ⟨as,ra⟩:=hd.reads I rx
 obtain ⟨bs,rb⟩:=he.reads I ry
 exact eq_dataH ra rb sd se hu (bc I q rfl)
theorem zl (hu:X.A.units+64<cLine):OpR X (compareOp .NotEq) (zN X.K true):=by
 intro pins s σ H x y v u Q I rx ry h
 obtain ⟨d,e,hd,he,sd,se,q⟩:=h
 obtain ⟨as,ra⟩:=hd.reads I rx
 obtain ⟨bs,rb⟩:=he.reads I ry
 exact ne_dataH ra rb sd se hu (bc I q rfl)
def vn (K:Frag):R2:=fun x y H Q=>∃ a b ys,x=.ref a∧y=.ref b∧SqT K H a []∧SqT K H b ys∧Q (.ref b) H
theorem vW:OpR X (binaryOp .Add) (vn X.K):=by
 intro pins s σ H x y v u Q I rx ry h
 obtain ⟨a,b,ys,rfl,rfl,ha,hb,q⟩:=h
 cases rx
 cases ry
 obtain ⟨its,r1,p1,_⟩:=I.tuple ha
 obtain ⟨its2,r2,p2,_⟩:=I.tuple hb
 cases r1
 obtain ⟨⟨cls,dd,data,sl⟩,ho,hc,n,hd⟩:=id p1
 obtain ⟨⟨cls2,dd2,data2,sl2⟩,ho2,hc2,n2,hd2⟩:=id p2
 simp only at hc hd hc2 hd2
 subst hc hd hc2 hd2
 exact concat_meets ⟨_,ho,rfl⟩ ⟨_,ho2,rfl⟩ noFill_tuple_add seq_tuple_add PySem.F.slot_tuple_add PySem.F.entry_tuple_add (PySem.F.args_tuple_add_2 _ _)
  (tuple_addW0 a b _ its2.toArray n n2 dd dd2 sl sl2 rfl) ⟨ho,ho2,⟨.ref b,H,I,rfl,q⟩⟩
def AO (K:Frag):List V→Hp→VK→Prop:=fun xs H Q=>∃ x T t b,xs=[x,.ty T]∧gQ K H x t∧PySem.W.kitOne K t (.type T)=some b∧Q (.bl b) H
theorem bv:bW X (.builtin "isinstance") (AO X.K):=by
 intro pins s σ H xs us Q I r h
 obtain ⟨x,T,t,b,rfl,ht,hk,q⟩:=h
 obtain ⟨u,c,rfl,ru,rc⟩:=mZ r
 cases (show c=Value.type T from rc)
 exact sm I ru ht hk fun tk=>⟨.bl b,H,I.tok tk,rfl,q⟩
end
def Its (z:Str):It:=⟨fun i _=>i<z.cps.size,fun i H x H'=>H'=H∧∃ c,z.cps[i]?=some c∧x=.str ⟨#[c]⟩,fun i _=>z.cps.size≤i⟩
theorem qD {P:Program} {w:World} {K:Frag} {tg:Expr} (it:Addr) (z:Str) (t:Tok):mq P w K tg (Its z) [it] it (fun i h=>h.IsStrIter it "str_ascii_iterator" z t i) where
 mem:=by simp
 obj:=fun i h st b hb=>by
  have e:b=it:=by simpa using hb
  subst e
  obtain ⟨o,e,c,d⟩:=st
  exact ⟨o,e,fun v z=>by rw [d] at z; cases z⟩
 keep:=fun i h h' st k=>let ⟨o,e,r⟩:=st; ⟨o,k it (by simp) o e,r⟩
 item:=by
  intro X hP hw hK hc i pins s σ H E I hf st hg
  subst hP hw hK
  have hi:i<z.cps.size:=hg
  obtain ⟨f0,f1,f2,f3,f4,f5⟩:=hf it (by simp)
  refine wpAny_pyNext_ascii_item st (c:=z.cps[i]) (by simp [hi]) fun h' st' sb=>?_
  have I1:Inv X pins σ H { s with heap:=h',toks:=s.toks+1 }:=I.turned (t':=s.toks+1) (fun b o hb e=>(sb.2 b hb).trans e) f0 f1 f3 f4 f5
  obtain ⟨o,e,c,d⟩:=id st'
  exact ⟨_,rfl,lK (s:={ s with heap:=h',toks:=s.toks+1 }) e c d (by decide) ⟨.str ⟨#[z.cps[i]]⟩,H,I1,⟨_,rfl⟩,⟨rfl,z.cps[i],by simp [hi],rfl⟩,st',fun b hb=>(hf b hb).1⟩⟩
 done:=by
  intro X hP hw hK hc i pins s σ H E I hf st hg
  subst hP hw hK
  have hi:z.cps.size≤i:=hg
  obtain ⟨f0,f1,f2,f3,f4,f5⟩:=hf it (by simp)
  exact wpAny_pyNext_ascii_end (I.ok.hd hc) st (by simp [hi]) fun h' eb=>⟨rfl,I.turned (t':=s.toks) (fun b o hb e=>eb b o hb e) f0 f1 f3 f4 f5⟩
 self:=fun _ _ _ _ _ st h=>wpAny_pyIter_striter_ascii st h
theorem ss {P:Program} {w:World} {K:Frag} {tg:Expr} (it:Addr) (z:Str) (t:Tok):mq P w K tg (Its z) [it] it (fun i h=>h.IsStrIter it "str_iterator" z t i) where
 mem:=by simp
 obj:=fun i h st b hb=>by
  have e:b=it:=by simpa using hb
  subst e
  obtain ⟨o,e,c,d⟩:=st
  exact ⟨o,e,fun v z=>by rw [d] at z; cases z⟩
 keep:=fun i h h' st k=>let ⟨o,e,r⟩:=st; ⟨o,k it (by simp) o e,r⟩
 item:=by
  intro X hP hw hK hc i pins s σ H E I hf st hg
  subst hP hw hK
  have hi:i<z.cps.size:=hg
  obtain ⟨f0,f1,f2,f3,f4,f5⟩:=hf it (by simp)
  refine wpAny_pyNext_wide_item st (c:=z.cps[i]) (by simp [hi]) fun h' st' sb=>?_
  have I1:Inv X pins σ H { s with heap:=h',toks:=s.toks+1 }:=I.turned (t':=s.toks+1) (fun b o hb e=>(sb.2 b hb).trans e) f0 f1 f3 f4 f5
  obtain ⟨o,e,c,d⟩:=id st'
  exact ⟨_,rfl,lK (s:={ s with heap:=h',toks:=s.toks+1 }) e c d (by decide) ⟨.str ⟨#[z.cps[i]]⟩,H,I1,⟨_,rfl⟩,⟨rfl,z.cps[i],by simp [hi],rfl⟩,st',fun b hb=>(hf b hb).1⟩⟩
 done:=by
  intro X hP hw hK hc i pins s σ H E I hf st hg
  subst hP hw hK
  have hi:z.cps.size≤i:=hg
  obtain ⟨f0,f1,f2,f3,f4,f5⟩:=hf it (by simp)
  exact wpAny_pyNext_wide_end (I.ok.hd hc) st (by simp [hi]) fun h' eb=>⟨rfl,I.turned (t':=s.toks) (fun b o hb e=>eb b o hb e) f0 f1 f3 f4 f5⟩
 self:=fun _ _ _ _ _ st h=>wpAny_pyIter_striter_wide st h
section
variable {X:Cx} {tg:Expr}
def AN (tl:TE):TI:=fun σ H R=>tl σ H fun x H1=>∃ z,x=.str z∧R (Its z) H1
theorem pB {l:Expr} {tl:TE} (hl:PE X l tl):PI X tg l (AN tl):=by
 intro pins s σ H R I h
 refine thn (hl pins s σ H _ I h) fun v s1 ⟨x,H1,I1,r1,q1⟩=>?_
 obtain ⟨z,e,q⟩:=q1
 subst e
 obtain ⟨t,rfl⟩:=r1
 have fp:∀ b∈[s1.heap.objs.size],gH X pins H1 b:=fun b hb=>by
  have e:b=s1.heap.objs.size:=by simpa using hb
  subst e
  exact I1.fpOk (Nat.le_refl _) (I1.hok.fresh (Nat.le_refl _))
 cases ha:z.cps.all (·<128)
 ·exact wpAny_pyIter_wide ha ⟨s1.heap.objs.size,[s1.heap.objs.size],_,_,H1,rfl,I1.kept (t':=s1.toks) fun b o e=>Heap.get?_push_of_some _ e,ss _ z t,⟨_,Heap.get?_push_size _ rfl,rfl,rfl⟩,fp,q⟩
 ·exact wpAny_pyIter_ascii ha ⟨s1.heap.objs.size,[s1.heap.objs.size],_,_,H1,rfl,I1.kept (t':=s1.toks) fun b o e=>Heap.get?_push_of_some _ e,qD _ z t,⟨_,Heap.get?_push_size _ rfl,rfl,rfl⟩,fp,q⟩
end
open PySem PySem.Spec PyProof.Rows
def hU (fs scope:Scope):List (Str×NameKind):=scope.names.map fun (n,k)=>if (k==NameKind.free&&fs.kind==.function&&fs.names.lookup n==some .cell) then (n,NameKind.cell) else (n,k)
def AB (fs:Scope) (N:List Str) (scope:Scope) (N':List Str) (ρ:List (Option Nat)) (m:Nat):Bool :=
 (scope.kind==.function)&&scope.names.all (fun x=>x.2 != .cell)&&scope.names.all (fun x=>x.2 != .local||scope.names.lookup x.1==some .local)
 &&scope.names.all (fun x=>x.2 != .free||fs.names.lookup x.1==some .cell||fs.names.lookup x.1==some .free)&&(ρ.length==N'.length)
 &&(List.range ρ.length).all fun i=>match ρ[i]?,N'[i]? with
   | some (some j),some x=>decide (m≤i)&&N[j]?==some x&&scope.names.any (fun y=>y.1==x&&y.2==.free)&&(hU fs scope).lookup x != some .local
   | some (some _),none=>false
   | _,_=>true
theorem bH.of {X:Cx} {fs scope:Scope} {N N':List Str} {ρ:List (Option Nat)} {m:Nat} (hs:X.env.scope=fs) (hN:X.N=N) (h:AB fs N scope N' ρ m=true):bH X scope N' ρ m:=by
 unfold AB at h
 simp only [Bool.and_eq_true] at h
 obtain ⟨⟨⟨⟨⟨h1,h2⟩,h3⟩,h4⟩,h5⟩,h6⟩:=h
 have at6:∀ (i j:Nat),ρ[i]?=some (some j)→∃ x,N'[i]?=some x∧m≤i∧N[j]?=some x∧(x,NameKind.free)∈scope.names∧(hU fs scope).lookup x≠some .local:=fun i j e=>by
  have hi:i<ρ.length:=(List.getElem?_eq_some_iff.mp e).1
  have q:=List.all_eq_true.mp h6 i (List.mem_range.mpr hi)
  rw [e] at q
  cases e2:N'[i]? with
  | none=>rw [e2] at q; cases q
  | some x =>
   rw [e2] at q
   simp only [Bool.and_eq_true,decide_eq_true_eq,beq_iff_eq,bne_iff_ne,List.any_eq_true] at q
   obtain ⟨⟨⟨q1,q2⟩,⟨y,hy,q3,q4⟩⟩,q5⟩:=q
   refine ⟨x,rfl,q1,q2,?_,q5⟩
   obtain ⟨a,b⟩:=y
   simp only at q3 q4
   subst q3 q4
   exact hy
 refine ⟨by simpa using h1,fun x hx=>by simpa using List.all_eq_true.mp h2 x hx,fun x hx hl=>?_,fun x hx hf=>?_,by simpa using h5,fun i j e=>?_,fun i j x e e2=>?_,fun i j x e e2=>?_⟩
 ·have q:=List.all_eq_true.mp h3 x hx
  simpa [hl] using q
 ·have q:=List.all_eq_true.mp h4 x hx
  show X.env.scope.names.lookup x.1=_∨X.env.scope.names.lookup x.1=_
  rw [hs]
  simpa [hf] using q
 ·obtain ⟨_,_,q,_⟩:=at6 i j e; exact q
 ·obtain ⟨y,q1,_,q2,q3,_⟩:=at6 i j e
  rw [e2] at q1; cases q1
  exact ⟨by rw [hN]; exact q2,q3⟩
 ·obtain ⟨y,q1,_,_,_,q4⟩:=at6 i j e
  rw [e2] at q1; cases q1
  have e3:(relabel scope X.env).names=hU fs scope:=by
   unfold relabel hU Env.kindOf
   rw [hs]
  rw [e3]
  exact q4
section
variable {X:Cx} {K:Frag}
theorem jG (h:X.K=K):IxR X (AC K):=h ▸ aM
theorem cm (h:X.K=K):IxR X (Ar K):=h ▸ aw
theorem nS (h:X.K=K):OpR X (binaryOp .Add) (fun x y H Q=>yn K x y H Q∨vn K x y H Q):=h ▸ jn.or vW
theorem qW {pos:Pos} {es:List Expr} {k:Nat} {t:TGs} {n:Nat} (hK:X.K=K) (hc:X.calm=true) (h:PGs X es t)
  (hn:(assignEach es X.env).length=n:=by rfl) (hst:(assignEach es X.env).findIdx? (·.1)=none:=by rfl):PG X (.Tuple es k pos) (Ak K n t):=hK ▸ cQ hc h hn hst
end
section
variable {m:Nat} {g:TG} {tt:TT} {te:TE} {σ':St} {Z:List V→Hp→Prop} {H1:Hp} {K:Frag}
def NxT (n:Nat) (Pv:Nat→List V→Hp→Prop) (i:Nat) (acc:List V) (v:V) (H:Hp):Prop:=acc.length<sizeLine∧∃ k',k'<n - i∧(k'=n - (i+1)∧i+1≤n∧(acc++[v]).length≤i+1∧Pv (i+1) (acc++[v]) H)
def NxF (n:Nat) (Pv:Nat→List V→Hp→Prop) (i:Nat) (acc:List V) (H:Hp):Prop:=∃ k',k'<n - i∧(k'=n - (i+1)∧i+1≤n∧acc.length≤i+1∧Pv (i+1) acc H)
theorem nxT {n:Nat} {Pv:Nat→List V→Hp→Prop} {i:Nat} {acc:List V} {v:V} {H:Hp} (hn:n≤1000) (hi:i<n) (hl:acc.length≤i) (p:Pv (i+1) (acc++[v]) H):NxT n Pv i acc v H :=
 ⟨aL (by omega),n - (i+1),by omega,rfl,hi,by rw [List.length_append,List.length_singleton]; omega,p⟩
theorem nxF {n:Nat} {Pv:Nat→List V→Hp→Prop} {i:Nat} {acc:List V} {H:Hp} (hi:i<n) (hl:acc.length≤i) (p:Pv (i+1) acc H):NxF n Pv i acc H :=
 ⟨n - (i+1),by omega,rfl,hi,by omega,p⟩
theorem gR {J:It} (n:Nat) (hn:n≤1000) (Pv:Nat→List V→Hp→Prop) (h0:Pv 0 [] H1)
  (hs:∀ i acc H,i<n→acc.length≤i→Pv i acc H→J.go i H∧∀ x H',J.yld i H x H'→g x σ' H' fun σ2 H2=>(σ2.drop m=σ'.drop m∧σ2.length=σ'.length)∧tt σ2 H2 fun b H3=>if b=true then te σ2 H3 fun v H4=>NxT n Pv i acc v H4 else NxF n Pv i acc H3)
  (hd:∀ acc H,Pv n acc H→acc.length≤n→J.stop n H∧Z acc H):iR J m g tt te σ' Z H1:=by
 refine ⟨fun i k acc H=>k=n - i∧i≤n∧acc.length≤i∧Pv i acc H,⟨n,by simp,Nat.zero_le _,Nat.le_refl _,h0⟩,?_⟩
 rintro i k acc H ⟨rfl,hi,la,p⟩
 refine ⟨Nat.le_of_lt (aL (by omega)),?_⟩
 by_cases hlt:i<n
 ·exact .inr (hs i acc H hlt la p)
 ·have e:i=n:=by omega
  subst e
  exact .inl (hd acc H p la)
theorem gB {lo:Int} (n:Nat) (hn:n≤1000) (Pv:Nat→List V→Hp→Prop) (h0:Pv 0 [] H1)
  (hs:∀ i acc H,i<n→acc.length≤i→Pv i acc H→g (.int (lo+i)) σ' H fun σ2 H2=>(σ2.drop m=σ'.drop m∧σ2.length=σ'.length)∧tt σ2 H2 fun b H3=>if b=true then te σ2 H3 fun v H4=>NxT n Pv i acc v H4 else NxF n Pv i acc H3)
  (hd:∀ acc H,Pv n acc H→acc.length≤n→Z acc H):iR (Itr lo n) m g tt te σ' Z H1 :=
 gR n hn Pv h0 (fun i acc H hi la p=>⟨hi,fun x H' y=>by obtain ⟨e,y⟩:=y; subst e y; exact hs i acc _ hi la p⟩) fun acc H p la=>⟨Nat.le_refl _,hd acc H p la⟩
theorem jK {z:Str} (n:Nat) (hz:n=z.cps.size) (hn:n≤1000) (Pv:Nat→List V→Hp→Prop) (h0:Pv 0 [] H1)
  (hs:∀ i acc H c,i<n→acc.length≤i→z.cps[i]?=some c→Pv i acc H→g (.str ⟨#[c]⟩) σ' H fun σ2 H2=>(σ2.drop m=σ'.drop m∧σ2.length=σ'.length)∧tt σ2 H2 fun b H3=>if b=true then te σ2 H3 fun v H4=>NxT n Pv i acc v H4 else NxF n Pv i acc H3)
  (hd:∀ acc H,Pv n acc H→acc.length≤n→Z acc H):iR (Its z) m g tt te σ' Z H1 :=
 gR n hn Pv h0 (fun i acc H hi la p=>⟨show i<z.cps.size by omega,fun x H' y=>by obtain ⟨e,c,hc,y⟩:=y; subst e y; exact hs i acc _ c hi la hc p⟩) fun acc H p la=>⟨show z.cps.size≤n by omega,hd acc H p la⟩
theorem jy {a:Addr} {xs:List V} (n:Nat) (hz:n=xs.length) (hn:n≤1000) (Pv:Nat→List V→Hp→Prop) (h0:Pv 0 [] H1) (hq:∀ i acc H,Pv i acc H→SqT K H a xs)
  (hs:∀ i acc H x,i<n→acc.length≤i→xs[i]?=some x→Pv i acc H→g x σ' H fun σ2 H2=>(σ2.drop m=σ'.drop m∧σ2.length=σ'.length)∧tt σ2 H2 fun b H3=>if b=true then te σ2 H3 fun v H4=>NxT n Pv i acc v H4 else NxF n Pv i acc H3)
  (hd:∀ acc H,Pv n acc H→acc.length≤n→Z acc H):iR (Itt K a) m g tt te σ' Z H1 :=
 gR n hn Pv h0 (fun i acc H hi la p=>by
  have hx:xs[i]?=some (xs[i]'(by omega)):=List.getElem?_eq_getElem (by omega)
  exact ⟨⟨xs,_,hq i acc H p,hx⟩,fun x H' y=>by obtain ⟨e,y⟩:=y; subst e; exact hs i acc _ x hi la (y xs (hq i acc _ p)) p⟩) fun acc H p la=>⟨⟨xs,hq n acc H p,by omega⟩,hd acc H p la⟩
end
theorem bo {σ:St} {H:Hp} {A B:Hp→Prop} (h:A H):yt σ H (fun b H3=>if b=true then A H3 else B H3):=by
 show if true=true then A H else B H
 exact eP h
end L2
namespace PySem
section
variable {prog:Program} {w:World} {A:Around} {E:Value→Shared→Prop} {h:Heap} {g:Array GenState} {d:Drawn} {t:Nat} {os:OsState} {a:Addr} {items:Array Value} {n:Nat} {sl:Array (Option Value)}
theorem kF:typeLookup (.type "tuple") "keys"=pure none:=am_miss_of_fast (by decide +kernel)
theorem iE:typeLookup (.type "tuple") "__getattr__"=pure none:=by rw [typeLookup_type,builtinLookup_eq_fast]; kernel_rfl
theorem iw {tk:Tok} {Q:Fin→Shared→Prop} (hx:h.get? a=some ⟨.type "tuple",none,.seq items n,sl⟩) (hA:A.handled=none)
  (hQ:∀ h' tk' e,Heap.NewAttrErr h h' e (.ref a) "keys"→E (.ref e) ⟨h',g,d,tk',os⟩) :
  wpAny (model prog w) A (Builtin.«object.__getattribute__» ⟨[.ref a,.str "keys" tk],[]⟩) Q E ⟨h,g,d,t,os⟩:=by
 have hT:(⟨h,g,d,t,os⟩:Shared).TypeIs (.ref a) "tuple":=⟨_,hx,rfl⟩
 have f4:=kF
 unfold Builtin.«object.__getattribute__»
 repeat (any_goals (first | assumption | wp_step))
 exact wpAny_raiseAttrError (s:=⟨h,g,d,t,os⟩) hA hQ (attrMsg_fits (by decide +kernel) (by decide))
theorem jg {tk:Tok} {R:Result→Shared→Prop} (hx:h.get? a=some ⟨.type "tuple",none,.seq items n,sl⟩) (hA:A.handled=none)
  (hQ:∀ h' tk' e,Heap.NewAttrErr h h' e (.ref a) "keys"→R (.error (.ref e)) ⟨h',g,d,tk',os⟩) :
  codeAny (model prog w) A (.call (.builtin "tuple.__getattribute__") ⟨[.ref a,.str "keys" tk],[]⟩) R ⟨h,g,d,t,os⟩ :=
 codeAny_call_builtin F.slot_tuple_getattribute.plain F.entry_tuple_ga (F.slot_tuple_getattribute.check _ _ _ _ _ _ _ _ (show (⟨h,g,d,t,os⟩:Shared).TypeIs (.ref a) "tuple" from ⟨_,hx,rfl⟩) (F.args_tuple_getattribute_2 _ _) (iw hx hA hQ))
theorem kR {tk:Tok} {Q:Value→Shared→Prop} (hx:h.get? a=some ⟨.type "tuple",none,.seq items n,sl⟩) (hA:A.handled=none)
  (hQ:∀ h' tk' e,Heap.NewAttrErr h h' e (.ref a) "keys"→E (.ref e) ⟨h',g,d,tk',os⟩):wpAny (model prog w) A (getAttrBy (.ref a) (.str "keys" tk) false) Q E ⟨h,g,d,t,os⟩:=by
 have hT:(⟨h,g,d,t,os⟩:Shared).TypeIs (.ref a) "tuple":=⟨_,hx,rfl⟩
 have f1:=sub_AttributeError
 have f2:=F.slot_tuple_getattribute.lookup
 have f3:=F.slot_tuple_getattribute.bind (.ref a)
 have f5:=iE
 unfold getAttrBy
 repeat (any_goals (first | assumption | wp_step))
 refine jg hx hA fun h' tk' e hx'=>?_
 obtain ⟨t',u',he⟩:=hx'.there
 show wpAny _ _ (getattributeRaised _ _ _ _ _ _ _) _ _ _
 unfold getattributeRaised
 repeat (any_goals (first | assumption | wp_step))
 exact hQ _ _ _ hx'
theorem iX {Q:Option Value→Shared→Prop} (hx:h.get? a=some ⟨.type "tuple",none,.seq items n,sl⟩) (hA:A.handled=none)
  (hQ:∀ h' tk',(∀ b o,h.get? b=some o→h'.get? b=some o)→Q none ⟨h',g,d,tk',os⟩):wpAny (model prog w) A (getAttr? (.ref a) "keys") Q E ⟨h,g,d,t,os⟩:=by
 have f1:=sub_AttributeError
 unfold getAttr? getAttrBy?
 refine wpAny_bind (wpAny_mkText (wpAny_bind (wpAny_attempt (kR hx hA fun h' tk' e hx'=>?_))))
 obtain ⟨t',u',he⟩:=hx'.there
 have hT:(⟨h',g,d,tk',os⟩:Shared).TypeIs (.ref e) "AttributeError":=⟨_,he,rfl⟩
 refine wpAny_bind (wpAny_isInstance hT f1 ?_)
 exact wpAny_pure (hQ h' tk' hx'.keeps)
end
end PySem
namespace L2
open PySem PySem.Spec PyProof.Rows
theorem lY:entryFor table "dict.update.loop"=some Builtin.«dict.update.loop»:=entryFor_of_tree (by kernel_rfl)
theorem fM:plainId "dict.update.loop"=true:=by decide +kernel
theorem pU {κ:Type} [DecidableEq κ] {kvs:List (κ×Value)} {k:κ} {v:Value} (h:k∉kvs.map (·.1)):stored kvs k v=kvs++[(k,v)]:=by
 unfold stored
 rw [if_neg]
 intro q
 obtain ⟨x,hx,e⟩:=List.any_eq_true.mp q
 exact h (List.mem_map.mpr ⟨x,hx,of_decide_eq_true e⟩)
section
variable {prog:Program} {w:World} {A:Around} {R:Result→Shared→Prop} {dd it tp:Addr} {items:List Value} {ps:List (Str×Value)}
def zL (h:Heap) (it dd:Addr) (v:Value) (p:Str×Value):Prop:=∃ q t,v=.ref q∧q≠it∧q≠dd∧IsTup h q #[.str p.1 t,p.2]
theorem tz (hh:A.handled=none) (hid:it≠dd) (hti:tp≠it) (htd:tp≠dd) (hlen:items.length=ps.length) (hsz:items.length≤1000) (hnd:(ps.map (·.1)).Nodup) :
  ∀ (k i:Nat) (s:Shared),items.length - i=k→i≤items.length→s.heap.IsTupleIter it tp i→s.heap.IsTuple tp items.toArray→s.heap.DictOf (bQ prog w) dd ((ps.take i).map fun p=>(Sum.inr p.1,p.2)) →
  (∀ (j:Nat) v p,items[j]?=some v→ps[j]?=some p→zL s.heap it dd v p) →
  (∀ h' tk,h'.DictOf (bQ prog w) dd (ps.map fun p=>(Sum.inr p.1,p.2))→(∀ b o,b≠it→b≠dd→s.heap.get? b=some o→h'.get? b=some o)→R (.ok (.ret .none)) { s with heap:=h',toks:=tk }) →
  codeAny (model prog w) A (.builtin "dict.update.loop" ⟨[.ref dd,.ref it,rawInt i,.none],[]⟩) R s:=by
 intro k
 induction k with
 | zero =>
  intro i s hk hi st tpl hd hp hR
  have hin:i=items.length:=by omega
  subst hin
  refine codeAny_builtin lY ?_
  rw [Around.under_plainId fM _]
  show wpAny _ A.in1 (pyNext (.ref it) >>= _) _ _ s
  refine wpAny_bind (wpAny_pyNext_tuple_end hh st tpl (by simp) fun h' eb=>?_)
  refine wpAny_bind (wpAny_pure (wpAny_pure ?_))
  refine hR h' s.toks ?_ fun b o hb _ e=>eb b o hb e
  rw [hlen,List.take_length] at hd
  exact hd.extBut (fun b o hb e=>eb b o hb e) (Ne.symm hid)
 | succ k ih =>
  intro i s hk hi st tpl hd hp hR
  have hlt:i<items.length:=by omega
  have hv:items[i]?=some items[i]:=List.getElem?_eq_getElem hlt
  have hq:ps[i]?=some (ps[i]'(by omega)):=List.getElem?_eq_getElem (by omega)
  obtain ⟨q,t,ev,hqi,hqd,tq⟩:=hp i _ _ hv hq
  refine codeAny_builtin lY ?_
  rw [Around.under_plainId fM _]
  show wpAny _ A.in1 (pyNext (.ref it) >>= _) _ _ s
  refine wpAny_bind (wpAny_pyNext_tuple_item st tpl (x:=items[i]) (by simpa using hv) fun h1 st1 sb1=>?_)
  rw [ev]
  have tq1:IsTup h1 q #[.str (ps[i]'(by omega)).1 t,(ps[i]'(by omega)).2]:=let ⟨o,e,r⟩:=tq; ⟨o,(sb1.2 q hqi).trans e,r⟩
  obtain ⟨oq,eq,cq,nq,dq⟩:=id tq1
  refine wpAny_bind (wpAny_holding (wpAny_bind (wpAny_tryCatch ?_)))
  unfold Builtin.Dict.pairItems
  refine wpAny_bind (wpAny_typeOf (T := "tuple") ⟨oq,eq,cq⟩ ?_)
  rw [if_pos (by decide)]
  refine wpAny_bind (wpAny_seqItems eq dq (wpAny_pure ?_))
  show wpAny _ _ (holding [_,_] (dictSet dd (.str (ps[i]'(by omega)).1 t) (ps[i]'(by omega)).2)) _ _ _
  have hd1:h1.DictOf (bQ prog w) dd ((ps.take i).map fun p=>(Sum.inr p.1,p.2)):=hd.extBut sb1.extBut (Ne.symm hid)
  refine wpAny_holding (wpAny_dictSet_pairs (knd:=bQ prog w) (k:=Sum.inr (ps[i]'(by omega)).1) (fk _ _ _ _) hd1 (fun h2 hd2 sb2=>?_) (Nat.le_of_lt (aL (by rw [List.length_map,List.length_take]; omega))))
  have nw:stored ((ps.take i).map fun p=>((Sum.inr p.1:Key),p.2)) (Sum.inr (ps[i]'(by omega)).1) (ps[i]'(by omega)).2=(ps.take (i+1)).map fun p=>(Sum.inr p.1,p.2):=by
   rw [pU,List.take_add_one,hq,List.map_append]
   ·rfl
   ·intro z
    rw [List.map_map] at z
    obtain ⟨p,hp',e⟩:=List.mem_map.mp z
    have e':p.1=(ps[i]'(by omega)).1:=Sum.inr.inj e
    obtain ⟨j,hj,ej⟩:=List.mem_take_iff_getElem.mp hp'
    have hj':j<ps.length:=by omega
    have:(ps.map (·.1))[j]'(by simpa using hj')=(ps.map (·.1))[i]'(by rw [List.length_map]; omega):=by simp only [List.getElem_map]; rw [ej]; exact e'
    have:=(List.getElem_inj hnd).mp this
    omega
  rw [nw] at hd2
  have up:∀ b o,b≠it→b≠dd→s.heap.get? b=some o→h2.get? b=some o:=fun b o hb hb2 e=>(sb2.2 b hb2).trans ((sb1.2 b hb).trans e)
  refine wpAny_pure ⟨plainId_quiet fM _,?_⟩
  have nx:=ih (i+1) { s with heap:=h2,toks:=s.toks+1 } (by omega) hlt (by obtain ⟨o,e,r⟩:=st1; exact ⟨o,(sb2.2 it hid).trans e,r⟩) (by obtain ⟨o,e,r⟩:=tpl; exact ⟨o,up _ _ hti htd e,r⟩) hd2
   (fun j v p ej ep=>by obtain ⟨q,t,e,n1,n2,o,e2,r⟩:=hp j v p ej ep; exact ⟨q,t,e,n1,n2,o,up _ _ n1 n2 e2,r⟩)
   fun h' tk hd' up'=>hR h' tk hd' fun b o hb hb2 e=>up' b o hb hb2 (up b o hb hb2 e)
  exact nx
end
open PySem PySem.Spec PyProof.Rows
section
variable {X:Cx}
def rh (K:Frag) (H:Hp) (y:V) (p:Str×V):Prop:=∃ q,y=.ref q∧SqT K H q [.str p.1,p.2]
theorem jC {α β:Type} {F:α→β→Prop}:∀ {l:List α} {m:List β},Paired F l m→∀ (j:Nat) a b,l[j]?=some a→m[j]?=some b→F a b
 | _,_,.nil,_,_,_,h,_=>by simp at h
 | _,_,.cons h t,0,_,_,h1,h2=>by simp at h1 h2; subst h1 h2; exact h
 | _,_,.cons h t,j+1,_,_,h1,h2=>jC t j _ _ (by simpa using h1) (by simpa using h2)
theorem aR.vals_pairs {I:Unit} {X:Cx} {pins:List (Addr×Obj)} {σ:St} {H:Hp} {s:Shared} (J:Inv X pins σ H s):∀ {ys:List V} {ps:List (Str×V)} {its:List Value},Paired (rh X.K H) ys ps→aR ys its →
  ∃ qs:List (Str×Value),Paired (fun (p:Str×V) (q:Str×Value)=>p.1=q.1∧aX p.2 q.2) ps qs∧Paired (fun v (p:Str×Value)=>∃ q t,v=.ref q∧q<s.heap.objs.size∧IsTup s.heap q #[.str p.1 t,p.2]) its qs
 | _,_,_,.nil,.nil=>⟨[],.nil,.nil⟩
 | _,_,_,.cons h t,.cons r rr=>by
  obtain ⟨qs,h1,h2⟩:=aR.vals_pairs (I:=I) J t rr
  obtain ⟨q,e,hq⟩:=h
  subst e
  cases r
  obtain ⟨it2,rv,p,_⟩:=J.tuple hq
  obtain ⟨u1,u2,e2,r1,r2⟩:=mZ rv
  subst e2
  obtain ⟨t,e3⟩:=(show ∃ t,u1=Value.str _ t from r1)
  subst e3
  exact ⟨(_,u2)::qs,.cons ⟨rfl,r2⟩ h1,.cons ⟨q,t,rfl,p.lt,p⟩ h2⟩
theorem wo:∀ {ps:List (Str×V)} {qs:List (Str×Value)},Paired (fun (p:Str×V) (q:Str×Value)=>p.1=q.1∧aX p.2 q.2) ps qs→KV (ps.map fun p=>((Sum.inr p.1:Key),p.2)) (qs.map fun p=>(Sum.inr p.1,p.2))
 | _,_,.nil=>.nil
 | _,_,.cons h t=>.cons ⟨by show Sum.inr _=Sum.inr _; rw [h.1],h.2⟩ (wo t)
theorem re:∀ {ps:List (Str×V)} {qs:List (Str×Value)},Paired (fun (p:Str×V) (q:Str×Value)=>p.1=q.1∧aX p.2 q.2) ps qs→ps.map (·.1)=qs.map (·.1)
 | _,_,.nil=>rfl
 | _,_,.cons h t=>by rw [List.map_cons,List.map_cons,h.1,re t]
def yM (K:Frag):List V→Hp→VK→Prop:=fun xs H Q=>∃ p ys ps,xs=[.ref p]∧H p=some (.tup ys)∧ys.length≤1000∧(List.map (fun q:Str×V=>q.1) ps).Nodup∧Paired (rh K H) ys ps ∧
 ∀ l,H l=none→Q (.ref l) (upd H l (.dK (ps.map fun p=>(Sum.inr p.1,p.2))))
theorem pJ (hc:X.calm=true):bW X (.type "dict") (yM X.K):=by
 intro pins s σ H xs us Q I r h
 obtain ⟨p,ys,ps,rfl,hp,hl,hnd,hpr,q⟩:=h
 obtain ⟨u,rfl,ru⟩:=eN r
 cases ru
 obtain ⟨hz,its,rv,tp,o2,e2,d2⟩:=(show bm X.prog X.w H s.heap p (.tup ys) from I.hok p _ hp)
 obtain ⟨qs,k1,k2⟩:=aR.vals_pairs (I:=()) I hpr rv
 obtain ⟨⟨cls,dct,data,sl⟩,ho,hcl,n,hdt⟩:=id tp
 rw [ho] at e2
 cases e2
 simp only at hcl hdt d2
 subst hcl hdt d2
 have hlt:p<s.heap.objs.size:=Heap.lt_size ho
 refine callType_codes (Q₁:=fun obj s₁=>obj=.ref s.heap.objs.size∧s₁={ s with heap:=s.heap.push { cls:=.type "dict",data:=.dict #[] } }) F.kt_called_dict (F.kt_typeCall_dict_1 _) F.entry_dict_init (kt_code_dict_new _ ⟨rfl,rfl⟩) ?_
 rintro obj s₁ ⟨rfl,rfl⟩
 have hnew:(s.heap.push { cls:=.type "dict",data:=.dict #[] }).DictOf (bQ X.prog X.w) s.heap.objs.size []:=Heap.DictOf.new s.heap
 refine ⟨hnew.typeIs,F.args_dict_init_2 _ _,?_⟩
 unfold Builtin.«dict.__init__»
 refine wpAny_bind ?_
 unfold Builtin.Dict.selfAndRest
 refine wpAny_bind (wpAny_notOrdered_dict hnew.typeIs ?_)
 show wpAny _ _ (pure (s.heap.objs.size,[Value.ref p])) _ _ _
 refine wpAny_pure ?_
 show wpAny _ _ (Builtin.Dict.updateFrom "dict.__init__" s.heap.objs.size (.ref p) [] .none) _ _ _
 unfold Builtin.Dict.updateFrom
 have ho1:(s.heap.push { cls:=.type "dict",data:=.dict #[] }).get? p=some ⟨.type "tuple",none,.seq its.toArray n,sl⟩:=Heap.get?_push_of_some _ ho
 refine wpAny_bind (wpAny_typeOf (T := "tuple") ⟨_,ho1,rfl⟩ ?_)
 rw [if_pos (by decide)]
 refine wpAny_bind (iX (h:=s.heap.push { cls:=.type "dict",data:=.dict #[] }) (g:=s.gens) (d:=s.drawn) (t:=s.toks) (os:=s.os) ho1 (I.ok.hd hc) fun h1 tk1 kp1=>?_)
 rw [if_pos (show (none:Option Value).isNone=true from rfl)]
 refine wpAny_bind (wpAny_rule (wpAny_bind (wpAny_pyIter_tuple (show h1.IsTuple p its.toArray from ⟨_,kp1 _ _ ho1,rfl,n,rfl⟩) ?_)))
 have old:∀ b o,s.heap.get? b=some o→(h1.push { cls:=.type "tuple_iterator",data:=.fields #[.ref p,.int 0 0] }).get? b=some o:=fun b o e=>Heap.get?_push_of_some _ (kp1 b o (Heap.get?_push_of_some _ e))
 have hnew1:h1.DictOf (bQ X.prog X.w) s.heap.objs.size []:=by obtain ⟨o,es,ep,e,rr⟩:=hnew; exact ⟨o,es,ep,kp1 _ _ e,rr⟩
 have hdl:s.heap.objs.size<h1.objs.size:=by obtain ⟨o,es,ep,e,rr⟩:=hnew1; exact Heap.lt_size e
 refine wpAny_pure ⟨plainId_quiet fM _,?_⟩
 refine tz (A:=X.A.in1) (prog:=X.prog) (w:=X.w) (dd:=s.heap.objs.size) (it:=h1.objs.size) (tp:=p) (items:=its) (ps:=qs) (I.ok.hd hc) (Nat.ne_of_gt hdl) (Nat.ne_of_lt (Nat.lt_trans hlt hdl)) (Nat.ne_of_lt hlt) (Paired.length k2) (by rw [← rv.length]; exact hl) (by rw [← re k1]; exact hnd)
  its.length 0 ⟨h1.push { cls:=.type "tuple_iterator",data:=.fields #[.ref p,.int 0 0] },s.gens,s.drawn,tk1,s.os⟩ rfl (Nat.zero_le _) ⟨_,Heap.get?_push_size _ rfl,rfl,rfl⟩ ⟨_,old _ _ ho,rfl,n,rfl⟩ (by exact hnew1.push _) (fun j v pr ej ep=>?_) fun h' tk hd' up=>?_
 ·obtain ⟨q',t,e,hlq,o,e3,r3⟩:=jC k2 j v pr ej ep
  exact ⟨q',t,e,Nat.ne_of_lt (Nat.lt_trans hlq hdl),Nat.ne_of_lt hlq,o,old _ _ e3,r3⟩
 ·refine ⟨rfl,.ref s.heap.objs.size,upd H s.heap.objs.size (.dK (ps.map fun p=>(Sum.inr p.1,p.2))),?_,rfl,q _ (I.hok.fresh (Nat.le_refl _))⟩
  refine I.laid (h':=h') (t':=tk) (fun b o e=>up b o (Nat.ne_of_lt (Nat.lt_trans (Heap.lt_size e) hdl)) (Nat.ne_of_lt (Heap.lt_size e)) (old b o e)) (Nat.le_refl _) ?_
  refine ⟨?_,?_,_,wo k1,hd'⟩
  ·rw [List.length_map,Paired.length k1,← Paired.length k2,← rv.length]; exact Nat.le_of_lt (aL hl)
  ·have hbig:mainGlobals<s.heap.objs.size:=(I.mod.glob.keeps I.bk).lt
   exact beq_eq_false_iff_ne.mpr (Nat.ne_of_gt (Nat.lt_trans (by decide) hbig))
def AV:R2:=fun x y H Q=>∃ p kvs z v,x=.ref p∧y=.str z∧H p=some (.dK kvs)∧(kvs.find? fun kv=>decide (kv.1=Sum.inr z)).map (·.2)=some v∧Q v H
theorem rL {k:Key} {v:V}:∀ {kvs:List (Key×V)} {vs:List (Key×Value)},KV kvs vs→(kvs.find? fun kv=>decide (kv.1=k)).map (·.2)=some v→∃ u,valueAt vs k=some u∧aX v u
 | _,_,.nil,h=>by simp at h
 | _,_,.cons (a:=a) (b:=b) r t,h=>by
  unfold valueAt
  rw [List.find?_cons] at h ⊢
  by_cases e:a.1=k
  ·have e':b.1=k:=r.1.symm.trans e
   rw [decide_eq_true e] at h
   rw [decide_eq_true e']
   have h':a.2=v:=by simpa using h
   exact ⟨b.2,rfl,h' ▸ r.2⟩
  ·have e':¬ b.1=k:=fun z=>e (r.1.trans z)
   rw [decide_eq_false e] at h
   rw [decide_eq_false e']
   exact rL t h
theorem xy:IxR X AV:=by
 intro value slice pins s σ H x y v u Q I rx ry h hs
 obtain ⟨p,kvs,z,w',rfl,rfl,hp,hv,q⟩:=h
 cases rx
 obtain ⟨t,rfl⟩:=ry
 obtain ⟨_,_,vs,rel,dd⟩:=(show bm X.prog X.w H s.heap p (.dK kvs) from I.hok p _ hp)
 obtain ⟨u',e,ru⟩:=rL rel hv
 have fin:EP X pins σ Q u' { s with toks:=s.toks+1 }:=⟨w',H,I.tok _,ru,q⟩
 exact subscriptTail_builtinR (x:=u') dd.typeIs PySem.F.slot_dict_getitem.lookup (wpAny_getItem_of (Q:=fun r s'=>r=u'∧EP X pins σ Q r s') (knd:=bQ X.prog X.w) (k:=Sum.inr z) (fk _ _ _ _) dd.mapOf e ⟨rfl,fin⟩) hs
end
end L2
namespace PySem
section
variable {prog:Program} {w:World} {A:Around} {E:Value→Shared→Prop} {s:Shared}
theorem kf {it t:Addr} {i:Nat} {items:Array Value} {Q:Value→Shared→Prop} (hh:A.handled=none) (hit:s.heap.IsTupleIter it t i) (ht:s.heap.IsTuple t items)
  (hQ:∀ x,items[i]?=some x→∀ h',h'.IsTupleIter it t (i+1)→Heap.SameBut it s.heap h'→Q x { s with heap:=h' })
  (hE:items[i]?=none→∀ h' e,Heap.ExtBut it s.heap h'→(∃ o,h'.get? e=some o∧o.cls=.type "StopIteration")→E (.ref e) { s with heap:=h' }) :
  wpAny (model prog w) A (Builtin.SmallTypes.nextOf (.ref it)) Q E s:=by
 obtain ⟨oi,gi,ci,di⟩:=id hit
 obtain ⟨ot,gt,_,m,dt⟩:=ht
 have sl:=F.slot_tuple_iterator_next
 unfold Builtin.SmallTypes.nextOf
 refine wpAny_bind (wpAny_callSpecial?_slot (name:=Str.ofString "__next__") hit.typeIs sl (wpAny_call_entry sl hit.typeIs F.entry_tuple_iterator_next ?_ (F.args_tuple_iterator_next_1 _)))
 refine wpAny_bind (m:=field (.ref it) 0) (wpAny_field gi di (x:=.ref t) rfl ?_)
 have nn:¬ ((Value.ref t==Value.none)=true):=Bool.false_ne_true
 show wpAny _ _ (if (Value.ref t==Value.none)=true then _ else _) _ _ _
 rw [if_neg nn]
 refine wpAny_bind (m:=field (.ref it) 1) (wpAny_field gi di (x:=.int i 0) rfl (wpAny_bind (m:=seqItems? (.ref t)) (wpAny_seqItems gt dt ?_)))
 cases q:items[i]? with
 | some x =>
  simp only [Int.toNat_natCast,q]
  refine wpAny_bind (wpAny_setField gi di (by simp) (wpAny_pure ⟨x,rfl,wpAny_pure (hQ x q _ ⟨_,Heap.get?_update_self _ gi ?_,?_,?_⟩ (Heap.SameBut.update ..))⟩))
  ·exact Obj.isFreed_of_fields (Obj.data_mapFields di _)
  ·exact (Obj.cls_mapFields ..).trans ci
  ·rw [Obj.data_mapFields di]
   simp [rawInt]
 | none =>
  simp only [Int.toNat_natCast,q]
  refine wpAny_bind (wpAny_rule (wpAny_bind (wpAny_setField gi di (by simp) (wpAny_bind (m:=newExc (.type "StopIteration") []) ?_))))
  simp only [newExc,newTuple]
  refine wpAny_bind (wpAny_newObj_type (wpAny_bind (m:=firstArgMember _ _) (wpAny_of_eq (a:=Value.none) (by first | rfl | (simp only [firstArgMember]; rfl)) (wpAny_newObj_type ?_ (by size_fits)))) (by size_fits))
  simp only [raiseNew]
  refine wpAny_bind (wpAny_handled ?_)
  rw [show A.in1.handled=none from hh]
  exact wpAny_bind (wpAny_pure (wpAny_throw (hE q _ _ (((Heap.SameBut.update ..).extBut.push _).push _) ⟨_,Heap.get?_push_size _ rfl,rfl⟩)))
end
theorem Draws.tup {prog:Program} {w:World} {A:Around} (hh:A.handled=none) (it l:Addr) (hne:l≠it) (items:Array Value) :
  Draws prog w A it [it,l] items.size (fun i v=>items[i]?=some v) (fun i h=>h.IsTupleIter it l i∧h.IsTuple l items) where
 live:=fun _ _ st=>let ⟨o,ho,_⟩:=st.1; ⟨o,ho⟩
 frame:=fun _ _ _ st hk=>⟨st.1.at fun o e=>hk it (by simp) o e,let ⟨o,e,r⟩:=st.2; ⟨o,hk l (by simp) o e,r⟩⟩
 item:=fun i s Q E hi st hQ=>kf hh st.1 st.2 (fun x ex h' st' sb=>hQ x h' s.toks ex ⟨st',st.2.extBut sb.extBut hne⟩ sb) fun e=>by simp at e; omega
 done:=fun s Q E st hE=>kf hh st.1 st.2 (fun x ex=>by simp at ex) fun _=>hE
def ItS (k:Bool) (h:Heap) (it l:Addr) (i:Nat):Prop:=match k with | true=>h.IsTupleIter it l i | false=>h.IsListIter it l i
def SqS (k:Bool) (h:Heap) (l:Addr) (items:Array Value):Prop:=match k with | true=>h.IsTuple l items | false=>h.IsList l items
def kw (k:Bool) (l:Addr):Obj:={ cls:=.type (match k with | true => "tuple_iterator" | false => "list_iterator"),data:=.fields #[.ref l,.int 0 0] }
theorem ItS.new {k:Bool} {h:Heap} {l a:Addr} (e:h.get? a=some (kw k l)):ItS k h a l 0:=by
 cases k with
 | true=>exact ⟨_,e,rfl,rfl⟩
 | false=>exact ⟨_,e,rfl,rfl⟩
theorem ItS.at {k:Bool} {h h':Heap} {a l:Addr} {i:Nat} (x:ItS k h a l i) (e:∀ o,h.get? a=some o→h'.get? a=some o):ItS k h' a l i:=by
 cases k with
 | true=>obtain ⟨o,ho,r⟩:=x; exact ⟨o,e _ ho,r⟩
 | false=>obtain ⟨o,ho,r⟩:=x; exact ⟨o,e _ ho,r⟩
theorem SqS.at {k:Bool} {h h':Heap} {a:Addr} {xs:Array Value} (x:SqS k h a xs) (e:∀ o,h.get? a=some o→h'.get? a=some o):SqS k h' a xs:=by
 cases k with
 | true=>obtain ⟨o,ho,r⟩:=x; exact ⟨o,e _ ho,r⟩
 | false=>obtain ⟨o,ho,r⟩:=x; exact ⟨o,e _ ho,r⟩
theorem ItS.live {k:Bool} {h:Heap} {a l:Addr} {i:Nat} (x:ItS k h a l i):∃ o,h.get? a=some o∧∀ v,o.data≠.cell v:=by
 cases k with
 | true=>obtain ⟨o,ho,c,d⟩:=x; exact ⟨o,ho,fun v z=>by rw [d] at z; cases z⟩
 | false=>obtain ⟨o,ho,c,d⟩:=x; exact ⟨o,ho,fun v z=>by rw [d] at z; cases z⟩
theorem Draws.sq {prog:Program} {w:World} {A:Around} (hh:A.handled=none) (it l:Addr) (hne:l≠it) (items:Array Value) (k:Bool) :
  Draws prog w A it [it,l] items.size (fun i v=>items[i]?=some v) (fun i h=>ItS k h it l i∧SqS k h l items):=by
 cases k with
 | true=>exact Draws.tup hh it l hne items
 | false=>exact Draws.list hh it l hne items
theorem lB {prog:Program} {w:World} {A:Around} {E:Value→Shared→Prop} {s:Shared} {k:Bool} {l:Addr} {items} {Q:Value→Shared→Prop} (ht:SqS k s.heap l items)
  (hQ:Q (.ref s.heap.objs.size) { s with heap:=s.heap.push (kw k l) }):wpAny (model prog w) A (pyIter (.ref l)) Q E s:=by
 cases k with
 | true=>exact wpAny_pyIter_tuple ht hQ
 | false=>exact wpAny_pyIter_list ht hQ
structure ZA (z TI TO i1 i2:Addr) (f1 f2:List Addr):Prop where
 TIz:TI≠z
 TOz:TO≠z
 i1z:i1≠z
 i2z:i2≠z
 TITO:TI≠TO
 TIi1:TI≠i1
 TIi2:TI≠i2
 TOi1:TO≠i1
 TOi2:TO≠i2
 i12:i1≠i2
 z1:z∉f1
 z2:z∉f2
 t1:TO∉f1
 t2:TO∉f2
 m1:i1∉f2
 m2:i2∉f1
section
variable {prog:Program} {w:World} {A:Around} {E:Value→Shared→Prop} {s:Shared} {z TI TO i1 i2:Addr} {f1 f2:List Addr} {n1 n2 k1 k2:Nat} {P1 P2:Nat→Value→Prop} {S1 S2:Nat→Heap→Prop} {a b:Value}
theorem ndI {c d:Addr} {f:List Addr} (h:d∉f) (hc:c∈f):c≠d:=fun q=>h (q ▸ hc)
theorem sH {Q:Value→Shared→Prop} (D1:Draws prog w A i1 f1 n1 P1 S1) (D2:Draws prog w A i2 f2 n2 P2 S2) (D:ZA z TI TO i1 i2 f1 f2)
  (hz:IsZip s.heap z TI TO .none) (hTI:IsPair s.heap TI (.ref i1) (.ref i2)) (hTO:IsPair s.heap TO a b) (h1:S1 k1 s.heap) (h2:S2 k2 s.heap) (b1:k1≤n1) (b2:k2≤n2)
  (hQ:k1<n1→k2<n2→∀ x y h' tk,P1 k1 x→P2 k2 y→IsZip h' z TI TO (rawInt s.heap.objs.size)→IsPair h' TO x y→S1 (k1+1) h'→S2 (k2+1) h'→IsPair h' s.heap.objs.size x y →
   (∀ c o,c≠z→c≠TO→c≠i1→c≠i2→s.heap.get? c=some o→h'.get? c=some o)→Q (.ref s.heap.objs.size) { s with heap:=h',toks:=tk })
  (hE:k1=n1∨k2=n2→∀ h' tk e,(∀ c o,c≠z→c≠TO→c≠i1→c≠i2→s.heap.get? c=some o→h'.get? c=some o)→(∃ o,h'.get? e=some o∧o.cls=.type "StopIteration")→E (.ref e) { s with heap:=h',toks:=tk }) :
  wpAny (model prog w) A (Builtin.«zip.__next__» ⟨[.ref z],[]⟩) (fun fin s'=>∃ v,fin=.done (.ret v)∧Q v s') E s:=by
 refine wpAny_bind (m:=field (.ref z) 2) (wpAny_field hz rfl (x:=.bool false) rfl (wpAny_bind (m:=field (.ref z) 3) (wpAny_field hz rfl (x:=.ref TI) rfl (wpAny_bind (wpAny_seqItems hTI rfl (wpAny_bind (m:=Builtin.SmallTypes.ownedTupleIsFree (.ref z)) ?_))))))
 unfold Builtin.SmallTypes.ownedTupleIsFree
 refine wpAny_bind (wpAny_field hz rfl (x:=.none) rfl (wpAny_pure ?_))
 simp only [if_true]
 refine wpAny_bind (wpAny_rule (wpAny_bind (wpAny_field hz rfl (x:=.ref TO) rfl (wpAny_bind (wpAny_setField_rec hz (by simp) fun ha (za:IsZip ha z TI TO .ellipsis) ea=>wpAny_bind ?_)))))
 simp only [List.zipIdx_cons,List.zipIdx_nil,List.forIn_cons,List.forIn_nil]
 refine wpAny_bind (wpAny_bind (wpAny_onRaise (wpAny_bind (m:=Builtin.SmallTypes.nextOf (.ref i1)) ?_)))
 have fa:S1 k1 ha:=D1.frame _ _ _ h1 fun c hc o e=>ea.extBut _ _ (ndI D.z1 hc) e
 rcases Nat.lt_or_eq_of_le b1 with l1 | e1
 ·refine D1.item k1 _ _ _ l1 fa fun x hb tk hx s1b eb=>wpAny_pure ?_
  have tb:IsPair hb TO a b:=eb.extBut _ _ D.TOi1 (ea.extBut _ _ D.TOz hTO)
  refine wpAny_bind (wpAny_seqItems tb rfl (wpAny_bind (wpAny_updateSeq_pair tb fun hc (tc:IsPair hc TO x b) ec=>wpAny_bind (wpAny_letGo (wpAny_pure ?_)))))
  refine wpAny_bind (wpAny_bind (wpAny_onRaise (wpAny_bind (m:=Builtin.SmallTypes.nextOf (.ref i2)) ?_)))
  have fc:S2 k2 hc:=D2.frame _ _ _ h2 fun c hc o e=>ec.extBut _ _ (ndI D.t2 hc) (eb.extBut _ _ (ndI D.m1 hc) (ea.extBut _ _ (ndI D.z2 hc) e))
  have zc:IsZip hc z TI TO .ellipsis:=ec.extBut _ _ D.TOz.symm (eb.extBut _ _ D.i1z.symm za)
  have kc:∀ c o,c≠z→c≠TO→c≠i1→s.heap.get? c=some o→hc.get? c=some o:=fun c o c1 c2 c3 e=>ec.extBut _ _ c2 (eb.extBut _ _ c3 (ea.extBut _ _ c1 e))
  rcases Nat.lt_or_eq_of_le b2 with l2 | e2
  ·refine D2.item k2 _ _ _ l2 fc fun y hd tk' hy s2d ed=>wpAny_pure ?_
   have td:IsPair hd TO x b:=ed.extBut _ _ D.TOi2 tc
   refine wpAny_bind (wpAny_seqItems td rfl (wpAny_bind (wpAny_updateSeq_pair td fun he (te:IsPair he TO x y) ee=>wpAny_bind (wpAny_letGo (wpAny_pure (wpAny_pure ?_))))))
   refine wpAny_bind (wpAny_seqItems te rfl (wpAny_bind (wpAny_newTuple ?_)))
   have sz:he.objs.size=s.heap.objs.size:=by rw [ee.1,ed.1,ec.1,eb.1,ea.1]
   have ze:IsZip he z TI TO .ellipsis:=ee.extBut _ _ D.TOz.symm (ed.extBut _ _ D.i2z.symm zc)
   have s1e:S1 (k1+1) he:=D1.frame _ _ _ s1b fun c hc o e=>ee.extBut _ _ (ndI D.t1 hc) (ed.extBut _ _ (ndI D.m2 hc) (ec.extBut _ _ (ndI D.t1 hc) e))
   have s2e:S2 (k2+1) he:=D2.frame _ _ _ s2d fun c hc o e=>ee.extBut _ _ (ndI D.t2 hc) e
   refine wpAny_bind (m:=Builtin.SmallTypes.ownedTupleHandOut (.ref z) (.ref he.objs.size)) ?_
   unfold Builtin.SmallTypes.ownedTupleHandOut
   have zf:IsZip (he.push { cls:=.type "tuple",data:=.seq #[x,y] }) z TI TO .ellipsis:=Heap.get?_push_of_some _ ze
   refine wpAny_bind (wpAny_setField_rec zf (by simp) fun hg (zg:IsZip hg z TI TO (rawInt he.objs.size)) eg=>wpAny_setField_rec zg (by simp) fun hi (zi:IsZip hi z TI TO (rawInt he.objs.size)) ei=>wpAny_pure ⟨_,rfl,?_⟩)
   have up:∀ c o,c≠z→(he.push { cls:=.type "tuple",data:=.seq #[x,y] }).get? c=some o→hi.get? c=some o:=fun c o c1 e=>ei.extBut _ _ c1 (eg.extBut _ _ c1 e)
   have up':∀ c o,c≠z→he.get? c=some o→hi.get? c=some o:=fun c o c1 e=>up c o c1 (Heap.get?_push_of_some _ e)
   have pi:IsPair hi he.objs.size x y:=up _ _ (Nat.ne_of_gt (Heap.lt_size ze)) (Heap.get?_push_size _ rfl)
   show Q (.ref he.objs.size) _
   rw [sz] at zi pi ⊢
   exact hQ l1 l2 x y hi tk' hx hy zi (up' _ _ D.TOz te) (D1.frame _ _ _ s1e fun c hc o e=>up' _ o (ndI D.z1 hc) e) (D2.frame _ _ _ s2e fun c hc o e=>up' _ o (ndI D.z2 hc) e) pi
    fun c o c1 c2 c3 c4 e=>up' c o c1 (ee.extBut _ _ c2 (ed.extBut _ _ c4 (kc c o c1 c2 c3 e)))
  ·subst e2
   refine D2.done _ _ _ fc fun hd x ed ⟨oe,ge,ce⟩=>?_
   have zd:IsZip hd z TI TO .ellipsis:=ed _ _ D.i2z.symm zc
   have ne:x≠z:=fun q=>by subst q; rw [zd] at ge; cases ge; simp at ce
   exact wpAny_setField_rec zd (by simp) fun he _ ee=>hE (.inr rfl) he _ x (fun c o c1 c2 c3 c4 q=>ee.extBut _ _ c1 (ed _ _ c4 (kc c o c1 c2 c3 q))) ⟨oe,ee.extBut _ _ ne ge,ce⟩
 ·subst e1
  refine D1.done _ _ _ fa fun hb x eb ⟨oe,ge,ce⟩=>?_
  have zb:IsZip hb z TI TO .ellipsis:=eb _ _ D.i1z.symm za
  have ne:x≠z:=fun q=>by subst q; rw [zb] at ge; cases ge; simp at ce
  exact wpAny_setField_rec zb (by simp) fun he _ ee=>hE (.inl rfl) he _ x (fun c o c1 _ c3 _ q=>ee.extBut _ _ c1 (eb _ _ c3 (ea.extBut _ _ c1 q))) ⟨oe,ee.extBut _ _ ne ge,ce⟩
theorem iS {Q:Option Value→Shared→Prop} (D1:Draws prog w A.in1 i1 f1 n1 P1 S1) (D2:Draws prog w A.in1 i2 f2 n2 P2 S2) (D:ZA z TI TO i1 i2 f1 f2)
  (hz:IsZip s.heap z TI TO .none) (hTI:IsPair s.heap TI (.ref i1) (.ref i2)) (hTO:IsPair s.heap TO a b) (h1:S1 k1 s.heap) (h2:S2 k2 s.heap) (b1:k1≤n1) (b2:k2≤n2)
  (hQ:k1<n1→k2<n2→∀ x y h' tk,P1 k1 x→P2 k2 y→IsZip h' z TI TO (rawInt s.heap.objs.size)→IsPair h' TO x y→S1 (k1+1) h'→S2 (k2+1) h'→IsPair h' s.heap.objs.size x y →
   (∀ c o,c≠z→c≠TO→c≠i1→c≠i2→s.heap.get? c=some o→h'.get? c=some o)→Q (some (.ref s.heap.objs.size)) { s with heap:=h',toks:=tk })
  (hN:k1=n1∨k2=n2→∀ h' tk,(∀ c o,c≠z→c≠TO→c≠i1→c≠i2→s.heap.get? c=some o→h'.get? c=some o)→Q none { s with heap:=h',toks:=tk }) :
  wpAny (model prog w) A (pyNext (.ref z)) Q E s:=by
 have ty:s.TypeIs (.ref z) "zip":=⟨_,hz,rfl⟩
 have sl:=F.slot_zip_next
 unfold pyNext
 refine wpAny_bind (wpAny_attempt (wpAny_callSpecial?_slot (name:=Str.ofString "__next__") ty sl (wpAny_call_entry sl ty F.entry_zip_next ?_ (F.args_zip_next_1 _))))
 refine sH D1 D2 D hz hTI hTO h1 h2 b1 b2 (fun l1 l2 x y h' tk p1 p2 a1 a2 a3 a4 a5 a6=>wpAny_pure (hQ l1 l2 x y h' tk p1 p2 a1 a2 a3 a4 a5 a6)) fun en h' tk e hk ⟨o,ho,hc⟩=>?_
 exact wpAny_bind (wpAny_isInstance (T := "StopIteration") (b:=true) ⟨o,ho,hc⟩ isSubtype_stop (wpAny_pure (hN en _ _ hk)))
end
end PySem
namespace PySem
theorem mQ (k1 k2:Bool) (l1 l2:Addr) (xs ys:Array Value) :
  Meets (Builtin.«zip.__new__» ⟨[.type "zip",.ref l1,.ref l2],[]⟩) (fun _ R s=>SqS k1 s.heap l1 xs∧SqS k2 s.heap l2 ys ∧
   R (.ok (.ret (.ref (s.heap.objs.size+4)))) { s with heap:=((((s.heap.push (kw k1 l1)).push (kw k2 l2)).push { cls:=.type "tuple",data:=.seq #[.ref s.heap.objs.size,.ref (s.heap.objs.size+1)] }).push { cls:=.type "tuple",data:=.seq #[.none,.none] }).push { cls:=.type "zip",data:=.fields #[.none,.bool false,.bool false,.ref (s.heap.objs.size+2),.ref (s.heap.objs.size+3)] } }) :=
 .of_wp fun prog w A R s h=>by
  obtain ⟨hp,g,d,tk,os⟩:=s
  obtain ⟨a1,a2,h⟩:=h
  have sub:=sub_zip
  have b1:SqS k1 (Shared.heap ⟨hp,g,d,tk,os⟩) l1 xs:=a1
  have b2:SqS k2 (Shared.heap ⟨hp.push (kw k1 l1),g,d,tk,os⟩) l2 ys:=SqS.at (show SqS k2 hp l2 ys from a2) fun o e=>Heap.get?_push_of_some _ e
  wp_walk using lB b1,lB b2
  refine ⟨_,rfl,?_⟩
  simp only [Heap.size_push] at *
  exact h
end PySem
namespace L2
open PySem PySem.Spec PyProof.Rows
def SqX (k:Bool) (K:Frag) (H:Hp) (a:Addr) (xs:List V):Prop:=match k with | true=>SqT K H a xs | false=>SqL K H a xs
section
variable {X:Cx} {pins:List (Addr×Obj)} {σ:St} {H:Hp} {s:Shared} {a:Addr} {xs ys:List V} {h':Heap}
theorem Inv.sq {k:Bool} (I:Inv X pins σ H s) (h:SqX k X.K H a xs):∃ its:List Value,aR xs its∧SqS k s.heap a its.toArray∧xs.length≤sizeLine:=by
 cases k with
 | true=>obtain ⟨its,r,p,z⟩:=I.tuple h; exact ⟨its,r,p,z⟩
 | false=>obtain ⟨its,r,p,z⟩:=I.list h; exact ⟨its,r,p.isList,z⟩
theorem Inv.sq_inj {k:Bool} (I:Inv X pins σ H s) (h:SqX k X.K H a xs) (h':SqX k X.K H a ys):xs=ys:=by
 cases k with
 | true=>exact I.tuple_inj h h'
 | false=>exact I.list_inj h h'
theorem Rd.ne {u:HO} {c:Addr} (r:Rd H a u) (h:H c=none):a≠c:=fun e=>by
 subst e
 rcases r with r | ⟨o,r⟩<;>(rw [h] at r; cases r)
theorem AK {o:Obj} {c:Addr} (I:Inv X pins σ H s) (e:X.K.lookup a=some o) (f:gH X pins H c):a≠c:=fun q=>by
 subst q
 have hb:=I.ok.mod.kin a o e
 rcases f.2.2.2.1 with m | m
 ·exact I.ok.noex a o hb m
 ·exact absurd (Nat.lt_of_lt_of_le (Heap.lt_size hb) (Nat.le_trans I.ok.bsz m)) (Nat.lt_irrefl _)
theorem Inv.sq_ne {k:Bool} {c:Addr} (I:Inv X pins σ H s) (h:SqX k X.K H a xs) (f:gH X pins H c):a≠c:=by
 cases k with
 | true=>rcases h with r | ⟨o,_,_,e,_⟩; exact r.ne f.1; exact AK I e f
 | false=>rcases h with r | ⟨o,_,_,e,_⟩; exact r.ne f.1; exact AK I e f
theorem Inv.turnedL {t':Nat} {its:List Addr} (I:Inv X pins σ H s) (k:∀ b o,b∉its→s.heap.get? b=some o→h'.get? b=some o) (hf:∀ b∈its,gH X pins H b) :
  Inv X pins σ H { s with heap:=h',toks:=t' }:=by
 have nit:∀ b u,H b=some u→b∉its:=fun b u e z=>by rw [(hf b z).1] at e; cases e
 refine I.step (g':=s.gens) (d':=s.drawn) (ch:=its) (fun b hb=>⟨(hf b hb).2.2.2.1,(hf b hb).2.1,(hf b hb).2.2.2.2.1,(hf b hb).2.2.2.2.2⟩) (fun b o _ _ hc e _=>k b o hc e) (fun b o _ _ hc e _=>⟨o.slots,k b o hc e⟩) (fun _ _ _ _ n=>n)
  (fun b o hc e=>⟨o,k b o hc e⟩) (fun _ _ e=>e) (fun _ _ _ e=>e) (fun b ps e=>⟨#[],by rw [e]; simp⟩) (fun m hm=>?_) (fun b u e=>?_) I.bare
 ·obtain ⟨o,es,ep,ho,r⟩:=hm
  exact ⟨o,es,ep,k _ o (fun z=>(hf _ z).2.1 rfl) ho,r⟩
 ·refine (I.hok b u e).stay (fun c v hc q=>k c v ?_ q) (fun _ q=>q) fun _ _ q=>q
  rcases hc with z | z
  ·rw [z]; exact nit b u e
  ·exact nit c _ z
end
def Itz (K:Frag) (k1 k2:Bool) (a b:Addr):It :=
 ⟨fun i H=>∃ xs ys x y,SqX k1 K H a xs∧SqX k2 K H b ys∧xs[i]?=some x∧ys[i]?=some y,
  fun i H v H'=>∃ p x y,H p=none∧v=.ref p∧H'=upd H p (.tup [x,y])∧(∀ xs,SqX k1 K H a xs→xs[i]?=some x)∧(∀ ys,SqX k2 K H b ys→ys[i]?=some y),
  fun i H=>∃ xs ys,SqX k1 K H a xs∧SqX k2 K H b ys∧i≤xs.length∧i≤ys.length∧(xs.length=i∨ys.length=i)⟩
structure ZN (z TI TO i1 i2:Addr):Prop where
 TIz:TI≠z
 TOz:TO≠z
 i1z:i1≠z
 i2z:i2≠z
 TITO:TI≠TO
 TIi1:TI≠i1
 TIi2:TI≠i2
 TOi1:TO≠i1
 TOi2:TO≠i2
 i12:i1≠i2
theorem ZN.new (n:Nat):ZN (n+4:Nat) (n+2:Nat) (n+3:Nat) n (n+1:Nat) :=
 ⟨show (n+2:Nat)≠(n+4:Nat) by omega,show (n+3:Nat)≠(n+4:Nat) by omega,show (n:Nat)≠(n+4:Nat) by omega,show (n+1:Nat)≠(n+4:Nat) by omega,show (n+2:Nat)≠(n+3:Nat) by omega,show (n+2:Nat)≠n by omega,show (n+2:Nat)≠(n+1:Nat) by omega,show (n+3:Nat)≠n by omega,show (n+3:Nat)≠(n+1:Nat) by omega,show (n:Nat)≠(n+1:Nat) by omega⟩
theorem ZN.za {z TI TO i1 i2 a b:Addr} (D:ZN z TI TO i1 i2) (az:a≠z) (bz:b≠z) (aT:a≠TO) (bT:b≠TO) (ai:a≠i2) (bi:b≠i1):ZA z TI TO i1 i2 [i1,a] [i2,b] :=
 ⟨D.TIz,D.TOz,D.i1z,D.i2z,D.TITO,D.TIi1,D.TIi2,D.TOi1,D.TOi2,D.i12,by simp [D.i1z.symm,az.symm],by simp [D.i2z.symm,bz.symm],by simp [D.TOi1,aT.symm],by simp [D.TOi2,bT.symm],by simp [D.i12,bi.symm],by simp [D.i12.symm,ai.symm]⟩
theorem uL {P:Program} {w:World} {K:Frag} {elts:List Expr} {x1} {pos:Pos} {z TI TO i1 i2:Addr} (D:ZN z TI TO i1 i2) (k1 k2:Bool) (a b:Addr) :
  mq P w K (.Tuple elts x1 pos) (Itz K k1 k2 a b) [z,TI,TO,i1,i2] z (fun i h=>IsZip h z TI TO .none∧IsPair h TI (.ref i1) (.ref i2)∧(∃ u v,IsPair h TO u v)∧ItS k1 h i1 a i∧ItS k2 h i2 b i) where
 mem:=by simp
 obj:=fun i h st c hc=>by
  obtain ⟨hz,hI,⟨u,v,hO⟩,s1,s2⟩:=st
  simp at hc
  rcases hc with rfl | rfl | rfl | rfl | rfl
  ·exact ⟨_,hz,fun v z=>by have z':Data.fields _=Data.cell v:=z; cases z'⟩
  ·exact ⟨_,hI,fun v z=>by have z':Data.seq _ _=Data.cell v:=z; cases z'⟩
  ·exact ⟨_,hO,fun v z=>by have z':Data.seq _ _=Data.cell v:=z; cases z'⟩
  ·exact s1.live
  ·exact s2.live
 keep:=fun i h h' st k=>by
  obtain ⟨hz,hI,⟨u,v,hO⟩,s1,s2⟩:=st
  exact ⟨k z (by simp) _ hz,k TI (by simp) _ hI,⟨u,v,k TO (by simp) _ hO⟩,s1.at fun o e=>k i1 (by simp) o e,s2.at fun o e=>k i2 (by simp) o e⟩
 item:=by
  intro X hP hw hK hc i pins s σ H E I hf st hg
  subst hP hw hK
  obtain ⟨xs,ys,x,y,q1,q2,ex,ey⟩:=hg
  obtain ⟨hz,hI,⟨u0,v0,hO⟩,s1,s2⟩:=st
  obtain ⟨its1,r1,p1,_⟩:=I.sq q1
  obtain ⟨its2,r2,p2,_⟩:=I.sq q2
  obtain ⟨ux,hux,rx⟩:=r1.get ex
  obtain ⟨uy,huy,ry⟩:=r2.get ey
  have fz:=hf z (by simp); have fO:=hf TO (by simp); have f1:=hf i1 (by simp); have f2:=hf i2 (by simp)
  have hh:X.A.in1.handled=none:=I.ok.hd hc
  have l1:i<its1.toArray.size:=by simpa using (List.getElem?_eq_some_iff.mp hux).1
  have l2:i<its2.toArray.size:=by simpa using (List.getElem?_eq_some_iff.mp huy).1
  refine iS (Draws.sq hh i1 a (I.sq_ne q1 f1) its1.toArray k1) (Draws.sq hh i2 b (I.sq_ne q2 f2) its2.toArray k2) (D.za (I.sq_ne q1 fz) (I.sq_ne q2 fz) (I.sq_ne q1 fO) (I.sq_ne q2 fO) (I.sq_ne q1 f2) (I.sq_ne q2 f1)) hz hI hO ⟨s1,p1⟩ ⟨s2,p2⟩ (Nat.le_of_lt l1) (Nat.le_of_lt l2) (fun _ _ gx gy h' tk px py a1 a2 a3 a4 a5 a6=>?_) (fun en=>by omega)
  have egx:gx=ux:=by
   have px':its1[i]?=some gx:=by simpa using px
   rw [hux] at px'
   exact (Option.some.inj px').symm
  have egy:gy=uy:=by
   have py':its2[i]?=some gy:=by simpa using py
   rw [huy] at py'
   exact (Option.some.inj py').symm
  subst egx egy
  refine ⟨_,rfl,wpAny_letOwnedTupleGo_zip (s:={ s with heap:=h',toks:=tk }) a1 fun h2 b1 b2=>?_⟩
  have lt:∀ {c:Addr} {o:Obj},s.heap.get? c=some o→c≠s.heap.objs.size:=fun e=>Nat.ne_of_lt (Heap.lt_size e)
  have fr:H s.heap.objs.size=none:=I.hok.fresh (Nat.le_refl _)
  have I1:Inv X pins σ (upd H s.heap.objs.size (.tup [x,y])) { s with heap:=s.heap.push { cls:=.type "tuple",data:=.seq #[gx,gy] },toks:=tk }:=by
   refine I.laid (t':=tk) (fun b u e=>Heap.get?_push_of_some _ e) (Nat.le_refl _) ⟨by simp [sizeLine],[gx,gy],.cons rx (.cons ry .nil),⟨_,Heap.get?_push_size _ rfl,rfl,_,rfl⟩,_,Heap.get?_push_size _ rfl,rfl⟩
  have nl:∀ c∈[z,TI,TO,i1,i2],c≠s.heap.objs.size:=fun c hc=>by
   simp at hc
   rcases hc with rfl | rfl | rfl | rfl | rfl
   ·exact lt hz
   ·exact lt hI
   ·exact lt hO
   ·obtain ⟨o,e,_⟩:=s1.live; exact lt e
   ·obtain ⟨o,e,_⟩:=s2.live; exact lt e
  have hf':∀ c∈[z,TI,TO,i1,i2],gH X pins (upd H s.heap.objs.size (.tup [x,y])) c:=fun c hc=>⟨by rw [aW (nl c hc)]; exact (hf c hc).1,(hf c hc).2⟩
  have I2:Inv X pins σ (upd H s.heap.objs.size (.tup [x,y])) { s with heap:=h2,toks:=tk }:=by
   refine Inv.turnedL (s:={ s with heap:=s.heap.push { cls:=.type "tuple",data:=.seq #[gx,gy] },toks:=tk }) (t':=tk) (its:=[z,TI,TO,i1,i2]) I1 (fun c o hc e=>?_) hf'
   simp at hc
   refine b2.extBut _ _ hc.1 ?_
   rcases Heap.get?_push_cases e with ⟨q,q'⟩ | q
   ·rw [q,q']
    exact a5
   ·exact a6 c o hc.1 hc.2.2.1 hc.2.2.2.1 hc.2.2.2.2 q
  refine ⟨.ref s.heap.objs.size,_,I2,rfl,⟨_,x,y,fr,rfl,rfl,fun zs hz'=>by rw [I.sq_inj hz' q1]; exact ex,fun zs hz'=>by rw [I.sq_inj hz' q2]; exact ey⟩,⟨b1,?_,⟨_,_,b2.extBut _ _ D.TOz a2⟩,a3.1.at fun o e=>b2.extBut _ _ D.i1z e,a4.1.at fun o e=>b2.extBut _ _ D.i2z e⟩,fun c hc=>(hf' c hc).1⟩
  exact b2.extBut _ _ D.TIz (a6 _ _ D.TIz D.TITO D.TIi1 D.TIi2 hI)
 done:=by
  intro X hP hw hK hc i pins s σ H E I hf st hg
  subst hP hw hK
  obtain ⟨xs,ys,q1,q2,m1,m2,en⟩:=hg
  obtain ⟨hz,hI,⟨u0,v0,hO⟩,s1,s2⟩:=st
  obtain ⟨its1,r1,p1,_⟩:=I.sq q1
  obtain ⟨its2,r2,p2,_⟩:=I.sq q2
  have e1:=r1.length
  have e2:=r2.length
  have fz:=hf z (by simp); have fO:=hf TO (by simp); have f1:=hf i1 (by simp); have f2:=hf i2 (by simp)
  have hh:X.A.in1.handled=none:=I.ok.hd hc
  refine iS (Draws.sq hh i1 a (I.sq_ne q1 f1) its1.toArray k1) (Draws.sq hh i2 b (I.sq_ne q2 f2) its2.toArray k2) (D.za (I.sq_ne q1 fz) (I.sq_ne q2 fz) (I.sq_ne q1 fO) (I.sq_ne q2 fO) (I.sq_ne q1 f2) (I.sq_ne q2 f1)) hz hI hO ⟨s1,p1⟩ ⟨s2,p2⟩ (by simp; omega) (by simp; omega) (fun l1 l2=>?_) (fun _ h' tk k=>⟨rfl,?_⟩)
  ·simp at l1 l2
   omega
  ·exact I.turnedL (its:=[z,TI,TO,i1,i2]) (fun c o hc e=>by simp at hc; exact k c o hc.1 hc.2.2.1 hc.2.2.2.1 hc.2.2.2.2 e) hf
 self:=fun _ _ _ _ _ st h=>wpAny_pyIter_zip st.1 h
section
variable {X:Cx}
def AS (K:Frag) (k1 k2:Bool) (ta:TA):TI:=fun σ H R=>ta σ H fun vs H1=>∃ a b,vs=[.ref a,.ref b]∧(∃ xs,SqX k1 K H1 a xs)∧(∃ ys,SqX k2 K H1 b ys)∧R (Itz K k1 k2 a b) H1
theorem yJ {elts:List Expr} {x1} {tp:Pos} {a b:Expr} {ta:TA} {p pos:Pos} (k1 k2:Bool) (hg:Gl X "zip") (hm:X.mg "zip"=none) (ha:PA X [a,b] ta) (hs:starEach [a,b] X.env=[(false,eval a X.env),(false,eval b X.env)]:=by rfl) (hs2:starEach [b] X.env=[(false,eval b X.env)]:=by rfl) :
  PI X (.Tuple elts x1 tp) (.Call (.Name "zip" p) [a,b] [] pos) (AS X.K k1 k2 ta):=by
 intro pins s σ H R I h
 refine Call_ (eY I hg hm boot_zip (PyProof.Rows.callWith_type1 (thn (ha pos pins s σ H _ I h) fun us s1 ⟨vs,H1,I1,r1,q1⟩=>?_) (by rw [hs,hs2]) (by rw [hs2]; rfl)))
 obtain ⟨l1,l2,e,⟨xs,h1⟩,⟨ys,h2⟩,q⟩:=q1
 subst e
 cases r1 with
 | cons r rr =>
  cases rr with
  | cons r' rr =>
   cases rr
   cases r
   cases r'
   obtain ⟨its1,v1,p1,_⟩:=I1.sq h1
   obtain ⟨its2,v2,p2,_⟩:=I1.sq h2
   refine callType_new F.called_zip (by decide) (F.typeCall_zip_2 _ _) (F.newCall_zip_2 _ _) (fun obj=>F.args_object_init_3 obj _ _) F.entry_zip_new (mQ k1 k2 l1 l2 its1.toArray its2.toArray) ⟨p1,p2,?_⟩
   have key:∀ (n:Nat) (o1 o2 o3 o4 o5:Obj) (hp:Heap),o1.isFreed=false→o2.isFreed=false→o3.isFreed=false→o4.isFreed=false→o5.isFreed=false→n=hp.objs.size →
     (((((hp.push o1).push o2).push o3).push o4).push o5).get? n=some o1∧(((((hp.push o1).push o2).push o3).push o4).push o5).get? (n+1)=some o2∧(((((hp.push o1).push o2).push o3).push o4).push o5).get? (n+2)=some o3 ∧
     (((((hp.push o1).push o2).push o3).push o4).push o5).get? (n+3)=some o4∧(((((hp.push o1).push o2).push o3).push o4).push o5).get? (n+4)=some o5:=by
    intro n o1 o2 o3 o4 o5 hp f1 f2 f3 f4 f5 e
    subst e
    have z1:(hp.push o1).objs.size=hp.objs.size+1:=Heap.size_push ..
    have z2:((hp.push o1).push o2).objs.size=hp.objs.size+2:=by rw [Heap.size_push,z1]
    have z3:(((hp.push o1).push o2).push o3).objs.size=hp.objs.size+3:=by rw [Heap.size_push,z2]
    have z4:((((hp.push o1).push o2).push o3).push o4).objs.size=hp.objs.size+4:=by rw [Heap.size_push,z3]
    refine ⟨?_,?_,?_,?_,?_⟩
    ·exact Heap.get?_push_of_some _ (Heap.get?_push_of_some _ (Heap.get?_push_of_some _ (Heap.get?_push_of_some _ (Heap.get?_push_size _ f1))))
    ·rw [← z1]
     exact Heap.get?_push_of_some _ (Heap.get?_push_of_some _ (Heap.get?_push_of_some _ (Heap.get?_push_size _ f2)))
    ·rw [← z2]
     exact Heap.get?_push_of_some _ (Heap.get?_push_of_some _ (Heap.get?_push_size _ f3))
    ·rw [← z3]
     exact Heap.get?_push_of_some _ (Heap.get?_push_size _ f4)
    ·rw [← z4]
     exact Heap.get?_push_size _ f5
   obtain ⟨g1,g2,g3,g4,g5⟩:=key s1.heap.objs.size (kw k1 l1) (kw k2 l2) { cls:=.type "tuple",data:=.seq #[.ref s1.heap.objs.size,.ref (s1.heap.objs.size+1)] } { cls:=.type "tuple",data:=.seq #[.none,.none] } { cls:=.type "zip",data:=.fields #[.none,.bool false,.bool false,.ref (s1.heap.objs.size+2),.ref (s1.heap.objs.size+3)] } s1.heap rfl rfl rfl rfl rfl rfl
   refine ⟨⟨_,g5,rfl⟩,wpAny_pyIter_zip (f0:=.none) g5 ?_⟩
   refine ⟨s1.heap.objs.size+4,[s1.heap.objs.size+4,s1.heap.objs.size+2,s1.heap.objs.size+3,s1.heap.objs.size,s1.heap.objs.size+1],_,_,H1,rfl,I1.kept (t':=s1.toks) fun b o e=>?_,uL (TI:=s1.heap.objs.size+2) (TO:=s1.heap.objs.size+3) (i1:=s1.heap.objs.size) (i2:=s1.heap.objs.size+1) (ZN.new _) k1 k2 l1 l2,⟨g5,g3,⟨_,_,g4⟩,ItS.new g1,ItS.new g2⟩,fun b hb=>?_,q⟩
   ·exact Heap.get?_push_of_some _ (Heap.get?_push_of_some _ (Heap.get?_push_of_some _ (Heap.get?_push_of_some _ (Heap.get?_push_of_some _ e))))
   ·have le:s1.heap.objs.size≤b:=by
     simp only [List.mem_cons,List.not_mem_nil,or_false] at hb
     rcases hb with rfl | rfl | rfl | rfl | rfl
     ·exact Nat.le_add_right _ _
     ·exact Nat.le_add_right _ _
     ·exact Nat.le_add_right _ _
     ·exact Nat.le_refl _
     ·exact Nat.le_add_right _ _
    exact I1.fpOk le (I1.hok.fresh le)
end
open PySem PySem.Spec PyProof.Rows
section
variable {κ:Type} [DecidableEq κ]
def cj (kvs:List (κ×V)) (k:κ):Option V:=(kvs.find? fun kv=>decide (kv.1=k)).map (·.2)
def gN (kvs:List (κ×V)) (k:κ) (v:V):List (κ×V) :=
 if (kvs.any fun kv=>decide (kv.1=k))=true then kvs.map (fun kv=>if kv.1=k then (kv.1,v) else kv) else kvs++[(k,v)]
theorem kB {p:κ×V} {r:List (κ×V)} {k:κ} (e:p.1=k):cj (p::r) k=some p.2:=by simp [cj,List.find?_cons,e]
theorem kq {p:κ×V} {r:List (κ×V)} {k:κ} (e:¬ p.1=k):cj (p::r) k=cj r k:=by simp [cj,List.find?_cons,e]
theorem oB (k:κ):∀ kvs:List (κ×V),(kvs.any fun kv=>decide (kv.1=k))=(cj kvs k).isSome
 | []=>rfl
 | p::r=>by
  rw [List.any_cons]
  by_cases e:p.1=k
  ·simp only [kB e,decide_eq_true e,Bool.true_or,Option.isSome_some]
  ·rw [kq e,decide_eq_false e,Bool.false_or]; exact oB k r
theorem iJ (kvs:List (κ×V)) (k:κ) (v:V):(gN kvs k v).length≤kvs.length+1:=by
 unfold gN
 split
 ·rw [List.length_map]; omega
 ·rw [List.length_append,List.length_cons,List.length_nil]; omega
theorem il.isSome_eq {o:Option V} {u:Option Value} (r:il o u):o.isSome=u.isSome:=by
 cases o with
 | none=>cases u with
  | none=>rfl
  | some _=>exact (show False from r).elim
 | some _=>cases u with
  | none=>exact (show False from r).elim
  | some _=>rfl
theorem il.getD {o:Option V} {u:Option Value} {d:V} {d':Value} (r:il o u) (rd:aX d d'):aX (o.getD d) (u.getD d'):=by
 cases o with
 | none=>cases u with
  | none=>exact rd
  | some _=>exact (show False from r).elim
 | some _=>cases u with
  | none=>exact (show False from r).elim
  | some _=>exact r
theorem KV.val {kvs:List (κ×V)} {vs:List (κ×Value)} (r:KV kvs vs) (k:κ):il (cj kvs k) (valueAt vs k):=by
 unfold KV at r
 induction r with
 | nil=>exact True.intro
 | @cons p q ps qs h t ih =>
  obtain ⟨h1,h2⟩:=h
  by_cases e:p.1=k
  ·have e':q.1=k:=h1.symm.trans e
   have b:valueAt (q::qs) k=some q.2:=by simp [valueAt,List.find?_cons,e']
   rw [kB e,b]; exact h2
  ·have e':¬ q.1=k:=fun z=>e (h1.trans z)
   have b:valueAt (q::qs) k=valueAt qs k:=by simp [valueAt,List.find?_cons,e']
   rw [kq e,b]; exact ih
theorem KV.any {kvs:List (κ×V)} {vs:List (κ×Value)} (r:KV kvs vs) (k:κ):(kvs.any fun kv=>decide (kv.1=k))=vs.any fun kv=>decide (kv.1=k):=by
 unfold KV at r
 induction r with
 | nil=>rfl
 | cons h t ih=>rw [List.any_cons,List.any_cons,ih,h.1]
theorem KV.repl {kvs:List (κ×V)} {vs:List (κ×Value)} (r:KV kvs vs) (k:κ) {y:V} {u:Value} (ry:aX y u) :
  KV (kvs.map fun kv=>if kv.1=k then (kv.1,y) else kv) (vs.map fun kv=>if kv.1=k then (kv.1,u) else kv):=by
 unfold KV at r ⊢
 induction r with
 | nil=>exact .nil
 | @cons p q ps qs h t ih =>
  rw [List.map_cons,List.map_cons]
  refine .cons ?_ ih
  obtain ⟨h1,h2⟩:=h
  by_cases e:p.1=k
  ·rw [if_pos e,if_pos (h1.symm.trans e)]; exact ⟨h1,ry⟩
  ·rw [if_neg e,if_neg (fun z=>e (h1.trans z))]; exact ⟨h1,h2⟩
theorem KV.put {kvs:List (κ×V)} {vs:List (κ×Value)} (r:KV kvs vs) (k:κ) {y:V} {u:Value} (ry:aX y u):KV (gN kvs k y) (stored vs k u):=by
 unfold gN stored
 rw [r.any k]
 by_cases e:(vs.any fun kv=>decide (kv.1=k))=true
 ·rw [if_pos e,if_pos e]; exact r.repl k ry
 ·rw [if_neg e,if_neg e]; exact Paired.snoc r ⟨rfl,ry⟩
theorem KV.length {kvs:List (κ×V)} {vs:List (κ×Value)} (r:KV kvs vs):kvs.length=vs.length:=Paired.length r
end
theorem uU {P:Program} {w:World} {k:Key} {u:Value} (r:aX (kV k) u):(bQ P w).is k u=true:=by
 cases k with
 | inl i=>obtain ⟨t,e⟩:=(show ∃ t,u=Value.int i t from r); subst e; exact nN P w i t
 | inr x=>obtain ⟨t,e⟩:=(show ∃ t,u=Value.str x t from r); subst e; exact fk P w x t
abbrev KT (H:Hp):List (PyData×V)→List (PyData×Addr×Value)→Prop:=Paired fun p q=>p.1=q.1∧NAt H q.2.1 p.1∧aX p.2 q.2.2
theorem KT.val {H:Hp} {kvs:List (PyData×V)} {xs:List (PyData×Addr×Value)} (r:KT H kvs xs) (k:PyData):il (cj kvs k) ((atKey xs k).map (·.2)):=by
 induction r with
 | nil=>exact True.intro
 | @cons p q ps qs h t ih =>
  obtain ⟨h1,_,h2⟩:=h
  by_cases e:p.1=k
  ·have e':q.1=k:=h1.symm.trans e
   have b:atKey (q::qs) k=some q.2:=by simp [atKey,List.find?_cons,e']
   rw [kB e,b]; exact h2
  ·have e':¬ q.1=k:=fun z=>e (h1.trans z)
   have b:atKey (q::qs) k=atKey qs k:=by simp [atKey,List.find?_cons,e']
   rw [kq e,b]; exact ih
theorem KT.repl {H:Hp} {kvs:List (PyData×V)} {xs:List (PyData×Addr×Value)} (r:KT H kvs xs) (k:PyData) {y:V} {u:Value} (ry:aX y u) :
  KT H (kvs.map fun kv=>if kv.1=k then (kv.1,y) else kv) (xs.map (putAt k u)):=by
 induction r with
 | nil=>exact .nil
 | @cons p q ps qs h t ih =>
  rw [List.map_cons,List.map_cons]
  refine .cons ?_ ih
  obtain ⟨h1,h2,h3⟩:=h
  unfold putAt
  by_cases e:p.1=k
  ·rw [if_pos e,if_pos (h1.symm.trans e)]; exact ⟨h1,h2,ry⟩
  ·rw [if_neg e,if_neg (fun z=>e (h1.trans z))]; exact ⟨h1,h2,h3⟩
theorem KT.put {H:Hp} {kvs:List (PyData×V)} {xs:List (PyData×Addr×Value)} (r:KT H kvs xs) (k:PyData) {b:Addr} {y:V} {u:Value} (hb:NAt H b k) (ry:aX y u) :
  KT H (gN kvs k y) (storedH xs k b u):=by
 have e:(kvs.any fun kv=>decide (kv.1=k))=(atKey xs k).isSome:=by
  rw [oB,(r.val k).isSome_eq,Option.isSome_map]
 unfold gN storedH
 rw [e]
 by_cases q:(atKey xs k).isSome=true
 ·rw [if_pos q,if_pos q]; exact r.repl k ry
 ·rw [if_neg q,if_neg q]; exact Paired.snoc r ⟨rfl,hb,ry⟩
theorem KT.keeps {H H':Hp} {kvs:List (PyData×V)} {xs:List (PyData×Addr×Value)} (r:KT H kvs xs) (ht:∀ b ys,H b=some (.tup ys)→H' b=some (.tup ys)):KT H' kvs xs :=
 Paired.mapP r fun _ _ z=>⟨z.1,z.2.1.mono ht,z.2.2⟩
section
variable {P:Program} {w:World} {H:Hp} {h:Heap} {a:Addr}
theorem yb {u:HO} (ok:HOk P w H h) (e:Rd H a u):bm P w H h a u:=e.ok ok
theorem ox {kvs:List (Key×V)} (ok:HOk P w H h) (e:Rd H a (.dK kvs)):kvs.length≤sizeLine∧(a==sysModules)=false∧∃ vs,KV kvs vs∧h.DictOf (bQ P w) a vs :=
 show bm P w H h a (.dK kvs) from yb ok e
theorem Aa {kvs:List (Key×V)} (ok:HOk P w H h) (e:H a=some (.dK kvs)):kvs.length≤sizeLine∧(a==sysModules)=false∧∃ vs,KV kvs vs∧h.DictOf (bQ P w) a vs:=ox ok (.inl e)
theorem ix {A:Around} (hu:A.units+60<cLine):(dm P w).room A.in1:=by
 have:A.in1.units≤A.units+1:=by simp [Around.in1]
 show A.in1.units+40<cLine
 omega
mutual
theorem uX (ok:HOk P w H h):∀ {v:V} {u:Value} {d:PyData},KAt H v d→aX v u→RdT h u d
 | _,_,_,.int i,r=>by obtain ⟨t,rfl⟩:=r; exact .int i t
 | _,_,_,.str x,r=>by obtain ⟨t,rfl⟩:=r; exact .str x t
 | _,_,_,.tup e q,r=>by
  cases r
  obtain ⟨_,its,r,⟨o,h1,h2,n,h3⟩,_⟩:=(show bm P w H h _ (.tup _) from ok _ _ e)
  exact .tup h1 h2 h3 (by simpa using mI ok q r)
theorem mI (ok:HOk P w H h):∀ {v:List V} {u:List Value} {d:List PyData},bP H v d→aR v u→cF h u d
 | _,_,_,.nil,r=>by cases r; exact .nil
 | _,_,_,.cons k q,r=>by
  cases r with
  | cons r1 r2=>exact .cons (uX ok k r1) (mI ok q r2)
end
theorem mx {d:PyData} (ok:HOk P w H h) (e:NAt H a d):(dm P w).is h d a:=⟨uX ok e.k rfl,e.p,e.d8⟩
theorem lU {kvs:List (PyData×V)} (ok:HOk P w H h) (e:Rd H a (.dT kvs)):kvs.length≤sizeLine∧(a==sysModules)=false ∧
  ∃ xs,KT H kvs xs∧h.DictOfH (dm P w) a xs:=by
 obtain ⟨z,y,xs,r,o,es,ep,h1,h2,h3,h4,h5⟩:=(show bm P w H h a (.dT kvs) from yb ok e)
 refine ⟨z,y,xs,r,o,es,ep,h1,h2,h3,h4,fun x hx=>?_,h5⟩
 have all:∀ {l:List (PyData×V)} {m:List (PyData×Addr×Value)},KT H l m→∀ x∈m,(dm P w).is h x.1 x.2.1:=by
  intro l m q
  induction q with
  | nil=>intro x hx; exact nomatch hx
  | @cons p q ps qs hq t ih =>
   intro x hx
   rcases List.mem_cons.mp hx with e | hx
   ·subst e
    exact mx ok (by rw [← hq.1]; exact hq.2.1)
   ·exact ih x hx
 exact all r x hx
theorem Am {kvs:List (PyData×V)} (ok:HOk P w H h) (e:H a=some (.dT kvs)):kvs.length≤sizeLine∧(a==sysModules)=false ∧
  ∃ xs,KT H kvs xs∧h.DictOfH (dm P w) a xs:=lU ok (.inl e)
end
def jf (H:Hp) (a:Addr) (y:V) (r:Option V):Prop :=
 (∃ kvs k,Rd H a (.dK kvs)∧y=kV k∧r=cj kvs k)∨∃ kvs k b,Rd H a (.dT kvs)∧y=.ref b∧NAt H b k∧r=cj kvs k
def nE (H:Hp) (a:Addr) (y v:V) (H':Hp):Prop :=
 (∃ kvs k,H a=some (.dK kvs)∧y=kV k∧kvs.length<sizeLine∧H'=upd H a (.dK (gN kvs k v))) ∨
 ∃ kvs k b,H a=some (.dT kvs)∧y=.ref b∧NAt H b k∧kvs.length<sizeLine∧H'=upd H a (.dT (gN kvs k v))
theorem jf.t {H:Hp} {a b:Addr} {kvs:List (PyData×V)} {k:PyData} (e:H a=some (.dT kvs)) (eb:NAt H b k):jf H a (.ref b) (cj kvs k):=.inr ⟨kvs,k,b,.inl e,rfl,eb,rfl⟩
theorem nE.t {H:Hp} {a b:Addr} {kvs:List (PyData×V)} {k:PyData} {v:V} (e:H a=some (.dT kvs)) (eb:NAt H b k) (hl:kvs.length<sizeLine) :
  nE H a (.ref b) v (upd H a (.dT (gN kvs k v))):=.inr ⟨kvs,k,b,e,rfl,eb,hl,rfl⟩
section
variable {X:Cx} {pins:List (Addr×Obj)} {σ:St} {H:Hp} {s:Shared} {a:Addr} {y v:V} {u r:Value} {o:Option V} {A:Around} {E:Value→Shared→Prop}
theorem Inv.big (I:Inv X pins σ H s):sysModules<s.heap.objs.size:=by
 have h:mainGlobals<s.heap.objs.size:=(I.mod.glob.keeps I.bk).lt
 exact Nat.lt_trans (by decide) h
theorem sv {Q:Value→Shared→Prop} (hu:A.units+60<cLine) (I:Inv X pins σ H s) (g:jf H a y (some v)) (ry:aX y u) (h:∀ w' s',Inv X pins σ H s'→aX v w'→Q w' s') :
  wpAny (model X.prog X.w) A (getItem (.ref a) u) Q E s:=by
 rcases g with ⟨kvs,k,e,ey,l⟩ | ⟨kvs,k,b,e,ey,eb,l⟩
 ·subst ey
  obtain ⟨z,hd,vs,rel,dd⟩:=ox I.hok e
  obtain ⟨w',hw,rw'⟩:=il.some_of (v:=v) (o:=valueAt vs k) (by rw [l]; exact rel.val k)
  exact wpAny_getItem_of (uU ry) dd.mapOf hw (h w' _ (I.tok _) rw')
 ·subst ey
  cases (show u=Value.ref b from ry)
  obtain ⟨z,hd,xs,rel,dd⟩:=lU I.hok e
  obtain ⟨w',hw,rw'⟩:=il.some_of (v:=v) (o:=(atKey xs k).map (·.2)) (by rw [l]; exact rel.val k)
  obtain ⟨p,hp,hp2⟩:=Option.map_eq_some_iff.mp hw
  refine wpAny_getItem_heap (ix hu) (mx I.hok eb) dd hp ?_
  rw [hp2]
  exact h w' _ (I.tok _) rw'
theorem rM {h':Heap} {t':Nat} {ob:HO} (I:Inv X pins σ H s) (mu:Mut (H a)) (hs:Heap.SameBut a s.heap h') (he:∃ q,h'.get? a=some q) (new:bm X.prog X.w (upd H a ob) h' a ob) :
  Inv X pins σ (upd H a ob) { s with heap:=h',toks:=t' } :=
 I.write (x:=a) (e:=a) mu (.inl rfl) (fun b q hb z=>(hs.2 b hb).trans z) he new
theorem yV {P:Program} {w:World} {H':Hp} {h':Heap} {kvs:List (Key×V)} {vs:List (Key×Value)} (z:kvs.length≤sizeLine) (hd:(a==sysModules)=false) (rel:KV kvs vs) (dd:h'.DictOf (bQ P w) a vs) :
  bm P w H' h' a (.dK kvs):=⟨z,hd,vs,rel,dd⟩
theorem sO {H':Hp} {Q:Unit→Shared→Prop} (hu:A.units+60<cLine) (I:Inv X pins σ H s) (g:nE H a y v H') (ry:aX y u) (rv:aX v r) (h:∀ s',Inv X pins σ H' s'→Q () s') :
  wpAny (model X.prog X.w) A (setItem (.ref a) u r) Q E s:=by
 rcases g with ⟨kvs,k,e,ey,l,eH⟩ | ⟨kvs,k,b,e,ey,eb,l,eH⟩
 ·subst ey eH
  obtain ⟨z,hd,vs,rel,dd⟩:=Aa I.hok e
  have hz:vs.length≤sizeLine:=by rw [← rel.length]; exact z
  have hl:(gN kvs k v).length≤sizeLine:=by have:=iJ kvs k v; omega
  refine wpAny_setItem_pairs (hsz:=hz) (uU ry) dd fun h' dd' hs=>h _ ?_
  have he:∃ q,h'.get? a=some q:=let ⟨q,_,_,hq,_⟩:=dd'; ⟨q,hq⟩
  exact rM I (by rw [e]; exact True.intro) hs he (yV hl hd (rel.put k rv) dd')
 ·subst ey eH
  cases (show u=Value.ref b from ry)
  obtain ⟨z,hd,xs,rel,dd⟩:=Am I.hok e
  have hz:xs.length≤sizeLine:=by rw [← Paired.length rel]; exact z
  have hl:(gN kvs k v).length≤sizeLine:=by have:=iJ kvs k v; omega
  refine wpAny_setItem_heap (hsz:=hz) (ix hu) (mx I.hok eb) dd fun h' dd' hs=>h _ ?_
  obtain ⟨q,es,ep,hq,h2,h3,h4,_,h5⟩:=dd'
  refine rM I (by rw [e]; exact True.intro) hs ⟨q,hq⟩ ⟨hl,hd,_,(rel.put k eb rv).keeps fun c ys ec=>?_,q,es,ep,hq,h2,h3,h4,h5⟩
  rw [aW (gq ec e (fun z=>nomatch z))]
  exact ec
end
section
variable {X:Cx} {pins:List (Addr×Obj)} {σ:St} {H:Hp} {s:Shared} {a:Addr} {kvs:List (Key×V)} {k:Key} {u:Value} {A:Around} {E:Value→Shared→Prop}
end
def zX (i:Expr):Prop:=∀ ov iv,subscripted i false ov iv=operate [ov,iv] (getItem ov iv)
theorem wI {prog:Program} {w:World} {A:Around} {E:Value→Shared→Prop} {s:Shared} {env:Env} {value slice:Expr} {pos:Pos} {T id:String} {Q:Value→Shared→Prop}
  (hl:typeLookup (.type T) "__getitem__"=pure (some (.builtin id))) (hs:zX slice)
  (h:wpAny (model prog w) A (eval value env) (fun o s₁=>wpAny (model prog w) A (eval slice env) (fun i s₂=>s₂.TypeIs o T∧wpAny (model prog w) A (getItem o i) Q E s₂) E s₁) E s) :
  wpAny (model prog w) A (eval (.Subscript value slice pos) env) Q E s:=by
 refine Subscript_ (wpAny_mono h (fun o s₁ h₁=>wpAny_mono h₁ (fun i s₂ h₂=>?_) fun _ _ x=>x) fun _ _ x=>x)
 obtain ⟨hT,h₂⟩:=h₂
 unfold subscriptTail
 refine wpAny_bind ?_
 rw [getitemInPython_of_ne hT.not_modules]
 refine wpAny_bind (wpAny_specialOf hT hl ?_)
 have fin:wpAny (model prog w) A (subscripted slice false o i) (fun r s₃=>wpAny (model prog w) A (letTemporaryGo value o r >>= fun _=>pure r) Q E s₃) E s₂:=by
  rw [hs o i]
  exact wpAny_operating (wpAny_mono h₂ (fun r s₃ h₃=>wpAny_bind (wpAny_letTemporaryGo (wpAny_pure h₃))) fun _ _ x=>x)
 first
  | exact wpAny_pure (wpAny_bind fin)
  | exact wpAny_bind (wpAny_pure (wpAny_bind fin))
  | exact wpAny_bind fin
theorem nr {X:Cx} {pins:List (Addr×Obj)} {σ:St} {H:Hp} {s:Shared} {a:Addr} {y:V} {o:Option V} (I:Inv X pins σ H s) (g:jf H a y o):s.TypeIs (.ref a) "dict":=by
 rcases g with ⟨kvs,k,e,_,_⟩ | ⟨kvs,k,b,e,_,_,_⟩
 ·obtain ⟨_,_,vs,_,dd⟩:=ox I.hok e
  exact dd.typeIs
 ·obtain ⟨_,_,xs,_,dd⟩:=lU I.hok e
  exact dd.typeIs
def AD (td ty:TE):TE:=fun σ H Q=>td σ H fun x H1=>ty σ H1 fun y H2=>∃ a v,x=.ref a∧jf H2 a y (some v)∧Q v H2
def Ax (td ty tv:TE):TS:=fun D σ H=>tv σ H fun v H1=>td σ H1 fun x H2=>ty σ H2 fun y H3=>∃ a H4,x=.ref a∧nE H3 a y v H4∧D.nx σ H4
section
variable {X:Cx} {o i e value:Expr} {pos pos' tpos:Pos} {td ty tv:TE}
theorem mO (hu:X.A.units+60<cLine) (ho:PE X o td) (hi:PE X i ty) (hs:zX i):PE X (.Subscript o i pos) (AD td ty):=by
 intro pins s σ H Q I h
 refine wI PySem.F.slot_dict_getitem.lookup hs (thn (ho pins s σ H _ I h) fun u s1 ⟨x,H1,I1,rx,q1⟩=>thn (hi pins s1 σ H1 _ I1 q1) fun iv s2 ⟨y,H2,I2,ry,a,v,ex,g,q2⟩=>?_)
 subst ex
 obtain rfl:u=Value.ref a:=rx
 exact ⟨nr I2 g,sv hu I2 g ry fun w' s3 I3 rw'=>⟨v,H2,I3,rw',q2⟩⟩
theorem rz (hu:X.A.units+60<cLine) (ho:PE X o td) (hi:PE X i ty) (hv:PE X value tv) (hs:swapsWith value (some (.Subscript o i pos')) pos.line X.env=pure false) :
  PS X (.Assign [.Subscript o i pos'] value pos) (Ax td ty tv):=by
 intro pins s σ H D I h
 refine wpAny_Assign_Subscript (thn (hv pins s σ H _ I h) fun r s1 ⟨v,H1,I1,rv,q1⟩=>thn (ho pins s1 σ H1 _ I1 q1) fun u s2 ⟨x,H2,I2,rx,q2⟩=>thn (hi pins s2 σ H2 _ I2 q2) fun iv s3 ⟨y,H3,I3,ry,a,H4,ex,g,q3⟩=>?_) hs
 subst ex
 obtain rfl:u=Value.ref a:=rx
 exact sO hu I3 g ry rv fun s4 I4=>⟨σ,H4,I4,q3⟩
end
theorem vk {P:Program} {w:World} {H:Hp} (h:Heap) (hb:sysModules<h.objs.size):bm P w H (h.push { cls:=.type "dict",data:=.dict #[] }) h.objs.size (.dT []) :=
 ⟨Nat.zero_le _,beq_eq_false_iff_ne.mpr (Ne.symm (Nat.ne_of_lt hb)),[],.nil,_,#[],0,Heap.get?_push_size _ rfl,⟨rfl,rfl,rfl⟩,rfl,rfl,List.nodup_nil⟩
def yG:TE:=fun _ H Q=>∀ p,H p=none→Q (.ref p) (upd H p (.dT []))
section
variable {X:Cx} {pos:Pos}
theorem nI:PE X (.Dict [] [] pos) yG:=fun pins s σ H Q I h =>
 wpAny_Dict_empty ⟨.ref s.heap.objs.size,_,I.laid (a:=s.heap.objs.size) (o:=.dT []) (t':=s.toks) (fun _ _ q=>Heap.get?_push_of_some _ q) (Nat.le_refl _) (vk s.heap I.big),rfl,h _ (I.hok.fresh (Nat.le_refl _))⟩
end
structure M1 (X:Cx) (o:Expr) (m:Str) (apos:Pos) (e:Expr) (cpos:Pos):Prop where
 base:attributeBase o m X.env (eval o X.env)=eval o X.env
 few:((backTo cpos (starEach [e] X.env)).all (fun x=>!x.1)&&(backToKw cpos (keywordEach [] X.env)).all (fun x=>x.1.isSome)
 &&decide (([e]:List Expr).length+([]:List Keyword).length+(if ([]:List Keyword).isEmpty then 0 else 1)<30))=true
 line:(apos.endLine==cpos.line)=true
 trees:backTo cpos (starEach [e] X.env)=[(false,eval e X.env)]
def IsD (H:Hp) (a:Addr):Prop:=(∃ kvs,Rd H a (.dK kvs))∨∃ kvs,Rd H a (.dT kvs)
theorem zx {X:Cx} {pins:List (Addr×Obj)} {σ:St} {H:Hp} {s:Shared} {a:Addr} (I:Inv X pins σ H s) (d:IsD H a) :
  s.TypeIs (.ref a) "dict"∧(∀ b,Value.ref a=.ref b→∃ ob,s.heap.get? b=some ob∧ob.dict=none)∧(a==sysModules)=false:=by
 rcases d with ⟨kvs,e⟩ | ⟨kvs,e⟩
 ·obtain ⟨_,hd,vs,_,dd⟩:=ox I.hok e
  refine ⟨dd.typeIs,fun b q=>?_,hd⟩
  cases q
  obtain ⟨ob,_,_,h1,h2,_⟩:=dd
  exact ⟨ob,h1,h2.2.1⟩
 ·obtain ⟨_,hd,xs,_,dd⟩:=lU I.hok e
  refine ⟨dd.typeIs,fun b q=>?_,hd⟩
  cases q
  obtain ⟨ob,_,_,h1,h2,_⟩:=dd
  exact ⟨ob,h1,h2.2.1⟩
section
variable {X:Cx} {pins:List (Addr×Obj)} {σ:St} {H:Hp} {s:Shared} {a:Addr} {y d:V} {u r:Value} {o:Option V} {A:Around} {E:Value→Shared→Prop}
theorem yK {Q:Value→Shared→Prop} (hu:A.units+60<cLine) (I:Inv X pins σ H s) (g:jf H a y o) (ry:aX y u) (h:∀ w' s',Inv X pins σ H s'→aX (o.getD .non) w'→Q w' s') :
  wpAny (model X.prog X.w) A (call (.builtin "dict.get") [.ref a,u]) Q E s:=by
 rcases g with ⟨kvs,k,e,ey,l⟩ | ⟨kvs,k,b,e,ey,eb,l⟩
 ·subst ey
  obtain ⟨z,hd,vs,rel,dd⟩:=ox I.hok e
  refine call_meetsIn PySem.F.slot_dict_get dd.typeIs PySem.F.entry_dict_get (PySem.F.args_dict_get_2 _ _) (meets_dict_get (bQ X.prog X.w) a (uU ry) hd) ⟨_,dd.mapOf,h _ _ (I.tok _) ?_⟩
  rw [l]
  exact (rel.val k).getD rfl
 ·subst ey
  cases (show u=Value.ref b from ry)
  obtain ⟨z,hd,xs,rel,dd⟩:=lU I.hok e
  refine call_meetsIn PySem.F.slot_dict_get dd.typeIs PySem.F.entry_dict_get (PySem.F.args_dict_get_2 _ _) (meetsH_dict_get (dm X.prog X.w) a b hd) ⟨ix hu,k,xs,mx I.hok eb,dd,h _ _ (I.tok _) ?_⟩
  rw [l]
  exact (rel.val k).getD rfl
end
def yW (td ty:TE):TE:=fun σ H Q=>td σ H fun x H1=>∃ a,x=.ref a∧IsD H1 a∧ty σ H1 fun y H2=>∃ o,jf H2 a y o∧Q (o.getD .non) H2
section
variable {X:Cx} {o e f:Expr} {apos cpos:Pos} {td ty tx:TE}
theorem nL (hu:X.A.units+60<cLine) (ho:PE X o td) (he:PE X e ty) (m:M1 X o "get" apos e cpos):PE X (.Call (.Attribute o "get" apos) [e] [] cpos) (yW td ty):=by
 intro pins s σ H Q I h
 refine wpAny_Call_method m.base m.few m.line PySem.F.plainAttrs_dict PySem.F.slot_dict_get PySem.F.type_dict_get (thn (ho pins s σ H _ I h) fun u s1 ⟨x,H1,I1,rx,a,ex,d,q1⟩=>?_)
 subst ex
 obtain rfl:u=Value.ref a:=rx
 obtain ⟨t1,t2,_⟩:=zx I1 d
 refine ⟨t1,t2,?_⟩
 rw [m.trees]
 refine Calls.callWith_builtin rfl (Calls.evalArgs_plain (Calls.spliced_cons (thn (he pins s1 σ H1 _ I1 q1) fun iv s2 ⟨y,H2,I2,ry,ov,g,q2⟩=>Calls.spliced_nil ?_)))
 exact yK hu I2 g ry fun w' s3 I3 rw'=>⟨_,H2,I3,rw',q2⟩
end
section
variable {X:Cx} {pins:List (Addr×Obj)} {σ:St} {H:Hp} {s:Shared} {a:Addr} {kvs:List (Key×V)} {A:Around} {E:Value→Shared→Prop}
end
section
variable {X:Cx} {pins:List (Addr×Obj)} {σ:St} {H:Hp} {s:Shared} {a:Addr} {y:V} {u:Value} {A:Around} {E:Value→Shared→Prop}
end
section
variable {X:Cx}
end
section
variable {κ:Type} [DecidableEq κ]
end
open PySem PySem.Spec PyProof.Rows
section
variable {m:Nat} {g:TG} {tt:TT} {te:TE} {σ':St} {Z:List V→Hp→Prop} {H1:Hp} {K:Frag}
theorem bn {a:Addr} {xs:List V} (n:Nat) (hz:n=xs.length) (hn:n≤1000) (Pv:Nat→List V→Hp→Prop) (h0:Pv 0 [] H1) (hq:∀ i acc H,Pv i acc H→SqL K H a xs)
  (hs:∀ i acc H x,i<n→acc.length≤i→xs[i]?=some x→Pv i acc H→g x σ' H fun σ2 H2=>(σ2.drop m=σ'.drop m∧σ2.length=σ'.length)∧tt σ2 H2 fun b H3=>if b=true then te σ2 H3 fun v H4=>NxT n Pv i acc v H4 else NxF n Pv i acc H3)
  (hd:∀ acc H,Pv n acc H→acc.length≤n→Z acc H):iR (Itl K a) m g tt te σ' Z H1 :=
 gR n hn Pv h0 (fun i acc H hi la p=>by
  have hx:xs[i]?=some (xs[i]'(by omega)):=List.getElem?_eq_getElem (by omega)
  exact ⟨⟨xs,_,hq i acc H p,hx⟩,fun x H' y=>by obtain ⟨e,y⟩:=y; subst e; exact hs i acc _ x hi la (y xs (hq i acc _ p)) p⟩) fun acc H p la=>⟨⟨xs,hq n acc H p,by omega⟩,hd acc H p la⟩
end
section
variable {X:Cx}
end
theorem df {t u:L2.TS} {D:kH} {σ:St} {H:Hp} (J:St→Hp→Prop) (h1:∀ NX:St→Hp→Prop,(∀ σ H,J σ H→NX σ H)→t { D with nx:=NX } σ H) (h2:∀ σ H,J σ H→u D σ H):xq t u D σ H:=h1 _ h2
open PySem PySem.Spec PyProof.Rows
section
variable {X:Cx}
end
end L2
namespace PySem
namespace F
end F
section
variable {prog:Program} {w:World} {A:Around} {E:Value→Shared→Prop} {s:Shared}
end
end PySem
namespace PySem
namespace F
end F
section
variable {prog:Program} {w:World} {A:Around} {E:Value→Shared→Prop} {s:Shared}
end
section
variable {prog:Program} {w:World} {A:Around} {s:Shared} {R:Result→Shared→Prop}
variable {I:Addr} {fp wr:List Addr} {n:Nat} {P:Nat→Value→Prop} {St:Nat→Heap→Prop}
end
section
variable {prog:Program} {w:World} {A:Around} {E:Value→Shared→Prop} {s:Shared}
variable {I:Addr} {fp wr:List Addr} {n:Nat} {P:Nat→Value→Prop} {St:Nat→Heap→Prop}
end
end PySem
namespace L2
open PySem PySem.Spec PyProof.Rows
section
variable {X:Cx}
end
open PySem PySem.Spec PyProof.Rows
section
variable {X:Cx} {tg:Expr}
end
end L2
namespace PySem
open AutoSeq1 (wpAny_loadPart')
end PySem
namespace L2
open PySem PySem.Spec PyProof.Rows
section
variable {X:Cx}
end
open PySem PySem.Spec PyProof.Rows
section
variable {X:Cx} {tg:Expr}
end
section
variable {m:Nat} {g:TG} {tt:TT} {te:TE} {σ':St} {Z:List V→Hp→Prop} {H1:Hp} {K:Frag}
end
open PySem PySem.W PySem.Calls PySem.Spec PyProof.Rows
section
variable {prog:Program} {w:World}
theorem rK:∀ (l m:List PyData) {A:Around} {s:Shared} {us vs:List Value} {fin:Bool} {i:Nat} {Q:Bool→Shared→Prop},cF s.heap us l→cF s.heap vs m→pks l=true→pks m=true→jw l m→A.units+PyData.depthAll l+2<cLine →
  (∀ b,dif l m=some b→Q b s)→(dif l m=none→Q fin s)→KatLex prog w A false fin Q (us.zip vs) i s
 | [],m,A,s,us,vs,fin,i,Q,r1,r2,p1,p2,c,hu,h1,h2=>by
  cases r1
  rw [List.zip_nil_left]
  exact kat_nil (h2 (by simp [dif]))
 | a::l,[],A,s,us,vs,fin,i,Q,r1,r2,p1,p2,c,hu,h1,h2=>by
  cases r2
  rw [List.zip_nil_right]
  exact kat_nil (h2 (by simp [dif]))
 | a::l,b::m,A,s,us,vs,fin,i,Q,r1,r2,p1,p2,c,hu,h1,h2=>by
  cases r1 with
  | @cons u us _ _ q1 r1 =>
   cases r2 with
   | @cons v vs _ _ q2 r2 =>
    simp only [pks,Bool.and_eq_true] at p1 p2
    simp only [PyData.depthAll] at hu
    rw [List.zip_cons_cons]
    obtain ⟨as,ra⟩:=q1.reads
    obtain ⟨bs,rb⟩:=q2.reads
    refine kat_cons (SeqAt.eqAt_reads a b A s _ _ as bs ra rb (gw p1.1) (gw p2.1) (by omega) prog w _ _ ?_)
    rw [ql p1.1 p2.1]
    by_cases hab:a=b
    ·have hd:dif (a::l) (b::m)=dif l m:=by simp only [dif]; rw [if_pos hab]
     rw [decide_eq_true hab]
     rw [hd] at h1 h2
     refine kat_yes (rK l m r1 r2 p1.2 p2.2 ?_ (by omega) h1 h2)
     cases c with
     | eq c=>exact c
     | ne n _=>exact absurd hab n
    ·have hd:dif (a::l) (b::m)=some (dlt a b):=by simp only [dif]; rw [if_neg hab]
     rw [decide_eq_false hab]
     refine kat_no ?_
     rw [Bool.false_and]
     refine kat_one _ _ (yd a b q1 q2 p1.1 p2.1 ?_ (by omega) (h1 _ hd))
     cases c with
     | eq c=>exact absurd rfl hab
     | ne _ c=>exact c
theorem vG {l m:List PyData} {A:Around} {E:Value→Shared→Prop} {s:Shared} {u v:Value} {Q:Bool→Shared→Prop} (r1:RdT s.heap u (.tuple l)) (r2:RdT s.heap v (.tuple m)) (p1:pk (.tuple l)=true) (p2:pk (.tuple m)=true) (c:Cok (.tuple l) (.tuple m)) (hu:A.units+(PyData.tuple l).depth+2<cLine)
  (h:Q (dlt (.tuple l) (.tuple m)) s):wpAny (model prog w) A (keyLt' (tuples' false) u v) Q E s:=by
 cases r1 with
 | @tup a oa xs na _ hoa _ hda hia =>
  cases r2 with
  | @tup b ob ys nb _ hob _ hdb hib =>
   refine kat_lt hoa hda hob hdb ?_
   have hc:jw l m:=by cases c; assumption
   simp only [dlt,jB] at h
   simp only [PyData.depth] at hu
   have e1:=ga hia
   have e2:=ga hib
   refine rK l m hia hib (by simpa only [pk] using p1) (by simpa only [pk] using p2) hc (by omega) (fun z hz=>?_) (fun hz=>?_)
   ·rw [hz] at h
    exact h
   ·rw [hz] at h
    rw [← Array.length_toList,← Array.length_toList,e1,e2]
    exact h
end
theorem nh {h:Heap}:∀ {us:List Value} {ds:List PyData},cF h us ds→∀ (i:Nat),i<ds.length→RdT h (us.getD i Value.none) (ds.getD i .none)
 | _,_,.nil,i,hi=>by simp at hi
 | _,_,.cons q r,0,hi=>q
 | _,_,.cons q r,i+1,hi=>by
  simp only [List.length_cons] at hi
  simpa using nh r i (by omega)
section
variable {X:Cx}
end
open PySem PySem.W PySem.Spec PyProof.Rows
section
variable {prog:Program} {w:World} {A:Around} {E:Value→Shared→Prop} {s:Shared} {R:Result→Shared→Prop}
theorem iA (a:Value) {Q₁:Value→Shared→Prop}
  (h:Q₁ (.ref s.heap.objs.size) { s with heap:=s.heap.push (km (cI w)) }) :
  codeAny (model prog w) A (.call (.builtin "set.__new__") ⟨[.type "set",a],[]⟩) (wants Q₁ E) s:=by
 refine codeAny_of_tree ?_
 show wpAny _ A.in1 (do checkBuiltinCall "set.__new__" ⟨[.type "set",a],[]⟩; again (.builtin "set.__new__" ⟨[.type "set",a],[]⟩)) _ _ s
 refine wpAny_bind (wpAny_of_eq (PySem.F.newCall_set_1 a) (wpAny_pure ⟨plainId_quiet PySem.F.plain_set_new _,codeAny_builtin PySem.F.entry_set_new ?_⟩))
 rw [Around.under_plainId PySem.F.plain_set_new _]
 unfold Builtin.«set.__new__» Builtin.Frozenset.newClass
 have hsub:=sub_set_self
 obtain ⟨hp,g,d,tk,os⟩:=s
 dsimp only
 wp_walk
 refine wpAny_askSetting (wpAny_pure ?_)
 dsimp only
 simp only [newObj]
 refine wpAny_bind (wpAny_alloc (wpAny_pure ?_))
 exact wpAny_pure h
variable {I S:Addr} {fp wr:List Addr} {G:Array GenState→Array GenState→Prop} {n:Nat} {P:Nat→Value→Prop} {St:Nat→Shared→Prop}
theorem hZ (W:WalksS prog w A.in1 I fp wr G n P St) (hst:St n s) (hR:∀ s',Moved wr G s s'→R (.ok (.ret .none)) s'):codeAny (model prog w) A (.builtin "set.update.loop" ⟨[.ref S,.ref I],[]⟩) R s:=by
 refine codeAny_builtin PyProof.Rows.F.entry_set_update_loop ?_
 rw [Around.under_plainId PyProof.Rows.F.plain_set_update_loop]
 show wpAny _ A.in1 (pyNext (.ref I) >>= _) _ _ _
 exact wpAny_bind (W.done s _ _ hst fun s' hm=>wpAny_pure (hR s' hm))
theorem mt (W:WalksS prog w A.in1 I fp wr G 1 P St) (hSf:S∉fp) (hst:St 0 s) (hS:s.heap.get? S=some (km (cI w))) (hval:∀ v s',P 0 v→Moved wr G s s'→∃ a z ds,v=.ref a∧RdT s'.heap (.ref a) (.tuple (.str z::ds))∧A.in1.units+(PyData.tuple (.str z::ds)).depth<cLine)
  (hR:∀ v s' hs j,P 0 v→Moved (S::wr) G s s'→gF w s'.heap S [(hs,v)] 1 [j]→R (.ok (.ret .none)) s'):codeAny (model prog w) A (.builtin "set.update.loop" ⟨[.ref S,.ref I],[]⟩) R s:=by
 have hSw:S∉wr:=fun h=>hSf (W.sub _ h)
 have up:∀ b∈wr,b∈S::wr:=fun b h=>List.mem_cons_of_mem _ h
 refine codeAny_builtin PyProof.Rows.F.entry_set_update_loop ?_
 rw [Around.under_plainId PyProof.Rows.F.plain_set_update_loop]
 show wpAny _ A.in1 (pyNext (.ref I) >>= _) _ _ _
 refine wpAny_bind (W.item 0 s _ _ (by omega) hst fun v s' hP hst' hm=>?_)
 obtain ⟨a,z,ds,rfl,hr,hu⟩:=hval v s' hP hm
 show wpAny _ A.in1 (holding [Value.ref a] (setAdd S (.ref a)) >>= _) _ _ s'
 refine wpAny_bind (wpAny_holding (mX (hm.heap S _ hSw hS) hr hu fun h' tk hs j htk hsb raw=>?_))
 refine wpAny_pure ⟨plainId_quiet PyProof.Rows.F.plain_set_update_loop _,hZ W (W.frame _ s' _ _ hst' htk fun b hb o e=>?_) fun s2 hm2=>?_⟩
 ·rw [hsb.2 b (fun h=>hSf (h ▸ hb))]
  exact e
 ·refine hR _ s2 hs j hP (Moved.trans W.gtrans ((hm.mono up).then_heap htk fun b o hb e=>?_) (hm2.mono up)) (raw.at fun o e=>hm2.heap S o hSw e)
  rw [hsb.2 b (fun h=>hb (by rw [h]; exact List.mem_cons_self))]
  exact e
theorem mE {l:Addr} {items:Array Value} {Q:Value→Shared→Prop} (hh:A.handled=none) (hl:s.heap.IsList l items) (hz:items.size≤1)
  (hv:∀ v,items[0]?=some v→∃ a z ds,v=.ref a∧RdT s.heap (.ref a) (.tuple (.str z::ds))∧A.units+(PyData.tuple (.str z::ds)).depth+8<cLine)
  (h:∀ (h':Heap) (tk:Nat) es ep js,gF w h' s.heap.objs.size es ep js→es.map (·.2)=items.toList→(∀ b o,b<s.heap.objs.size→s.heap.get? b=some o→h'.get? b=some o)→Q (.ref s.heap.objs.size) { s with heap:=h',toks:=tk }) :
  wpAny (model prog w) A (call (.type "set") [.ref l]) Q E s:=by
 obtain ⟨c,tl,hmro⟩:=PySem.F.called_set.mro; have hmade:=PySem.F.called_set.made; have hsub:=PySem.F.called_set.sub
 refine wpAny_call (codeAny_of_tree ?_); show wpAny _ _ (callAny (.type "set") _) _ _ _
 refine wpAny_pure ⟨Code.quiet_builtin _ (by decide +kernel),codeAny_builtin PySem.F.entry_type_call ?_⟩; rw [Around.under_plain (weight_type_call_type "set" [.ref l] []) rfl]
 have h1:=PySem.F.called_set.notType; have h2:=PySem.F.called_set.canCreate; have hct:=PySem.F.typeCall_set_1 (.ref l)
 repeat (any_goals (first | assumption | wp_step))
 refine codeAny_mono (iA (.ref l) (E:=E) (Q₁:=fun obj s₁=>obj=.ref s.heap.objs.size∧s₁={ s with heap:=s.heap.push (km (cI w)) }) ⟨rfl,rfl⟩) fun r s₁ hr=>?_
 match r,hr with
 | .error e,hr=>exact hr
 | .ok (.ret obj),hr =>
  obtain ⟨rfl,rfl⟩:=hr
  have hS:(s.heap.push (km (cI w))).get? s.heap.objs.size=some (km (cI w)):=Heap.get?_push_size _ rfl
  have hT:Shared.TypeIs { s with heap:=s.heap.push (km (cI w)) } (.ref s.heap.objs.size) "set":=⟨_,hS,rfl⟩
  have hli:=PySem.F.called_set.init.lookup; have hbi:=PySem.F.called_set.init.bind (.ref s.heap.objs.size)
  repeat (any_goals (first | assumption | wp_step))
  refine codeAny_mono (codeAny_call_builtin (R:=wants (fun r s₂=>r=.none∧∃ h' tk es ep js,s₂={ s with heap:=h',toks:=tk }∧gF w h' s.heap.objs.size es ep js∧es.map (·.2)=items.toList∧(∀ b o,b<s.heap.objs.size→s.heap.get? b=some o→h'.get? b=some o)) E) PySem.F.called_set.init.plain PySem.F.entry_set_init (check_set_init_1 hT ?_)) fun r₂ s₂ hr₂=>?_
  ·obtain ⟨⟨ocls,odict,odata,oslots⟩,hol,hcl,nl,hdl⟩:=hl
   simp only at hcl hdl; subst hcl; subst hdl
   have hol':(s.heap.push (km (cI w))).get? l=some { cls:=.type "list",dict:=odict,data:=.seq items nl,slots:=oslots }:=Heap.get?_push_of_some _ hol
   have hsls:=PySem.F.sub_list_set; have hslf:=PySem.F.sub_list_frozenset; have hne:(Value.type "list"==Value.type "dict")=false:=by decide
   have hl1:(s.heap.push (km (cI w))).IsList l items:=⟨_,hol',rfl,nl,rfl⟩
   unfold Builtin.«set.__init__» noKeywords Builtin.Frozenset.updateFrom; generalize hPI:pyIter=PI; wp_walk; subst hPI
   refine wpAny_pyIter_list hl1 (wpAny_bind (wpAny_runValue ?_))
   have hlS:l<s.heap.objs.size:=Heap.lt_size hol
   have hneI:l≠(s.heap.push (km (cI w))).objs.size:=by rw [Heap.size_push]; exact Nat.ne_of_lt (Nat.lt_succ_of_lt hlS)
   have hSf:s.heap.objs.size∉[(s.heap.push (km (cI w))).objs.size,l]:=by rw [Heap.size_push]; simp only [List.mem_cons,List.mem_singleton,List.not_mem_nil,or_false,not_or]; exact ⟨Nat.ne_of_lt (Nat.lt_succ_self _),Nat.ne_of_gt hlS⟩
   have W:=(Walks.list (prog:=prog) (w:=w) (A:=A.in1.in1.in1) (by simp [hh]) _ l hneI items).toS
   have kp:∀ {s':Shared} {wr:List Addr},(∀ b∈wr,s.heap.objs.size≤b)→∀ {s1:Shared},(∀ b o,s.heap.get? b=some o→s1.heap.get? b=some o)→Moved wr (fun a b=>b=a) s1 s'→∀ b o,b<s.heap.objs.size→s.heap.get? b=some o→s'.heap.get? b=some o:=fun hw s1 k hm b o hb e=>hm.heap b o (fun hmem=>absurd (hw b hmem) (Nat.not_le.mpr hb)) (k b o e)
   rcases Nat.lt_or_ge items.size 1 with h0 | h0
   ·have hi0:items=#[]:=Array.eq_empty_of_size_eq_zero (by omega)
    refine hZ W ⟨⟨_,Heap.get?_push_size _ rfl,rfl,by rw [hi0]; rfl⟩,hl1.push _⟩ ?_
    rintro ⟨h',g',d',tk',os'⟩ hm
    obtain rfl:g'=s.gens:=hm.gens
    obtain rfl:d'=s.drawn:=hm.drawn
    obtain rfl:os'=s.os:=hm.os
    show wpAny _ _ _ _ _ _
    refine wpAny_pure ?_; show wpAny _ _ (ret Value.none) _ _ _
    refine wpAny_pure ⟨rfl,h',tk',[],0,[],rfl,⟨⟨_,_,hm.heap _ _ (by rw [Heap.size_push]; simp only [List.mem_cons,List.not_mem_nil,or_false]; exact Nat.ne_of_lt (Nat.lt_succ_self _)) (Heap.get?_push_of_some _ hS),⟨rfl,rfl,rfl⟩,rfl,rfl,rfl,rfl,rfl⟩,by simp,rfl⟩,by rw [hi0]; rfl,fun b o hb e=>hm.heap b o ?_ (Heap.get?_push_of_some _ (Heap.get?_push_of_some _ e))⟩
    simp only [List.mem_cons,List.not_mem_nil,or_false]
    rw [Heap.size_push]; exact Nat.ne_of_lt (Nat.lt_succ_of_lt hb)
   ·have h1':items.size=1:=by omega
    rw [h1'] at W
    refine mt W hSf ⟨⟨_,Heap.get?_push_size _ rfl,rfl,rfl⟩,hl1.push _⟩ (Heap.get?_push_of_some _ hS) (fun v s' hP hm=>?_) ?_
    ·obtain ⟨a,z,ds,rfl,hr,hu⟩:=hv v hP
     refine ⟨a,z,ds,rfl,hr.keeps fun b o vs n e _=>hm.heap b o ?_ (Heap.get?_push_of_some _ (Heap.get?_push_of_some _ e)),?_⟩
     ·have hb:=Heap.lt_size e
      simp only [List.mem_cons,List.not_mem_nil,or_false]
      rw [Heap.size_push]; exact Nat.ne_of_lt (Nat.lt_succ_of_lt hb)
     ·have i1:=gG A
      have i2:=gG A.in1
      have i3:=gG A.in1.in1
      have i4:=gG A.in1.in1.in1
      omega
    ·rintro v ⟨h',g',d',tk',os'⟩ hs j hP hm raw
     obtain rfl:g'=s.gens:=hm.gens
     obtain rfl:d'=s.drawn:=hm.drawn
     obtain rfl:os'=s.os:=hm.os
     show wpAny _ _ _ _ _ _
     refine wpAny_pure ?_; show wpAny _ _ (ret Value.none) _ _ _
     refine wpAny_pure ⟨rfl,h',tk',_,_,_,rfl,raw,?_,fun b o hb e=>hm.heap b o ?_ (Heap.get?_push_of_some _ (Heap.get?_push_of_some _ e))⟩
     ·have e2:items=#[v]:=by
       obtain ⟨l'⟩:=items
       match l',h1',hP with
       | [u],_,hP =>
        have:u=v:=by simpa using hP
        rw [this]
      rw [e2]
      rfl
     ·simp only [List.mem_cons,List.not_mem_nil,or_false,not_or]
      exact ⟨Nat.ne_of_lt hb,by rw [Heap.size_push]; exact Nat.ne_of_lt (Nat.lt_succ_of_lt hb)⟩
  ·match r₂,hr₂ with
   | .error e,hr₂=>exact hr₂
   | .ok (.ret r),hr₂ =>
    obtain ⟨rfl,h',tk,es,ep,js,rfl,raw,em,hk'⟩:=hr₂
    repeat (any_goals (first | assumption | wp_step))
    exact h _ _ es ep js raw em hk'
end
open PySem PySem.W PySem.Calls PySem.Spec PyProof.Rows
theorem lH:∀ l:List PyData,jw l l
 | []=>.nil _
 | _::l=>.eq (lH l)
theorem sy:bootBuiltins "set"=some (.type "set"):=by decide +kernel
theorem my:bootBuiltins "sorted"=some (.builtin "sorted"):=by decide +kernel
theorem tP {us:List Value} {p:Array Nat} (hl:us.length≤1) (g:Gp us.length p):dQ us p=us:=by
 have h:p.toList.Perm (List.range us.length):=by simpa using Array.perm_iff_toList_perm.mp g
 unfold dQ
 match us,hl with
 | [],_ =>
  have:p.toList=[]:=by simpa using h
  rw [this]
  rfl
 | [u],_ =>
  have:p.toList=[0]:=by simpa using h
  rw [this]
  rfl
section
variable {X:Cx}
def wB (ds:List PyData):Prop:=∀ d∈ds,pk d=true∧d.depth≤20∧∃ z r,d=.tuple (.str z::r)
def wy (K:Frag) (te:TE):TE:=fun σ H Q=>te σ H fun x H1=>∃ l xs ds,x=.ref l∧SqL K H1 l xs∧bP H1 xs ds∧xs.length≤1∧wB ds∧∀ p,H1 p=none→Q (.ref p) (upd H1 p (.lst xs))
theorem pe {e:Expr} {te:TE} {p1 p2 p3 p4:Pos} (hc:X.calm=true) (hu:X.A.units+64<cLine) (hgl:Gl X "sorted") (hml:X.mg "sorted"=none) (hgs:Gl X "set") (hms:X.mg "set"=none) (he:PE X e te)
  (hs1:starEach [.Call (.Name "set" p2) [e] [] p3] X.env=(false,eval (.Call (.Name "set" p2) [e] [] p3) X.env)::starEach [] X.env:=by exact ac rfl) (hs2:starEach [e] X.env=(false,eval e X.env)::starEach [] X.env:=by exact ac rfl) :
  PE X (.Call (.Name "sorted" p1) [.Call (.Name "set" p2) [e] [] p3] [] p4) (wy X.K te):=by
 intro pins s σ H Q I h
 refine wpAny_Call_Name_kw (eY I hgl hml my ?_)
 refine PyProof.Rows.callWith_builtin1 ?_ hs1 (aj rfl)
 rw [hs1]
 show wpAny _ _ (spliced ((false,eval (.Call (.Name "set" p2) [e] [] p3) X.env)::[])) _ _ s
 refine Calls.spliced_cons ?_
 refine wpAny_Call_Name_kw (eY I hgs hms sy ?_)
 refine PyProof.Rows.callWith_type1 ?_ hs2 rfl
 rw [hs2]
 show wpAny _ _ (spliced ((false,eval e X.env)::[])) _ _ s
 refine Calls.spliced_cons (thn (he pins s σ H _ I h) fun u s1 ⟨x,H1,I1,r1,q1⟩=>?_)
 obtain ⟨l,xs,ds,rfl,hq,hk,hl,hb,q⟩:=q1
 cases r1
 refine Calls.spliced_nil ?_
 obtain ⟨its,ri,pl,hz⟩:=I1.list hq
 have rd:=mI I1.hok hk ri
 have lv:=aR.length ri
 have ln:=ga rd
 refine mE (I1.ok.hd hc) pl.isList (by rw [List.size_toArray]; omega) (fun v hv=>?_) fun h' tk es ep js raw em hk'=>?_
 ·match its,ds,rd,hv,hb with
  | u0::_,d::_,.cons r0 _,hv,hb =>
   obtain ⟨p0,d0,z,r,rfl⟩:=hb d List.mem_cons_self
   have e:u0=v:=by simpa using hv
   subst e
   cases r0 with
   | tup a1 a2 a3 a4=>exact ⟨_,z,r,rfl,.tup a1 a2 a3 a4,by omega⟩
 refine Calls.spliced_nil ?_
 have em':es.map (·.2)=its:=by rw [em]
 have les:es.length=its.length:=by rw [← em',List.length_map]
 have hkx:HX s1.heap h':=fun b o e=>hk' b o (Heap.lt_size e) e
 have i1:=gG X.A
 have i2:=gG X.A.in1
 refine qy (s:={ s1 with heap:=h',toks:=tk }) (U:=fun us=>us=its) (fun E' Qc hQ=>nk (xp es ep js) (I1.ok.hd hc) raw (by rw [sizeLine_eq]; omega) (fun h2 tk2 acc x big hacc=>hQ h2 tk2 acc.toList x big ?_)) (fun us hus=>?_)
 ·rw [← em']
  apply List.ext_getElem?
  intro i
  by_cases hi:i<es.length
  ·obtain ⟨e,he1,he2⟩:=hacc.2 i _ (Array.getElem?_eq_getElem (by rw [hacc.1]; exact hi))
   rw [Array.getElem?_toList,Array.getElem?_eq_getElem (by rw [hacc.1]; exact hi),List.getElem?_map,he1,he2]
   rfl
  ·rw [List.getElem?_eq_none (by rw [Array.length_toList,hacc.1]; omega),List.getElem?_eq_none (by rw [List.length_map]; omega)]
 subst hus
 refine ⟨by omega,tuples' false,fun i j=>dlt (ds.getD i .none) (ds.getD j .none),fun _=>True,fun h2=>by omega,fun h3 t i j C x hi hj hC=>?_,fun h2=>by omega,fun h3 t c D p gp _ x big e3=>?_⟩
 ·have hi':i=0:=by omega
  have hj':j=0:=by omega
  subst hi' hj'
  have h0:0<ds.length:=by omega
  have rd3:cF h3 us ds:=rd.keeps fun a o vs n e _=>x a o (hkx a o e)
  have r1:=nh rd3 0 h0
  have mi:ds.getD 0 .none∈ds:=by simp [h0]
  obtain ⟨p1,d1,z,r,e1⟩:=hb _ mi
  have hC':C (dlt (ds.getD 0 .none) (ds.getD 0 .none)) { s1 with heap:=h3,toks:=t }:=hC t
  rw [e1] at r1 p1 d1 hC'
  exact vG (s:={ s1 with heap:=h3,toks:=t }) r1 r1 p1 p1 (.tup (lH _)) (by omega) hC'
 ·have hbig:s1.heap.objs.size≤D:=Nat.le_trans (Nat.le_of_lt (by
   obtain ⟨⟨o,t,e,_⟩,_,_⟩:=raw
   exact Heap.lt_size e)) big
  refine ⟨.ref D,_,I1.laid (t':=t) (a:=D) (o:=.lst xs) (hkx.trans x) hbig ?_,rfl,q D (I1.hok.fresh hbig)⟩
  rw [tP (by omega) gp] at e3
  exact ⟨by rw [sizeLine_eq]; omega,_,c,ri,e3⟩
end
end L2
namespace K6
open PySem L2
def Tk (H H':Hp):Prop:=∀ b xs,H b=some (.tup xs)→H' b=some (.tup xs)
theorem Tk.trans {H H1 H2:Hp} (a:Tk H H1) (b:Tk H1 H2):Tk H H2:=fun c xs h=>b c xs (a c xs h)
theorem am {H H':Hp} (g:aA H H'):Tk H H':=fun b xs h=>g b _ h
theorem af {H:Hp} {p:Addr} (h:H p=none) (o:HO):aA H (upd H p o):=fun b u q=>by rw [aW (ar q h)]; exact q
theorem fg {H:Hp} {p:Addr} (h:H p=none) (o:HO):Tk H (upd H p o):=am (af h o)
theorem cy {H:Hp} {p:Addr} {xs:List V} (h:H p=some (.lst xs)) (o:HO):Tk H (upd H p o):=fun b ys e=>by rw [aW (gq e h (fun z=>by cases z))]; exact e
def Ext (tp:Addr) (H H':Hp):Prop:=∀ b o,b≠tp→H b=some o→H' b=some o
theorem Ext.refl (tp:Addr) (H:Hp):Ext tp H H:=fun _ _ _ h=>h
theorem Ext.trans {tp:Addr} {H H1 H2:Hp} (a:Ext tp H H1) (b:Ext tp H1 H2):Ext tp H H2:=fun c o n h=>b c o n (a c o n h)
theorem aA.ext {tp:Addr} {H H':Hp} (a:aA H H'):Ext tp H H':=fun c o _ h=>a c o h
theorem Ext.upd {tp:Addr} {H:Hp} {o:HO}:Ext tp H (L2.upd H tp o):=fun b u n h=>by rw [aW n]; exact h
theorem cg {H H':Hp} {t:Addr} {ys:List V} (g:Ext t H H') (h:H t=some (.lst ys)):Tk H H':=fun b xs e=>g b _ (gq e h (fun z=>by cases z)) e
theorem qO {H:Hp} {t p:Addr} (h:H p=none) (o:HO):Ext t H (upd H p o):=aA.ext (af h o)
def top (i:Nat):Stmt:=PySem.Challenge.pw_everyfork_k25_facts_of_a_room.main.body.getD i (.Pass ⟨0,0,0,0⟩)
abbrev fm:Stmt:=top 2
abbrev jr:Stmt:=top 3
abbrev dF:Stmt:=top 5
abbrev dL:Stmt:=top 7
abbrev gz:Stmt:=top 8
abbrev io:Stmt:=top 9
abbrev dw:Stmt:=top 10
abbrev dZ:Stmt:=top 11
abbrev jM:Stmt:=top 13
abbrev jV:Stmt:=top 14
abbrev cw:Stmt:=top 15
abbrev dW:Stmt:=top 16
abbrev fX:Stmt:=top 18
abbrev gS:Stmt:=top 21
abbrev kg:Stmt:=top 22
abbrev iu:Stmt:=top 23
abbrev er:Stmt:=top 24
abbrev gO:Stmt:=top 25
abbrev dD:Stmt:=top 26
abbrev dS:Stmt:=top 27
abbrev iD:Stmt:=top 28
abbrev gu:Stmt:=top 29
abbrev eB:Stmt:=top 30
abbrev dC:Stmt:=top 31
abbrev dA:Stmt:=top 32
abbrev fY:Stmt:=top 33
abbrev dP:Stmt:=top 34
abbrev ip:Stmt:=top 35
abbrev gZ:Stmt:=top 36
theorem dz:bootBuiltins "isinstance"=some (.builtin "isinstance"):=by decide +kernel
theorem oJ:bootBuiltins "int"=some (.type "int"):=by decide +kernel
theorem zy:bootBuiltins "bool"=some (.type "bool"):=by decide +kernel
theorem rE:bootBuiltins "str"=some (.type "str"):=by decide +kernel
theorem cb:bootBuiltins "tuple"=some (.type "tuple"):=by decide +kernel
theorem mH:bootBuiltins "list"=some (.type "list"):=by decide +kernel
theorem yB:bootBuiltins "dict"=some (.type "dict"):=by decide +kernel
theorem wC:bootBuiltins "ord"=some (.builtin "ord"):=by decide +kernel
theorem cp:bootBuiltins "len"=some (.builtin "len"):=by decide +kernel
def PL:List Str:=["num", "text", "row"]
structure G0 (mg:Str→Option Value):Prop where
 isi:mg "isinstance"=none
 int:mg "int"=none
 bool:mg "bool"=none
 str:mg "str"=none
 tuple:mg "tuple"=none
 list:mg "list"=none
 dict:mg "dict"=none
 all:mg "all"=none
 ord:mg "ord"=none
 len:mg "len"=none
 repr:mg "repr"=none
 range:mg "range"=none
structure Cal (P:Program) (w:World) (K:Frag) (mg:Str→Option Value) (base:Heap) (k:Nat) (x:Str) (ps:List Str) (sp:Sp):Prop where
 ex:∃ g gd,bI P w K mg base CX0 k g gd ps sp∧ib K gd ps []∧keepIn K (.ref g)=true∧mg x=some (.ref g)
theorem iL {H:Hp} {a b:Addr} {o u:HO} (h:b≠a) (e:H b=some u):upd H a o b=some u:=by rw [aW h]; exact e
theorem eqS {k x:Str} (c:decide (V.str k=V.str x)=true):k=x:=V.str.inj (of_decide_eq_true c)
theorem neS {k x:Str} (c:¬ decide (V.str k=V.str x)=true):¬ k=x:=fun e=>c (decide_eq_true (congrArg V.str e))
theorem du {α:Type} {xs:List α} {i:Int} (h0:0≤i) (h1:i<xs.length):∃ v,v∈xs∧xs[i.toNat]?=some v∧atI xs i=some v:=by
 have hi:i.toNat<xs.length:=by omega
 have e:xs[i.toNat]?=some xs[i.toNat]:=List.getElem?_eq_getElem hi
 refine ⟨_,List.getElem_mem hi,e,?_⟩
 have q:=qJ e
 rwa [show ((i.toNat:Nat):Int)=i by omega] at q
theorem zo:zI 10 18:=⟨by decide,by decide,by decide⟩
theorem yj {i j:Int} (h1:-(2 ^ 64)<j) (h2:j<2 ^ 64):wx i j:=.inr ⟨h1,h2⟩
theorem vT {i j:Int} (h1:-(2 ^ 64)<i) (h2:i<2 ^ 64):wx i j:=.inl ⟨h1,h2⟩
theorem im (a:Int) {b:Int} (h0:0<b) (h1:b<2 ^ 32):-(2 ^ 64)<a % b+1∧a % b+1<2 ^ 64:=by
 have:=Int.emod_nonneg a (show b≠0 by omega)
 have:=Int.emod_lt_of_pos a h0
 omega
def Fd (H:Hp) (fp sc:Addr) (m:Nat):Prop:=∃ ns a b c,H fp=some (.lst [.ref sc,.int a,.int b,.int c])∧H sc=some (.lst (List.map V.int ns))∧0<ns.length∧0≤c∧c≤(m:Int)
section
variable {P:Program} {w:World} {K:Frag} {mg:Str→Option Value} {base:Heap} {f g:Addr} {fd gd:FuncData}
abbrev uc:List Str:=["_law_feed_here", "_law_many_here", "_law_found", "_law_cell", "_law_turn", "_law_mixed"]
theorem cW:aU uc ["_law_feed_here", "_law_many_here"] (defScope jV):=⟨rfl,rfl,rfl,by decide +kernel,rfl,by decide +kernel,by decide +kernel⟩
def vO:Sp:=fun vs H Q _=>∃ fp many sc m,vs=[.ref fp,.int many]∧Fd H fp sc m∧m≤100000∧0<many∧many≤1000∧∀ (v:Int) (H':Hp),0≤v→v<many→Ext fp H H'→Fd H' fp sc (m+1)→Q (.int v) H'
theorem AI (T:G0 mg) (F:Fun K "_law_draw" "_law_draw" jV f fd):bI P w K mg base CX0 1 f fd ["_law_feed_here", "_law_many_here"] vO:=by
 refine F.ok cW (fun vs H Q E h=>?_) (fun cdv A outer s H vs Q E hr h=>?_)
 ·obtain ⟨fp,many,sc,m,rfl,_⟩:=h
  rfl
 obtain ⟨fp,many,sc,m,rfl,⟨ns,a,b,c,h1,h2,hn,hc0,hc1⟩,hm,hm0,hm1,q⟩:=h
 have hne:sc≠fp:=gq h2 h1 (fun z=>by injection z with z; cases ns<;>cases z)
 refine ⟨_,(@ak _ _ _ _ _ (@dc _ _ _ _ _ _ (@aN _ _ _ _ _ _ _ _ bx (@aq _ _ _ _ _ _ _ aM (pv 0) ag (fun _ _=>rfl)) ag) (cS (pv 0) ag bS) rfl rfl rfl) (@ak _ _ _ _ _ (@bf _ _ _ _ _ _ _ _ (@aC _ _ _ _ _ _ _ _ jJ (@aq _ _ _ _ _ _ _ aM (pv 0) ag (fun _ _=>rfl)) ag (aD _)) (@ak _ _ _ _ _ (@aB _ _ 2 _ _ _ _ cW.nd rfl (Or.inl rfl) (@aN _ _ _ _ _ _ _ _ dg (@aq _ _ _ _ _ _ _ aM (pv 0) ag (fun _ _=>rfl)) (pv 1)) (ap rfl) (.inr rfl)) (@ak _ _ _ _ _ (@dc _ _ _ _ _ _ (@aN _ _ _ _ _ _ _ _ mS (@aq _ _ _ _ _ _ _ aM (pv 0) ag (fun _ _=>rfl)) (pv 1)) (cS (pv 0) ag bS) rfl rfl rfl) (@ao _ _ _ (@aH _ _ _ _ (pv 2))))) aS) (@ak _ _ _ _ _ (@aB _ _ 3 _ _ _ _ cW.nd rfl (Or.inl rfl) (@aq _ _ _ _ _ _ _ aM (@aq _ _ _ _ _ _ _ aM (pv 0) ag (fun _ _=>rfl)) (@aN _ _ _ _ _ _ _ _ dg (@aq _ _ _ _ _ _ _ aM (pv 0) ag (fun _ _=>rfl)) (@ay _ _ _ _ _ _ _ _ _ aI rfl T.len cp (@ad _ _ _ _ _ (@aq _ _ _ _ _ _ _ aM (pv 0) ag (fun _ _=>rfl)) ah (ac rfl)) (by decide) (by decide) (ac rfl) (aj rfl))) (fun _ _=>rfl)) (ap rfl) (.inr rfl)) (@ak _ _ _ _ _ (@dc _ _ _ _ _ _ (@aN _ _ _ _ _ _ _ _ bx (@aq _ _ _ _ _ _ _ aM (pv 0) ag (fun _ _=>rfl)) ag) (cS (pv 0) ag bS) rfl rfl rfl) (@ak _ _ _ _ _ (@bf _ _ _ _ _ _ _ _ (@aC _ _ _ _ _ _ _ _ vo (pv 3) (@aN _ _ _ _ _ _ _ _ oT ag ag) (aD _)) (@ak _ _ _ _ _ (@dc _ _ _ _ _ _ (@aN _ _ _ _ _ _ _ _ mS (pv 3) (pv 1)) (cS (pv 0) ag bS) rfl rfl rfl) (@ao _ _ _ (@aH _ _ _ _ (@aN _ _ _ _ _ _ _ _ dg (pv 3) (pv 1))))) aS) (@ak _ _ _ _ _ (@aB _ _ 4 _ _ _ _ cW.nd rfl (Or.inl rfl) (@aN _ _ _ _ _ _ _ _ bx (@aN _ _ _ _ _ _ _ _ bx (@aN _ _ _ _ _ _ _ _ dJ (@aN _ _ _ _ _ _ _ _ dJ ag (@aq _ _ _ _ _ _ _ aM (pv 0) ag (fun _ _=>rfl))) (@aq _ _ _ _ _ _ _ aM (pv 0) ag (fun _ _=>rfl))) (@aN _ _ _ _ _ _ _ _ dJ ag (@aq _ _ _ _ _ _ _ aM (pv 0) ag (fun _ _=>rfl)))) ag) (ap rfl) (.inr rfl)) (@ak _ _ _ _ _ (@aB _ _ 5 _ _ _ _ cW.nd rfl (Or.inl rfl) (@aN _ _ _ _ _ _ _ _ dg (@aN _ _ _ _ _ _ _ _ dJ (@aN _ _ _ _ _ _ _ _ bx (@aN _ _ _ _ _ _ _ _ dg (pv 3) ag) ag) (pv 4)) ag) (ap rfl) (.inr rfl)) (@ak _ _ _ _ _ (@aB _ _ 5 _ _ _ _ cW.nd rfl (Or.inl rfl) (@aN _ _ _ _ _ _ _ _ bx (@aN _ _ _ _ _ _ _ _ dJ (pv 5) (@aN _ _ _ _ _ _ _ _ bx (@aN _ _ _ _ _ _ _ _ dg (pv 5) ag) ag)) (@aq _ _ _ _ _ _ _ aM (pv 0) ag (fun _ _=>rfl))) (ap rfl) (.inr rfl)) (@ao _ _ _ (@aH _ _ _ _ (@aN _ _ _ _ _ _ _ _ dg (@aN _ _ _ _ _ _ _ _ mS (@aN _ _ _ _ _ _ _ _ dg (pv 5) ag) ag) (pv 1)))))))))))),?_⟩
 have X1:Ext fp H (upd H fp (.lst [.ref sc,.int a,.int b,.int (c+1)])):=Ext.upd
 have e1:(upd H fp (.lst [.ref sc,.int a,.int b,.int (c+1)])) fp=some (.lst [.ref sc,.int a,.int b,.int (c+1)]):=ae
 have e2:(upd H fp (.lst [.ref sc,.int a,.int b,.int (c+1)])) sc=some (.lst (List.map V.int ns)):=X1 _ _ hne h2
 refine ⟨_,rfl,fp,_,_,_,rfl,rfl,SqL.of h1,rfl,_,_,rfl,rfl,_,rfl,fp,_,_,_,rfl,rfl,h1,rfl,?_⟩
 change xq _ _ _ _ (upd H fp (.lst [.ref sc,.int a,.int b,.int (c+1)]))
 generalize (upd H fp (.lst [.ref sc,.int a,.int b,.int (c+1)]))=H1 at X1 e1 e2
 have fin:∀ {a' b' v:Int} {H':Hp},H' fp=some (.lst [.ref sc,.int a',.int b',.int (c+1)])→Ext fp H H'→0≤v→v<many→Q (.int v) H':=fun {a' b' v H'} ha hb hc hd=>q v H' hc hd hb ⟨ns,a',b',c+1,ha,hb _ _ hne h2,hn,by omega,by omega⟩
 refine ⟨_,rfl,fp,_,_,_,rfl,rfl,SqL.of e1,rfl,_,_,rfl,rfl,_,rfl,?_⟩
 refine bh (fun cc=>?_) (fun cc=>?_)
 ·refine ⟨_,rfl,fp,_,_,_,rfl,rfl,SqL.of e1,rfl,_,rfl,_,_,rfl,rfl,hm0,?_⟩
  refine ⟨_,rfl,fp,_,_,_,rfl,rfl,SqL.of e1,rfl,_,rfl,_,_,rfl,rfl,⟨hm0,by omega⟩,_,rfl,fp,_,_,_,rfl,rfl,e1,rfl,_,rfl,?_⟩
  exact fin ae (X1.trans Ext.upd) (Int.emod_nonneg _ (by omega)) (Int.emod_lt_of_pos _ hm0)
 ·have hb:=Int.emod_lt_of_pos a (show (0:Int)<ns.length by omega)
  have ha:=Int.emod_nonneg a (show (ns.length:Int)≠0 by omega)
  obtain ⟨v,hv,_,hat⟩:=du (xs:=List.map V.int ns) (i:=a % ((List.map V.int ns).length:Nat)) (by rw [List.length_map]; exact ha) (by rw [List.length_map]; exact hb)
  obtain ⟨cell,_,rfl⟩:=List.mem_map.mp hv
  refine ⟨_,rfl,fp,_,_,_,rfl,rfl,SqL.of e1,rfl,_,rfl,fp,_,_,_,rfl,rfl,SqL.of e1,rfl,_,rfl,fp,_,_,_,rfl,rfl,SqL.of e1,rfl,sc,_,rfl,.inl (SqL.of e2),_,_,rfl,rfl,?_,?_⟩
  ·show (0:Int)<((List.map V.int ns).length:Nat)
   rw [List.length_map]; omega
  refine ⟨sc,_,_,_,rfl,rfl,SqL.of e2,hat,?_⟩
  refine ⟨_,rfl,fp,_,_,_,rfl,rfl,SqL.of e1,rfl,_,_,rfl,rfl,_,rfl,fp,_,_,_,rfl,rfl,e1,rfl,?_⟩
  have X3:Ext fp H (upd H1 fp (.lst [.ref sc,.int (a+1),.int b,.int (c+1)])):=X1.trans Ext.upd
  have e3:(upd H1 fp (.lst [.ref sc,.int (a+1),.int b,.int (c+1)])) fp=some (.lst [.ref sc,.int (a+1),.int b,.int (c+1)]):=ae
  change xq _ _ _ _ (upd H1 fp (.lst [.ref sc,.int (a+1),.int b,.int (c+1)]))
  generalize (upd H1 fp (.lst [.ref sc,.int (a+1),.int b,.int (c+1)]))=H3 at X3 e3
  refine ⟨_,rfl,_,_,rfl,rfl,zo,_,_,rfl,rfl,_,rfl,?_⟩
  refine bh (fun c3=>?_) (fun c3=>?_)
  ·refine ⟨_,rfl,_,rfl,_,_,rfl,rfl,⟨hm0,by omega⟩,_,rfl,fp,_,_,_,rfl,rfl,e3,rfl,_,rfl,_,rfl,_,_,rfl,rfl,hm0,?_⟩
   exact fin ae (X3.trans Ext.upd) (Int.emod_nonneg _ (by omega)) (Int.emod_lt_of_pos _ hm0)
  ·refine ⟨_,rfl,fp,_,_,_,rfl,rfl,SqL.of e3,rfl,_,_,rfl,rfl,vT (by decide) (by decide),_,rfl,fp,_,_,_,rfl,rfl,SqL.of e3,rfl,_,_,rfl,rfl,yj (by show -(2 ^ 64)<c+1; omega) (by show c+1<2 ^ 64; omega),_,rfl,fp,_,_,_,rfl,rfl,SqL.of e3,rfl,_,_,rfl,rfl,vT (by decide) (by decide),_,_,rfl,rfl,_,_,rfl,rfl,?_⟩
   refine ⟨_,rfl,_,_,rfl,rfl,(by show (0:Int)<2147483629; decide),_,_,rfl,rfl,_,rfl,_,_,rfl,rfl,vT (im cell (by decide) (by decide)).1 (im cell (by decide) (by decide)).2,_,_,rfl,rfl,(by show (0:Int)<2147483647; decide),?_⟩
   refine ⟨_,rfl,_,rfl,_,_,rfl,rfl,(by show (0:Int)<65521; decide),_,_,rfl,rfl,_,_,rfl,rfl,yj ?_ ?_,_,rfl,fp,_,_,_,rfl,rfl,SqL.of e3,rfl,_,_,rfl,rfl,?_⟩
   ·have:=(im ((cell % 2147483629+1)*(31*(c+1)*(c+1)+7919*(c+1)+1) % 2147483647) (b:=65521) (by decide) (by decide)).1
    have:=Int.emod_nonneg ((cell % 2147483629+1)*(31*(c+1)*(c+1)+7919*(c+1)+1) % 2147483647) (show (65521:Int)≠0 by decide)
    exact Int.lt_of_lt_of_le (by decide:(-(2 ^ 64):Int)<0+48271) (Int.add_le_add_right this _)
   ·have:=Int.emod_lt_of_pos ((cell % 2147483629+1)*(31*(c+1)*(c+1)+7919*(c+1)+1) % 2147483647) (show (0:Int)<65521 by decide)
    exact Int.lt_trans (Int.add_lt_add_right this 48271) (by decide)
   refine ⟨_,rfl,_,_,rfl,rfl,(by show (0:Int)<2147483629; decide),_,_,rfl,rfl,⟨by decide,by decide⟩,_,rfl,_,_,rfl,rfl,hm0,?_⟩
   exact fin e3 X3 (Int.emod_nonneg _ (by omega)) (Int.emod_lt_of_pos _ hm0)
end
open PySem L2
theorem Fd.same {H H':Hp} {fp sc:Addr} {m:Nat} (g:aA H H') (h:Fd H fp sc m):Fd H' fp sc m:=by
 obtain ⟨ns,a,b,c,h1,h2,h3⟩:=h
 exact ⟨ns,a,b,c,g _ _ h1,g _ _ h2,h3⟩
theorem Fd.lst {H:Hp} {fp sc:Addr} {m:Nat} (h:Fd H fp sc m):∃ xs,H fp=some (.lst xs):=by
 obtain ⟨ns,a,b,c,h1,_⟩:=h
 exact ⟨_,h1⟩
theorem Fd.tk {H H':Hp} {fp sc:Addr} {m:Nat} (x:Ext fp H H') (h:Fd H fp sc m):Tk H H':=by
 obtain ⟨xs,e⟩:=h.lst
 exact cg x e
theorem Fd.ne {H:Hp} {fp sc p:Addr} {m:Nat} (h:Fd H fp sc m) (hp:H p=none):p≠fp∧p≠sc:=by
 obtain ⟨ns,a,b,c,h1,h2,h3⟩:=h
 exact ⟨(ar h1 hp).symm,(ar h2 hp).symm⟩
theorem Fd.upd {H:Hp} {fp sc p:Addr} {m:Nat} {o:HO} (h:Fd H fp sc m) (n:p≠fp∧p≠sc):Fd (L2.upd H p o) fp sc m:=by
 obtain ⟨ns,a,b,c,h1,h2,h3⟩:=h
 exact ⟨ns,a,b,c,by rw [aW n.1.symm]; exact h1,by rw [aW n.2.symm]; exact h2,h3⟩
theorem Fd.le {H:Hp} {fp sc:Addr} {m m':Nat} (h:Fd H fp sc m) (l:m≤m'):Fd H fp sc m':=by
 obtain ⟨ns,a,b,c,h1,h2,h3,h4,h5⟩:=h
 exact ⟨ns,a,b,c,h1,h2,h3,h4,by omega⟩
theorem Ext.put {fp p:Addr} {H H1:Hp} {o:HO} (x:Ext fp H H1) (h:H p=none):Ext fp H (L2.upd H1 p o):=fun b u n e=>by rw [aW (ar e h)]; exact x b u n e
theorem Ext.free {fp p:Addr} {H H1:Hp} (x:Ext fp H H1) (n:p≠fp) (h:H1 p=none):H p=none:=by
 cases e:H p with
 | none=>rfl
 | some o=>rw [x p o n e] at h; cases h
theorem SqL.same {K:Frag} {H H':Hp} (g:aA H H') {a:Addr} {xs:List V} (h:SqL K H a xs):SqL K H' a xs:=by
 rcases h with (h | ⟨o,h⟩) | h
 ·exact .inl (.inl (g _ _ h))
 ·exact .inl (.inr ⟨o,g _ _ h⟩)
 ·exact .inr h
theorem ny:∀ ns:List Int,PyData.canLayAll0 (ns.map PyData.int)=true∧PyData.depthAll (ns.map PyData.int)≤1
 | []=>⟨rfl,by simp [PyData.depthAll]⟩
 | i::r=>by
  have:=ny r
  simp only [List.map_cons,PyData.canLayAll0,PyData.canLay0,PyData.depthAll,PyData.depth,this.1,Bool.and_self,true_and]
  omega
theorem nu (ns:List Int):SeqAt.shaped (.list (ns.map PyData.int))=true:=by
 have:=ny ns
 unfold SeqAt.shaped
 rw [Bool.and_eq_true,decide_eq_true_eq]
 refine ⟨by simp only [PyData.canLay0]; exact this.1,by simp only [PyData.depth]; omega⟩
theorem qZ {K:Frag} {H:Hp}:∀ ns:List Int,eM K H (ns.map V.int) (ns.map PyData.int)
 | []=>.nil
 | i::r=>.cons (.int i) (qZ r)
section
variable {P:Program} {w:World} {K:Frag} {mg:Str→Option Value} {base:Heap} {f g:Addr} {fd gd:FuncData}
abbrev uI:List Str:=["_law_script"]
theorem si:aU uI ["_law_script"] (defScope jM):=⟨rfl,rfl,rfl,by decide +kernel,rfl,by decide +kernel,by decide +kernel⟩
def An (K:Frag):Sp:=fun vs H Q _=>∃ a ns,vs=[.ref a]∧SqL K H a (List.map V.int ns)∧∀ t sc H',aA H H'→H t=none→Fd H' t sc 0→Q (.ref t) H'
theorem Au (T:G0 mg) (F:Fun K "_law_feed" "_law_feed" jM f fd):bI P w K mg base CX0 1 f fd ["_law_script"] (An K):=by
 refine F.ok si (fun vs H Q E h=>?_) (fun cdv A outer s H vs Q E hr h=>?_)
 ·obtain ⟨a,ns,rfl,_⟩:=h
  rfl
 obtain ⟨a,ns,rfl,hS,q⟩:=h
 refine ⟨_,(@ao _ _ _ (@aH _ _ _ _ (@aY _ _ _ _ (@ad _ _ _ _ _ (@aN _ _ _ _ _ _ _ _ me (@ii _ _ _ _ _ _ _ _ _ _ jq (pv 0) jm (ju ag)) (@aN _ _ _ _ _ _ _ _ zk (@aY _ _ _ _ (@ad _ _ _ _ _ ag ah (ac rfl))) (@bq _ _ _ _ _ _ _ _ _ lW rfl T.int oJ (@ad _ _ _ _ _ (@bw _ _ _ _ _ _ _ _ (uR hr.units) (pv 0) (@aY _ _ _ _ ah) (aD _)) ah (ac rfl)) (by decide) (by decide) (ac rfl) (aj rfl)))) (@ad _ _ _ _ _ ag (@ad _ _ _ _ _ ag (@ad _ _ _ _ _ ag ah (ac rfl)) (ac rfl)) (ac rfl)) (ac rfl))))),?_⟩
 have em:dj (ns.map V.int) none (some 63)=(ns.take 63).map V.int:=by
  unfold dj
  rw [HT.sIx_none,show (63:Int)=((63:Nat):Int) from rfl,HT.sIx_nat,List.drop_zero,Nat.sub_zero,List.length_map,← List.map_take]
  by_cases h:63≤ns.length
  ·rw [Nat.min_eq_left h]
  ·rw [Nat.min_eq_right (by omega),List.take_length,List.take_of_length_le (by omega)]
 refine ⟨_,rfl,_,rfl,a,_,rfl,hS,fun p hp=>?_⟩
 have gp:=af hp (.lst (dj (ns.map V.int) none (some 63)))
 refine ⟨(by show 1≤sizeLine; decide),fun l0 hl0=>?_⟩
 have g0:=gp.trans (af hl0 (.lst [.int 0]))
 refine ⟨_,rfl,(by show 0≤sizeLine; decide),fun l1 hl1=>?_⟩
 have g1:=g0.trans (af hl1 (.lst []))
 refine ⟨.list (ns.map PyData.int),.list [],.lst (SqL.same g1 hS) (qZ ns),.lst (SqL.of ae) .nil,nu ns,rfl,.inr ⟨_,rfl,?_⟩⟩
 rw [em] at hl0 hl1 gp g0 g1 ⊢
 have hp1:(upd (upd (upd H p (.lst ((ns.take 63).map V.int))) l0 (.lst [.int 0])) l1 (.lst [])) p=some (.lst ((ns.take 63).map V.int)):=iL (ar (iL (ar ae hl0) ae) hl1) (iL (ar ae hl0) ae)
 have hl01:(upd (upd (upd H p (.lst ((ns.take 63).map V.int))) l0 (.lst [.int 0])) l1 (.lst [])) l0=some (.lst [.int 0]):=iL (ar ae hl1) ae
 generalize (upd (upd (upd H p (.lst ((ns.take 63).map V.int))) l0 (.lst [.int 0])) l1 (.lst []))=H1 at g1 hp1 hl01
 have lt:(ns.take 63).length≤63:=by rw [List.length_take]; omega
 cases ns with
 | nil =>
  refine ⟨l0,1,[.int 0],rfl,rfl,hl01,by decide,by decide,by decide,fun p2 hp2=>?_⟩
  refine ⟨p,p2,_,_,rfl,rfl,iL (ar hp1 hp2) hp1,ae,by decide,fun p3 hp3=>?_⟩
  refine ⟨(by show 4≤sizeLine; decide),fun fp hfp=>?_⟩
  refine q fp _ _ (((g1.trans (af hp2 _)).trans (af hp3 _)).trans (af hfp _)) (((g1.trans (af hp2 _)).trans (af hp3 _)).free hfp) ⟨[0],0,0,0,ae,iL (ar ae hfp) ae,by decide,by decide,by decide⟩
 | cons n r =>
  refine ⟨l0,0,[.int 0],rfl,rfl,hl01,by decide,by decide,by decide,fun p2 hp2=>?_⟩
  refine ⟨p,p2,_,_,rfl,rfl,iL (ar hp1 hp2) hp1,ae,by rw [List.length_map,sizeLine_eq]; simp only [Int.toNat_zero,List.replicate_zero,List.flatten_nil,List.length_nil]; omega,fun p3 hp3=>?_⟩
  refine ⟨(by show 4≤sizeLine; decide),fun fp hfp=>?_⟩
  refine q fp _ _ (((g1.trans (af hp2 _)).trans (af hp3 _)).trans (af hfp _)) (((g1.trans (af hp2 _)).trans (af hp3 _)).free hfp) ⟨(n::r).take 63,0,0,0,ae,?_,by simp,by decide,by decide⟩
  refine iL (ar ae hfp) ?_
  rw [ae]
  simp
end
open PySem L2
def GPk (K:Frag) (mg:Str→Option Value):Prop:=∃ a,mg "PLAIN_KINDS"=some (.ref a)∧∀ H,SqT K H a (PL.map V.str)
abbrev Fld:=Str×Str
abbrev Rec:=Str×List Fld
def ma (H:Hp) (v:V) (p:Fld):Prop:=∃ a,v=.ref a∧H a=some (.tup [.str p.1,.str p.2])
def dk (H:Hp) (v:V) (fs:List Fld):Prop:=∃ a xs,v=.ref a∧H a=some (.tup xs)∧Paired (ma H) xs fs
def iW (H:Hp) (v:V) (r:Rec):Prop:=∃ a y,v=.ref a∧H a=some (.tup [.str r.1,y])∧dk H y r.2
def gA (H:Hp) (v:V) (R:List Rec):Prop:=∃ a xs,v=.ref a∧H a=some (.tup xs)∧Paired (iW H) xs R
def iB (H:Hp) (v:V) (R:List Rec):Prop:=∃ a y z,v=.ref a∧H a=some (.tup [y,z])∧gA H y R
theorem ma.mono {H H':Hp} (t:Tk H H') {v:V} {p:Fld} (h:ma H v p):ma H' v p:=let ⟨a,e,q⟩:=h; ⟨a,e,t _ _ q⟩
theorem dk.mono {H H':Hp} (t:Tk H H') {v:V} {p:List Fld} (h:dk H v p):dk H' v p:=let ⟨a,xs,e,q,r⟩:=h; ⟨a,xs,e,t _ _ q,Paired.mapP r fun _ _ z=>z.mono t⟩
theorem iW.mono {H H':Hp} (t:Tk H H') {v:V} {p:Rec} (h:iW H v p):iW H' v p:=let ⟨a,y,e,q,r⟩:=h; ⟨a,y,e,t _ _ q,r.mono t⟩
theorem gA.mono {H H':Hp} (t:Tk H H') {v:V} {p:List Rec} (h:gA H v p):gA H' v p:=let ⟨a,xs,e,q,r⟩:=h; ⟨a,xs,e,t _ _ q,Paired.mapP r fun _ _ z=>z.mono t⟩
theorem iB.mono {H H':Hp} (t:Tk H H') {v:V} {p:List Rec} (h:iB H v p):iB H' v p:=let ⟨a,y,z,e,q,r⟩:=h; ⟨a,y,z,e,t _ _ q,r.mono t⟩
theorem paired_at {α β:Type} {F:α→β→Prop}:∀ {l:List α} {m:List β},Paired F l m→∀ (j:Nat) a,l[j]?=some a→∃ b,m[j]?=some b∧F a b
 | _,_,.nil,_,_,h=>by simp at h
 | _,_,.cons h t,0,_,h1=>by simp at h1; subst h1; exact ⟨_,rfl,h⟩
 | _,_,.cons h t,j+1,_,h1=>by
  obtain ⟨b,e,q⟩:=paired_at t j _ (by simpa using h1)
  exact ⟨b,by simpa using e,q⟩
def look (R:List Rec) (k:Str):List Fld:=((R.find? fun r=>decide (r.1=k)).map (·.2)).getD []
theorem sK {R:List Rec} {i:Nat} {r:Rec} {k:Str} (h:R[i]?=some r):look (R.drop i) k=if r.1=k then r.2 else look (R.drop (i+1)) k:=by
 obtain ⟨hi,e⟩:=List.getElem?_eq_some_iff.mp h
 rw [List.drop_eq_getElem_cons hi,e]
 unfold look
 rw [List.find?_cons]
 by_cases q:r.1=k
 ·rw [if_pos q,decide_eq_true q]; rfl
 ·rw [if_neg q,decide_eq_false q]
def eT (H:Hp) (v:V) (p:List Str):Prop:=∃ a,v=.ref a∧H a=some (.tup (p.map V.str))
theorem eT.mono {H H':Hp} (t:Tk H H') {v:V} {p:List Str} (h:eT H v p):eT H' v p:=let ⟨a,e,q⟩:=h; ⟨a,e,t _ _ q⟩
abbrev bL:=List Str×Str
def nj (R:List Rec) (h:Str→List bL) (k:Str):List bL:=(look R k).flatMap fun p=>(h p.2).map fun q=>(p.1::q.1,q.2)
def aE (R:List Rec):Nat→Str→List bL
 | 0,_=>[]
 | n+1,k=>if k∈PL then [([],k)] else nj R (aE R n) k
def fj (R:List Rec):Nat→Str→Prop
 | 0,_=>False
 | n+1,k=>(k∈PL)∨(k∉PL∧k∈R.map (·.1)∧(1≤(look R k).length∧(look R k).length≤3)∧∀ p∈look R k,fj R n p.2)
theorem ca {α β:Type} {g:α→List β} {b:Nat}:∀ {l:List α},(∀ x∈l,(g x).length≤b)→(l.flatMap g).length≤l.length*b
 | [],_=>by simp
 | x::r,h=>by
  rw [List.flatMap_cons,List.length_append,List.length_cons,Nat.succ_mul]
  have h1:=h x List.mem_cons_self
  have h2:=ca (l:=r) fun y hy=>h y (List.mem_cons_of_mem _ hy)
  omega
theorem cA {R:List Rec}:∀ (n:Nat) {k:Str},fj R n k→(aE R n k).length≤3 ^ n
 | 0,_,h=>h.elim
 | n+1,k,h=>by
  unfold aE
  rcases h with h | ⟨h,_,⟨_,hl⟩,hd⟩
  ·rw [if_pos h]
   show 1≤3 ^ (n+1)
   exact Nat.pos_of_ne_zero (by simp)
  ·rw [if_neg h]
   unfold nj
   have q:=ca (l:=look R k) (g:=fun p=>(aE R n p.2).map fun q=>(p.1::q.1,q.2)) (b:=3 ^ n) fun p hp=>by
    rw [List.length_map]
    exact cA n (hd p hp)
   have q2:(look R k).length*3 ^ n≤3*3 ^ n:=Nat.mul_le_mul_right _ hl
   rw [Nat.pow_succ]
   omega
theorem cN {R:List Rec}:∀ (n:Nat) {k:Str} {q:bL},q∈aE R n k→q.1.length≤n
 | 0,_,_,h=>nomatch h
 | n+1,k,q,h=>by
  unfold aE at h
  split at h
  ·rw [List.mem_singleton.mp h]; simp
  ·unfold nj at h
   obtain ⟨p,_,hq⟩:=List.mem_flatMap.mp h
   obtain ⟨q',hq',rfl⟩:=List.mem_map.mp hq
   have:=cN n hq'
   simp
   omega
theorem fZ (k:Str):∀ l:List Str,inV (.str k) (l.map V.str)=decide (k∈l)
 | []=>rfl
 | a::r=>by
  have ih:=fZ k r
  unfold inV at ih ⊢
  rw [List.map_cons,List.any_cons,ih]
  show ((a==k)||_)=_
  by_cases h:a=k
  ·subst h; simp
  ·have h':¬ k=a:=fun z=>h z.symm
   simp [h,h']
def bZ (H:Hp) (v:V) (q:bL):Prop:=∃ a y,v=.ref a∧H a=some (.tup [y,.str q.2])∧eT H y q.1
theorem bZ.mono {H H':Hp} (t:Tk H H') {v:V} {q:bL} (h:bZ H v q):bZ H' v q:=let ⟨a,y,e,r,s⟩:=h; ⟨a,y,e,t _ _ r,s.mono t⟩
theorem cz {H H':Hp} (t:Tk H H') {xs:List V} {ps:List bL} (h:Paired (bZ H) xs ps):Paired (bZ H') xs ps:=Paired.mapP h fun _ _ z=>z.mono t
theorem zj:(PL.map V.str).all gm=true:=by decide
section
variable {P:Program} {w:World} {K:Frag} {mg:Str→Option Value} {base:Heap} {f g:Addr} {fd gd:FuncData}
def kh:Sp:=fun vs H Q _=>∃ v k R,vs=[v,.str k]∧iB H v R∧∀ y H',aA H H'→dk H' y (look R k)→Q y H'
theorem oA:aU ["program", "kind", "record"] ["program", "kind"] (defScope fm):=⟨rfl,rfl,rfl,by decide +kernel,rfl,by decide +kernel,by decide +kernel⟩
theorem sw (F:Fun K "fields_of" "fields_of" fm f fd):bI P w K mg base CX0 1 f fd ["program", "kind"] kh:=by
 refine F.ok oA (fun vs H Q E h=>?_) (fun cdv A outer s H vs Q E hr h=>?_)
 ·obtain ⟨v,k,R,rfl,_⟩:=h
  rfl
 obtain ⟨v,k,R,rfl,hp,q⟩:=h
 obtain ⟨a,y,z,rfl,ha,b,xs,rfl,hb,rs⟩:=hp
 refine ⟨_,ak (bF PassesOwn.never rfl (cZ (aq aw (pv 0) ag (fun _ _=>rfl))) (ax (i:=2) oA.nd rfl (Or.inl rfl))
   (ao (bf (aC bt (aq aw (pv 2) ag (fun _ _=>rfl)) (pv 1) (aD _)) (ao (aH (aq aw (pv 2) ag (fun _ _=>rfl)))) aS)))
  (ao (aH (aQ ah))),?_⟩
 refine ⟨_,rfl,a,_,_,_,rfl,rfl,SqT.of ha,rfl,b,rfl,⟨xs,SqT.of hb⟩,dB (xs:=xs) (fun i σ H'=>∃ m,σ=[some (.ref a),some (.str k),m]∧H'=H∧look R k=look (R.drop i) k) ⟨none,rfl,rfl,rfl⟩ (fun i σ H' _ p=>?_) (fun i x σ H' hx p=>?_) (fun σ H' p=>?_)⟩
 ·obtain ⟨_,_,rfl,_⟩:=p
  exact SqT.of hb
 ·obtain ⟨m,rfl,rfl,e⟩:=p
  obtain ⟨r,hr',c,y',rfl,hc,hf⟩:=paired_at rs i x hx
  refine ⟨_,rfl,c,_,_,_,rfl,rfl,SqT.of hc,rfl,_,rfl,rfl,_,rfl,?_⟩
  rw [sK hr'] at e
  refine bh (fun cc=>?_) (fun cc=>?_)
  ·have ck:r.1=k:=V.str.inj (of_decide_eq_true cc)
   rw [if_pos ck] at e
   exact ⟨_,rfl,c,_,_,_,rfl,rfl,SqT.of hc,rfl,q _ _ (aA.refl _) (e ▸ hf)⟩
  ·have ck:¬ r.1=k:=fun z=>cc (decide_eq_true (congrArg V.str z))
   rw [if_neg ck] at e
   exact ⟨_,rfl,rfl,e⟩
 ·obtain ⟨m,rfl,rfl,e⟩:=p
  refine ⟨(by show 0≤sizeLine; decide),fun t ht=>q _ _ (af ht _) ⟨t,[],rfl,ae,?_⟩⟩
  rw [e,Paired.length rs,List.drop_length]
  exact .nil
def fR (n:Nat):Sp:=fun vs H Q _=>∃ v k R,vs=[v,.str k]∧iB H v R∧n≤4∧fj R n k∧∀ r ys H',aA H H'→H r=none→H' r=some (.lst ys)→Paired (bZ H') ys (aE R n k)→Q (.ref r) H'
theorem fP:aU ["program", "kind", "told", "field", "inner", "path", "sort"] ["program", "kind"] (defScope jr):=⟨rfl,rfl,rfl,by decide +kernel,rfl,by decide +kernel,by decide +kernel⟩
theorem uw {n:Nat} (TP:GPk K mg) (F:Fun K "parts" "parts" jr f fd) (D:Cal P w K mg base 1 "fields_of" ["program", "kind"] kh) (D2:Cal P w K mg base (n+1) "parts" ["program", "kind"] (fR n)) :
  bI P w K mg base CX0 (n+2) f fd ["program", "kind"] (fR (n+1)):=by
 obtain ⟨g,gd,Gd,bG,kG,mG⟩:=D.ex
 obtain ⟨g2,gd2,Gd2,bG2,kG2,mG2⟩:=D2.ex
 obtain ⟨aP,mP,sP⟩:=TP
 refine F.ok fP (fun vs H Q E h=>?_) (fun cdv A outer s H vs Q E hr h=>?_)
 ·obtain ⟨v,k,R,rfl,_⟩:=h
  rfl
 obtain ⟨v,k,R,rfl,hp,hn,hd,q⟩:=h
 refine ⟨_,ak (bf (aC fU (pv 1) (xm (v:=.ref aP) rfl mP rfl) rfl) (ao (aH (aY (ad (aQ (ad (aQ ah) (ad (pv 1) ah))) ah)))) aS)
  (ak (aB (i:=2) fP.nd rfl (Or.inl rfl) (aY ah))
  (ak (bF PassesOwn.never rfl (cZ (au Gd (hr.mono (by omega)) rfl mG kG bG .nil aO (ad (pv 0) (ad (pv 1) ah)))) (cQ rfl (aV (ax (i:=3) fP.nd rfl (Or.inl rfl)) (aV (ax (i:=4) fP.nd rfl (Or.inl rfl)) cf)))
   (ao (bF PassesOwn.never rfl (br (au Gd2 hr rfl mG2 kG2 bG2 .nil aO (ad (pv 0) (ad (pv 4) ah)))) (cQ rfl (aV (ax (i:=5) fP.nd rfl (Or.inl rfl)) (aV (ax (i:=6) fP.nd rfl (Or.inl rfl)) cf)))
    (ao (cD (dR PySem.F.plainAttrs_list PySem.F.slot_list_append PySem.F.type_list_append dY (pv 2) (ad (aQ (ad (aN jn (aQ (ad (pv 3) ah)) (pv 5)) (ad (pv 6) ah))) ah)))))))
  (ao (aH (pv 2))))),?_⟩
 refine ⟨_,rfl,aP,_,rfl,.inr (sP _),rfl,zj,_,rfl,?_⟩
 refine bh (fun c=>?_) (fun c=>?_)
 ·have ck:k∈PL:=of_decide_eq_true ((fZ k PL).symm.trans c)
  refine ⟨(by show 0≤sizeLine; decide),fun p1 h1=>⟨_,rfl,(by show 2≤sizeLine; decide),fun p2 h2=>⟨(by show 1≤sizeLine; decide),fun r h3=>?_⟩⟩⟩
  have t1:=fg h2 (.tup [.ref p1,.str k])
  have t2:=fg h3 (.lst [.ref p2])
  refine q r _ _ (((af h1 _).trans (af h2 _)).trans (af h3 _)) ?_ ae ?_
  ·exact (af h1 _).free ((af h2 _).free h3)
  ·unfold aE
   rw [if_pos ck]
   exact .cons ⟨p2,.ref p1,rfl,t2 _ _ ae,p1,rfl,t2 _ _ (t1 _ _ ae)⟩ .nil
 ·have ck:k∉PL:=fun z=>c (((fZ k PL).trans (decide_eq_true z)))
  rcases hd with z | ⟨_,_,⟨_,hl⟩,hd⟩
  ·exact absurd z ck
  refine ⟨(by show 0≤sizeLine; decide),fun t ht=>?_⟩
  have g0:=af ht (.lst [])
  refine ⟨_,rfl,_,rfl,v,k,R,rfl,hp.mono (am g0),fun y H1 g1 hy=>?_⟩
  obtain ⟨b,xs,rfl,hb,rs⟩:=hy
  have ht1:H1 t=some (.lst []):=g1 _ _ ae
  have hlen:∀ i,((look R k).take i).length≤3:=fun i=>by rw [List.length_take]; omega
  refine ⟨b,rfl,⟨xs,SqT.of hb⟩,dB (xs:=xs) (fun i σ H'=>∃ m3 m4 m5 m6 ys,σ=[some v,some (.str k),some (.ref t),m3,m4,m5,m6]∧Ext t H1 H'∧H' t=some (.lst ys) ∧
    Paired (bZ H') ys (((look R k).take i).flatMap fun p=>(aE R n p.2).map fun q=>(p.1::q.1,q.2))) ⟨none,none,none,none,[],rfl,Ext.refl _ _,ht1,.nil⟩ (fun i σ H' _ p=>?_) (fun i u σ H' hx p=>?_) (fun σ H' p=>?_)⟩
  ·obtain ⟨_,_,_,_,_,_,x1,_⟩:=p
   exact SqT.of (cg x1 ht1 _ _ hb)
  ·obtain ⟨m3,m4,m5,m6,ys,rfl,x1,hty,py⟩:=p
   obtain ⟨fl,hfl,a,rfl,ha⟩:=paired_at rs i u hx
   have k1:=cg x1 ht1
   have dp:=hd fl (List.mem_of_getElem? hfl)
   refine ⟨a,_,rfl,SqT.of (k1 _ _ ha),rfl,_,_,rfl,_,_,rfl,rfl,?_⟩
   refine ⟨_,rfl,_,rfl,v,fl.2,R,rfl,(hp.mono ((am g0).trans (am g1))).mono k1,by omega,dp,fun r zs H2 g2 hr0 hrz pz=>?_⟩
   have hty2:=g2 _ _ hty
   have hrt:r≠t:=(ar hty hr0).symm
   have el:=cA n dp
   have e3:(3:Nat) ^ n≤81:=by
    have:n≤4:=by omega
    calc 3 ^ n≤3 ^ 4:=Nat.pow_le_pow_right (by decide) this
     _=81:=by decide
   have len1:ys.length≤243:=by
    rw [Paired.length py]
    have:=ca (l:=(look R k).take i) (g:=fun p=>(aE R n p.2).map fun q=>(p.1::q.1,q.2)) (b:=81) fun p hp'=>by
     rw [List.length_map]
     have:=cA n (hd p (List.mem_of_mem_take hp'))
     omega
    have h3:=hlen i
    have:((look R k).take i).length*81≤3*81:=Nat.mul_le_mul_right _ h3
    omega
   refine ⟨r,rfl,⟨zs,SqL.of hrz⟩,dv (xs:=zs) (fun j σ H'=>∃ n5 n6 ws,σ=[some v,some (.str k),some (.ref t),some (.str fl.1),some (.str fl.2),n5,n6]∧Ext t H2 H'∧H' t=some (.lst ws) ∧
    Paired (bZ H') ws ((((look R k).take i).flatMap fun p=>(aE R n p.2).map fun q=>(p.1::q.1,q.2))++((aE R n fl.2).take j).map fun q=>(fl.1::q.1,q.2))) ⟨_,_,ys,rfl,Ext.refl _ _,hty2,by simpa using cz (am g2) py⟩ (fun j σ H' _ p=>?_) (fun j u σ H' hx2 p=>?_) (fun σ H' p=>?_)⟩
   ·obtain ⟨_,_,_,_,x2,_⟩:=p
    exact SqL.of (x2 _ _ hrt hrz)
   ·obtain ⟨n5,n6,ws,rfl,x2,htw,pw⟩:=p
    have k2:=cg x2 hty2
    obtain ⟨qq,hqq,hpa⟩:=paired_at pz j u hx2
    obtain ⟨a2,y2,rfl,ha2,a3,rfl,ha3⟩:=hpa.mono k2
    have hm:qq∈aE R n fl.2:=List.mem_of_getElem? hqq
    have pl:=cN n hm
    have wl:ws.length≤900:=by
     rw [Paired.length pw,List.length_append,← Paired.length py,List.length_map,List.length_take]
     omega
    have fin:∀ (u:V) (H5:Hp),aA H' H5→eT H5 u (fl.1::qq.1)→∀ p2,H5 p2=none→(upd H5 p2 (.tup [u,.str qq.2])) t=some (.lst ws)∧∃ n5 n6 ws',([some v,some (.str k),some (.ref t),some (.str fl.1),some (.str fl.2),some (.ref a3),some (.str qq.2)]:St)=[some v,some (.str k),some (.ref t),some (.str fl.1),some (.str fl.2),n5,n6] ∧
      Ext t H2 (upd (upd H5 p2 (.tup [u,.str qq.2])) t (.lst (ws++[.ref p2])))∧(upd (upd H5 p2 (.tup [u,.str qq.2])) t (.lst (ws++[.ref p2]))) t=some (.lst ws') ∧
      Paired (bZ (upd (upd H5 p2 (.tup [u,.str qq.2])) t (.lst (ws++[.ref p2])))) ws' ((((look R k).take i).flatMap fun p=>(aE R n p.2).map fun q=>(p.1::q.1,q.2))++((aE R n fl.2).take (j+1)).map fun q=>(fl.1::q.1,q.2)):=by
     intro u H5 g5 hu p2 hp2
     have e5:(upd H5 p2 (.tup [u,.str qq.2])) t=some (.lst ws):=af hp2 _ _ _ (g5 _ _ htw)
     have k5:Tk H' (upd (upd H5 p2 (.tup [u,.str qq.2])) t (.lst (ws++[.ref p2]))):=((am g5).trans (fg hp2 _)).trans (cy e5 _)
     refine ⟨e5,_,_,_,rfl,((x2.trans (aA.ext g5)).trans (qO hp2 _)).trans Ext.upd,ae,?_⟩
     rw [List.take_add_one,hqq,List.map_append,← List.append_assoc]
     exact Paired.snoc (cz k5 pw) ⟨p2,u,rfl,cy e5 _ _ _ ae,hu.mono ((fg hp2 _).trans (cy e5 _))⟩
    refine ⟨a2,_,rfl,SqT.of ha2,rfl,_,_,rfl,_,_,rfl,rfl,?_⟩
    refine ⟨_,rfl,.inl ⟨rfl,_,SqL.of htw⟩,_,rfl,(by show 1≤sizeLine; decide),fun p1 hp1=>?_⟩
    have g5:=af hp1 (.tup [.str fl.1])
    refine ⟨_,rfl,p1,a3,_,_,rfl,rfl,SqT.of ae,SqT.of (g5 _ _ ha3),(by simp),?_,fun z=>?_,fun z p3 hp3=>?_⟩
    ·rw [List.length_map]
     exact Nat.le_of_lt (aL (by simp; omega))
    ·have ep:qq.1=[]:=by simpa using z
     refine ⟨_,rfl,(by show 2≤sizeLine; decide),fun p2 hp2=>?_⟩
     obtain ⟨e5,fn⟩:=fin (.ref p1) _ g5 ⟨p1,rfl,by rw [ep]; exact ae⟩ p2 hp2
     exact ⟨t,ws,_,rfl,rfl,e5,aL (by omega),fn⟩
    ·refine ⟨_,rfl,(by show 2≤sizeLine; decide),fun p2 hp2=>?_⟩
     obtain ⟨e5,fn⟩:=fin (.ref p3) _ (g5.trans (af hp3 _)) ⟨p3,rfl,ae⟩ p2 hp2
     exact ⟨t,ws,_,rfl,rfl,e5,aL (by omega),fn⟩
   ·obtain ⟨n5,n6,ws,rfl,x2,htw,pw⟩:=p
    refine ⟨_,_,_,_,ws,rfl,(x1.trans (aA.ext g2)).trans x2,htw,?_⟩
    rw [Paired.length pz,List.take_length] at pw
    rw [List.take_add_one,hfl,List.flatMap_append]
    simpa using pw
  ·obtain ⟨m3,m4,m5,m6,ys,rfl,x1,hty,py⟩:=p
   refine ⟨_,rfl,q t ys H' (fun b o e=>?_) ht hty ?_⟩
   ·exact x1 _ _ (ar e ht) (g1 _ _ (g0 _ _ e))
   ·unfold aE
    rw [if_neg ck]
    rw [Paired.length rs,List.take_length] at py
    exact py
theorem vv:bI P w K mg base CX0 1 f fd ["program", "kind"] (fR 0):=by
 have no:∀ vs H Q E,¬ fR 0 vs H Q E:=fun vs H Q E h=>by
  obtain ⟨v,k,R,_,_,_,h1,_⟩:=h
  exact h1
 exact ⟨fun vs H Q E h=>absurd h (no vs H Q E),fun A outer s H args us vs Q E _ _ _ _ h=>absurd h (no vs H Q E)⟩
theorem lP (TP:GPk K mg) (F:Fun K "parts" "parts" jr f fd) (b:ib K fd ["program", "kind"] []) (m:mg "parts"=some (.ref f)) (D:Cal P w K mg base 1 "fields_of" ["program", "kind"] kh) :
  ∀ n:Nat,bI P w K mg base CX0 (n+1) f fd ["program", "kind"] (fR n)
 | 0=>vv
 | n+1=>uw TP F D ⟨f,fd,lP TP F b m D n,b,F.kp,m⟩
end
end K6
namespace L2
open PySem PySem.Spec PyProof.Rows
section
variable {X:Cx}
end
theorem xc {K:Frag} {a b:Addr} {xs ys:List V} {k1 k2:Bool} {g:TG} {tb:TS} {D:kH} {σ:St} {H:Hp} (n:Nat) (e1:n=xs.length) (e2:n=ys.length) (Pv:Nat→St→Hp→Prop) (h0:Pv 0 σ H)
  (hl:∀ i σ H,i≤n→Pv i σ H→SqX k1 K H a xs∧SqX k2 K H b ys)
  (hs:∀ i x y p σ H,xs[i]?=some x→ys[i]?=some y→Pv i σ H→H p=none→g (.ref p) σ (upd H p (.tup [x,y])) fun σ2 H2=>tb { D with nx:=Pv (i+1),ct:=Pv (i+1),bk:=D.nx } σ2 H2) (hd:∀ σ H,Pv n σ H→D.nx σ H) :
  ∃ W:Nat→Nat→St→Hp→Prop,(∃ m,W 0 m σ H)∧∀ i m σ H,W i m σ H →
   ((Itz K k1 k2 a b).stop i H∧D.nx σ H)∨((Itz K k1 k2 a b).go i H∧∃ N:St→Hp→Prop,(∀ σ' H',N σ' H'→∃ m',m'<m∧W (i+1) m' σ' H')∧∀ x H',(Itz K k1 k2 a b).yld i H x H'→g x σ H' fun σ2 H2=>tb { D with nx:=N,ct:=N,bk:=D.nx } σ2 H2):=by
 refine ⟨fun i m σ H=>m=n - i∧i≤n∧Pv i σ H,⟨n,by simp,Nat.zero_le _,h0⟩,?_⟩
 rintro i m σ H ⟨rfl,hi,p⟩
 obtain ⟨q1,q2⟩:=hl i σ H hi p
 by_cases hlt:i<n
 ·have hx:xs[i]?=some (xs[i]'(by omega)):=List.getElem?_eq_getElem (by omega)
  have hy:ys[i]?=some (ys[i]'(by omega)):=List.getElem?_eq_getElem (by omega)
  refine .inr ⟨⟨xs,ys,_,_,q1,q2,hx,hy⟩,Pv (i+1),fun σ' H' p'=>⟨n - (i+1),by omega,rfl,hlt,p'⟩,fun x H' yy=>?_⟩
  obtain ⟨pp,x',y',f1,f2,f3,f4,f5⟩:=yy
  subst f2 f3
  exact hs i x' y' pp σ H (f4 xs q1) (f5 ys q2) p f1
 ·have e:i=n:=by omega
  subst e
  exact .inl ⟨⟨xs,ys,q1,q2,by omega,by omega,by omega⟩,hd σ H p⟩
end L2
namespace K6
open PySem L2
theorem As {n:Nat} (h:n≤4):3 ^ n≤81:=by
 calc 3 ^ n≤3 ^ 4:=Nat.pow_le_pow_right (by decide) h
  _=81:=by decide
section
variable {P:Program} {w:World} {K:Frag} {mg:Str→Option Value} {base:Heap} {f g:Addr} {fd gd:FuncData}
end
open PySem L2
mutual
inductive DA (tp:Addr) (H:Hp):V→PyData→Prop
 | non:DA tp H .non .none
 | bl (b:Bool):DA tp H (.bl b) (.bool b)
 | int (i:Int):DA tp H (.int i) (.int i)
 | str (x:Str):x.length≤1000→DA tp H (.str x) (.str x)
 | lst {a:Addr} {xs:List V} {ds:List PyData}:a≠tp∧xs.length≤1000→H a=some (.lst xs)→DAs tp H xs ds→DA tp H (.ref a) (.list ds)
 | tup {a:Addr} {xs:List V} {ds:List PyData}:a≠tp∧xs.length≤1000→H a=some (.tup xs)→DAs tp H xs ds→DA tp H (.ref a) (.tuple ds)
inductive DAs (tp:Addr) (H:Hp):List V→List PyData→Prop
 | nil:DAs tp H [] []
 | cons {x:V} {xs:List V} {d:PyData} {ds:List PyData}:DA tp H x d→DAs tp H xs ds→DAs tp H (x::xs) (d::ds)
end
def yA:PyData→Bool
 | .int _=>true
 | _=>false
def rg (i:Int):Bool:=decide (32≤i)&&decide (i≤126)&&decide (i≠37)
def yp:PyData→Bool
 | .str z=>z.cps.toList.all fun c=>rg (c:Nat)
 | _=>false
section
variable {P:Program} {w:World} {K:Frag} {mg:Str→Option Value} {base:Heap} {f g:Addr} {fd gd:FuncData}
def mB (tp:Addr):Sp:=fun vs H Q _=>∃ v d,vs=[v]∧DA tp H v d∧Q (.bl (yA d)) H
end
end K6
namespace L2
open PySem PySem.Spec PyProof.Rows
section
variable {X:Cx} {a b c d:Expr} {ta tb tc td:TE} {pos:Pos}
end
end L2
namespace K6
open PySem L2
section
variable {P:Program} {w:World} {K:Frag} {mg:Str→Option Value} {base:Heap} {f g:Addr} {fd gd:FuncData}
abbrev sZ:List Str:=["_law_thing"]
theorem qi:aU sZ ["_law_thing"] (defScope iD):=⟨rfl,rfl,rfl,by decide +kernel,rfl,by decide +kernel,by decide +kernel⟩
theorem rY (tp:Addr) (T:G0 mg) (F:Fun K "_law_whole" "_law_whole" iD f fd):bI P w K mg base CX0 1 f fd ["_law_thing"] (mB tp):=by
 refine F.ok qi (fun vs H Q E h=>?_) (fun cdv A outer s H vs Q E hr h=>?_)
 ·obtain ⟨v,d,rfl,_⟩:=h
  rfl
 obtain ⟨v,d,rfl,hd,q⟩:=h
 refine ⟨_,(@ao _ _ _ (@aH _ _ _ _ (gE (@ay _ _ _ _ _ _ _ _ _ bv rfl T.isi dz (@ad _ _ _ _ _ (pv 0) (@ad _ _ _ _ _ (bR (v:=.ty "int") rfl T.int oJ rfl) ah (ac rfl)) (ac rfl)) (by decide) (by decide) (ac rfl) (aj rfl)) (iq (yU (@ay _ _ _ _ _ _ _ _ _ bv rfl T.isi dz (@ad _ _ _ _ _ (pv 0) (@ad _ _ _ _ _ (bR (v:=.ty "bool") rfl T.bool zy rfl) ah (ac rfl)) (ac rfl)) (by decide) (by decide) (ac rfl) (aj rfl))))))),?_⟩
 cases hd with
 | non=>exact ⟨_,rfl,_,_,_,false,rfl,.non,rfl,_,rfl,bU q⟩
 | bl b=>exact ⟨_,rfl,_,_,_,true,rfl,.bl b,rfl,_,rfl,eP ⟨_,rfl,_,_,_,true,rfl,.bl b,rfl,_,rfl,q⟩⟩
 | int i=>exact ⟨_,rfl,_,_,_,true,rfl,.int i,rfl,_,rfl,eP ⟨_,rfl,_,_,_,false,rfl,.int i,rfl,_,rfl,q⟩⟩
 | str x l=>exact ⟨_,rfl,_,_,_,false,rfl,.str x,rfl,_,rfl,bU q⟩
 | lst n h r=>exact ⟨_,rfl,_,_,_,false,rfl,.lst h,rfl,_,rfl,bU q⟩
 | tup n h r=>exact ⟨_,rfl,_,_,_,false,rfl,.tup h,rfl,_,rfl,bU q⟩
end
open PySem L2
theorem jY:∀ l:List Bool,inV (.bl false) (l.map V.bl)=l.any fun b=>!b
 | []=>rfl
 | b::r=>by
  have ih:=jY r
  unfold inV at ih ⊢
  rw [List.map_cons,List.any_cons,List.any_cons,ih]
  cases b<;>rfl
theorem cP:∀ l:List Bool,(l.map V.bl).all gm=true
 | []=>rfl
 | b::r=>by rw [List.map_cons,List.all_cons,cP r]; rfl
section
variable {P:Program} {w:World} {K:Frag} {mg:Str→Option Value} {base:Heap} {f g:Addr} {fd gd:FuncData}
end
open PySem L2
abbrev kE:=Str×List Fld
def iU (H:Hp) (v:V) (F:kE):Prop:=∃ a y l b,v=.ref a∧H a=some (.tup [.str F.1,y,l,.str "num",b])∧dk H y F.2
def iY (H:Hp) (v:V) (R:List Rec) (FS:List kE):Prop:=∃ a y b xs,v=.ref a∧H a=some (.tup [y,.ref b])∧gA H y R∧H b=some (.tup xs)∧Paired (iU H) xs FS
theorem iU.mono {H H':Hp} (t:Tk H H') {v:V} {p:kE} (h:iU H v p):iU H' v p:=let ⟨a,y,l,b,e,q,r⟩:=h; ⟨a,y,l,b,e,t _ _ q,r.mono t⟩
theorem iY.mono {H H':Hp} (t:Tk H H') {v:V} {R:List Rec} {FS:List kE} (h:iY H v R FS):iY H' v R FS:=let ⟨a,y,b,xs,e,q,r,s,u⟩:=h; ⟨a,y,b,xs,e,t _ _ q,r.mono t,t _ _ s,Paired.mapP u fun _ _ z=>z.mono t⟩
theorem iY.prog {H:Hp} {v:V} {R:List Rec} {FS:List kE} (h:iY H v R FS):iB H v R:=let ⟨a,y,b,xs,e,q,r,s,u⟩:=h; ⟨a,y,.ref b,e,q,r⟩
section
variable {P:Program} {w:World} {K:Frag} {mg:Str→Option Value} {base:Heap} {f g:Addr} {fd gd:FuncData}
abbrev kK:List Str:=["program", "f", "function"]
theorem eS:aU kK ["program", "f"] (defScope dF):=⟨rfl,rfl,rfl,by decide +kernel,rfl,by decide +kernel,by decide +kernel⟩
def iO (FS:List kE) (z:Str):Option kE:=FS.find? fun F=>decide (F.1=z)
def zT:Sp:=fun vs H Q _=>∃ v z R FS F,vs=[v,.str z]∧iY H v R FS∧iO FS z=some F∧∀ u,iU H u F→Q u H
theorem zV (F:Fun K "function_of" "function_of" dF f fd):bI P w K mg base CX0 1 f fd ["program", "f"] zT:=by
 refine F.ok eS (fun vs H Q E h=>?_) (fun cdv A outer s H vs Q E hr h=>?_)
 ·obtain ⟨v,z,R,FS,F,rfl,_⟩:=h
  rfl
 obtain ⟨v,z,R,FS,FF,rfl,hp,hF,q⟩:=h
 obtain ⟨a,y,b,xs,rfl,ha,_,hb,rs⟩:=hp
 refine ⟨_,(@ak _ _ _ _ _ (@bF _ _ _ _ _ _ _ _ PassesOwn.never rfl (cZ (@aq _ _ _ _ _ _ _ aw (pv 0) ag (fun _ _=>rfl))) (ax (i:=2) eS.nd rfl (Or.inl rfl)) (@ao _ _ _ (@bf _ _ _ _ _ _ _ _ (@aC _ _ _ _ _ _ _ _ bt (@aq _ _ _ _ _ _ _ aw (pv 2) ag (fun _ _=>rfl)) (pv 1) (aD _)) (@ao _ _ _ (@aH _ _ _ _ (pv 2))) aS)) (fun _=>rfl)) (@ao _ _ _ (@aH _ _ _ _ zK))),?_⟩
 refine ⟨_,rfl,a,_,_,_,rfl,rfl,SqT.of ha,rfl,b,rfl,⟨xs,SqT.of hb⟩,dB (xs:=xs) (fun i σ H'=>∃ m,σ=[some (.ref a),some (.str z),m]∧H'=H∧iO (FS.drop i) z=some FF) ⟨none,rfl,rfl,hF⟩ (fun i σ H' _ p=>?_) (fun i x σ H' hx p=>?_) (fun σ H' p=>?_)⟩
 ·obtain ⟨_,_,rfl,_⟩:=p
  exact SqT.of hb
 ·obtain ⟨m,rfl,rfl,e⟩:=p
  obtain ⟨r,hr',hf⟩:=paired_at rs i x hx
  obtain ⟨c,y',l,b',rfl,hc,hfl⟩:=id hf
  obtain ⟨hi,ei⟩:=List.getElem?_eq_some_iff.mp hr'
  rw [List.drop_eq_getElem_cons hi,ei] at e
  unfold iO at e
  rw [List.find?_cons] at e
  refine ⟨_,rfl,c,_,_,_,rfl,rfl,SqT.of hc,rfl,_,rfl,rfl,_,rfl,?_⟩
  refine bh (fun cc=>?_) (fun cc=>?_)
  ·rw [decide_eq_true (eqS cc)] at e
   cases e
   exact ⟨_,rfl,q _ hf⟩
  ·rw [decide_eq_false (neS cc)] at e
   exact ⟨_,rfl,rfl,e⟩
 ·obtain ⟨m,rfl,rfl,e⟩:=p
  rw [Paired.length rs,List.drop_length] at e
  cases e
abbrev kL:List Str:=["program", "f", "told", "param", "path", "sort"]
theorem bY:aU kL ["program", "f"] (defScope dL):=⟨rfl,rfl,rfl,by decide +kernel,rfl,by decide +kernel,by decide +kernel⟩
def ppM (R:List Rec) (n:Nat) (l:List Fld):List bL:=l.flatMap fun p=>(aE R n p.2).map fun q=>(p.1::q.1,q.2)
def AA (n:Nat):Sp:=fun vs H Q _=>∃ v z R FS F,vs=[v,.str z]∧iY H v R FS∧iO FS z=some F∧F.2.length≤3∧n≤4∧(∀ p∈F.2,fj R n p.2)∧∀ r ys H',aA H H'→H r=none→H' r=some (.lst ys)→Paired (bZ H') ys (ppM R n F.2)→Q (.ref r) H'
theorem oF (R:List Rec) (n:Nat) (l:List Fld) (p:Fld):ppM R n (l++[p])=ppM R n l++(aE R n p.2).map fun q=>(p.1::q.1,q.2):=by
 unfold ppM
 rw [List.flatMap_append]
 simp
theorem jt {R:List Rec} {n:Nat} (hn:n≤4) {l:List Fld} (hl:l.length≤3) (hd:∀ p∈l,fj R n p.2):(ppM R n l).length≤243:=by
 have:=ca (l:=l) (g:=fun p=>(aE R n p.2).map fun q=>(p.1::q.1,q.2)) (b:=81) fun p hp'=>by
  rw [List.length_map]
  have:=cA n (hd p hp')
  have:=As hn
  omega
 have:l.length*81≤3*81:=Nat.mul_le_mul_right _ hl
 unfold ppM
 omega
theorem AJ {n:Nat} (F:Fun K "param_parts" "param_parts" dL f fd) (D_function_of:Cal P w K mg base 1 "function_of" ["program", "f"] zT) (D_parts:Cal P w K mg base (n+1) "parts" ["program", "kind"] (fR n)):bI P w K mg base CX0 (n+2) f fd ["program", "f"] (AA n):=by
 obtain ⟨g_function_of,gd_function_of,G_function_of,b_function_of,k_function_of,m_function_of⟩:=D_function_of.ex
 obtain ⟨g_parts,gd_parts,G_parts,b_parts,k_parts,m_parts⟩:=D_parts.ex
 refine F.ok bY (fun vs H Q E h=>?_) (fun cdv A outer s H vs Q E hr h=>?_)
 ·obtain ⟨v,z,R,FS,F,rfl,_⟩:=h
  rfl
 obtain ⟨v,z,R,FS,FF,rfl,hp,hF,hl,hn,hd,q⟩:=h
 refine ⟨_,(@ak _ _ _ _ _ (@aB _ _ 2 _ _ _ _ bY.nd rfl (Or.inl rfl) (@aY _ _ _ _ ah) (ap rfl) (.inr rfl)) (@ak _ _ _ _ _ (@bF _ _ _ _ _ _ _ _ PassesOwn.never rfl (cZ (@aq _ _ _ _ _ _ _ aw (@au _ _ _ _ _ _ _ _ _ _ _ _ _ _ _ _ G_function_of (hr.mono (by omega)) rfl m_function_of k_function_of b_function_of .nil aO (@ad _ _ _ _ _ (pv 0) (@ad _ _ _ _ _ (pv 1) ah (ac rfl)) (ac rfl)) (by decide) (ac rfl) (aj rfl)) ag (fun _ _=>rfl))) (ax (i:=3) bY.nd rfl (Or.inl rfl)) (@ao _ _ _ (@bF _ _ _ _ _ _ _ _ PassesOwn.never rfl (br (@au _ _ _ _ _ _ _ _ _ _ _ _ _ _ _ _ G_parts (hr.mono (by omega)) rfl m_parts k_parts b_parts .nil aO (@ad _ _ _ _ _ (pv 0) (@ad _ _ _ _ _ (@aq _ _ _ _ _ _ _ aw (pv 3) ag (fun _ _=>rfl)) ah (ac rfl)) (ac rfl)) (by decide) (ac rfl) (aj rfl))) (cQ rfl (aV (ax (i:=4) bY.nd rfl (Or.inl rfl)) (aV (ax (i:=5) bY.nd rfl (Or.inl rfl)) cf))) (@ao _ _ _ (@cD _ _ _ _ (@dR _ _ _ _ _ _ _ _ _ _ _ _ PySem.F.plainAttrs_list PySem.F.slot_list_append PySem.F.type_list_append dY (pv 2) (@ad _ _ _ _ _ (@aQ _ _ _ _ _ (@ad _ _ _ _ _ (@aN _ _ _ _ _ _ _ _ jn (@aQ _ _ _ _ _ (@ad _ _ _ _ _ (@aq _ _ _ _ _ _ _ aw (pv 3) ag (fun _ _=>rfl)) ah (ac rfl))) (pv 4)) (@ad _ _ _ _ _ (pv 5) ah (ac rfl)) (ac rfl))) ah (ac rfl)) rfl (cL rfl rfl) rfl (ac rfl) (aj rfl)) (ap rfl))) (fun _=>rfl))) (fun _=>rfl)) (@ao _ _ _ (@aH _ _ _ _ (pv 2))))),?_⟩
 refine ⟨(by show 0≤sizeLine; decide),fun t ht=>?_⟩
 have g0:=af ht (.lst [])
 have hp0:=hp.mono (am g0)
 refine ⟨_,rfl,_,rfl,v,z,R,FS,FF,rfl,hp0,hF,fun u hu=>?_⟩
 obtain ⟨c,y,l,b',rfl,hc,b,xs,rfl,hb,rs⟩:=hu
 have ht1:(upd H t (.lst [])) t=some (.lst []):=ae
 refine ⟨c,_,_,_,rfl,rfl,SqT.of hc,rfl,?_⟩
 generalize (upd H t (.lst []))=H1 at g0 hp0 hc hb rs ht1
 refine ⟨b,rfl,⟨xs,SqT.of hb⟩,dB (xs:=xs) (fun i σ H'=>∃ m3 m4 m5 ys,σ=[some v,some (.str z),some (.ref t),m3,m4,m5]∧Ext t H1 H'∧H' t=some (.lst ys)∧Paired (bZ H') ys (ppM R n (FF.2.take i))) ⟨none,none,none,[],rfl,Ext.refl _ _,ht1,.nil⟩ (fun i σ H' _ p=>?_) (fun i u σ H' hx p=>?_) (fun σ H' p=>?_)⟩
 ·obtain ⟨_,_,_,_,_,x1,_⟩:=p
  exact SqT.of (cg x1 ht1 _ _ hb)
 ·obtain ⟨m3,m4,m5,ys,rfl,x1,hty,py⟩:=p
  obtain ⟨fl,hfl,a,rfl,ha⟩:=paired_at rs i u hx
  have k1:=cg x1 ht1
  have ha1:=k1 _ _ ha
  have dp:=hd fl (List.mem_of_getElem? hfl)
  refine ⟨_,rfl,_,rfl,a,_,_,_,rfl,rfl,SqT.of ha1,rfl,v,fl.2,R,rfl,(hp0.mono k1).prog,by omega,dp,fun r zs H2 g2 hr0 hrz pz=>?_⟩
  have hty2:=g2 _ _ hty
  have hrt:r≠t:=(ar hty hr0).symm
  have el:=cA n dp
  have p3:=As hn
  have yl:ys.length≤243:=by
   rw [Paired.length py]
   exact jt hn (by rw [List.length_take]; omega) fun p hp'=>hd p (List.mem_of_mem_take hp')
  refine ⟨r,rfl,⟨zs,SqL.of hrz⟩,dv (xs:=zs) (fun j σ H'=>∃ n5 n6 ws,σ=[some v,some (.str z),some (.ref t),some (.ref a),n5,n6]∧Ext t H2 H'∧H' t=some (.lst ws) ∧
   Paired (bZ H') ws (ppM R n (FF.2.take i)++((aE R n fl.2).take j).map fun q=>(fl.1::q.1,q.2))) ⟨_,_,ys,rfl,Ext.refl _ _,hty2,by simpa using cz (am g2) py⟩ (fun j σ H' _ p=>?_) (fun j u σ H' hx2 p=>?_) (fun σ H' p=>?_)⟩
  ·obtain ⟨_,_,_,_,x2,_⟩:=p
   exact SqL.of (x2 _ _ hrt hrz)
  ·obtain ⟨n5,n6,ws,rfl,x2,htw,pw⟩:=p
   have k2:=cg x2 hty2
   have haH:=k2 _ _ (g2 _ _ ha1)
   obtain ⟨qq,hqq,hpa⟩:=paired_at pz j u hx2
   obtain ⟨a2,y2,rfl,ha2,a3,rfl,ha3⟩:=hpa.mono k2
   have hm:qq∈aE R n fl.2:=List.mem_of_getElem? hqq
   have pl:=cN n hm
   have wl:ws.length≤900:=by
    rw [Paired.length pw,List.length_append,← Paired.length py,List.length_map,List.length_take]
    omega
   have fin:∀ (u:V) (H5:Hp),aA H' H5→eT H5 u (fl.1::qq.1)→∀ p2,H5 p2=none→(upd H5 p2 (.tup [u,.str qq.2])) t=some (.lst ws)∧∃ n5 n6 ws',([some v,some (.str z),some (.ref t),some (.ref a),some (.ref a3),some (.str qq.2)]:St)=[some v,some (.str z),some (.ref t),some (.ref a),n5,n6] ∧
     Ext t H2 (upd (upd H5 p2 (.tup [u,.str qq.2])) t (.lst (ws++[.ref p2])))∧(upd (upd H5 p2 (.tup [u,.str qq.2])) t (.lst (ws++[.ref p2]))) t=some (.lst ws') ∧
     Paired (bZ (upd (upd H5 p2 (.tup [u,.str qq.2])) t (.lst (ws++[.ref p2])))) ws' (ppM R n (FF.2.take i)++((aE R n fl.2).take (j+1)).map fun q=>(fl.1::q.1,q.2)):=by
    intro u H5 g5 hu p2 hp2
    have e5:(upd H5 p2 (.tup [u,.str qq.2])) t=some (.lst ws):=af hp2 _ _ _ (g5 _ _ htw)
    have k5:Tk H' (upd (upd H5 p2 (.tup [u,.str qq.2])) t (.lst (ws++[.ref p2]))):=((am g5).trans (fg hp2 _)).trans (cy e5 _)
    refine ⟨e5,_,_,_,rfl,((x2.trans (aA.ext g5)).trans (qO hp2 _)).trans Ext.upd,ae,?_⟩
    rw [List.take_add_one,hqq,List.map_append,← List.append_assoc]
    exact Paired.snoc (cz k5 pw) ⟨p2,u,rfl,cy e5 _ _ _ ae,hu.mono ((fg hp2 _).trans (cy e5 _))⟩
   refine ⟨a2,_,rfl,SqT.of ha2,rfl,_,_,rfl,_,_,rfl,rfl,?_⟩
   refine ⟨_,rfl,.inl ⟨rfl,_,SqL.of htw⟩,_,rfl,a,_,_,_,rfl,rfl,SqT.of haH,rfl,(by show 1≤sizeLine; decide),fun p1 hp1=>?_⟩
   have g5:=af hp1 (.tup [.str fl.1])
   refine ⟨_,rfl,p1,a3,_,_,rfl,rfl,SqT.of ae,SqT.of (g5 _ _ ha3),(by simp),?_,fun z=>?_,fun z p3 hp3=>?_⟩
   ·rw [List.length_map]
    exact Nat.le_of_lt (aL (by simp; omega))
   ·have ep:qq.1=[]:=by simpa using z
    refine ⟨_,rfl,(by show 2≤sizeLine; decide),fun p2 hp2=>?_⟩
    obtain ⟨e5,fn⟩:=fin (.ref p1) _ g5 ⟨p1,rfl,by rw [ep]; exact ae⟩ p2 hp2
    exact ⟨t,ws,_,rfl,rfl,e5,aL (by omega),fn⟩
   ·refine ⟨_,rfl,(by show 2≤sizeLine; decide),fun p2 hp2=>?_⟩
    obtain ⟨e5,fn⟩:=fin (.ref p3) _ (g5.trans (af hp3 _)) ⟨p3,rfl,ae⟩ p2 hp2
    exact ⟨t,ws,_,rfl,rfl,e5,aL (by omega),fn⟩
  ·obtain ⟨n5,n6,ws,rfl,x2,htw,pw⟩:=p
   refine ⟨_,_,_,ws,rfl,(x1.trans (aA.ext g2)).trans x2,htw,?_⟩
   rw [Paired.length pz,List.take_length] at pw
   rw [List.take_add_one,hfl]
   show Paired _ ws (ppM R n (FF.2.take i++[fl]))
   rw [oF]
   exact pw
 ·obtain ⟨m3,m4,m5,ys,rfl,x1,hty,py⟩:=p
  refine ⟨_,rfl,q t ys H' (fun b o e=>x1 _ _ (ar e ht) (g0 _ _ e)) ht hty ?_⟩
  rw [Paired.length rs,List.take_length] at py
  exact py
end
open PySem L2
structure Rm where
 a:Int
 b:Int
 c:Int
 d:Int
 e:Int
def Rm.vs (r:Rm):List V:=[.int r.a,.int r.b,.int r.c,.int r.d,.int r.e]
def mf (H:Hp) (v:V) (r:Rm):Prop:=∃ p,v=.ref p∧H p=some (.tup r.vs)
theorem mf.mono {H H':Hp} (t:Tk H H') {v:V} {r:Rm} (h:mf H v r):mf H' v r:=let ⟨a,e,q⟩:=h; ⟨a,e,t _ _ q⟩
def cO (lo hi i:Int):Bool:=decide (lo≤i)&&decide (i≤hi)
section
variable {P:Program} {w:World} {K:Frag} {mg:Str→Option Value} {base:Heap} {f g:Addr} {fd gd:FuncData}
end
open PySem L2
def PL3:List Str:=["num", "row", "text"]
theorem pl3 (k:Str):k∈PL3↔k∈PL:=by
 simp only [PL3,PL,List.mem_cons,List.not_mem_nil,or_false]
 constructor<;>(intro h; rcases h with h | h | h<;>simp [h])
theorem iG (r:Rec) (R:List Rec) (k:Str):look (r::R) k=if r.1=k then r.2 else look R k:=by
 unfold look
 rw [List.find?_cons]
 by_cases q:r.1=k
 ·rw [if_pos q,decide_eq_true q]; rfl
 ·rw [if_neg q,decide_eq_false q]
def NF (H:Hp) (p:Str×V) (r:Rec):Prop:=p.1=r.1∧dk H p.2 r.2
theorem kC {K:Frag} {H:Hp}:∀ {xs:List V} {R:List Rec},Paired (iW H) xs R→∃ ps:List (Str×V),Paired (rh K H) xs ps∧Paired (NF H) ps R
 | _,_,.nil=>⟨[],.nil,.nil⟩
 | _,_,.cons h t=>by
  obtain ⟨a,y,rfl,ha,hf⟩:=h
  obtain ⟨ps,h1,h2⟩:=kC (K:=K) t
  exact ⟨(_,y)::ps,.cons ⟨a,rfl,SqT.of ha⟩ h1,.cons ⟨rfl,hf⟩ h2⟩
theorem iN {H:Hp}:∀ {ps:List (Str×V)} {R:List Rec},Paired (NF H) ps R→ps.map (·.1)=R.map (·.1)
 | _,_,.nil=>rfl
 | _,_,.cons h t=>by rw [List.map_cons,List.map_cons,h.1,iN t]
theorem jN {H:Hp} {k:Str}:∀ {ps:List (Str×V)} {R:List Rec},Paired (NF H) ps R→look R k≠[]→∃ v,((ps.map fun p=>((Sum.inr p.1:Key),p.2)).find? fun kv=>decide (kv.1=Sum.inr k)).map (·.2)=some v∧dk H v (look R k)
 | _,_,.nil,h=>absurd rfl h
 | _,_,.cons (a:=p) (b:=r) q t,h=>by
  rw [iG] at h ⊢
  rw [List.map_cons,List.find?_cons]
  by_cases e:r.1=k
  ·rw [if_pos e]
   have e2:decide ((Sum.inr p.1:Key)=Sum.inr k)=true:=decide_eq_true (by rw [q.1,e])
   simp only [e2]
   exact ⟨p.2,rfl,q.2⟩
  ·rw [if_neg e] at h ⊢
   have e2:decide ((Sum.inr p.1:Key)=Sum.inr k)=false:=decide_eq_false (fun z=>e (by have:=Sum.inr.inj z; rw [← q.1]; exact this))
   simp only [e2]
   exact jN t h
theorem fj.ne {R:List Rec} {n:Nat} {k:Str} (h:fj R n k) (hk:k∉PL):look R k≠[]:=by
 cases n with
 | zero=>exact h.elim
 | succ n =>
  rcases h with z | ⟨_,_,⟨h1,_⟩,_⟩
  ·exact absurd z hk
  ·intro e
   rw [e] at h1
   simp at h1
theorem xr {K:Frag} {H:Hp} {v:V} {R:List Rec} {k:Str} (hR:gA H v R) (hnd:(R.map (·.1)).Nodup) (hl:R.length≤1000) (hne:look R k≠[]) :
  ∃ b xs ps u,v=.ref b∧H b=some (.tup xs)∧xs.length≤1000∧(List.map (fun q:Str×V=>q.1) ps).Nodup∧Paired (rh K H) xs ps∧((ps.map fun p=>((Sum.inr p.1:Key),p.2)).find? fun kv=>decide (kv.1=Sum.inr k)).map (·.2)=some u∧dk H u (look R k):=by
 obtain ⟨b,xs,rfl,hb,rs⟩:=hR
 obtain ⟨ps,pp1,pp2⟩:=kC (K:=K) rs
 obtain ⟨yv,efind,hf⟩:=jN (k:=k) pp2 hne
 exact ⟨b,xs,ps,yv,rfl,hb,by rw [Paired.length rs]; exact hl,by rw [iN pp2]; exact hnd,pp1,efind,hf⟩
theorem xx {α:Type} {xs:List α} {j:Nat} {v:α} (h:xs[j]?=some v):atI xs (0+(j:Int))=some v:=by rw [Int.zero_add]; exact qJ h
theorem not_false (l:List Bool):(if true=true then !inV (.bl false) (l.map V.bl) else inV (.bl false) (l.map V.bl))=l.all id:=by
 rw [if_pos rfl,jY]
 induction l with
 | nil=>rfl
 | cons b r ih=>rw [List.any_cons,List.all_cons,Bool.not_or,ih]; cases b<;>rfl
section
variable {P:Program} {w:World} {K:Frag} {mg:Str→Option Value} {base:Heap} {f g:Addr} {fd gd:FuncData}
end
end K6
namespace L2
open PySem PySem.Spec PyProof.Rows
section
variable {X:Cx}
def wY:V→List V→Hp→VK→Prop:=fun x vs H Q=>∃ l xs i y,x=.ref l∧vs=[.int i,y]∧H l=some (.lst xs)∧0≤i∧i≤1000∧xs.length<sizeLine∧Q .non (upd H l (.lst (xs.take i.toNat++y::xs.drop i.toNat)))
theorem su:MtM X "list.insert" wY:=by
 intro pins s σ H x vs v us Q I rx rv h
 obtain ⟨l,xs,i,y,rfl,rfl,hH,h0,h1,hz,q⟩:=h
 cases rx
 obtain ⟨u,w,rfl,⟨t,rfl⟩,rw'⟩:=mZ rv
 obtain ⟨z,its,n,r,hl,e⟩:=I.lstM hH
 refine call_meets F.slot_list_insert ⟨_,e,rfl⟩ F.entry_list_insert (F.args_list_insert_3 _ _ _) (AutoListH.list_insert_list_int_val_1 l its.toArray n i t w (by rw [show Builtin.List.listFitsIndex i=true from fitsIndex_both (by omega) (by omega)]; decide) (by rw [List.size_toArray]; omega)) ⟨e,?_⟩
 refine ⟨.non,_,I.lset (its':=its.take i.toNat++w::its.drop i.toNat) hH e ?_ ((r.take _).append (.cons rw' (r.drop _))) ?_,rfl,q⟩
 ·dsimp only
  rw [if_neg (by omega)]
  apply Array.toList_inj.mp
  simp only [Array.toList_append,Array.toList_push,Array.toList_extract,List.size_toArray,List.extract_eq_drop_take,List.drop_zero,Nat.sub_zero,List.append_assoc,List.singleton_append]
  by_cases hi:i.toNat≤its.length
  ·rw [Nat.min_eq_left hi,List.take_of_length_le (l:=its.drop i.toNat) (by rw [List.length_drop]; omega)]
  ·rw [Nat.min_eq_right (by omega),List.take_of_length_le (l:=its) (i:=its.length) (Nat.le_refl _),List.take_of_length_le (l:=its) (i:=i.toNat) (by omega),List.drop_eq_nil_of_le (as:=its) (i:=its.length) (Nat.le_refl _),List.drop_eq_nil_of_le (as:=its) (i:=i.toNat) (by omega)]
   simp
 ·rw [List.length_append,List.length_cons,List.length_take,List.length_drop]
  omega
theorem jU:∀ {ns:List Int} {us:List Value},aR (ns.map V.int) us→∃ xs:List (Int×Tok),us.toArray=intItems xs.toArray∧xs.map (·.1)=ns
 | [],_,r=>by cases r; exact ⟨[],by simp [intItems],rfl⟩
 | i::ns,_,r=>by
  cases r with
  | cons a b =>
   obtain ⟨t,rfl⟩:=a
   obtain ⟨xs,e1,e2⟩:=jU b
   refine ⟨(i,t)::xs,?_,by rw [List.map_cons,e2]⟩
   apply Array.toList_inj.mp
   have e3:=congrArg Array.toList e1
   simp only [intItems,Array.toList_map,List.map_cons] at e3 ⊢
   rw [e3]
def Bj (K:Frag):List V→Hp→VK→Prop:=fun xs H Q=>∃ (l:Addr) (ns:List Int),xs=[.ref l]∧SqL K H l (ns.map V.int)∧Q (.int ns.sum) H
theorem uf (hc:X.calm=true):bW X (.builtin "sum") (Bj X.K):=by
 intro pins s σ H xs us Q I r h
 obtain ⟨l,ns,rfl,hl,q⟩:=h
 obtain ⟨u,rfl,rx⟩:=eN r
 cases rx
 obtain ⟨its,ri,pl,hz⟩:=I.list hl
 obtain ⟨ps,e1,e2⟩:=jU ri
 have hl':=pl.isList
 rw [e1] at hl'
 refine sum_intListG (I.ok.hd hc) hl' fun h' tk t' hk=>?_
 refine ⟨.int ns.sum,H,I.kept (t':=tk) hk,⟨t',?_⟩,q⟩
 rw [preSum_eq,List.take_of_length_le (by simp),e2]
theorem nQ:∀ {vs:List V} {us:List Value},vs.length=us.length→(∀ (j:Nat) (u:Value),us[j]?=some u→∃ v,vs[j]?=some v∧aX v u)→aR vs us
 | [],[],_,_=>.nil
 | [],_::_,h,_=>by simp at h
 | _::_,[],h,_=>by simp at h
 | v::vs,u::us,h,k=>by
  obtain ⟨v',e,r⟩:=k 0 u rfl
  have e':v=v':=by simpa using e
  subst e'
  exact .cons r (nQ (by simpa using h) fun j u' hu=>by simpa using k (j+1) u' (by simpa using hu))
def Av:List V→Hp→VK→Prop:=fun xs H Q=>∃ i j,xs=[.int i,.int j]∧∀ p,H p=none→Q (.ref p) (upd H p (.rng i j))
theorem sT:bW X (.type "range") Av:=by
 intro pins s σ H xs us Q I r h
 obtain ⟨i,j,rfl,q⟩:=h
 obtain ⟨u,w',rfl,⟨t,rfl⟩,⟨t',rfl⟩⟩:=mZ r
 refine call_range_2 ⟨.ref s.heap.objs.size,_,I.laid (o:=.rng i j) (t':=s.toks+1) (fun b ob q=>Heap.get?_push_of_some _ q) (Nat.le_refl _) ?_,rfl,q _ (I.hok.fresh (Nat.le_refl _))⟩
 exact ⟨t,t',s.toks,Heap.get?_push_size _ rfl⟩
def intsFrom (i:Int) (n:Nat):List Int:=(List.range n).map fun (k:Nat)=>i+(k:Int)
def yz:List V→Hp→VK→Prop:=fun xs H Q=>∃ p i j,xs=[.ref p]∧H p=some (.rng i j)∧-1000≤i∧i≤j∧j≤1000∧∀ l,H l=none→Q (.ref l) (upd H l (.lst ((intsFrom i (j - i).toNat).map V.int)))
theorem oQ (hc:X.calm=true):bW X (.type "list") yz:=by
 intro pins s σ H xs us Q I r h
 obtain ⟨p,i,j,rfl,hp,h1,h2,h3,q⟩:=h
 obtain ⟨u,rfl,rx⟩:=eN r
 cases rx
 obtain ⟨t,u,v,e⟩:=(show bm X.prog X.w H s.heap p (.rng i j) from I.hok p _ hp)
 have hn:Builtin.Range.rangeSize i j 1=(((j - i).toNat:Nat):Int):=by rw [rangeSize_one]; split<;>omega
 refine call_list_range (n:=(j - i).toNat) (I.ok.hd hc) (show IsRange s.heap p i j 1 t u v from e) (small_one (by omega) (by omega) (by omega) (by omega)) hn (by omega) fun h' tk acc c kp ea hacc=>?_
 refine ⟨.ref s.heap.objs.size,_,I.laid (t':=tk) kp (Nat.le_refl _) (show bm X.prog X.w _ h' _ (.lst ((intsFrom i (j - i).toNat).map V.int)) from ⟨?_,acc.toList,c,?_,by simpa using ea⟩),rfl,q _ (I.hok.fresh (Nat.le_refl _))⟩
 ·unfold intsFrom
  rw [List.length_map,List.length_map,List.length_range,sizeLine_eq]
  omega
 ·have hl:((intsFrom i (j - i).toNat).map V.int).length=acc.toList.length:=by
   unfold intsFrom
   rw [List.length_map,List.length_map,List.length_range,Array.length_toList,hacc.1]
  refine nQ hl fun k w hw=>?_
  obtain ⟨t,rfl⟩:=hacc.2 k w (by rw [← Array.getElem?_toList]; exact hw)
  have hk:k<(j - i).toNat:=by
   have:=(List.getElem?_eq_some_iff.mp hw).1
   rw [Array.length_toList,hacc.1] at this
   exact this
  refine ⟨.int (i+(k:Int)),?_,⟨t,by simp⟩⟩
  unfold intsFrom
  rw [List.getElem?_map,List.getElem?_map,List.getElem?_range hk]
  rfl
end
end L2
namespace K6
open PySem L2
section
variable {P:Program} {w:World} {K:Frag} {mg:Str→Option Value} {base:Heap} {f g:Addr} {fd gd:FuncData}
end
open PySem L2
structure wS (R:List Rec) (FS:List kE):Prop where
 rn:(R.map (·.1)).Nodup
 rl:R.length≤2
 fn:(FS.map (·.1)).Nodup
 fl:∀ F∈FS,F.2.length≤3∧∀ p∈F.2,fj R 4 p.2
theorem nT {F:kE}:∀ {FS:List kE} {i:Nat},(FS.map (·.1)).Nodup→FS[i]?=some F→iO FS F.1=some F
 | [],_,_,h=>nomatch h
 | G::r,0,_,h=>by
  cases Option.some.inj h
  unfold iO
  rw [List.find?_cons_of_pos (by simp)]
 | G::r,i+1,n,h=>by
  have n':=List.nodup_cons.mp n
  have:F∈r:=List.mem_of_getElem? h
  have ne:G.1≠F.1:=fun e=>n'.1 (by show G.1∈_; rw [e]; exact List.mem_map_of_mem this)
  unfold iO
  rw [List.find?_cons_of_neg (by simpa using ne)]
  exact nT n'.2 h
theorem yR {α:Type} {xs:List α} {i:Nat} {x:α} (h:xs[i]?=some x):atI xs (i:Int)=some x:=by
 have:=xx (j:=i) h
 rwa [Int.zero_add] at this
section
variable {P:Program} {w:World} {K:Frag} {mg:Str→Option Value} {base:Heap} {f g:Addr} {fd gd:FuncData}
end
open PySem L2
theorem Paired.app {α β:Type} {F:α→β→Prop}:∀ {l l2:List α} {m m2:List β},Paired F l m→Paired F l2 m2→Paired F (l++l2) (m++m2)
 | _,_,_,_,.nil,q=>q
 | _,_,_,_,.cons h r,q=>.cons h (Paired.app r q)
abbrev L3:List V:=[V.str (Str.ofString "num"),V.str (Str.ofString "row"),V.str (Str.ofString "text")]
section
variable {P:Program} {w:World} {K:Frag} {mg:Str→Option Value} {base:Heap} {f g:Addr} {fd gd:FuncData}
abbrev lu:List Str:=["_law_records", "_law_kind", "_law_found", "_law_field", "_law_own"]
abbrev gX:List Str:=["_law_path", "_law_sort", "_law_field"]
theorem gj:gX.Nodup:=by decide +kernel
theorem eA:aU lu ["_law_records", "_law_kind"] (defScope dW):=⟨rfl,rfl,rfl,by decide +kernel,rfl,by decide +kernel,by decide +kernel⟩
abbrev pSo:List Str:=["_law_records", "_law_kind"]
def eE (n:Nat):Sp:=fun vs H Q _=>∃ v k R,vs=[v,.str k]∧gA H v R∧(R.map (·.1)).Nodup∧R.length≤1000∧n≤4∧fj R n k∧∀ r ys H',aA H H'→H r=none→H' r=some (.lst ys)→Paired (bZ H') ys (aE R n k)→Q (.ref r) H'
theorem wk {n:Nat} (T:G0 mg) (F:Fun K "_law_sorts" "_law_sorts" dW f fd) (D_l_sorts:Cal P w K mg base (n+1) "_law_sorts" pSo (eE n)):bI P w K mg base CX0 (n+2) f fd pSo (eE (n+1)):=by
 obtain ⟨g_l_sorts,gd_l_sorts,G_l_sorts,b_l_sorts,k_l_sorts,m_l_sorts⟩:=D_l_sorts.ex
 refine F.ok eA (fun vs H Q E h=>?_) (fun cdv A outer s H vs Q E hr h=>?_)
 ·obtain ⟨v,k,R,rfl,_⟩:=h
  rfl
 obtain ⟨v,k,R,rfl,hRc,hnd,hlR,hn,hd,q⟩:=h
 refine ⟨_,(@ak _ _ _ _ _ (@aB _ _ 2 _ _ _ _ eA.nd rfl (Or.inl rfl) (@aY _ _ _ _ ah) (ap rfl) (.inr rfl)) (@ak _ _ _ _ _ (@bf _ _ _ _ _ _ _ _ (@aC _ _ _ _ _ _ _ _ fU (pv 1) (@aY _ _ _ _ (@ad _ _ _ _ _ aF (@ad _ _ _ _ _ aF (@ad _ _ _ _ _ aF ah (ac rfl)) (ac rfl)) (ac rfl))) rfl) (@ao _ _ _ (@aH _ _ _ _ (@aY _ _ _ _ (@ad _ _ _ _ _ (@aQ _ _ _ _ _ (@ad _ _ _ _ _ (@aQ _ _ _ _ _ ah) (@ad _ _ _ _ _ (pv 1) ah (ac rfl)) (ac rfl))) ah (ac rfl))))) aS) (@ak _ _ _ _ _ (@bF _ _ _ _ _ _ _ _ PassesOwn.never rfl (cZ (@aq _ _ _ _ _ _ _ xy (@bq _ _ _ _ _ _ _ _ _ (pJ rfl) rfl T.dict yB (@ad _ _ _ _ _ (pv 0) ah (ac rfl)) (by decide) (by decide) (ac rfl) (aj rfl)) (pv 1) (fun _ _=>rfl))) (cQ rfl (aV (ax (i:=3) eA.nd rfl (Or.inr rfl)) (aV (ax (i:=4) eA.nd rfl (Or.inl rfl)) cf))) (@ao _ _ _ (@cD _ _ _ _ (@dR _ _ _ _ _ _ _ _ _ _ _ _ PySem.F.plainAttrs_list PySem.F.slot_list_extend PySem.F.type_list_extend fQ (pv 2) (@ad _ _ _ _ _ (bM (N':=gX) (ρ:=[none,none,some 3]) (m:=2) (bH.of (fs:=defScope dW) (N:=lu) rfl rfl (by decide +kernel)) rfl (br (au G_l_sorts (hr.mono (by omega)) rfl m_l_sorts k_l_sorts b_l_sorts .nil aO (ad (pv 0) (ad (pv 4) ah)))) (fun _ _ _ _=>(qW (n:=2) (K:=K) rfl rfl (aV (ax (i:=0) gj rfl (Or.inl rfl)) (aV (ax (i:=1) gj rfl (Or.inl rfl)) cf)))) (fun _ _ _ _=>bu) (fun _ _ _ _=>(aQ (ad (aN (nS (K:=K) rfl) (aQ (ad (pv 2) ah)) (pv 0)) (ad (pv 1) ah))))) ah (ac rfl)) rfl (cL rfl rfl) rfl (ac rfl) (aj rfl)) (ap rfl))) (fun _=>rfl)) (@ao _ _ _ (@aH _ _ _ _ (pv 2)))))),?_⟩
 refine ⟨(by show 0≤sizeLine; decide),fun t ht=>?_⟩
 have g0:=af ht (.lst [])
 refine ⟨_,rfl,(by show 3≤sizeLine; decide),fun l3 h3=>?_⟩
 have g1:=g0.trans (af h3 (.lst (L3)))
 refine ⟨l3,L3,rfl,.inl (SqL.of ae),rfl,(by decide +kernel),_,rfl,?_⟩
 have ht1:(upd (upd H t (.lst [])) l3 (.lst (L3))) t=some (.lst []):=af h3 _ _ _ ae
 refine bh (fun c=>?_) (fun c=>?_)
 ·have ck:k∈PL:=(pl3 k).mp (of_decide_eq_true ((fZ k PL3).symm.trans c))
  refine ⟨(by show 0≤sizeLine; decide),fun p1 h1=>⟨_,rfl,(by show 2≤sizeLine; decide),fun p2 h2=>⟨(by show 1≤sizeLine; decide),fun r h3=>?_⟩⟩⟩
  have t1:=fg h2 (.tup [.ref p1,.str k])
  have t2:=fg h3 (.lst [.ref p2])
  refine q r _ _ (g1.trans (((af h1 _).trans (af h2 _)).trans (af h3 _))) ?_ ae ?_
  ·exact g1.free ((af h1 _).free ((af h2 _).free h3))
  ·unfold aE
   rw [if_pos ck]
   exact .cons ⟨p2,.ref p1,rfl,t2 _ _ ae,p1,rfl,t2 _ _ (t1 _ _ ae)⟩ .nil
 have ck:k∉PL:=fun z=>c ((fZ k PL3).trans (decide_eq_true ((pl3 k).mpr z)))
 have hdk:=hd
 rcases hd with z | ⟨_,_,⟨_,hl⟩,hd⟩
 ·exact absurd z ck
 generalize (upd (upd H t (.lst [])) l3 (.lst (L3)))=H1 at g1 ht1
 obtain ⟨b0,xs0,ps,fv,rfl,hb0,hl0,hnd0,pp1,efind,hfl⟩:=xr (K:=K) (hRc.mono (am g1)) hnd hlR (hdk.ne ck)
 refine ⟨_,rfl,b0,xs0,ps,rfl,hb0,hl0,hnd0,pp1,fun dl hdl=>?_⟩
 have g2:=af hdl (.dK (ps.map fun p=>(Sum.inr p.1,p.2)))
 obtain ⟨b,fs,rfl,hb,rf⟩:=hfl.mono (am g2)
 have lf:=Paired.length rf
 refine ⟨_,rfl,dl,_,k,_,rfl,rfl,ae,efind,?_⟩
 have ht2:=g2 _ _ ht1
 have G2:=g1.trans g2
 generalize (upd H1 dl (.dK (ps.map fun p=>(Sum.inr p.1,p.2))))=H2 at G2 hb rf ht2
 have hlen:∀ i,((look R k).take i).length≤3:=fun i=>by rw [List.length_take]; omega
 have p3:(3:Nat) ^ n≤81:=by
  calc 3 ^ n≤3 ^ 4:=Nat.pow_le_pow_right (by decide) (by omega)
   _=81:=by decide
 refine ⟨b,rfl,⟨fs,SqT.of hb⟩,dB (xs:=fs) (fun i σ H'=>∃ m3 m4 ys,σ=[some (.ref b0),some (.str k),some (.ref t),m3,m4]∧Ext t H2 H'∧H' t=some (.lst ys) ∧
   Paired (bZ H') ys (((look R k).take i).flatMap fun p=>(aE R n p.2).map fun q=>(p.1::q.1,q.2))) ⟨none,none,[],rfl,Ext.refl _ _,ht2,.nil⟩ (fun i σ H' _ p=>?_) (fun i u σ H' hx p=>?_) (fun σ H' p=>?_)⟩
 ·obtain ⟨_,_,_,_,x1,_⟩:=p
  exact SqT.of (cg x1 ht2 _ _ hb)
 ·obtain ⟨m3,m4,ys,rfl,x1,hty,py⟩:=p
  obtain ⟨fl,hfl,a,rfl,ha⟩:=paired_at rf i u hx
  have k1:=cg x1 ht2
  have dp:=hd fl (List.mem_of_getElem? hfl)
  refine ⟨a,_,rfl,SqT.of (k1 _ _ ha),rfl,_,_,rfl,_,_,rfl,rfl,?_⟩
  refine ⟨_,rfl,.inl ⟨rfl,_,SqL.of hty⟩,_,rfl,_,rfl,_,fl.2,R,rfl,(hRc.mono (am G2)).mono k1,hnd,hlR,by omega,dp,fun r zs H3 g3 hr0 hrz pz=>?_⟩
  have el:=cA n dp
  have lz:=Paired.length pz
  have len1:ys.length≤243:=by
   rw [Paired.length py]
   have:=ca (l:=(look R k).take i) (g:=fun p=>(aE R n p.2).map fun q=>(p.1::q.1,q.2)) (b:=81) fun p hp'=>by
    rw [List.length_map]
    have:=cA n (hd p (List.mem_of_mem_take hp'))
    omega
   have h3:=hlen i
   have:((look R k).take i).length*81≤3*81:=Nat.mul_le_mul_right _ h3
   omega
  refine ⟨r,rfl,⟨zs,SqL.of hrz⟩,bn (xs:=zs) zs.length rfl (by omega) (fun j acc H'=>aA H3 H'∧Paired (bZ H') acc (((aE R n fl.2).take j).map fun q=>(fl.1::q.1,q.2))) ⟨aA.refl _,.nil⟩ (fun j acc H' p=>SqL.of (p.1 _ _ hrz)) (fun j acc H' x hj la hx2 p=>?_) (fun acc H' p la D hD=>?_)⟩
  ·obtain ⟨g4,pa⟩:=p
   obtain ⟨qq,hqq,hpa⟩:=paired_at pz j x hx2
   obtain ⟨a2,y2,rfl,ha2,a3,rfl,ha3⟩:=hpa.mono (am g4)
   have hm:qq∈aE R n fl.2:=List.mem_of_getElem? hqq
   have pl:=cN n hm
   have fin:∀ (u:V) (H5:Hp),aA H' H5→eT H5 u (fl.1::qq.1)→∀ p2,H5 p2=none→aA H3 (upd H5 p2 (.tup [u,.str qq.2]))∧Paired (bZ (upd H5 p2 (.tup [u,.str qq.2]))) (acc++[.ref p2]) (((aE R n fl.2).take (j+1)).map fun q=>(fl.1::q.1,q.2)):=by
    intro u H5 g5 hu p2 hp2
    have g6:=af hp2 (.tup [u,.str qq.2])
    refine ⟨(g4.trans g5).trans g6,?_⟩
    rw [List.take_add_one,hqq,List.map_append]
    exact Paired.snoc (cz (am (g5.trans g6)) pa) ⟨p2,u,rfl,ae,hu.mono (am g6)⟩
   refine ⟨a2,_,rfl,SqT.of ha2,rfl,_,_,rfl,_,_,rfl,rfl,⟨rfl,rfl⟩,bo ?_⟩
   refine ⟨_,rfl,(by show 1≤sizeLine; decide),fun p1 hp1=>?_⟩
   have g5:=af hp1 (.tup [.str fl.1])
   refine ⟨_,rfl,.inl ⟨p1,a3,_,_,rfl,rfl,SqT.of ae,SqT.of (g5 _ _ ha3),(by simp),?_,fun z=>?_,fun z p3 hp3=>?_⟩⟩
   ·rw [List.length_map]
    exact Nat.le_of_lt (aL (by simp; omega))
   ·have ep:qq.1=[]:=by simpa using z
    refine ⟨_,rfl,(by show 2≤sizeLine; decide),fun p2 hp2=>?_⟩
    exact nxT (by omega) hj la (fin (.ref p1) _ g5 ⟨p1,rfl,by rw [ep]; exact ae⟩ p2 hp2)
   ·refine ⟨_,rfl,(by show 2≤sizeLine; decide),fun p2 hp2=>?_⟩
    exact nxT (by omega) hj la (fin (.ref p3) _ (g5.trans (af hp3 _)) ⟨p3,rfl,ae⟩ p2 hp2)
  ·obtain ⟨g4,pa⟩:=p
   have g5:=af hD (.lst acc)
   have htD:=g5 _ _ (g4 _ _ (g3 _ _ hty))
   have gg:=(g3.trans g4).trans g5
   have kt:=cy htD (.lst (ys++acc))
   refine ⟨t,D,ys,acc,rfl,rfl,htD,ae,Nat.le_of_lt (aL (by omega)),?_⟩
   refine ⟨_,_,ys++acc,rfl,(x1.trans (aA.ext gg)).trans Ext.upd,ae,?_⟩
   rw [List.take_add_one,hfl,List.flatMap_append]
   rw [lz,List.take_length] at pa
   have:=Paired.app (cz ((am gg).trans kt) py) (cz ((am g5).trans kt) pa)
   simpa using this
 ·obtain ⟨m3,m4,ys,rfl,x1,hty,py⟩:=p
  refine ⟨_,rfl,q t ys H' (fun b o e=>?_) ht hty ?_⟩
  ·exact x1 _ _ (ar e ht) (G2 _ _ e)
  ·unfold aE
   rw [if_neg ck]
   rw [Paired.length rf,List.take_length] at py
   exact py
theorem tZ:bI P w K mg base CX0 1 f fd pSo (eE 0):=by
 have no:∀ vs H Q E,¬ eE 0 vs H Q E:=fun vs H Q E h=>by
  obtain ⟨v,k,R,_,_,_,_,_,h1,_⟩:=h
  exact h1
 exact ⟨fun vs H Q E h=>absurd h (no vs H Q E),fun A outer s H args us vs Q E _ _ _ _ h=>absurd h (no vs H Q E)⟩
theorem lE (T:G0 mg) (F:Fun K "_law_sorts" "_law_sorts" dW f fd) (b:ib K fd pSo []) (m:mg "_law_sorts"=some (.ref f)):∀ n:Nat,bI P w K mg base CX0 (n+1) f fd pSo (eE n)
 | 0=>tZ
 | n+1=>wk T F ⟨f,fd,lE T F b m n,b,F.kp,m⟩
end
end K6
namespace L2
open PySem PySem.W PySem.Calls PySem.Spec PyProof.Rows
section
variable {prog:Program} {w:World}
end
section
variable {X:Cx}
end
end L2
namespace K6
open PySem L2
theorem cu {H:Hp}:∀ {v:List V} {d:List PyData},bP H v d→v.length=d.length
 | _,_,.nil=>rfl
 | _,_,.cons h r=>by rw [List.length_cons,List.length_cons,cu r]
theorem db {H:Hp}:∀ {v v2:List V} {d d2:List PyData},bP H v d→bP H v2 d2→bP H (v++v2) (d++d2)
 | _,_,_,_,.nil,q=>q
 | _,_,_,_,.cons h r,q=>.cons h (db r q)
theorem eU {H:Hp}:∀ {v:List V} {d:List PyData},bP H v d→∀ (i:Nat) (x:V),v[i]?=some x→∃ e,d[i]?=some e∧KAt H x e
 | _,_,.nil,_,_,h=>nomatch h
 | _,_,.cons q r,0,x,h=>by cases Option.some.inj h; exact ⟨_,rfl,q⟩
 | _,_,.cons q r,i+1,x,h=>eU r i x h
section
variable {P:Program} {w:World} {K:Frag} {mg:Str→Option Value} {base:Heap} {f g:Addr} {fd gd:FuncData}
end
end K6
namespace L2
open PySem PySem.Spec PyProof.Rows
theorem fW:∀ {ts:List Str} {us:List Value},aR (ts.map V.str) us→∃ l:List (Str×Tok),us=strValues l∧l.map (·.1)=ts
 | [],_,.nil=>⟨[],rfl,rfl⟩
 | t::ts,_,.cons r q=>by
  obtain ⟨k,rfl⟩:=r
  obtain ⟨l,rfl,e⟩:=fW q
  exact ⟨(t,k)::l,rfl,by rw [List.map_cons,e]⟩
def jl (sep:Str) (ts:List Str):Nat:=(ts.map (·.length)).sum+ts.length*sep.length
theorem qN {sep:Str} {ts:List Str} (h:jl sep ts≤sizeLine):Builtin.Str.tooLong (ts.toArray.foldl (·+·.length+sep.length) 0)=false:=by
 rw [StrLaws.joinTotal]
 unfold Builtin.Str.tooLong
 unfold jl at h
 exact decide_eq_false (Nat.not_lt.mpr h)
section
variable {X:Cx}
def xU (K:Frag):V→List V→Hp→VK→Prop:=fun x vs H Q=>∃ sep a,∃ ts:List Str,x=.str sep∧vs=[.ref a]∧(SqL K H a (ts.map V.str)∨SqT K H a (ts.map V.str))∧jl sep ts≤sizeLine∧Q (.str (Str.join sep ts)) H
theorem rD:MtR X "str.join" (xU X.K):=by
 intro pins s σ H x vs v us Q I rx rv h
 obtain ⟨sep,a,ts,rfl,rfl,hq,hz,q⟩:=h
 obtain ⟨t,rfl⟩:=rx
 obtain ⟨u,rfl,ru⟩:=rv.one
 cases ru
 have fin:∀ (l:List (Str×Tok)),l.map (·.1)=ts→∀ (v:Value) (s':Shared),((∃ t' k,v=.str (Txt.join sep ts) t'∧s'={ s with toks:=k }))→EP X pins σ Q v s':=by
  rintro l hl v s' ⟨t',k,rfl,rfl⟩
  refine ⟨.str (Str.join sep ts),H,I.tok _,⟨t',?_⟩,q⟩
  show Value.str (Builtin.Str.glued sep ts) t'=_
  rw [StrLaws.glued_eq_join]
 rcases hq with hq | hq
 ·obtain ⟨its,r,pl,_⟩:=I.list hq
  obtain ⟨l,rfl,hl⟩:=fW r
  refine call_meets F.slot_str_join (typeIs_str _ _ _) F.entry_str_join (F.args_str_join_2 _ _) (meets_str_join_list sep t a l (by rw [hl]; exact qN hz)) ⟨pl.isList,?_⟩
  refine post_join l ⟨by rw [hl]; exact joinFit_length (qN hz),fun t' k=>?_⟩
  exact fin l hl _ _ ⟨t',k,by rw [hl],rfl⟩
 ·obtain ⟨its,r,pl,_⟩:=I.tuple hq
  obtain ⟨l,rfl,hl⟩:=fW r
  obtain ⟨o,ho,hc,n,hd⟩:=id pl
  refine call_meets F.slot_str_join (typeIs_str _ _ _) F.entry_str_join (F.args_str_join_2 _ _) (meets_str_join_tuple sep t a l (by rw [hl]; exact qN hz)) ⟨⟨o,n,ho,hc,hd⟩,?_⟩
  refine post_join l ⟨by rw [hl]; exact joinFit_length (qN hz),fun t' k=>?_⟩
  exact fin l hl _ _ ⟨t',k,by rw [hl],rfl⟩
end
theorem ui {X:Cx} {K:Frag} {o e:Expr} {to te:TE} {apos cpos:Pos} (hK:X.K=K) (ho:PE X o to) (he:PE X e te)
  (hbase:attributeBase o "join" X.env (eval o X.env)=eval o X.env:=by rfl) (hline:(apos.endLine==cpos.line)=true:=by rfl)
  (hfew:((backTo cpos (starEach [e] X.env)).all (fun x=>!x.1)&&(backToKw cpos (keywordEach [] X.env)).all (fun x=>x.1.isSome)
  &&decide ([e].length+([]:List Keyword).length+(if ([]:List Keyword).isEmpty then 0 else 1)<30))=true:=by exact cL rfl rfl)
  (hs:starEach [e] X.env=(false,eval e X.env)::starEach [] X.env:=by exact ac rfl) (hplain:(backTo cpos (starEach [] X.env)).any (·.1)=false:=by exact aj rfl) :
  PE X (.Call (.Attribute o "join" apos) [e] [] cpos) (tBM K "str" (xU K) to (xH te AG)):=by
 subst hK
 exact dR PySem.F.plainAttrs_str PySem.F.slot_str_join PySem.F.type_str_join rD ho (ad he ah hs) hbase hfew hline hs hplain
end L2
namespace K6
open PySem L2
structure GX (mg:Str→Option Value):Prop where
 sum:mg "sum"=none
 abs:mg "abs"=none
 sorted:mg "sorted"=none
 min:mg "min"=none
theorem Aw:bootBuiltins "sum"=some (.builtin "sum"):=by decide +kernel
theorem zY:bootBuiltins "min"=some (.builtin "min"):=by decide +kernel
theorem xf:bootBuiltins "range"=some (.type "range"):=by decide +kernel
structure iC (r:Rm):Prop where
 a:-9≤r.a
 ab:r.a≤r.b
 b:r.b≤9
 c0:0≤r.c
 c:r.c≤3
 d:r.d∈([32,36,97,37,125]:List Int)
 de:r.d≤r.e
 e3:r.e≤r.d+3
 e:r.e≤126
def EVs:Str := " !\"#$&'()*+,-./0123456789:;<=>?@ABCDEFGHIJKLMNOPQRSTUVWXYZ[\\]^_`abcdefghijklmnopqrstuvwxyz{|}~"
def sgs (d e:Int):List Nat:=EVs.cps.toList.filter fun c=>decide (d≤(c:Int))&&decide ((c:Int)≤e)
def cT (n:Nat):Nat→Nat
 | 0=>1
 | c+1=>cT n c*n+1
theorem dO (n:Nat):∀ c,cT n (c+1)=cT n c+n ^ (c+1)
 | 0=>by simp [cT]; omega
 | c+1=>by
  have ih:=dO n c
  show cT n (c+1)*n+1=_
  conv=>lhs; rw [ih]
  rw [Nat.add_mul,← Nat.pow_succ]
  show cT n c*n+n ^ (c+1+1)+1=(cT n c*n+1)+_
  omega
theorem gc (n:Nat) {c k:Nat} (h:c≤k):cT n c≤cT n k:=by
 induction k with
 | zero=>rw [Nat.le_zero.mp h]; exact Nat.le_refl _
 | succ k ih =>
  rcases Nat.lt_or_eq_of_le h with h | rfl
  ·rw [dO]
   have:=ih (by omega)
   omega
  ·exact Nat.le_refl _
def cr (r:Rm) (sort:Str):List PyData:=if sort=Str.ofString "text" then (sgs r.d r.e).map fun c=>.str ⟨#[c]⟩ else (intsFrom r.a (r.b+1 - r.a).toNat).map .int
def cnt (r:Rm) (sort:Str):Nat:=if sort=Str.ofString "num" then (r.b+1 - r.a).toNat else cT (cr r sort).length r.c.toNat
def PcD (sort:Str) (e:PyData):Prop:=(sort=Str.ofString "num"∧∃ i,e=.int i)∨(sort=Str.ofString "text"∧∃ z:Str,z.length≤3∧e=.str z∧yp e=true)∨(sort=Str.ofString "row"∧∃ is:List Int,is.length≤3∧e=.tuple (is.map .int))
def tX (ws:List PyData) (i:Nat) (e:PyData):Prop:=∃ l,e=.tuple l∧l.length=i∧∀ d∈l,d∈ws
theorem vp {H:Hp} {ns:List Int}:bP H (ns.map V.int) (ns.map .int):=by
 induction ns with
 | nil=>exact .nil
 | cons i r ih=>exact .cons (.int i) ih
theorem rN {ns:List Int}:∀ {l:List PyData},(∀ d∈l,d∈ns.map PyData.int)→∃ is:List Int,is.length=l.length∧l=is.map PyData.int
 | [],_=>⟨[],rfl,rfl⟩
 | d::l,h=>by
  obtain ⟨is,h1,h2⟩:=rN fun e he=>h e (List.mem_cons_of_mem _ he)
  obtain ⟨i,_,rfl⟩:=List.mem_map.mp (h d List.mem_cons_self)
  exact ⟨i::is,by simp [h1],by rw [h2]; rfl⟩
theorem fW {H:Hp} {d e:Int}:∀ {xs:List V} {l:List PyData},bP H xs l→(∀ z∈l,z∈(sgs d e).map fun c=>PyData.str ⟨#[c]⟩)→∃ ts:List Str,xs=ts.map V.str∧ts.length=l.length∧∀ z∈ts,∃ c,c∈EVs.cps.toList∧z=⟨#[c]⟩
 | _,_,.nil,_=>⟨[],rfl,rfl,fun _ z=>nomatch z⟩
 | _,_,.cons (d:=d0) (ds:=l) q r,h=>by
  obtain ⟨ts,e1,e2,e3⟩:=fW r fun e he=>h e (List.mem_cons_of_mem _ he)
  obtain ⟨c,hc,e4⟩:=List.mem_map.mp (h d0 List.mem_cons_self)
  subst e4
  cases q
  refine ⟨⟨#[c]⟩::ts,by rw [e1]; rfl,by simp [e2],fun z hz=>?_⟩
  rcases List.mem_cons.mp hz with rfl | hz
  ·exact ⟨c,(List.mem_filter.mp hc).1,rfl⟩
  ·exact e3 z hz
theorem wH:∀ c∈EVs.cps.toList,rg (c:Nat)=true:=by decide +kernel
theorem oh:∀ ts:List Str,(Str.join "" ts).cps.toList=ts.flatMap fun z=>z.cps.toList
 | []=>rfl
 | [x]=>by
  show x.cps.toList=_
  simp
 | x::y::r=>by
  show ((x.cps++(Str.ofString "").cps)++(Str.join "" (y::r)).cps).toList=_
  rw [Array.toList_append,Array.toList_append,oh (y::r)]
  show (x.cps.toList++[])++_=_
  rw [List.append_nil]
  rfl
theorem lq {ts:List Str} (h:∀ z∈ts,∃ c,c∈EVs.cps.toList∧z=⟨#[c]⟩):(Str.join "" ts).length=ts.length∧yp (.str (Str.join "" ts))=true:=by
 have e:=oh ts
 refine ⟨?_,?_⟩
 ·show (Str.join "" ts).cps.size=_
  rw [← Array.length_toList,e]
  clear e
  induction ts with
  | nil=>rfl
  | cons z r ih =>
   obtain ⟨c,_,rfl⟩:=h z List.mem_cons_self
   rw [List.flatMap_cons,List.length_append,ih fun y hy=>h y (List.mem_cons_of_mem _ hy)]
   show 1+r.length=r.length+1
   omega
 ·show (Str.join "" ts).cps.toList.all _=true
  rw [e,List.all_eq_true]
  intro c hc
  obtain ⟨z,hz,hcz⟩:=List.mem_flatMap.mp hc
  obtain ⟨c',h1,rfl⟩:=h z hz
  have:c=c':=by simpa using hcz
  subst this
  exact wH c h1
theorem xt {ts:List Str} (h:∀ z∈ts,∃ c,c∈EVs.cps.toList∧z=⟨#[c]⟩):jl "" ts=ts.length:=by
 have:(ts.map (·.length)).sum=ts.length:=by
  induction ts with
  | nil=>rfl
  | cons z r ih =>
   obtain ⟨c,_,rfl⟩:=h z List.mem_cons_self
   rw [List.map_cons,List.sum_cons,ih fun y hy=>h y (List.mem_cons_of_mem _ hy)]
   show 1+r.length=r.length+1
   omega
 unfold jl
 rw [this]
 show _+ts.length*0=_
 omega
section
variable {P:Program} {w:World} {K:Frag} {mg:Str→Option Value} {base:Heap} {f g:Addr} {fd gd:FuncData}
abbrev jo:List Str:=["_law_room_here", "_law_sort", "_law_numbers", "_law_every", "_law_found", "_law_last", "_law_k", "_law_longer", "_law_row"]
abbrev jS:List Str:=["_law_signs"]
theorem nH:jS.Nodup:=by decide +kernel
abbrev jH:List Str:=["_law_one", "_law_row"]
theorem om:jH.Nodup:=by decide +kernel
abbrev jL:List Str:=["_law_sign", "_law_room_here"]
theorem nX:jL.Nodup:=by decide +kernel
theorem bX:aU jo ["_law_room_here", "_law_sort"] (defScope fX):=⟨rfl,rfl,rfl,by decide +kernel,rfl,by decide +kernel,by decide +kernel⟩
abbrev pAl:List Str:=["_law_room_here", "_law_sort"]
def yc:Sp:=fun vs H Q _=>∃ rv r sort,vs=[rv,.str sort]∧mf H rv r∧iC r∧sort∈PL∧cnt r sort≤40∧∀ l ys es H',aA H H'→H l=none→H' l=some (.lst ys)→bP H' ys es→es.length=cnt r sort→(∀ e∈es,PcD sort e)→Q (.ref l) H'
theorem yC (T:G0 mg) (F:Fun K "_law_all" "_law_all" fX f fd):bI P w K mg base CX0 1 f fd pAl yc:=by
 refine F.ok bX (fun vs H Q E h=>?_) (fun cdv A outer s H vs Q E hr h=>?_)
 ·obtain ⟨rv,r,sort,rfl,_⟩:=h
  rfl
 obtain ⟨rv,r,sort,rfl,⟨rp,rfl,hrp⟩,hok,hso,hcn,q⟩:=h
 refine ⟨_,(@ak _ _ _ _ _ (@aB _ _ 2 _ _ _ _ bX.nd rfl (Or.inl rfl) (@bq _ _ _ _ _ _ _ _ _ (oQ rfl) rfl T.list mH (@ad _ _ _ _ _ (@bq _ _ _ _ _ _ _ _ _ sT rfl T.range xf (@ad _ _ _ _ _ (@aq _ _ _ _ _ _ _ aw (pv 0) ag (fun _ _=>rfl)) (@ad _ _ _ _ _ (@aN _ _ _ _ _ _ _ _ bx (@aq _ _ _ _ _ _ _ aw (pv 0) ag (fun _ _=>rfl)) ag) ah (ac rfl)) (ac rfl)) (by decide) (by decide) (ac rfl) (aj rfl)) ah (ac rfl)) (by decide) (by decide) (ac rfl) (aj rfl)) (ap rfl) (.inr rfl)) (@ak _ _ _ _ _ (@bf _ _ _ _ _ _ _ _ (@aC _ _ _ _ _ _ _ _ bt (pv 1) aF (aD _)) (@ao _ _ _ (@aH _ _ _ _ (pv 2))) aS) (@ak _ _ _ _ _ (@bf _ _ _ _ _ _ _ _ (@aC _ _ _ _ _ _ _ _ bt (pv 1) aF (aD _)) (@ak _ _ _ _ _ (@aB _ _ 3 _ _ _ _ bX.nd rfl (Or.inl rfl) aF (ap rfl) (.inr rfl)) (@ao _ _ _ (fN (i:=2) (N':=jL) (ρ:=[none,some 0]) (m:=1) (bH.of (fs:=defScope fX) (N:=jo) rfl rfl (by decide +kernel)) bX.nd rfl (Or.inl rfl) rfl (pB (pv 3)) (fun _ _ _ _=>(ax (i:=0) nX rfl (Or.inl rfl))) (fun _ _ _ _=>(mo (oo ia ia (aq (cm (K:=K) rfl) (pv 1) ag (fun _ _=>rfl)) (ay jW rfl T.ord wC (ad (pv 0) ah)) (aq (cm (K:=K) rfl) (pv 1) ag (fun _ _=>rfl))))) (fun _ _ _ _=>(pv 0))))) aS) (@ak _ _ _ _ _ (@aB _ _ 4 _ _ _ _ bX.nd rfl (Or.inl rfl) (@aY _ _ _ _ (@ad _ _ _ _ _ (@aQ _ _ _ _ _ ah) ah (ac rfl))) (ap rfl) (.inr rfl)) (@ak _ _ _ _ _ (@aB _ _ 5 _ _ _ _ bX.nd rfl (Or.inl rfl) (@aY _ _ _ _ (@ad _ _ _ _ _ (@aQ _ _ _ _ _ ah) ah (ac rfl))) (ap rfl) (.inr rfl)) (@ak _ _ _ _ _ (@bF _ _ _ _ _ _ _ _ PassesOwn.never rfl (cX rfl T.range (@ad _ _ _ _ _ (@aq _ _ _ _ _ _ _ aw (pv 0) ag (fun _ _=>rfl)) ah (ac rfl))) (ax (i:=6) bX.nd rfl (Or.inl rfl)) (@ak _ _ _ _ _ (@aB _ _ 7 _ _ _ _ bX.nd rfl (Or.inl rfl) (@aY _ _ _ _ ah) (ap rfl) (.inr rfl)) (@ak _ _ _ _ _ (@bF _ _ _ _ _ _ _ _ PassesOwn.never rfl (br (pv 5)) (ax (i:=8) bX.nd rfl (Or.inr rfl)) (@ao _ _ _ (@cD _ _ _ _ (@dR _ _ _ _ _ _ _ _ _ _ _ _ PySem.F.plainAttrs_list PySem.F.slot_list_extend PySem.F.type_list_extend fQ (pv 7) (@ad _ _ _ _ _ (bM (N':=jH) (ρ:=[none,some 8]) (m:=1) (bH.of (fs:=defScope fX) (N:=jo) rfl rfl (by decide +kernel)) rfl (br (pv 2)) (fun _ _ _ _=>(ax (i:=0) om rfl (Or.inl rfl))) (fun _ _ _ _=>bu) (fun _ _ _ _=>(aN (nS (K:=K) rfl) (pv 1) (aQ (ad (pv 0) ah))))) ah (ac rfl)) rfl (cL rfl rfl) rfl (ac rfl) (aj rfl)) (ap rfl))) (fun _=>rfl)) (@ak _ _ _ _ _ (@aB _ _ 5 _ _ _ _ bX.nd rfl (Or.inl rfl) (pv 7) (ap rfl) (.inr rfl)) (@ao _ _ _ (@aB _ _ 4 _ _ _ _ bX.nd rfl (Or.inl rfl) (@aN _ _ _ _ _ _ _ _ me (pv 4) (pv 7)) (ap rfl) (.inr rfl)))))) (fun _=>rfl)) (@ao _ _ _ (@aH _ _ _ _ (@cY _ _ _ _ _ _ _ _ (@aC _ _ _ _ _ _ _ _ bt (pv 1) aF (aD _)) (pv 4) (bM (N':=jS) (ρ:=[none]) (m:=1) (bH.of (fs:=defScope fX) (N:=jo) rfl rfl (by decide +kernel)) rfl (br (pv 4)) (fun _ _ _ _=>(ax (i:=0) nH rfl (Or.inl rfl))) (fun _ _ _ _=>bu) (fun _ _ _ _=>(ui (K:=K) rfl aF (pv 0))))))))))))),?_⟩
 have o1:=hok.a
 have o2:=hok.ab
 have o3:=hok.b
 refine ⟨_,rfl,rp,_,_,_,rfl,rfl,SqT.of hrp,rfl,_,rfl,rp,_,_,_,rfl,rfl,SqT.of hrp,rfl,_,_,rfl,rfl,?_⟩
 refine ⟨_,_,rfl,fun p0 hp0=>?_⟩
 have g0:=af hp0 (.rng r.a (r.b+1))
 refine ⟨p0,_,_,rfl,ae,by omega,by omega,by omega,fun nl hnl=>?_⟩
 have g1:=g0.trans (af hnl (.lst ((intsFrom r.a (r.b+1 - r.a).toNat).map V.int)))
 have hn1:(upd (upd H p0 (.rng r.a (r.b+1))) nl (.lst ((intsFrom r.a (r.b+1 - r.a).toNat).map V.int))) nl=_:=ae
 generalize (upd (upd H p0 (.rng r.a (r.b+1))) nl (.lst ((intsFrom r.a (r.b+1 - r.a).toNat).map V.int)))=H1 at g1 hn1
 refine ⟨_,rfl,rfl,_,rfl,?_⟩
 refine bh (fun c1=>?_) (fun c1=>?_)
 ·have ek:=eqS c1
  subst ek
  have lN:cnt r (Str.ofString "num")=(r.b+1 - r.a).toNat:=by unfold cnt; rw [if_pos rfl]
  refine ⟨_,rfl,q nl _ ((intsFrom r.a (r.b+1 - r.a).toNat).map .int) H1 g1 (g0.free hnl) hn1 vp (by rw [lN]; simp [L2.intsFrom]) (fun e he=>.inl ⟨rfl,?_⟩)⟩
  obtain ⟨i,_,rfl⟩:=List.mem_map.mp he
  exact ⟨i,rfl⟩
 have n1:=neS c1
 dsimp only [ul]
 refine df (fun σ H2=>∃ nv m3 ns,σ=[some (.ref rp),some (.str sort),some (.ref nv),m3,none,none,none,none,none]∧aA H H2∧H2 nv=some (.lst ns)∧bP H2 ns (cr r sort)) (fun NX hNX=>?_) (fun σ H2 jj=>?_)
 ·refine ⟨_,rfl,rfl,_,rfl,?_⟩
  refine bh (fun c2=>?_) (fun c2=>?_)
  ·have ek:=eqS c2
   refine ⟨_,rfl,EVs,rfl,jK EVs.cps.size rfl (by decide +kernel) (fun i acc H'=>H'=H1∧acc=((EVs.cps.toList.take i).filter fun c=>decide (r.d≤((c:Nat):Int))&&decide (((c:Nat):Int)≤r.e)).map fun c:Nat=>V.str ⟨#[c]⟩) ⟨rfl,rfl⟩ (fun i acc H' c hi la hc p=>?_) (fun acc H' p la D hD=>?_)⟩
   ·obtain ⟨rfl,rfl⟩:=p
    have hp:=g1 _ _ hrp
    have step:EVs.cps.toList.take (i+1)=EVs.cps.toList.take i++[c]:=by
     rw [List.take_add_one,show EVs.cps.toList[i]?=some c by simpa using hc]
     rfl
    refine ⟨⟨rfl,rfl⟩,?_⟩
    refine ⟨_,rfl,_,_,_,_,rfl,rfl,SqT.of hp,rfl,_,rfl,_,rfl,rfl,_,_,rfl,rfl,_,rfl,?_⟩
    refine bh (fun c3=>?_) (fun c3=>?_)
    ·have c3':decide (r.d≤((c:Nat):Int))=true:=c3
     refine ⟨_,rfl,_,_,_,_,rfl,rfl,SqT.of hp,rfl,_,_,rfl,rfl,_,rfl,?_⟩
     refine bh (fun c4=>?_) (fun c4=>?_)
     ·have c4':decide (((c:Nat):Int)≤r.e)=true:=c4
      refine ⟨_,rfl,nxT (by decide +kernel) hi la ⟨rfl,?_⟩⟩
      rw [step,List.filter_append,List.map_append,List.filter_cons,if_pos (by rw [c3',c4']; rfl)]
      rfl
     ·have c4':decide (((c:Nat):Int)≤r.e)=false:=Bool.eq_false_iff.mpr c4
      refine nxF hi la ⟨rfl,?_⟩
      rw [step,List.filter_append,List.map_append,List.filter_cons,if_neg (by rw [c4']; simp)]
      simp
    ·have c3':decide (r.d≤((c:Nat):Int))=false:=Bool.eq_false_iff.mpr c3
     refine ⟨_,rfl,bU (nxF hi la ⟨rfl,?_⟩)⟩
     rw [step,List.filter_append,List.map_append,List.filter_cons,if_neg (by rw [c3']; simp)]
     simp
   ·obtain ⟨rfl,rfl⟩:=p
    have gD:=af hD (.lst (((EVs.cps.toList.take EVs.cps.size).filter fun c=>decide (r.d≤((c:Nat):Int))&&decide (((c:Nat):Int)≤r.e)).map fun c:Nat=>V.str ⟨#[c]⟩))
    refine hNX _ _ ⟨D,_,_,rfl,g1.trans gD,ae,?_⟩
    unfold cr
    rw [if_pos ek,← Array.length_toList,List.take_length]
    show bP _ ((sgs r.d r.e).map _) _
    generalize sgs r.d r.e=l
    induction l with
    | nil=>exact .nil
    | cons c l ih=>exact .cons (.str _) ih
  ·have n2:=neS c2
   refine hNX _ _ ⟨nl,_,_,rfl,g1,hn1,?_⟩
   unfold cr
   rw [if_neg n2]
   exact vp
 obtain ⟨nv,m3,ns,rfl,G2,hnv,hks⟩:=jj
 have ecn:cnt r sort=cT (cr r sort).length r.c.toNat:=by unfold cnt; rw [if_neg n1]
 rw [ecn] at q hcn
 have lns:=cu hks
 generalize hN:(cr r sort).length=N at q hcn lns
 have oc:=hok.c0
 have oc3:=hok.c
 have lN:1≤r.c.toNat→N≤40:=fun h=>by
  have:=gc N h
  rw [dO N 0] at this
  simp at this
  omega
 refine ⟨(by show 0≤sizeLine; decide),fun p1 h1=>⟨(by show 1≤sizeLine; decide),fun fl hfl=>⟨(by show 0≤sizeLine; decide),fun p2 h2=>⟨(by show 1≤sizeLine; decide),fun ll hll=>?_⟩⟩⟩⟩
 have s1:=af h1 (.tup [])
 have s2:=af hfl (.lst [.ref p1])
 have s3:=af h2 (.tup [])
 have s4:=af hll (.lst [.ref p2])
 have S4:=((s1.trans s2).trans s3).trans s4
 have ef:_=some (HO.lst [.ref p1]):=s4 _ _ (s3 _ _ ae)
 have e1:_=some (HO.tup []):=s4 _ _ (s3 _ _ (s2 _ _ ae))
 have e2:_=some (HO.tup []):=s4 _ _ ae
 have el:_=some (HO.lst [.ref p2]):=ae (H:=upd (upd (upd H2 p1 (.tup [])) fl (.lst [.ref p1])) p2 (.tup [])) (a:=ll)
 have fr0:H fl=none:=(G2.trans s1).free hfl
 generalize (upd (upd (upd (upd H2 p1 (.tup [])) fl (.lst [.ref p1])) p2 (.tup [])) ll (.lst [.ref p2]))=H3 at S4 ef e1 e2 el
 have G3:=G2.trans S4
 have hrp3:=G3 _ _ hrp
 refine ⟨_,rfl,rp,_,_,_,rfl,rfl,SqT.of hrp3,rfl,r.c,rfl,by omega,by omega,dM (n:=r.c.toNat) (fun i σ H'=>∃ fl ll m6 m7 m8 xs ys es gs,σ=[some (.ref rp),some (.str sort),some (.ref nv),m3,some (.ref fl),some (.ref ll),m6,m7,m8]∧aA H3 H'∧H fl=none∧H' fl=some (.lst xs)∧H' ll=some (.lst ys)∧bP H' xs es∧bP H' ys gs∧es.length=cT N i∧gs.length=N ^ i∧(∀ e∈es,∃ j,j≤i∧tX (cr r sort) j e)∧(∀ e∈gs,tX (cr r sort) i e)) ⟨fl,ll,_,_,_,_,_,[.tuple []],[.tuple []],rfl,aA.refl _,fr0,ef,el,.cons (.tup e1 .nil) .nil,.cons (.tup e2 .nil) .nil,rfl,by simp,fun e he=>⟨0,Nat.le_refl _,[],List.mem_singleton.mp he,rfl,fun _ z=>nomatch z⟩,fun e he=>⟨[],List.mem_singleton.mp he,rfl,fun _ z=>nomatch z⟩⟩ (fun i σ H' hi p=>?_) (fun σ H' p=>?_)⟩
 ·obtain ⟨fl,ll,m6,m7,m8,xs,ys,es,gs,rfl,S,fr,hf,hl,kes,kgs,les,lgs,res,rgs⟩:=p
  have N40:=lN (by omega)
  have lys:=cu kgs
  have b1:cT N (i+1)≤40:=Nat.le_trans (gc N (by omega)) hcn
  rw [dO] at b1
  refine ⟨(by show 0≤sizeLine; decide),fun t ht=>?_⟩
  have st:=af ht (.lst [])
  have S5:=S.trans st
  have htt:(upd H' t (.lst [])) t=some (.lst []):=ae
  have hf5:=st _ _ hf
  have hl5:=st _ _ hl
  have nf:fl≠t:=ar hf ht
  have nlt:ll≠t:=ar hl ht
  have kgs5:=kgs.mono (am st)
  have kes5:=kes.mono (am st)
  have frt:H t=none:=(G3.trans S).free ht
  generalize (upd H' t (.lst []))=H5 at S5 htt hf5 hl5 kgs5 kes5
  refine ⟨_,rfl,ll,rfl,⟨ys,SqL.of hl5⟩,dv (xs:=ys) (fun j σ H6=>∃ m8 zs hs,σ=[some (.ref rp),some (.str sort),some (.ref nv),m3,some (.ref fl),some (.ref ll),some (.int (0+(i:Int))),some (.ref t),m8]∧Ext t H5 H6∧H6 t=some (.lst zs)∧bP H6 zs hs∧hs.length=j*N∧∀ e∈hs,tX (cr r sort) (i+1) e) ⟨_,[],[],rfl,Ext.refl _ _,htt,.nil,by simp,fun _ z=>nomatch z⟩ (fun j σ H6 _ p=>?_) (fun j x σ H6 hx p=>?_) (fun σ H6 p=>?_)⟩
  ·obtain ⟨_,_,_,_,x6,_⟩:=p
   exact SqL.of (x6 _ _ nlt hl5)
  ·obtain ⟨m8',zs,hs,rfl,x6,hz,khs,lhs,rhs⟩:=p
   obtain ⟨e,he,ke⟩:=eU kgs5 j x hx
   obtain ⟨l,rfl,ll1,lm⟩:=rgs e (List.mem_of_getElem? he)
   have k6:=cg x6 htt
   have ke6:=ke.mono k6
   have hj:j<N ^ i:=by
    rw [← lgs,← lys]
    exact (List.getElem?_eq_some_iff.mp hx).1
   have szz:j*N+N≤N ^ (i+1):=by
    rw [Nat.pow_succ,← Nat.succ_mul]
    exact Nat.mul_le_mul_right _ hj
   cases ke6 with
   | @tup xa xl _ hxa kxl =>
    have lxl:=cu kxl
    have hnv6:H6 nv=some (.lst ns):=x6 _ _ (ar hnv (S4.free (S.free ht))) (S5 _ _ (S4 _ _ hnv))
    have hns6:=(hks.mono (am (S4.trans S5))).mono k6
    refine ⟨_,rfl,.inl ⟨rfl,_,SqL.of hz⟩,_,rfl,nv,rfl,⟨ns,SqL.of hnv6⟩,bn (xs:=ns) ns.length rfl (by omega) (fun jj acc H7=>aA H6 H7∧∃ ks,bP H7 acc ks∧ks.length=jj∧∀ e∈ks,tX (cr r sort) (i+1) e) ⟨aA.refl _,[],.nil,rfl,fun _ z=>nomatch z⟩ (fun jj acc H7 p=>SqL.of (p.1 _ _ hnv6)) (fun jj acc H7 y hjj la hy p=>?_) (fun acc H7 p la D hD=>?_)⟩
    ·obtain ⟨g7,ks,kks,lks,rks⟩:=p
     obtain ⟨d,hd,kd⟩:=eU hns6 jj y hy
     have hxa7:=g7 _ _ hxa
     have fin:∀ (u:V) (H8:Hp),aA H7 H8→KAt H8 u (.tuple (l++[d]))→aA H6 H8∧∃ ks,bP H8 (acc++[u]) ks∧ks.length=jj+1∧∀ e∈ks,tX (cr r sort) (i+1) e:=by
      intro u H8 g8 ku
      refine ⟨g7.trans g8,ks++[.tuple (l++[d])],db (kks.mono (am g8)) (.cons ku .nil),by simp [lks],fun e he=>?_⟩
      rcases List.mem_append.mp he with he | he
      ·exact rks e he
      ·refine ⟨l++[d],List.mem_singleton.mp he,by simp [ll1],fun z hz=>?_⟩
       rcases List.mem_append.mp hz with hz | hz
       ·exact lm z hz
       ·rw [List.mem_singleton.mp hz]
        exact List.mem_of_getElem? hd
     refine ⟨⟨rfl,rfl⟩,bo ?_⟩
     refine ⟨_,rfl,_,rfl,(by show 1≤sizeLine; decide),fun q1 hq1=>?_⟩
     have g8:=af hq1 (.tup [y])
     have ky:=kd.mono (am (g7.trans g8))
     by_cases cx:xl=[]
     ·subst cx
      have:l=[]:=List.eq_nil_of_length_eq_zero (by rw [← lxl]; rfl)
      subst this
      exact .inr ⟨xa,q1,[y],rfl,rfl,SqT.of (g8 _ _ hxa7),SqT.of ae,nxT (by omega) hjj la (fin (.ref q1) _ g8 (.tup ae (.cons ky .nil)))⟩
     ·refine .inl ⟨xa,q1,xl,[y],rfl,rfl,SqT.of (g8 _ _ hxa7),SqT.of ae,cx,Nat.le_of_lt (aL (by simp; omega)),fun z=>absurd z (by simp),fun _ q3 hq3=>?_⟩
      have g9:=af hq3 (.tup (xl++[y]))
      exact nxT (by omega) hjj la (fin (.ref q3) _ (g8.trans g9) (.tup ae (db ((kxl.mono (am g7)).mono (am (g8.trans g9))) (.cons (ky.mono (am g9)) .nil))))
    ·obtain ⟨g7,ks,kks,lks,rks⟩:=p
     have lz:=cu khs
     have lac:=cu kks
     have gD:=af hD (.lst acc)
     have htD:=gD _ _ (g7 _ _ hz)
     have kt:=cy htD (.lst (zs++acc))
     refine ⟨t,D,zs,acc,rfl,rfl,htD,ae,Nat.le_of_lt (aL (by omega)),?_⟩
     refine ⟨_,zs++acc,hs++ks,rfl,(x6.trans (aA.ext (g7.trans gD))).trans Ext.upd,ae,db ((khs.mono (am (g7.trans gD))).mono kt) ((kks.mono (am gD)).mono kt),?_,fun e he=>?_⟩
     ·rw [List.length_append,lhs,lks,Nat.succ_mul]
      omega
     ·rcases List.mem_append.mp he with he | he
      ·exact rhs e he
      ·exact rks e he
  ·obtain ⟨m8',zs,hs,rfl,x6,hz,khs,lhs,rhs⟩:=p
   have k6:=cg x6 htt
   have lz:=cu khs
   have lx:=cu kes
   replace lhs:hs.length=N ^ (i+1):=by rw [lhs,lys,lgs,Nat.pow_succ]
   refine ⟨_,rfl,_,rfl,_,rfl,fl,t,xs,zs,rfl,rfl,x6 _ _ nf hf5,hz,Nat.le_of_lt (aL (by omega)),fun nf2 hnf2=>?_⟩
   have g7:=af hnf2 (.lst (xs++zs))
   have S7:aA H3 (upd H6 nf2 (.lst (xs++zs))):=fun b o e=>g7 _ _ (x6 _ _ (ar e (S.free ht)) (S5 _ _ e))
   refine ⟨nf2,t,_,_,_,xs++zs,zs,es++hs,hs,rfl,S7,?_,ae,g7 _ _ hz,db ((kes5.mono k6).mono (am g7)) (khs.mono (am g7)),khs.mono (am g7),?_,lhs,fun e he=>?_,rhs⟩
   ·cases e9:H nf2 with
    | none=>rfl
    | some o =>
     have a1:=G3 _ _ e9
     have a2:=x6 _ _ (ar a1 (S.free ht)) (S5 _ _ a1)
     rw [hnf2] at a2
     cases a2
   ·rw [List.length_append,les,lhs,dO]
   ·rcases List.mem_append.mp he with he | he
    ·obtain ⟨j,hj,rj⟩:=res e he
     exact ⟨j,by omega,rj⟩
    ·exact ⟨i+1,Nat.le_refl _,rhs e he⟩
 ·obtain ⟨fl,ll,m6,m7,m8,xs,ys,es,gs,rfl,S,fr,hf,hl,kes,kgs,les,lgs,res,rgs⟩:=p
  have lxs:=cu kes
  refine ⟨_,rfl,rfl,_,rfl,?_⟩
  refine bh (fun c5=>?_) (fun c5=>?_)
  ·have ek:=eqS c5
   refine ⟨_,rfl,q fl xs es H' (G3.trans S) fr hf kes les (fun e he=>?_)⟩
   obtain ⟨j,hj,l,rfl,l1,lm⟩:=res e he
   refine .inr (.inr ⟨ek,?_⟩)
   have:cr r sort=(intsFrom r.a (r.b+1 - r.a).toNat).map .int:=by
    unfold cr
    rw [if_neg (by rw [ek]; decide +kernel)]
   rw [this] at lm
   obtain ⟨is,h1,h2⟩:=rN lm
   exact ⟨is,by omega,by rw [h2]⟩
  ·have n5:=neS c5
   have et:sort=Str.ofString "text":=by
    rcases List.mem_cons.mp hso with e | z
    ·exact absurd e n1
    rcases List.mem_cons.mp z with e | z
    ·exact e
    ·exact absurd (List.mem_singleton.mp z) n5
   have eo:cr r sort=(sgs r.d r.e).map fun c=>.str ⟨#[c]⟩:=by
    unfold cr
    rw [if_pos et]
   refine ⟨_,rfl,fl,rfl,⟨xs,SqL.of hf⟩,bn (xs:=xs) xs.length rfl (by omega) (fun jj acc H7=>H7=H'∧∃ ks,bP H7 acc ks∧ks.length=jj∧∀ e∈ks,PcD sort e) ⟨rfl,[],.nil,rfl,fun _ z=>nomatch z⟩ (fun jj acc H7 p=>SqL.of (p.1 ▸ hf)) (fun jj acc H7 x hjj la hx p=>?_) (fun acc H7 p la D hD=>?_)⟩
   ·obtain ⟨rfl,ks,kks,lks,rks⟩:=p
    obtain ⟨e,he,ke⟩:=eU kes jj x hx
    obtain ⟨j,hj,l,rfl,l1,lm⟩:=res e (List.mem_of_getElem? he)
    rw [eo] at lm
    cases ke with
    | @tup xa xl _ hxa kxl =>
     obtain ⟨ts,rfl,lt,hts⟩:=fW kxl lm
     refine ⟨⟨rfl,rfl⟩,bo ?_⟩
     refine ⟨rfl,_,rfl,_,xa,ts,rfl,rfl,.inr (SqT.of hxa),?_,nxT (by omega) hjj la ⟨rfl,ks++[.str (Str.join "" ts)],db kks (.cons (.str _) .nil),by simp [lks],fun e he=>?_⟩⟩
     ·exact Nat.le_of_lt (aL (by have:=xt hts; omega))
     ·rcases List.mem_append.mp he with he | he
      ·exact rks e he
      ·refine .inr (.inl ⟨et,_,?_,List.mem_singleton.mp he,?_⟩)
       ·have:=lq hts
        rw [this.1]
        omega
       ·rw [List.mem_singleton.mp he]
        exact (lq hts).2
   ·obtain ⟨rfl,ks,kks,lks,rks⟩:=p
    have gD:=af hD (.lst acc)
    exact q D acc ks _ ((G3.trans S).trans gD) ((G3.trans S).free hD) ae (kks.mono (am gD)) (by rw [lks,lxs,les]) rks
end
end K6
namespace L2
end L2
namespace K6
open PySem L2
section
variable {P:Program} {w:World} {K:Frag} {mg:Str→Option Value} {base:Heap} {f g:Addr} {fd gd:FuncData}
end
open PySem L2
def eJ:List Nat→Nat
 | []=>1
 | a::r=>a*eJ r
theorem lp:∀ a b:List Nat,eJ (a++b)=eJ a*eJ b
 | [],b=>by simp [eJ]
 | x::a,b=>by rw [List.cons_append,eJ,eJ,lp a b,Nat.mul_assoc]
def cB (r:Rm) (ps:List bL):Nat:=eJ (ps.map fun q=>cnt r q.2)
theorem sf (r:Rm) (a b:List bL):cB r (a++b)=cB r a*cB r b:=by unfold cB; rw [List.map_append,lp]
def bO (R:List Rec) (l:List Fld):List bL:=l.flatMap fun p=>aE R 4 p.2
theorem qS {r:Rm} (h:iC r):((L2.intsFrom r.d (r.e+1 - r.d).toNat).filter fun c=>!decide (V.int c=V.int 37)).length=(sgs r.d r.e).length:=by
 have h1:=h.d
 have h2:=h.de
 have h3:=h.e3
 have h4:=h.e
 generalize r.d=d at *
 generalize r.e=e at *
 have he:e=d∨e=d+1∨e=d+2∨e=d+3:=by omega
 simp only [List.mem_cons,List.not_mem_nil,or_false] at h1
 rcases h1 with rfl | rfl | rfl | rfl | rfl<;>rcases he with rfl | rfl | rfl | rfl<;>first | (exfalso; omega) | decide +kernel
theorem xn {r:Rm} (h:iC r) (sort:Str):(cr r sort).length≤19:=by
 unfold cr
 have h1:=h.a
 have h2:=h.b
 have h3:=h.d
 have h5:=h.de
 have h6:=h.e3
 split
 ·rw [List.length_map,← qS h]
  refine Nat.le_trans (List.length_filter_le _ _) ?_
  simp [L2.intsFrom]
  omega
 ·simp [L2.intsFrom]
  omega
theorem xj {N c:Nat} (hN:N≤19) (hc:c≤3):cT N c≤7240:=by
 have m:∀ a b:Nat,a≤b→a*N≤b*19:=fun a b h=>Nat.mul_le_mul h hN
 have r1:cT N 1≤20:=by show 1*N+1≤20; omega
 have r2:cT N 2≤381:=by
  show cT N 1*N+1≤381
  have:=m _ _ r1
  omega
 have r3:cT N 3≤7240:=by
  show cT N 2*N+1≤7240
  have:=m _ _ r2
  omega
 exact Nat.le_trans (gc N hc) r3
section
variable {P:Program} {w:World} {K:Frag} {mg:Str→Option Value} {base:Heap} {f g:Addr} {fd gd:FuncData}
abbrev nK:List Str:=["_law_program", "_law_f", "_law_room_here", "_law_signs", "_law_found", "_law_name", "_law_kind", "_law_path", "_law_sort", "_law_own", "_law_rows", "_law_k"]
abbrev iK:List Str:=["_law_number"]
theorem mr:iK.Nodup:=by decide +kernel
theorem bA:aU nK ["_law_program", "_law_f", "_law_room_here"] (defScope gS):=⟨rfl,rfl,rfl,by decide +kernel,rfl,by decide +kernel,by decide +kernel⟩
def uF:Sp:=fun vs H Q _=>∃ pg i R FS F rl r,vs=[pg,.int (i:Nat),.ref rl]∧iY H pg R FS∧wS R FS∧FS[i]?=some F∧H rl=some (.lst r.vs)∧iC r∧∀ H',aA H H'→Q (.int (cB r (bO R F.2):Nat)) H'
theorem wX (T:G0 mg) (F:Fun K "_law_many" "_law_many" gS f fd) (D_l_sorts:Cal P w K mg base 5 "_law_sorts" pSo (eE 4)):bI P w K mg base CX0 6 f fd ["_law_program", "_law_f", "_law_room_here"] uF:=by
 obtain ⟨g_l_sorts,gd_l_sorts,G_l_sorts,b_l_sorts,k_l_sorts,m_l_sorts⟩:=D_l_sorts.ex
 refine F.ok bA (fun vs H Q E h=>?_) (fun cdv A outer s H vs Q E hr h=>?_)
 ·obtain ⟨pg,i,R,FS,F,rl,r,rfl,_⟩:=h
  rfl
 obtain ⟨pg,i,R,FS,FF,rl,r,rfl,hp,hpg,hF,hrl,hok,q⟩:=h
 obtain ⟨hl,hDp⟩:=hpg.fl FF (List.mem_of_getElem? hF)
 obtain ⟨a,y,b,fs,rfl,ha,hRc,hb,pf⟩:=id hp
 obtain ⟨fx,hfx,c,yy,l0,b',rfl,hc,pb,xs,rfl,hpb,rs⟩:∃ fx,fs[i]?=some fx∧iU H fx FF:=by
  obtain ⟨fx,h1⟩:∃ fx,fs[i]?=some fx:=⟨_,List.getElem?_eq_getElem (by rw [Paired.length pf]; exact (List.getElem?_eq_some_iff.mp hF).1)⟩
  obtain ⟨F2,h2,h3⟩:=paired_at pf i fx h1
  rw [hF] at h2
  cases h2
  exact ⟨fx,h1,h3⟩
 have o1:=hok.a
 have o2:=hok.ab
 have o3:=hok.b
 have o4:32≤r.d∧r.d≤125:=by
  have:=hok.d
  simp only [List.mem_cons,List.not_mem_nil,or_false] at this
  omega
 have o5:=hok.de
 have o6:=hok.e3
 have o7:=hok.c0
 have o8:=hok.c
 refine ⟨_,(@ak _ _ _ _ _ (fN (i:=3) (N':=iK) (ρ:=[none]) (m:=1) (bH.of (fs:=defScope gS) (N:=nK) rfl rfl (by decide +kernel)) bA.nd rfl (Or.inl rfl) rfl (sM rfl T.range (ad (aq aM (pv 2) ag (fun _ _=>rfl)) (ad (aN bx (aq aM (pv 2) ag (fun _ _=>rfl)) ag) ah))) (fun _ _ _ _=>(ax (i:=0) mr rfl (Or.inl rfl))) (fun _ _ _ _=>(mo (aC lV (pv 0) ag (aD _)))) (fun _ _ _ _=>(pv 0))) (@ak _ _ _ _ _ (@aB _ _ 4 _ _ _ _ bA.nd rfl (Or.inl rfl) ag (ap rfl) (.inr rfl)) (@ak _ _ _ _ _ (@bF _ _ _ _ _ _ _ _ PassesOwn.never rfl (cZ (@aq _ _ _ _ _ _ _ aw (@aq _ _ _ _ _ _ _ aw (@aq _ _ _ _ _ _ _ aw (pv 0) ag (fun _ _=>rfl)) (pv 1) (fun _ _=>rfl)) ag (fun _ _=>rfl))) (cQ rfl (aV (ax (i:=5) bA.nd rfl (Or.inl rfl)) (aV (ax (i:=6) bA.nd rfl (Or.inl rfl)) cf))) (@ao _ _ _ (@bF _ _ _ _ _ _ _ _ PassesOwn.never rfl (br (@au _ _ _ _ _ _ _ _ _ _ _ _ _ _ _ _ G_l_sorts (hr.mono (by omega)) rfl m_l_sorts k_l_sorts b_l_sorts .nil aO (@ad _ _ _ _ _ (@aq _ _ _ _ _ _ _ aw (pv 0) ag (fun _ _=>rfl)) (@ad _ _ _ _ _ (pv 6) ah (ac rfl)) (ac rfl)) (by decide) (ac rfl) (aj rfl))) (cQ rfl (aV (ax (i:=7) bA.nd rfl (Or.inl rfl)) (aV (ax (i:=8) bA.nd rfl (Or.inl rfl)) cf))) (@ak _ _ _ _ _ (@aB _ _ 9 _ _ _ _ bA.nd rfl (Or.inl rfl) (@cY _ _ _ _ _ _ _ _ (@aC _ _ _ _ _ _ _ _ bt (pv 8) aF (aD _)) (@ay _ _ _ _ _ _ _ _ _ aI rfl T.len cp (@ad _ _ _ _ _ (pv 3) ah (ac rfl)) (by decide) (by decide) (ac rfl) (aj rfl)) (@aN _ _ _ _ _ _ _ _ bx (@aN _ _ _ _ _ _ _ _ kD (@aq _ _ _ _ _ _ _ aM (pv 2) ag (fun _ _=>rfl)) (@aq _ _ _ _ _ _ _ aM (pv 2) ag (fun _ _=>rfl))) ag)) (ap rfl) (.inr rfl)) (@ak _ _ _ _ _ (@aB _ _ 10 _ _ _ _ bA.nd rfl (Or.inl rfl) ag (ap rfl) (.inr rfl)) (@ak _ _ _ _ _ (@bF _ _ _ _ _ _ _ _ PassesOwn.never rfl (cX rfl T.range (@ad _ _ _ _ _ (@aq _ _ _ _ _ _ _ aM (pv 2) ag (fun _ _=>rfl)) ah (ac rfl))) (ax (i:=11) bA.nd rfl (Or.inl rfl)) (@ao _ _ _ (@aB _ _ 10 _ _ _ _ bA.nd rfl (Or.inl rfl) (@aN _ _ _ _ _ _ _ _ bx (@aN _ _ _ _ _ _ _ _ dJ (pv 10) (pv 9)) ag) (ap rfl) (.inr rfl))) (fun _=>rfl)) (@ao _ _ _ (@aB _ _ 4 _ _ _ _ bA.nd rfl (Or.inl rfl) (@aN _ _ _ _ _ _ _ _ dJ (pv 4) (@cY _ _ _ _ _ _ _ _ (@aC _ _ _ _ _ _ _ _ bt (pv 8) aF (aD _)) (pv 9) (pv 10))) (ap rfl) (.inr rfl)))))) (fun _=>rfl))) (fun _=>rfl)) (@ao _ _ _ (@aH _ _ _ _ (pv 4)))))),?_⟩
 refine ⟨_,rfl,rl,_,_,_,rfl,rfl,SqL.of hrl,rfl,_,rfl,rl,_,_,_,rfl,rfl,SqL.of hrl,rfl,_,_,rfl,rfl,?_⟩
 refine ⟨_,_,rfl,by omega,gB (lo:=r.d) (r.e+1 - r.d).toNat (by omega) (fun i acc H'=>H'=H∧acc=((L2.intsFrom r.d i).filter fun c=>!decide (V.int c=V.int 37)).map V.int) ⟨rfl,rfl⟩ (fun i acc H' hi la p=>?_) (fun acc H' p la D hD=>?_)⟩
 ·obtain ⟨rfl,rfl⟩:=p
  have step:L2.intsFrom r.d (i+1)=L2.intsFrom r.d i++[r.d+(i:Int)]:=by
   unfold L2.intsFrom
   rw [List.range_succ,List.map_append]
   rfl
  refine ⟨⟨rfl,rfl⟩,?_⟩
  refine ⟨_,rfl,rfl,_,rfl,?_⟩
  refine bh (fun c3=>?_) (fun c3=>?_)
  ·refine ⟨_,rfl,nxT (by omega) hi la ⟨rfl,?_⟩⟩
   rw [step,List.filter_append,List.map_append,List.filter_cons,if_pos c3]
   rfl
  ·refine nxF hi la ⟨rfl,?_⟩
   rw [step,List.filter_append,List.map_append,List.filter_cons,if_neg c3]
   simp
 obtain ⟨rfl,rfl⟩:=p
 have gD:=af hD (.lst (((L2.intsFrom r.d (r.e+1 - r.d).toNat).filter fun c=>!decide (V.int c=V.int 37)).map V.int))
 have hDl:(upd H' D (.lst (((L2.intsFrom r.d (r.e+1 - r.d).toNat).filter fun c=>!decide (V.int c=V.int 37)).map V.int))) D=_:=ae
 generalize (upd H' D (.lst (((L2.intsFrom r.d (r.e+1 - r.d).toNat).filter fun c=>!decide (V.int c=V.int 37)).map V.int)))=H1 at gD hDl
 refine ⟨_,rfl,a,_,_,_,rfl,rfl,SqT.of (gD _ _ ha),rfl,_,rfl,b,_,_,_,rfl,rfl,SqT.of (gD _ _ hb),yR hfx,c,_,_,_,rfl,rfl,SqT.of (gD _ _ hc),rfl,?_⟩
 refine ⟨pb,rfl,⟨xs,SqT.of (gD _ _ hpb)⟩,dB (xs:=xs) (fun j σ H2=>∃ m5 m6 m7 m8 m9 m10 m11,σ=[some (.ref a),some (.int (i:Nat)),some (.ref rl),some (.ref D),some (.int (cB r (bO R (FF.2.take j)):Nat)),m5,m6,m7,m8,m9,m10,m11]∧aA H1 H2) ⟨_,_,_,_,_,_,_,rfl,aA.refl _⟩ (fun j σ H2 _ p=>?_) (fun j u σ H2 hx p=>?_) (fun σ H2 p=>?_)⟩
 ·obtain ⟨_,_,_,_,_,_,_,_,g2⟩:=p
  exact SqT.of (g2 _ _ (gD _ _ hpb))
 ·obtain ⟨m5,m6,m7,m8,m9,m10,m11,rfl,g2⟩:=p
  obtain ⟨fl,hfl,ta,rfl,hta⟩:=paired_at rs j u hx
  have G2:=gD.trans g2
  refine ⟨ta,_,rfl,SqT.of (G2 _ _ hta),rfl,_,_,rfl,_,_,rfl,rfl,?_⟩
  have dp:=hDp fl (List.mem_of_getElem? hfl)
  refine ⟨_,rfl,a,_,_,_,rfl,rfl,SqT.of (G2 _ _ ha),rfl,_,rfl,_,fl.2,R,rfl,hRc.mono (am G2),hpg.rn,by have:=hpg.rl; omega,by decide,dp,fun rr zs H3 g3 hr0 hrz pz=>?_⟩
  have lz:=Paired.length pz
  refine ⟨rr,rfl,⟨zs,SqL.of hrz⟩,dv (xs:=zs) (fun jj σ H4=>∃ m7 m8 m9 m10 m11,σ=[some (.ref a),some (.int (i:Nat)),some (.ref rl),some (.ref D),some (.int (cB r (bO R (FF.2.take j)++(aE R 4 fl.2).take jj):Nat)),some (.str fl.1),some (.str fl.2),m7,m8,m9,m10,m11]∧aA H3 H4) ⟨_,_,_,_,_,by rw [List.take_zero,List.append_nil]; rfl,aA.refl _⟩ (fun jj σ H4 _ p=>?_) (fun jj u σ H4 hx2 p=>?_) (fun σ H4 p=>?_)⟩
  ·obtain ⟨_,_,_,_,_,_,g4⟩:=p
   exact SqL.of (g4 _ _ hrz)
  ·obtain ⟨m7,m8,m9,m10,m11,rfl,g4⟩:=p
   obtain ⟨qq,hqq,hpa⟩:=paired_at pz jj u hx2
   obtain ⟨a2,y2,rfl,ha2,a3,rfl,ha3⟩:=hpa.mono (am g4)
   have G4:=G2.trans (g3.trans g4)
   have hrl4:=G4 _ _ hrl
   have hD4:H4 D=_:=g4 _ _ (g3 _ _ (g2 _ _ hDl))
   have oN:=xn hok qq.2
   have eI:qq.2≠Str.ofString "text"→((cr r qq.2).length:Int)=r.b - r.a+1:=fun n=>by
    unfold cr
    rw [if_neg n]
    simp [L2.intsFrom]
    omega
   refine ⟨a2,_,rfl,SqT.of ha2,rfl,_,_,rfl,_,_,rfl,rfl,?_⟩
   dsimp only [jD]
   refine df (fun σ H5=>σ=[some (.ref a),some (.int (i:Nat)),some (.ref rl),some (.ref D),some (.int (cB r (bO R (FF.2.take j)++(aE R 4 fl.2).take jj):Nat)),some (.str fl.1),some (.str fl.2),some (.ref a3),some (.str qq.2),some (.int ((cr r qq.2).length:Nat)),m10,m11]∧H5=H4) (fun NX hNX=>?_) (fun σ H5 pp=>?_)
   ·refine ⟨_,rfl,rfl,_,rfl,?_⟩
    refine bh (fun c3=>?_) (fun c3=>?_)
    ·have et:=eqS c3
     refine ⟨_,rfl,D,_,rfl,.inl (SqL.of hD4),hNX _ _ ⟨?_,rfl⟩⟩
     rw [List.length_map,qS hok]
     have:(cr r qq.2).length=(sgs r.d r.e).length:=by
      unfold cr
      rw [if_pos et,List.length_map]
     rw [this]
     rfl
    ·have nt:=neS c3
     refine ⟨_,rfl,rl,_,_,_,rfl,rfl,SqL.of hrl4,rfl,_,rfl,rl,_,_,_,rfl,rfl,SqL.of hrl4,rfl,_,_,rfl,rfl,_,_,rfl,rfl,hNX _ _ ⟨?_,rfl⟩⟩
     rw [eI nt]
     rfl
   obtain ⟨rfl,rfl⟩:=pp
   have el:∀ t,((cT (cr r qq.2).length t:Nat):Int)*((cr r qq.2).length:Int)+1=((cT (cr r qq.2).length (t+1):Nat):Int):=fun t=>by
    show _=(((cT (cr r qq.2).length t*(cr r qq.2).length+1:Nat)):Int)
    simp
   refine ⟨_,rfl,rl,_,_,_,rfl,rfl,SqL.of hrl4,rfl,r.c,rfl,by omega,by omega,dM (n:=r.c.toNat) (fun t σ H6=>∃ m11,σ=[some (.ref a),some (.int (i:Nat)),some (.ref rl),some (.ref D),some (.int (cB r (bO R (FF.2.take j)++(aE R 4 fl.2).take jj):Nat)),some (.str fl.1),some (.str fl.2),some (.ref a3),some (.str qq.2),some (.int ((cr r qq.2).length:Nat)),some (.int (cT (cr r qq.2).length t:Nat)),m11]∧H6=H5) ⟨_,rfl,rfl⟩ (fun t σ H6 ht pp=>?_) (fun σ H6 pp=>?_)⟩
   ·obtain ⟨m11',rfl,rfl⟩:=pp
    refine ⟨_,rfl,_,rfl,_,_,rfl,rfl,.inr (by omega),_,_,rfl,rfl,some (.int (0+(t:Int))),?_,rfl⟩
    rw [← el t]
    rfl
   ·obtain ⟨m11',rfl,rfl⟩:=pp
    have ec:∀ {σ:St} (n:Nat),n=cnt r qq.2→σ=[some (.ref a),some (.int (i:Nat)),some (.ref rl),some (.ref D),some (.int (((cB r (bO R (FF.2.take j)++(aE R 4 fl.2).take jj):Nat):Int)*(n:Int))),some (.str fl.1),some (.str fl.2),some (.ref a3),some (.str qq.2),some (.int ((cr r qq.2).length:Nat)),some (.int (cT (cr r qq.2).length r.c.toNat:Nat)),m11']→∃ m7 m8 m9 m10 m11,σ=[some (.ref a),some (.int (i:Nat)),some (.ref rl),some (.ref D),some (.int (cB r (bO R (FF.2.take j)++(aE R 4 fl.2).take (jj+1)):Nat)),some (.str fl.1),some (.str fl.2),m7,m8,m9,m10,m11]∧aA H3 H6:=by
     rintro σ n en rfl
     have:cB r (bO R (FF.2.take j)++(aE R 4 fl.2).take (jj+1))=cB r (bO R (FF.2.take j)++(aE R 4 fl.2).take jj)*n:=by
      rw [List.take_add_one,hqq,← List.append_assoc,sf,en]
      show _*(cnt r qq.2*1)=_
      rw [Nat.mul_one]
     rw [this]
     exact ⟨_,_,_,_,_,rfl,g4⟩
    refine ⟨_,rfl,_,rfl,rfl,_,rfl,?_⟩
    refine bh (fun c4=>?_) (fun c4=>?_)
    ·have en:=eqS c4
     refine ⟨_,rfl,_,_,rfl,rfl,.inr (by omega),ec (cr r qq.2).length ?_ rfl⟩
     have:=eI (by rw [en]; decide +kernel)
     unfold cnt
     rw [if_pos en]
     omega
    ·have nn:=neS c4
     have:=xj oN (show r.c.toNat≤3 by omega)
     refine ⟨_,rfl,_,_,rfl,rfl,.inr (by omega),ec (cT (cr r qq.2).length r.c.toNat) ?_ rfl⟩
     unfold cnt
     rw [if_neg nn]
  ·obtain ⟨m7,m8,m9,m10,m11,rfl,g4⟩:=p
   have:bO R (FF.2.take (j+1))=bO R (FF.2.take j)++(aE R 4 fl.2).take zs.length:=by
    rw [lz,List.take_length,List.take_add_one,hfl]
    unfold bO
    rw [List.flatMap_append]
    simp
   rw [this]
   exact ⟨_,_,_,_,_,_,_,rfl,g2.trans (g3.trans g4)⟩
 ·obtain ⟨m5,m6,m7,m8,m9,m10,m11,rfl,g2⟩:=p
  rw [Paired.length rs,List.take_length]
  exact ⟨_,rfl,q _ (gD.trans g2)⟩
end
end K6
namespace L2
open PySem PySem.Spec PyProof.Rows
section
variable {X:Cx} {K:Frag}
end
end L2
namespace K6
open PySem L2
theorem rC {r:Rm} (h:iC r) (sort:Str):1≤cnt r sort:=by
 unfold cnt
 have:=h.ab
 split
 ·omega
 ·exact gc _ (Nat.zero_le _)
theorem lQ:∀ {l:List Nat},(∀ n∈l,1≤n)→1≤eJ l
 | [],_=>Nat.le_refl _
 | a::r,h=>Nat.mul_le_mul (h a List.mem_cons_self) (lQ fun n hn=>h n (List.mem_cons_of_mem _ hn))
theorem zU {sort:Str} {d:PyData} (h:PcD sort d):pk d=true∧d.depth≤2:=by
 rcases h with ⟨_,i,rfl⟩ | ⟨_,z,hz,rfl,ht⟩ | ⟨_,is,hl,rfl⟩
 ·exact ⟨rfl,by simp [PyData.depth]⟩
 ·refine ⟨?_,by simp [PyData.depth]⟩
  show PyData.strOk z=true
  unfold PyData.strOk
  have ht':z.cps.toList.all (fun c=>rg (c:Nat))=true:=ht
  rw [← Array.all_toList,List.all_eq_true]
  rw [List.all_eq_true] at ht'
  intro c hc
  have:=ht' c hc
  simp only [rg,Bool.and_eq_true,decide_eq_true_eq] at this
  exact decide_eq_true (by omega)
 ·have a:pks (is.map PyData.int)=true∧PyData.depthAll (is.map PyData.int)≤1:=by
   clear hl
   induction is with
   | nil=>exact ⟨rfl,by simp [PyData.depthAll]⟩
   | cons i is ih =>
    refine ⟨by simp only [List.map_cons,pks,pk,Bool.true_and]; exact ih.1,?_⟩
    simp only [List.map_cons,PyData.depthAll,PyData.depth]
    have:=ih.2
    omega
  refine ⟨by simp only [pk]; exact a.1,?_⟩
  simp only [PyData.depth]
  omega
theorem yZ {qs:List bL} {l:List PyData} (h:Paired (fun d (q:bL)=>PcD q.2 d) l qs):pks l=true∧PyData.depthAll l≤2:=by
 induction h with
 | nil=>exact ⟨rfl,by simp [PyData.depthAll]⟩
 | cons h r ih =>
  have:=zU h
  refine ⟨by simp only [pks,Bool.and_eq_true]; exact ⟨this.1,ih.1⟩,?_⟩
  simp only [PyData.depthAll]
  omega
theorem uK {H:Hp}:∀ {v:List V} {d:List PyData},bP H v d→∀ x∈v,∃ e,e∈d∧KAt H x e
 | _,_,.nil,_,h=>nomatch h
 | _,_,.cons q r,x,h=>by
  rcases List.mem_cons.mp h with rfl | h
  ·exact ⟨_,List.mem_cons_self,q⟩
  ·obtain ⟨e,he,k⟩:=uK r x h
   exact ⟨e,List.mem_cons_of_mem _ he,k⟩
theorem jZ {α β:Type} {F:α→β→Prop}:∀ {l:List α} {m:List β},Paired F l m→∀ a∈l,∃ b,b∈m∧F a b
 | _,_,.nil,_,h=>nomatch h
 | _,_,.cons q r,x,h=>by
  rcases List.mem_cons.mp h with rfl | h
  ·exact ⟨_,List.mem_cons_self,q⟩
  ·obtain ⟨e,he,k⟩:=jZ r x h
   exact ⟨e,List.mem_cons_of_mem _ he,k⟩
section
variable {P:Program} {w:World} {K:Frag} {mg:Str→Option Value} {base:Heap} {f g:Addr} {fd gd:FuncData}
end
open PySem L2
theorem eqI {i j:Int} (c:decide (V.int i=V.int j)=true):i=j:=V.int.inj (of_decide_eq_true c)
theorem neI {i j:Int} (c:¬ decide (V.int i=V.int j)=true):¬ i=j:=fun e=>c (decide_eq_true (congrArg V.int e))
theorem oG {r:Rm} (h:r.a=r.b) (hc:r.c=0):∀ ps:List bL,cB r ps=1
 | []=>rfl
 | q::ps=>by
  show cnt r q.2*cB r ps=1
  rw [oG h hc ps]
  unfold cnt
  rw [hc]
  split
  ·omega
  ·rfl
theorem Fd.ext {H H':Hp} {fp sc rl:Addr} {m:Nat} (x:Ext rl H H') (n:rl≠fp∧rl≠sc) (h:Fd H fp sc m):Fd H' fp sc m:=by
 obtain ⟨ns,a,b,c,h1,h2,h3⟩:=h
 exact ⟨ns,a,b,c,x _ _ n.1.symm h1,x _ _ n.2.symm h2,h3⟩
def msr (r:Rm) (tn:Nat):Nat:=3*((r.b - r.a).toNat+(r.e - r.d).toNat+r.c.toNat)+(2 - tn % 3)
section
variable {P:Program} {w:World} {K:Frag} {mg:Str→Option Value} {base:Heap} {f g:Addr} {fd gd:FuncData}
abbrev ue:List Str:=["_law_feed_here", "_law_program", "_law_f", "_law_most", "_law_low", "_law_room_here", "_law_turn"]
theorem dU:aU ue ["_law_feed_here", "_law_program", "_law_f", "_law_most"] (defScope kg):=⟨rfl,rfl,rfl,by decide +kernel,rfl,by decide +kernel,by decide +kernel⟩
def Aq:Sp:=fun vs H Q _=>∃ fp sc m pg i R FS F,vs=[.ref fp,pg,.int (i:Nat),.int 40]∧Fd H fp sc m∧m≤90000∧iY H pg R FS∧wS R FS∧FS[i]?=some F∧∀ rv r H',Ext fp H H'→Fd H' fp sc (m+7)→mf H' rv r→iC r→cB r (bO R F.2)≤40→Q rv H'
theorem wO (T:G0 mg) (TX:GX mg) (F:Fun K "_law_room" "_law_room" kg f fd) (D_l_many:Cal P w K mg base 6 "_law_many" ["_law_program", "_law_f", "_law_room_here"] uF) (D_l_draw:Cal P w K mg base 1 "_law_draw" ["_law_feed_here", "_law_many_here"] vO):bI P w K mg base CX0 7 f fd ["_law_feed_here", "_law_program", "_law_f", "_law_most"] Aq:=by
 obtain ⟨g_l_many,gd_l_many,G_l_many,b_l_many,k_l_many,m_l_many⟩:=D_l_many.ex
 obtain ⟨g_l_draw,gd_l_draw,G_l_draw,b_l_draw,k_l_draw,m_l_draw⟩:=D_l_draw.ex
 refine F.ok dU (fun vs H Q E h=>?_) (fun cdv A outer s H vs Q E hr h=>?_)
 ·obtain ⟨fp,sc,m,pg,i,R,FS,F,rfl,_⟩:=h
  rfl
 obtain ⟨fp,sc,m,pg,i,R,FS,FF,rfl,hf,hm,hp,hpg,hF,q⟩:=h
 refine ⟨_,(@ak _ _ _ _ _ (@aB _ _ 4 _ _ _ _ dU.nd rfl (Or.inl rfl) (@aq _ _ _ _ _ _ _ aM (@aY _ _ _ _ (@ad _ _ _ _ _ ag (@ad _ _ _ _ _ ag (@ad _ _ _ _ _ ag (@ad _ _ _ _ _ ag (@ad _ _ _ _ _ ag ah (ac rfl)) (ac rfl)) (ac rfl)) (ac rfl)) (ac rfl))) (@au _ _ _ _ _ _ _ _ _ _ _ _ _ _ _ _ G_l_draw (hr.mono (by omega)) rfl m_l_draw k_l_draw b_l_draw .nil aO (@ad _ _ _ _ _ (pv 0) (@ad _ _ _ _ _ ag ah (ac rfl)) (ac rfl)) (by decide) (ac rfl) (aj rfl)) (fun _ _=>rfl)) (ap rfl) (.inr rfl)) (@ak _ _ _ _ _ (@aB _ _ 5 _ _ _ _ dU.nd rfl (Or.inl rfl) (@aY _ _ _ _ (@ad _ _ _ _ _ (@hV _ _ _ _ _ _ eu (@au _ _ _ _ _ _ _ _ _ _ _ _ _ _ _ _ G_l_draw (hr.mono (by omega)) rfl m_l_draw k_l_draw b_l_draw .nil aO (@ad _ _ _ _ _ (pv 0) (@ad _ _ _ _ _ ag ah (ac rfl)) (ac rfl)) (by decide) (ac rfl) (aj rfl))) (@ad _ _ _ _ _ (@au _ _ _ _ _ _ _ _ _ _ _ _ _ _ _ _ G_l_draw (hr.mono (by omega)) rfl m_l_draw k_l_draw b_l_draw .nil aO (@ad _ _ _ _ _ (pv 0) (@ad _ _ _ _ _ ag ah (ac rfl)) (ac rfl)) (by decide) (ac rfl) (aj rfl)) (@ad _ _ _ _ _ (@au _ _ _ _ _ _ _ _ _ _ _ _ _ _ _ _ G_l_draw (hr.mono (by omega)) rfl m_l_draw k_l_draw b_l_draw .nil aO (@ad _ _ _ _ _ (pv 0) (@ad _ _ _ _ _ ag ah (ac rfl)) (ac rfl)) (by decide) (ac rfl) (aj rfl)) (@ad _ _ _ _ _ (pv 4) (@ad _ _ _ _ _ (@ay _ _ _ _ _ _ _ _ _ (rP rfl) rfl TX.min zY (@ad _ _ _ _ _ ag (@ad _ _ _ _ _ (@aN _ _ _ _ _ _ _ _ bx (pv 4) (@au _ _ _ _ _ _ _ _ _ _ _ _ _ _ _ _ G_l_draw (hr.mono (by omega)) rfl m_l_draw k_l_draw b_l_draw .nil aO (@ad _ _ _ _ _ (pv 0) (@ad _ _ _ _ _ ag ah (ac rfl)) (ac rfl)) (by decide) (ac rfl) (aj rfl))) ah (ac rfl)) (ac rfl)) (by decide) (by decide) (ac rfl) (aj rfl)) ah (ac rfl)) (ac rfl)) (ac rfl)) (ac rfl)) (ac rfl))) (ap rfl) (.inr rfl)) (@ak _ _ _ _ _ (@bf _ _ _ _ _ _ _ _ (@aC _ _ _ _ _ _ _ _ bt (@au _ _ _ _ _ _ _ _ _ _ _ _ _ _ _ _ G_l_draw (hr.mono (by omega)) rfl m_l_draw k_l_draw b_l_draw .nil aO (@ad _ _ _ _ _ (pv 0) (@ad _ _ _ _ _ ag ah (ac rfl)) (ac rfl)) (by decide) (ac rfl) (aj rfl)) ag (aD _)) (@ak _ _ _ _ _ (@dc _ _ _ _ _ _ (@aq _ _ _ _ _ _ _ aM (@aY _ _ _ _ (@ad _ _ _ _ _ (@hV _ _ _ _ _ _ eu ag) (@ad _ _ _ _ _ ag ah (ac rfl)) (ac rfl))) (@au _ _ _ _ _ _ _ _ _ _ _ _ _ _ _ _ G_l_draw (hr.mono (by omega)) rfl m_l_draw k_l_draw b_l_draw .nil aO (@ad _ _ _ _ _ (pv 0) (@ad _ _ _ _ _ ag ah (ac rfl)) (ac rfl)) (by decide) (ac rfl) (aj rfl)) (fun _ _=>rfl)) (cS (pv 5) ag bS) rfl rfl rfl) (@ao _ _ _ (@dc _ _ _ _ _ _ (@aq _ _ _ _ _ _ _ aM (@aY _ _ _ _ (@ad _ _ _ _ _ ag (@ad _ _ _ _ _ ag ah (ac rfl)) (ac rfl))) (@bq _ _ _ _ _ _ _ _ _ lW rfl T.int oJ (@ad _ _ _ _ _ (@bw _ _ _ _ _ _ _ _ bt (@aq _ _ _ _ _ _ _ aM (pv 5) ag (fun _ _=>rfl)) ag (aD _)) ah (ac rfl)) (by decide) (by decide) (ac rfl) (aj rfl)) (fun _ _=>rfl)) (cS (pv 5) ag bS) rfl rfl rfl))) aS) (@ak _ _ _ _ _ (@aB _ _ 6 _ _ _ _ dU.nd rfl (Or.inl rfl) ag (ap rfl) (.inr rfl)) (@ak _ _ _ _ _ (wE PassesOwn.never (@aC _ _ _ _ _ _ _ _ jJ (@au _ _ _ _ _ _ _ _ _ _ _ _ _ _ _ _ G_l_many (hr.mono (by omega)) rfl m_l_many k_l_many b_l_many .nil aO (@ad _ _ _ _ _ (pv 1) (@ad _ _ _ _ _ (pv 2) (@ad _ _ _ _ _ (pv 5) ah (ac rfl)) (ac rfl)) (ac rfl)) (by decide) (ac rfl) (aj rfl)) (pv 3) (aD _)) (@ak _ _ _ _ _ (@aB _ _ 6 _ _ _ _ dU.nd rfl (Or.inl rfl) (@aN _ _ _ _ _ _ _ _ bx (pv 6) ag) (ap rfl) (.inr rfl)) (@ao _ _ _ (@bf _ _ _ _ _ _ _ _ (PW.pt (pV (@aC _ _ _ _ _ _ _ _ bt (@aN _ _ _ _ _ _ _ _ dg (pv 6) ag) ag (aD _)) (ml (@aC _ _ _ _ _ _ _ _ jJ (@aq _ _ _ _ _ _ _ aM (pv 5) ag (fun _ _=>rfl)) ag (aD _))))) (@ao _ _ _ (@dc _ _ _ _ _ _ (@aN _ _ _ _ _ _ _ _ kD (@aq _ _ _ _ _ _ _ aM (pv 5) ag (fun _ _=>rfl)) ag) (cS (pv 5) ag bS) rfl rfl rfl)) (@ao _ _ _ (@bf _ _ _ _ _ _ _ _ (PW.pt (pV (@aC _ _ _ _ _ _ _ _ bt (@aN _ _ _ _ _ _ _ _ dg (pv 6) ag) ag (aD _)) (ml (@aC _ _ _ _ _ _ _ _ jJ (@aq _ _ _ _ _ _ _ aM (pv 5) ag (fun _ _=>rfl)) (@aq _ _ _ _ _ _ _ aM (pv 5) ag (fun _ _=>rfl)) (aD _))))) (@ao _ _ _ (@dc _ _ _ _ _ _ (@aN _ _ _ _ _ _ _ _ kD (@aq _ _ _ _ _ _ _ aM (pv 5) ag (fun _ _=>rfl)) ag) (cS (pv 5) ag bS) rfl rfl rfl)) (@ao _ _ _ (@bf _ _ _ _ _ _ _ _ (@aC _ _ _ _ _ _ _ _ jJ (@aq _ _ _ _ _ _ _ aM (pv 5) ag (fun _ _=>rfl)) (@aq _ _ _ _ _ _ _ aM (pv 5) ag (fun _ _=>rfl)) (aD _)) (@ao _ _ _ (@dc _ _ _ _ _ _ (@aq _ _ _ _ _ _ _ aM (@aY _ _ _ _ (@ad _ _ _ _ _ (@aQ _ _ _ _ _ (@ad _ _ _ _ _ (@aN _ _ _ _ _ _ _ _ bx (@aq _ _ _ _ _ _ _ aM (pv 5) ag (fun _ _=>rfl)) ag) (@ad _ _ _ _ _ (@aq _ _ _ _ _ _ _ aM (pv 5) ag (fun _ _=>rfl)) ah (ac rfl)) (ac rfl))) (@ad _ _ _ _ _ (@aQ _ _ _ _ _ (@ad _ _ _ _ _ (@aq _ _ _ _ _ _ _ aM (pv 5) ag (fun _ _=>rfl)) (@ad _ _ _ _ _ (@aN _ _ _ _ _ _ _ _ kD (@aq _ _ _ _ _ _ _ aM (pv 5) ag (fun _ _=>rfl)) ag) ah (ac rfl)) (ac rfl))) ah (ac rfl)) (ac rfl))) (@aN _ _ _ _ _ _ _ _ dg (pv 6) ag) (fun _ _=>rfl)) (cQ rfl (aV (cS (pv 5) ag bS) (aV (cS (pv 5) ag bS) cf))) rfl rfl rfl)) aS)))))))) (@ao _ _ _ (@aH _ _ _ _ (@bq _ _ _ _ _ _ _ _ _ bE rfl T.tuple cb (@ad _ _ _ _ _ (pv 5) ah (ac rfl)) (by decide) (by decide) (ac rfl) (aj rfl))))))))),?_⟩
 refine ⟨(by show 5≤sizeLine; decide),fun l1 hl1=>?_⟩
 have s1:=af hl1 (.lst [.int 32,.int 36,.int 97,.int 37,.int 125])
 have f1:=hf.same s1
 refine ⟨_,rfl,fp,5,sc,m,rfl,f1,by omega,by decide,by decide,fun v2 H2 a2 b2 x2 f2=>?_⟩
 obtain ⟨u,hu,_,hat⟩:=du (xs:=[V.int 32,.int 36,.int 97,.int 37,.int 125]) a2 b2
 obtain ⟨low,rfl,hlow⟩:∃ low:Int,u=.int low∧low∈([32,36,97,37,125]:List Int):=by
  simp only [List.mem_cons,List.not_mem_nil,or_false] at hu
  rcases hu with rfl | rfl | rfl | rfl | rfl<;>exact ⟨_,rfl,by decide⟩
 have hlw:32≤low∧low≤125:=by
  simp only [List.mem_cons,List.not_mem_nil,or_false] at hlow
  omega
 refine ⟨l1,_,_,_,rfl,rfl,SqL.of (x2 _ _ (hf.ne hl1).1 ae),hat,?_⟩
 refine ⟨_,rfl,fp,4,sc,_,rfl,f2,by omega,by decide,by decide,fun v3 H3 a3 b3 x3 f3=>?_⟩
 refine ⟨_,rfl,_,rfl,fp,4,sc,_,rfl,f3,by omega,by decide,by decide,fun v4 H4 a4 b4 x4 f4=>?_⟩
 refine ⟨_,rfl,fp,4,sc,_,rfl,f4,by omega,by decide,by decide,fun v5 H5 a5 b5 x5 f5=>?_⟩
 refine ⟨_,rfl,_,rfl,_,rfl,fp,4,sc,_,rfl,f5,by omega,by decide,by decide,fun v6 H6 a6 b6 x6 f6=>?_⟩
 refine ⟨_,_,rfl,rfl,_,_,rfl,(by show 5≤sizeLine; decide),fun rl hrl=>?_⟩
 have nrl:=f6.ne hrl
 have E6:Ext fp H H6:=(aA.ext s1).trans (x2.trans (x3.trans (x4.trans (x5.trans x6))))
 have Hrl:H rl=none:=E6.free nrl.1 hrl
 have s7:=af hrl (.lst [.int (-v3),.int v4,.int v5,.int low,.int (if low+v6<126 then low+v6 else 126)])
 have E7:=E6.trans (aA.ext s7)
 have F7:=f6.same s7
 have hr7:(upd H6 rl (.lst [.int (-v3),.int v4,.int v5,.int low,.int (if low+v6<126 then low+v6 else 126)])) rl=_:=ae
 generalize (upd H6 rl (.lst [.int (-v3),.int v4,.int v5,.int low,.int (if low+v6<126 then low+v6 else 126)]))=H7 at E7 F7 hr7
 have hee:low≤(if low+v6<126 then low+v6 else 126)∧(if low+v6<126 then low+v6 else 126)≤low+3∧(if low+v6<126 then low+v6 else 126)≤126:=by split<;>omega
 have rok:∀ {a b:Int},-9≤a→a≤b→b≤9→iC ⟨a,b,v5,low,if low+v6<126 then low+v6 else 126⟩:=fun h1 h2 h3=>⟨h1,h2,h3,a5,by show v5≤3; omega,hlow,hee.1,hee.2.1,hee.2.2⟩
 dsimp only [jD]
 refine df (fun σ H8=>∃ r,σ=[some (.ref fp),some pg,some (.int (i:Nat)),some (.int 40),some (.int low),some (.ref rl),none]∧Ext fp H H8∧Fd H8 fp sc (m+7)∧H8 rl=some (.lst r.vs)∧iC r) (fun NX hNX=>?_) (fun σ H8 jj=>?_)
 ·refine ⟨_,rfl,fp,4,sc,_,rfl,F7,by omega,by decide,by decide,fun v7 H9 a7 b7 x7 f7=>?_⟩
  have e7:=E7.trans x7
  have hrl7:=x7 _ _ nrl.1 hr7
  refine ⟨rfl,_,rfl,?_⟩
  refine bh (fun c1=>?_) (fun c1=>?_)
  ·refine ⟨_,rfl,(by show 2≤sizeLine; decide),fun l2 hl2=>?_⟩
   have s2:=af hl2 (.lst [.int (-9),.int 3])
   have g7:=f7.same s2
   refine ⟨_,rfl,fp,2,sc,_,rfl,g7,by omega,by decide,by decide,fun v8 H8 a8 b8 x8 f8=>?_⟩
   obtain ⟨u8,hu8,_,hat8⟩:=du (xs:=[V.int (-9),.int 3]) a8 b8
   have e7:=e7.trans (aA.ext s2)
   simp only [List.mem_cons,List.not_mem_nil,or_false] at hu8
   rcases hu8 with ea | ea
   ·subst ea
    have e8:=e7.trans x8
    refine ⟨l2,_,_,_,rfl,rfl,SqL.of (x8 _ _ (f7.ne hl2).1 ae),hat8,?_⟩
    have hrl8:=x8 _ _ nrl.1 (s2 _ _ hrl7)
    refine ⟨_,rfl,rl,_,_,_,rfl,rfl,hrl8,rfl,?_⟩
    have f8':=f8.upd (o:=.lst [.int (-9),.int v4,.int v5,.int low,.int (if low+v6<126 then low+v6 else 126)]) nrl
    refine ⟨(by show 2≤sizeLine; decide),fun l3 hl3=>?_⟩
    have s3:=af hl3 (.lst [.int 9,.int 3])
    have hrl9:=s3 _ _ (ae (H:=H8) (a:=rl) (o:=.lst [.int (-9),.int v4,.int v5,.int low,.int (if low+v6<126 then low+v6 else 126)]))
    refine ⟨_,rfl,rl,_,_,_,rfl,rfl,SqL.of hrl9,rfl,rfl,.inr ⟨_,rfl,l3,_,_,_,rfl,rfl,SqL.of ae,(show atI [V.int 9,.int 3] (if decide (V.int (-9)=V.int 3)=true then 1 else 0)=some (.int 9) from by decide +kernel),?_⟩⟩
    refine ⟨_,rfl,rl,_,_,_,rfl,rfl,hrl9,rfl,?_⟩
    exact hNX _ _ ⟨⟨(-9),9,v5,low,if low+v6<126 then low+v6 else 126⟩,rfl,((e8.put Hrl).trans (aA.ext s3)).put Hrl,((f8'.same s3).upd nrl).le (by omega),ae,rok (by omega) (by omega) (by omega)⟩
   ·subst ea
    have e8:=e7.trans x8
    refine ⟨l2,_,_,_,rfl,rfl,SqL.of (x8 _ _ (f7.ne hl2).1 ae),hat8,?_⟩
    have hrl8:=x8 _ _ nrl.1 (s2 _ _ hrl7)
    refine ⟨_,rfl,rl,_,_,_,rfl,rfl,hrl8,rfl,?_⟩
    have f8':=f8.upd (o:=.lst [.int 3,.int v4,.int v5,.int low,.int (if low+v6<126 then low+v6 else 126)]) nrl
    refine ⟨(by show 2≤sizeLine; decide),fun l3 hl3=>?_⟩
    have s3:=af hl3 (.lst [.int 9,.int 3])
    have hrl9:=s3 _ _ (ae (H:=H8) (a:=rl) (o:=.lst [.int 3,.int v4,.int v5,.int low,.int (if low+v6<126 then low+v6 else 126)]))
    refine ⟨_,rfl,rl,_,_,_,rfl,rfl,SqL.of hrl9,rfl,rfl,.inr ⟨_,rfl,l3,_,_,_,rfl,rfl,SqL.of ae,(show atI [V.int 9,.int 3] (if decide (V.int 3=V.int 3)=true then 1 else 0)=some (.int 3) from by decide +kernel),?_⟩⟩
    refine ⟨_,rfl,rl,_,_,_,rfl,rfl,hrl9,rfl,?_⟩
    exact hNX _ _ ⟨⟨3,3,v5,low,if low+v6<126 then low+v6 else 126⟩,rfl,((e8.put Hrl).trans (aA.ext s3)).put Hrl,((f8'.same s3).upd nrl).le (by omega),ae,rok (by omega) (by omega) (by omega)⟩
  ·exact hNX _ _ ⟨⟨-v3,v4,v5,low,_⟩,rfl,e7,f7.le (by omega),hrl7,rok (by omega) (by omega) (by omega)⟩
 obtain ⟨r0,rfl,E8,F8,hr8,hok0⟩:=jj
 refine ⟨fun mm σ H'=>∃ (tn:Nat) (r:Rm),σ=[some (.ref fp),some pg,some (.int (i:Nat)),some (.int 40),some (.int low),some (.ref rl),some (.int (tn:Int))]∧Ext rl H8 H'∧H' rl=some (.lst r.vs)∧iC r∧mm=msr r tn,⟨_,0,r0,rfl,Ext.refl _ _,hr8,hok0,rfl⟩,fun mm σ H' wm=>?_⟩
 obtain ⟨tn,r,rfl,X,hr,hok,rfl⟩:=wm
 have k8:Tk H H8:=hf.tk E8
 have kX:=cg X hr8
 refine ⟨_,rfl,_,rfl,_,rfl,pg,i,R,FS,FF,rl,r,rfl,(hp.mono k8).mono kX,hpg,hF,hr,hok,fun H2 g2=>?_⟩
 have hr2:=g2 _ _ hr
 have X2:=X.trans (aA.ext g2)
 refine ⟨_,rfl,_,_,rfl,rfl,_,rfl,?_⟩
 refine bh (fun c1=>?_) (fun c1=>?_)
 ·have c1':(40:Int)<(cB r (bO R FF.2):Nat):=of_decide_eq_true c1
  have zero:¬ (r.a=r.b∧r.c=0):=fun z=>by
   rw [oG z.1 z.2] at c1'
   omega
  refine ⟨fun σ' H'=>∃ m',m'<msr r tn∧∃ (tn:Nat) (r:Rm),σ'=[some (.ref fp),some pg,some (.int (i:Nat)),some (.int 40),some (.int low),some (.ref rl),some (.int (tn:Int))]∧Ext rl H8 H'∧H' rl=some (.lst r.vs)∧iC r∧m'=msr r tn,fun _ _ h=>h,?_⟩
  refine ⟨_,rfl,_,_,rfl,rfl,?_⟩
  have o1:=hok.a
  have o2:=hok.ab
  have o3:=hok.b
  have o4:=hok.c0
  have o5:=hok.c
  have o6:=hok.de
  have o7:=hok.e3
  have o8:=hok.e
  have FIN:∀ {r':Rm} {H':Hp},Ext rl H2 H'→H' rl=some (.lst r'.vs)→iC r'→msr r' (tn+1)<msr r tn→∃ m',m'<msr r tn∧∃ (tn':Nat) (r:Rm),([some (.ref fp),some pg,some (.int (i:Nat)),some (.int 40),some (.int low),some (.ref rl),some (.int ((tn:Int)+1))]:St)=[some (.ref fp),some pg,some (.int (i:Nat)),some (.int 40),some (.int low),some (.ref rl),some (.int (tn':Int))]∧Ext rl H8 H'∧H' rl=some (.lst r.vs)∧iC r∧m'=msr r tn':=fun {r' H'} x h o l=>⟨_,l,tn+1,r',rfl,X2.trans x,h,o,rfl⟩
  refine ⟨_,rfl,_,_,rfl,rfl,(show (0:Int)<3 by decide),rfl,_,rfl,?_⟩
  refine bh (fun a1=>?_) (fun a1=>?_)
  ·have a1':=eqI a1
   refine ⟨_,rfl,rl,_,_,_,rfl,rfl,SqL.of hr2,rfl,_,_,rfl,rfl,_,rfl,?_⟩
   refine bh (fun a2=>?_) (fun a2=>?_)
   ·have a2':0<r.c:=of_decide_eq_true a2
    refine ⟨_,rfl,rl,_,_,_,rfl,rfl,SqL.of hr2,rfl,_,_,rfl,rfl,?_⟩
    refine ⟨_,rfl,rl,_,_,_,rfl,rfl,hr2,rfl,?_⟩
    exact FIN (r':=⟨r.a,r.b,r.c - 1,r.d,r.e⟩) Ext.upd ae ⟨hok.a,hok.ab,hok.b,by show 0≤r.c - 1; omega,by show r.c - 1≤3; omega,hok.d,hok.de,hok.e3,hok.e⟩ (by unfold msr; dsimp only; omega)
   ·have a2':¬ 0<r.c:=of_decide_eq_false (Bool.eq_false_iff.mpr a2)
    refine ⟨_,rfl,_,_,rfl,rfl,(show (0:Int)<3 by decide),rfl,_,rfl,?_⟩
    refine bh (fun b1=>?_) (fun b1=>?_)
    ·have b1':=eqI b1
     refine ⟨_,rfl,rl,_,_,_,rfl,rfl,SqL.of hr2,rfl,_,rfl,rl,_,_,_,rfl,rfl,SqL.of hr2,rfl,_,_,rfl,rfl,_,rfl,?_⟩
     refine bh (fun b2=>?_) (fun b2=>?_)
     ·have b2':r.d<r.e:=of_decide_eq_true b2
      refine ⟨_,rfl,rl,_,_,_,rfl,rfl,SqL.of hr2,rfl,_,_,rfl,rfl,?_⟩
      refine ⟨_,rfl,rl,_,_,_,rfl,rfl,hr2,rfl,?_⟩
      exact FIN (r':=⟨r.a,r.b,r.c,r.d,r.e - 1⟩) Ext.upd ae ⟨hok.a,hok.ab,hok.b,hok.c0,hok.c,hok.d,by show r.d≤r.e - 1; omega,by show r.e - 1≤r.d+3; omega,by show r.e - 1≤126; omega⟩ (by unfold msr; dsimp only; omega)
     ·have b2':¬ r.d<r.e:=of_decide_eq_false (Bool.eq_false_iff.mpr b2)
      refine ⟨_,rfl,rl,_,_,_,rfl,rfl,SqL.of hr2,rfl,_,rfl,rl,_,_,_,rfl,rfl,SqL.of hr2,rfl,_,_,rfl,rfl,_,rfl,?_⟩
      refine bh (fun d1=>?_) (fun d1=>?_)
      ·have d1':r.a<r.b:=of_decide_eq_true d1
       refine ⟨_,rfl,rl,_,_,_,rfl,rfl,SqL.of hr2,rfl,_,_,rfl,rfl,_,rfl,rl,_,_,_,rfl,rfl,SqL.of hr2,rfl,(by show 2≤sizeLine; decide),fun t1 ht1=>?_⟩
       have w1:=af ht1 (.tup [.int (r.a+1),.int r.b])
       have hr4:=w1 _ _ hr2
       refine ⟨_,rfl,rl,_,_,_,rfl,rfl,SqL.of hr4,rfl,_,rfl,rl,_,_,_,rfl,rfl,SqL.of hr4,rfl,_,_,rfl,rfl,(by show 2≤sizeLine; decide),fun t2 ht2=>?_⟩
       have w2:=w1.trans (af ht2 (.tup [.int r.a,.int (r.b - 1)]))
       refine ⟨(by show 2≤sizeLine; decide),fun t3 ht3=>?_⟩
       have w3:=w2.trans (af ht3 (.lst [.ref t1,.ref t2]))
       have hr5:=w3 _ _ hr2
       refine ⟨_,rfl,_,_,rfl,rfl,(show (0:Int)<2 by decide),?_⟩
       have d2:((tn:Int)+1) % 2=0∨((tn:Int)+1) % 2=1:=by omega
       rcases d2 with d2 | d2
       ·refine ⟨t3,_,_,.ref t1,rfl,rfl,SqL.of ae,by rw [d2]; rfl,?_⟩
        refine ⟨t1,_,rfl,SqT.of (af ht3 (.lst [.ref t1,.ref t2]) _ _ (af ht2 (.tup [.int r.a,.int (r.b - 1)]) _ _ ae)),rfl,_,_,rfl,?_⟩
        refine ⟨_,rfl,rl,_,_,_,rfl,rfl,hr5,rfl,?_⟩
        refine ⟨_,_,rfl,_,rfl,rl,_,_,_,rfl,rfl,ae,rfl,rfl,?_⟩
        exact FIN (r':=⟨r.a+1,r.b,r.c,r.d,r.e⟩) ((aA.ext w3).trans (Ext.upd.trans Ext.upd)) ae ⟨by show -9≤r.a+1; omega,by show r.a+1≤r.b; omega,hok.b,hok.c0,hok.c,hok.d,hok.de,hok.e3,hok.e⟩ (by unfold msr; dsimp only; omega)
       ·refine ⟨t3,_,_,.ref t2,rfl,rfl,SqL.of ae,by rw [d2]; rfl,?_⟩
        refine ⟨t2,_,rfl,SqT.of (af ht3 (.lst [.ref t1,.ref t2]) _ _ ae),rfl,_,_,rfl,?_⟩
        refine ⟨_,rfl,rl,_,_,_,rfl,rfl,hr5,rfl,?_⟩
        refine ⟨_,_,rfl,_,rfl,rl,_,_,_,rfl,rfl,ae,rfl,rfl,?_⟩
        exact FIN (r':=⟨r.a,r.b - 1,r.c,r.d,r.e⟩) ((aA.ext w3).trans (Ext.upd.trans Ext.upd)) ae ⟨hok.a,by show r.a≤r.b - 1; omega,by show r.b - 1≤9; omega,hok.c0,hok.c,hok.d,hok.de,hok.e3,hok.e⟩ (by unfold msr; dsimp only; omega)
      ·have d1':¬ r.a<r.b:=of_decide_eq_false (Bool.eq_false_iff.mpr d1)
       exact FIN (r':=r) (Ext.refl _ _) hr2 hok (by unfold msr; omega)
    ·have b1':=neI b1
     refine ⟨_,rfl,rl,_,_,_,rfl,rfl,SqL.of hr2,rfl,_,rfl,rl,_,_,_,rfl,rfl,SqL.of hr2,rfl,_,_,rfl,rfl,_,rfl,?_⟩
     refine bh (fun d1=>?_) (fun d1=>?_)
     ·have d1':r.a<r.b:=of_decide_eq_true d1
      refine ⟨_,rfl,rl,_,_,_,rfl,rfl,SqL.of hr2,rfl,_,_,rfl,rfl,_,rfl,rl,_,_,_,rfl,rfl,SqL.of hr2,rfl,(by show 2≤sizeLine; decide),fun t1 ht1=>?_⟩
      have w1:=af ht1 (.tup [.int (r.a+1),.int r.b])
      have hr4:=w1 _ _ hr2
      refine ⟨_,rfl,rl,_,_,_,rfl,rfl,SqL.of hr4,rfl,_,rfl,rl,_,_,_,rfl,rfl,SqL.of hr4,rfl,_,_,rfl,rfl,(by show 2≤sizeLine; decide),fun t2 ht2=>?_⟩
      have w2:=w1.trans (af ht2 (.tup [.int r.a,.int (r.b - 1)]))
      refine ⟨(by show 2≤sizeLine; decide),fun t3 ht3=>?_⟩
      have w3:=w2.trans (af ht3 (.lst [.ref t1,.ref t2]))
      have hr5:=w3 _ _ hr2
      refine ⟨_,rfl,_,_,rfl,rfl,(show (0:Int)<2 by decide),?_⟩
      have d2:((tn:Int)+1) % 2=0∨((tn:Int)+1) % 2=1:=by omega
      rcases d2 with d2 | d2
      ·refine ⟨t3,_,_,.ref t1,rfl,rfl,SqL.of ae,by rw [d2]; rfl,?_⟩
       refine ⟨t1,_,rfl,SqT.of (af ht3 (.lst [.ref t1,.ref t2]) _ _ (af ht2 (.tup [.int r.a,.int (r.b - 1)]) _ _ ae)),rfl,_,_,rfl,?_⟩
       refine ⟨_,rfl,rl,_,_,_,rfl,rfl,hr5,rfl,?_⟩
       refine ⟨_,_,rfl,_,rfl,rl,_,_,_,rfl,rfl,ae,rfl,rfl,?_⟩
       exact FIN (r':=⟨r.a+1,r.b,r.c,r.d,r.e⟩) ((aA.ext w3).trans (Ext.upd.trans Ext.upd)) ae ⟨by show -9≤r.a+1; omega,by show r.a+1≤r.b; omega,hok.b,hok.c0,hok.c,hok.d,hok.de,hok.e3,hok.e⟩ (by unfold msr; dsimp only; omega)
      ·refine ⟨t3,_,_,.ref t2,rfl,rfl,SqL.of ae,by rw [d2]; rfl,?_⟩
       refine ⟨t2,_,rfl,SqT.of (af ht3 (.lst [.ref t1,.ref t2]) _ _ ae),rfl,_,_,rfl,?_⟩
       refine ⟨_,rfl,rl,_,_,_,rfl,rfl,hr5,rfl,?_⟩
       refine ⟨_,_,rfl,_,rfl,rl,_,_,_,rfl,rfl,ae,rfl,rfl,?_⟩
       exact FIN (r':=⟨r.a,r.b - 1,r.c,r.d,r.e⟩) ((aA.ext w3).trans (Ext.upd.trans Ext.upd)) ae ⟨hok.a,by show r.a≤r.b - 1; omega,by show r.b - 1≤9; omega,hok.c0,hok.c,hok.d,hok.de,hok.e3,hok.e⟩ (by unfold msr; dsimp only; omega)
     ·have d1':¬ r.a<r.b:=of_decide_eq_false (Bool.eq_false_iff.mpr d1)
      exact FIN (r':=r) (Ext.refl _ _) hr2 hok (by unfold msr; omega)
  ·have a1':=neI a1
   refine ⟨_,rfl,_,_,rfl,rfl,(show (0:Int)<3 by decide),rfl,_,rfl,?_⟩
   refine bh (fun b1=>?_) (fun b1=>?_)
   ·have b1':=eqI b1
    refine ⟨_,rfl,rl,_,_,_,rfl,rfl,SqL.of hr2,rfl,_,rfl,rl,_,_,_,rfl,rfl,SqL.of hr2,rfl,_,_,rfl,rfl,_,rfl,?_⟩
    refine bh (fun b2=>?_) (fun b2=>?_)
    ·have b2':r.d<r.e:=of_decide_eq_true b2
     refine ⟨_,rfl,rl,_,_,_,rfl,rfl,SqL.of hr2,rfl,_,_,rfl,rfl,?_⟩
     refine ⟨_,rfl,rl,_,_,_,rfl,rfl,hr2,rfl,?_⟩
     exact FIN (r':=⟨r.a,r.b,r.c,r.d,r.e - 1⟩) Ext.upd ae ⟨hok.a,hok.ab,hok.b,hok.c0,hok.c,hok.d,by show r.d≤r.e - 1; omega,by show r.e - 1≤r.d+3; omega,by show r.e - 1≤126; omega⟩ (by unfold msr; dsimp only; omega)
    ·have b2':¬ r.d<r.e:=of_decide_eq_false (Bool.eq_false_iff.mpr b2)
     refine ⟨_,rfl,rl,_,_,_,rfl,rfl,SqL.of hr2,rfl,_,rfl,rl,_,_,_,rfl,rfl,SqL.of hr2,rfl,_,_,rfl,rfl,_,rfl,?_⟩
     refine bh (fun d1=>?_) (fun d1=>?_)
     ·have d1':r.a<r.b:=of_decide_eq_true d1
      refine ⟨_,rfl,rl,_,_,_,rfl,rfl,SqL.of hr2,rfl,_,_,rfl,rfl,_,rfl,rl,_,_,_,rfl,rfl,SqL.of hr2,rfl,(by show 2≤sizeLine; decide),fun t1 ht1=>?_⟩
      have w1:=af ht1 (.tup [.int (r.a+1),.int r.b])
      have hr4:=w1 _ _ hr2
      refine ⟨_,rfl,rl,_,_,_,rfl,rfl,SqL.of hr4,rfl,_,rfl,rl,_,_,_,rfl,rfl,SqL.of hr4,rfl,_,_,rfl,rfl,(by show 2≤sizeLine; decide),fun t2 ht2=>?_⟩
      have w2:=w1.trans (af ht2 (.tup [.int r.a,.int (r.b - 1)]))
      refine ⟨(by show 2≤sizeLine; decide),fun t3 ht3=>?_⟩
      have w3:=w2.trans (af ht3 (.lst [.ref t1,.ref t2]))
      have hr5:=w3 _ _ hr2
      refine ⟨_,rfl,_,_,rfl,rfl,(show (0:Int)<2 by decide),?_⟩
      have d2:((tn:Int)+1) % 2=0∨((tn:Int)+1) % 2=1:=by omega
      rcases d2 with d2 | d2
      ·refine ⟨t3,_,_,.ref t1,rfl,rfl,SqL.of ae,by rw [d2]; rfl,?_⟩
       refine ⟨t1,_,rfl,SqT.of (af ht3 (.lst [.ref t1,.ref t2]) _ _ (af ht2 (.tup [.int r.a,.int (r.b - 1)]) _ _ ae)),rfl,_,_,rfl,?_⟩
       refine ⟨_,rfl,rl,_,_,_,rfl,rfl,hr5,rfl,?_⟩
       refine ⟨_,_,rfl,_,rfl,rl,_,_,_,rfl,rfl,ae,rfl,rfl,?_⟩
       exact FIN (r':=⟨r.a+1,r.b,r.c,r.d,r.e⟩) ((aA.ext w3).trans (Ext.upd.trans Ext.upd)) ae ⟨by show -9≤r.a+1; omega,by show r.a+1≤r.b; omega,hok.b,hok.c0,hok.c,hok.d,hok.de,hok.e3,hok.e⟩ (by unfold msr; dsimp only; omega)
      ·refine ⟨t3,_,_,.ref t2,rfl,rfl,SqL.of ae,by rw [d2]; rfl,?_⟩
       refine ⟨t2,_,rfl,SqT.of (af ht3 (.lst [.ref t1,.ref t2]) _ _ ae),rfl,_,_,rfl,?_⟩
       refine ⟨_,rfl,rl,_,_,_,rfl,rfl,hr5,rfl,?_⟩
       refine ⟨_,_,rfl,_,rfl,rl,_,_,_,rfl,rfl,ae,rfl,rfl,?_⟩
       exact FIN (r':=⟨r.a,r.b - 1,r.c,r.d,r.e⟩) ((aA.ext w3).trans (Ext.upd.trans Ext.upd)) ae ⟨hok.a,by show r.a≤r.b - 1; omega,by show r.b - 1≤9; omega,hok.c0,hok.c,hok.d,hok.de,hok.e3,hok.e⟩ (by unfold msr; dsimp only; omega)
     ·have d1':¬ r.a<r.b:=of_decide_eq_false (Bool.eq_false_iff.mpr d1)
      exact FIN (r':=r) (Ext.refl _ _) hr2 hok (by unfold msr; omega)
   ·have b1':=neI b1
    refine ⟨_,rfl,rl,_,_,_,rfl,rfl,SqL.of hr2,rfl,_,rfl,rl,_,_,_,rfl,rfl,SqL.of hr2,rfl,_,_,rfl,rfl,_,rfl,?_⟩
    refine bh (fun d1=>?_) (fun d1=>?_)
    ·have d1':r.a<r.b:=of_decide_eq_true d1
     refine ⟨_,rfl,rl,_,_,_,rfl,rfl,SqL.of hr2,rfl,_,_,rfl,rfl,_,rfl,rl,_,_,_,rfl,rfl,SqL.of hr2,rfl,(by show 2≤sizeLine; decide),fun t1 ht1=>?_⟩
     have w1:=af ht1 (.tup [.int (r.a+1),.int r.b])
     have hr4:=w1 _ _ hr2
     refine ⟨_,rfl,rl,_,_,_,rfl,rfl,SqL.of hr4,rfl,_,rfl,rl,_,_,_,rfl,rfl,SqL.of hr4,rfl,_,_,rfl,rfl,(by show 2≤sizeLine; decide),fun t2 ht2=>?_⟩
     have w2:=w1.trans (af ht2 (.tup [.int r.a,.int (r.b - 1)]))
     refine ⟨(by show 2≤sizeLine; decide),fun t3 ht3=>?_⟩
     have w3:=w2.trans (af ht3 (.lst [.ref t1,.ref t2]))
     have hr5:=w3 _ _ hr2
     refine ⟨_,rfl,_,_,rfl,rfl,(show (0:Int)<2 by decide),?_⟩
     have d2:((tn:Int)+1) % 2=0∨((tn:Int)+1) % 2=1:=by omega
     rcases d2 with d2 | d2
     ·refine ⟨t3,_,_,.ref t1,rfl,rfl,SqL.of ae,by rw [d2]; rfl,?_⟩
      refine ⟨t1,_,rfl,SqT.of (af ht3 (.lst [.ref t1,.ref t2]) _ _ (af ht2 (.tup [.int r.a,.int (r.b - 1)]) _ _ ae)),rfl,_,_,rfl,?_⟩
      refine ⟨_,rfl,rl,_,_,_,rfl,rfl,hr5,rfl,?_⟩
      refine ⟨_,_,rfl,_,rfl,rl,_,_,_,rfl,rfl,ae,rfl,rfl,?_⟩
      exact FIN (r':=⟨r.a+1,r.b,r.c,r.d,r.e⟩) ((aA.ext w3).trans (Ext.upd.trans Ext.upd)) ae ⟨by show -9≤r.a+1; omega,by show r.a+1≤r.b; omega,hok.b,hok.c0,hok.c,hok.d,hok.de,hok.e3,hok.e⟩ (by unfold msr; dsimp only; omega)
     ·refine ⟨t3,_,_,.ref t2,rfl,rfl,SqL.of ae,by rw [d2]; rfl,?_⟩
      refine ⟨t2,_,rfl,SqT.of (af ht3 (.lst [.ref t1,.ref t2]) _ _ ae),rfl,_,_,rfl,?_⟩
      refine ⟨_,rfl,rl,_,_,_,rfl,rfl,hr5,rfl,?_⟩
      refine ⟨_,_,rfl,_,rfl,rl,_,_,_,rfl,rfl,ae,rfl,rfl,?_⟩
      exact FIN (r':=⟨r.a,r.b - 1,r.c,r.d,r.e⟩) ((aA.ext w3).trans (Ext.upd.trans Ext.upd)) ae ⟨hok.a,by show r.a≤r.b - 1; omega,by show r.b - 1≤9; omega,hok.c0,hok.c,hok.d,hok.de,hok.e3,hok.e⟩ (by unfold msr; dsimp only; omega)
    ·have d1':¬ r.a<r.b:=of_decide_eq_false (Bool.eq_false_iff.mpr d1)
     exact FIN (r':=r) (Ext.refl _ _) hr2 hok (by unfold msr; omega)
 ·have c1':((cB r (bO R FF.2):Nat):Int)≤40:=by
   have c2:¬ decide ((40:Int)<(cB r (bO R FF.2):Nat))=true:=c1
   have:=of_decide_eq_false (Bool.eq_false_iff.mpr c2)
   omega
  refine ⟨_,rfl,rl,_,rfl,.inl ⟨SqL.of hr2,fun t ht=>?_⟩⟩
  have gt':=af ht (.tup r.vs)
  refine q (.ref t) r _ (fun b o nb e=>?_) (((F8.ext X2 nrl).same gt')) ⟨t,rfl,ae⟩ hok (by omega)
  exact gt' _ _ (X2 _ _ (ar e Hrl) (E8 _ _ nb e))
end
end K6
namespace L2
theorem dH {X:Cx} {K:Frag} (h:X.K=K):bW X (.builtin "len") (fun xs H Q=>∃ p ys,xs=[.ref p]∧(SqL K H p ys∨SqT K H p ys)∧Q (.int ys.length) H):=h ▸ aI
end L2
namespace K6
open PySem L2
theorem zq {x y z:V} {h:Int} (h0:0≤h) (h1:h≤3):dj [x,y,z] none (some h)=[x,y,z].take h.toNat:=by
 have:h=0∨h=1∨h=2∨h=3:=by omega
 rcases this with rfl | rfl | rfl | rfl<;>rfl
def vc (R:List Rec):Prop:=∀ j rc,R[j]?=some rc→(1≤rc.2.length∧rc.2.length≤3)∧∀ p∈rc.2,p.2∈PL3++(R.take j).map (·.1)
theorem qL:∀ {R:List Rec} {j:Nat} {rc:Rec},(R.map (·.1)).Nodup→R[j]?=some rc→look R rc.1=rc.2
 | [],_,_,_,h=>nomatch h
 | r::R,0,rc,n,h=>by
  cases Option.some.inj h
  rw [iG,if_pos rfl]
 | r::R,j+1,rc,n,h=>by
  have n':=List.nodup_cons.mp n
  have hm:rc∈R:=List.mem_of_getElem? h
  rw [iG,if_neg (fun e=>n'.1 (by show r.1∈_; rw [e]; exact List.mem_map_of_mem hm))]
  exact qL n'.2 h
theorem qM {R:List Rec}:∀ {n:Nat} {k:Str},fj R n k→fj R (n+1) k
 | 0,_,h=>h.elim
 | n+1,k,h=>by
  rcases h with h | ⟨h1,h2,h3,h4⟩
  ·exact .inl h
  ·exact .inr ⟨h1,h2,h3,fun p hp=>qM (h4 p hp)⟩
theorem rq {R:List Rec} {n m:Nat} {k:Str} (h:n≤m) (d:fj R n k):fj R m k:=by
 induction m with
 | zero=>rw [Nat.le_zero.mp h] at d; exact d
 | succ m ih =>
  rcases Nat.lt_or_eq_of_le h with h | rfl
  ·exact qM (ih (by omega))
  ·exact d
theorem wM {R:List Rec} (g:vc R) (n:(R.map (·.1)).Nodup) (np:∀ rc∈R,rc.1∉PL):∀ (j:Nat) (rc:Rec),R[j]?=some rc→fj R (j+2) rc.1:=by
 intro j
 induction j using Nat.strongRecOn with
 | _ j ih =>
  intro rc h
  have hm:=List.mem_of_getElem? h
  have e:=qL n h
  refine .inr ⟨np rc hm,List.mem_map_of_mem hm,by rw [e]; exact (g j rc h).1,fun p hp=>?_⟩
  rw [e] at hp
  rcases List.mem_append.mp ((g j rc h).2 p hp) with z | z
  ·exact .inl ((pl3 _).mp z)
  ·obtain ⟨rc2,h2,e2⟩:=List.mem_map.mp z
   obtain ⟨i,hi⟩:=List.getElem?_of_mem h2
   have hij:i<j:=by
    have:=(List.getElem?_eq_some_iff.mp hi).1
    rw [List.length_take] at this
    omega
   rw [List.getElem?_take_of_lt hij] at hi
   have:=ih i hij rc2 hi
   rw [← e2]
   exact rq (by omega) this
theorem tY {R:List Rec} (g:vc R) (n:(R.map (·.1)).Nodup) (np:∀ rc∈R,rc.1∉PL) (l:R.length≤2) {k:Str} (h:k∈PL3++R.map (·.1)):fj R 4 k:=by
 rcases List.mem_append.mp h with z | z
 ·exact .inl ((pl3 _).mp z)
 ·obtain ⟨rc,h2,rfl⟩:=List.mem_map.mp z
  obtain ⟨i,hi⟩:=List.getElem?_of_mem h2
  have:=(List.getElem?_eq_some_iff.mp hi).1
  exact rq (by omega) (wM g n np i rc hi)
def NMS:List Str:=["x", "a", "ab", "xy", "pair"]
def cv (l:List Str):Prop:=l.Nodup∧∀ x∈l,x∈NMS
theorem kA {l:List Str} {k:Nat} (h:l.Nodup) (g:∀ x∈l,x∈NMS):cv (l.take k):=⟨List.Sublist.nodup (List.take_sublist _ _) h,fun x hx=>g x (List.mem_of_mem_take hx)⟩
def Az (R:List Rec) (FS:List kE):Prop:=(∀ rc∈R,cv (rc.2.map (·.1)))∧∀ F∈FS,cv (F.2.map (·.1))
abbrev NM2:List Str:=["pair", "box"]
abbrev NM3:List Str:=["f", "x", "fx"]
theorem nm2 {R:List Rec} {k:Nat} (h:R.map (·.1)=NM2.take k):(R.map (·.1)).Nodup∧R.length≤2∧∀ rc∈R,rc.1∉PL:=by
 have l:R.length≤2:=by
  have:=congrArg List.length h
  rw [List.length_map,List.length_take] at this
  simp at this
  omega
 refine ⟨by rw [h]; exact List.Sublist.nodup (List.take_sublist _ _) (by decide +kernel),l,fun rc hm=>?_⟩
 have:rc.1∈NM2:=List.mem_of_mem_take (h ▸ List.mem_map_of_mem hm)
 simp only [List.mem_cons,List.not_mem_nil,or_false] at this
 rcases this with e | e<;>rw [e]<;>decide +kernel
section
variable {P:Program} {w:World} {K:Frag} {mg:Str→Option Value} {base:Heap} {f g:Addr} {fd gd:FuncData}
abbrev dn:List Str:=["_law_feed_here", "_law_records", "_law_k", "_law_kinds", "_law_names", "_law_fields", "_law_functions", "_law_own", "_law_params"]
abbrev gn:List Str:=["_law_name", "_law_kinds", "_law_feed_here"]
theorem ki:gn.Nodup:=by decide +kernel
abbrev gh:List Str:=["_law_record"]
theorem jv:gh.Nodup:=by decide +kernel
abbrev gr:List Str:=["_law_name", "_law_kinds", "_law_feed_here"]
theorem jX:gr.Nodup:=by decide +kernel
abbrev gk:List Str:=["_law_record"]
theorem jA:gk.Nodup:=by decide +kernel
theorem bj:aU dn ["_law_feed_here"] (defScope cw):=⟨rfl,rfl,rfl,by decide +kernel,rfl,by decide +kernel,by decide +kernel⟩
def zW:Sp:=fun vs H Q _=>∃ fp sc m,vs=[.ref fp]∧Fd H fp sc m∧m≤90000∧∀ pg R FS H',Ext fp H H'→Fd H' fp sc (m+25)→iY H' pg R FS→wS R FS→1≤FS.length→FS.length≤3→Az R FS→Q pg H'
theorem sY (T:G0 mg) (F:Fun K "_law_headed" "_law_headed" cw f fd) (D_l_draw:Cal P w K mg base 1 "_law_draw" ["_law_feed_here", "_law_many_here"] vO):bI P w K mg base CX0 2 f fd ["_law_feed_here"] zW:=by
 obtain ⟨g_l_draw,gd_l_draw,G_l_draw,b_l_draw,k_l_draw,m_l_draw⟩:=D_l_draw.ex
 refine F.ok bj (fun vs H Q E h=>?_) (fun cdv A outer s H vs Q E hr h=>?_)
 ·obtain ⟨fp,sc,m,rfl,_⟩:=h
  rfl
 obtain ⟨fp,sc,m,rfl,hf,hm,q⟩:=h
 refine ⟨_,(@ak _ _ _ _ _ (@aB _ _ 1 _ _ _ _ bj.nd rfl (Or.inl rfl) (@aY _ _ _ _ ah) (ap rfl) (.inr rfl)) (@ak _ _ _ _ _ (@bF _ _ _ _ _ _ _ _ PassesOwn.never rfl (cX rfl T.range (@ad _ _ _ _ _ (@aq _ _ _ _ _ _ _ aM (@aY _ _ _ _ (@ad _ _ _ _ _ ag (@ad _ _ _ _ _ ag (@ad _ _ _ _ _ ag ah (ac rfl)) (ac rfl)) (ac rfl))) (@au _ _ _ _ _ _ _ _ _ _ _ _ _ _ _ _ G_l_draw (hr.mono (by omega)) rfl m_l_draw k_l_draw b_l_draw .nil aO (@ad _ _ _ _ _ (pv 0) (@ad _ _ _ _ _ ag ah (ac rfl)) (ac rfl)) (by decide) (ac rfl) (aj rfl)) (fun _ _=>rfl)) ah (ac rfl))) (ax (i:=2) bj.nd rfl (Or.inl rfl)) (@ak _ _ _ _ _ (@aB _ _ 3 _ _ _ _ bj.nd rfl (Or.inr rfl) (@aN _ _ _ _ _ _ _ _ me (@aY _ _ _ _ (@ad _ _ _ _ _ aF (@ad _ _ _ _ _ aF (@ad _ _ _ _ _ aF ah (ac rfl)) (ac rfl)) (ac rfl))) (bM (N':=gk) (ρ:=[none]) (m:=1) (bH.of (fs:=defScope cw) (N:=dn) rfl rfl (by decide +kernel)) rfl (br (pv 1)) (fun _ _ _ _=>(ax (i:=0) jA rfl (Or.inl rfl))) (fun _ _ _ _=>bu) (fun _ _ _ _=>(aq (cm (K:=K) rfl) (pv 0) ag (fun _ _=>rfl))))) (ap rfl) (.inl rfl)) (@ak _ _ _ _ _ (@aB _ _ 4 _ _ _ _ bj.nd rfl (Or.inl rfl) (@ii _ _ _ _ _ _ _ _ _ _ jq (@aY _ _ _ _ (@ad _ _ _ _ _ aF (@ad _ _ _ _ _ aF (@ad _ _ _ _ _ aF ah (ac rfl)) (ac rfl)) (ac rfl))) jm (ju (aN bx ag (au G_l_draw (hr.mono (by omega)) rfl m_l_draw k_l_draw b_l_draw .nil aO (ad (pv 0) (ad (aN bx ag (pv 2)) ah)))))) (ap rfl) (.inr rfl)) (@ak _ _ _ _ _ (@aB _ _ 5 _ _ _ _ bj.nd rfl (Or.inl rfl) (@bq _ _ _ _ _ _ _ _ _ bE rfl T.tuple cb (@ad _ _ _ _ _ (bM (N':=gr) (ρ:=[none,some 3,some 0]) (m:=1) (bH.of (fs:=defScope cw) (N:=dn) rfl rfl (by decide +kernel)) rfl (br (pv 4)) (fun _ _ _ _=>(ax (i:=0) jX rfl (Or.inl rfl))) (fun _ _ _ _=>bu) (fun _ _ _ _=>(aQ (ad (pv 0) (ad (aq (jG (K:=K) rfl) (pv 1) (au G_l_draw (hr.mono (by omega)) rfl m_l_draw k_l_draw b_l_draw .nil aO (ad (pv 2) (ad (ay (dH (K:=K) rfl) rfl T.len cp (ad (pv 1) ah)) ah))) (fun _ _=>rfl)) ah))))) ah (ac rfl)) (by decide) (by decide) (ac rfl) (aj rfl)) (ap rfl) (.inr rfl)) (@ao _ _ _ (@cD _ _ _ _ (@dR _ _ _ _ _ _ _ _ _ _ _ _ PySem.F.plainAttrs_list PySem.F.slot_list_append PySem.F.type_list_append dY (pv 1) (@ad _ _ _ _ _ (@aQ _ _ _ _ _ (@ad _ _ _ _ _ (@aq _ _ _ _ _ _ _ aM (@aY _ _ _ _ (@ad _ _ _ _ _ aF (@ad _ _ _ _ _ aF ah (ac rfl)) (ac rfl))) (pv 2) (fun _ _=>rfl)) (@ad _ _ _ _ _ (pv 5) ah (ac rfl)) (ac rfl))) ah (ac rfl)) rfl (cL rfl rfl) rfl (ac rfl) (aj rfl)) (ap rfl)))))) (fun _=>rfl)) (@ak _ _ _ _ _ (@aB _ _ 3 _ _ _ _ bj.nd rfl (Or.inr rfl) (@aN _ _ _ _ _ _ _ _ me (@aY _ _ _ _ (@ad _ _ _ _ _ aF (@ad _ _ _ _ _ aF (@ad _ _ _ _ _ aF ah (ac rfl)) (ac rfl)) (ac rfl))) (bM (N':=gh) (ρ:=[none]) (m:=1) (bH.of (fs:=defScope cw) (N:=dn) rfl rfl (by decide +kernel)) rfl (br (pv 1)) (fun _ _ _ _=>(ax (i:=0) jv rfl (Or.inl rfl))) (fun _ _ _ _=>bu) (fun _ _ _ _=>(aq (cm (K:=K) rfl) (pv 0) ag (fun _ _=>rfl))))) (ap rfl) (.inl rfl)) (@ak _ _ _ _ _ (@aB _ _ 6 _ _ _ _ bj.nd rfl (Or.inl rfl) (@aY _ _ _ _ ah) (ap rfl) (.inr rfl)) (@ak _ _ _ _ _ (@bF _ _ _ _ _ _ _ _ PassesOwn.never rfl (br (@ii _ _ _ _ _ _ _ _ _ _ jq (@aY _ _ _ _ (@ad _ _ _ _ _ aF (@ad _ _ _ _ _ aF (@ad _ _ _ _ _ aF ah (ac rfl)) (ac rfl)) (ac rfl))) jm (ju (aN bx ag (au G_l_draw (hr.mono (by omega)) rfl m_l_draw k_l_draw b_l_draw .nil aO (ad (pv 0) (ad ag ah))))))) (ax (i:=7) bj.nd rfl (Or.inl rfl)) (@ak _ _ _ _ _ (@aB _ _ 4 _ _ _ _ bj.nd rfl (Or.inl rfl) (@ii _ _ _ _ _ _ _ _ _ _ jq (@aY _ _ _ _ (@ad _ _ _ _ _ aF (@ad _ _ _ _ _ aF (@ad _ _ _ _ _ aF ah (ac rfl)) (ac rfl)) (ac rfl))) jm (ju (aq aM (aY (ad ag (ad ag (ad ag (ad ag ah))))) (au G_l_draw (hr.mono (by omega)) rfl m_l_draw k_l_draw b_l_draw .nil aO (ad (pv 0) (ad ag ah))) (fun _ _=>rfl)))) (ap rfl) (.inr rfl)) (@ak _ _ _ _ _ (@aB _ _ 8 _ _ _ _ bj.nd rfl (Or.inl rfl) (@bq _ _ _ _ _ _ _ _ _ bE rfl T.tuple cb (@ad _ _ _ _ _ (bM (N':=gn) (ρ:=[none,some 3,some 0]) (m:=1) (bH.of (fs:=defScope cw) (N:=dn) rfl rfl (by decide +kernel)) rfl (br (pv 4)) (fun _ _ _ _=>(ax (i:=0) ki rfl (Or.inl rfl))) (fun _ _ _ _=>bu) (fun _ _ _ _=>(aQ (ad (pv 0) (ad (aq (jG (K:=K) rfl) (pv 1) (au G_l_draw (hr.mono (by omega)) rfl m_l_draw k_l_draw b_l_draw .nil aO (ad (pv 2) (ad (ay (dH (K:=K) rfl) rfl T.len cp (ad (pv 1) ah)) ah))) (fun _ _=>rfl)) ah))))) ah (ac rfl)) (by decide) (by decide) (ac rfl) (aj rfl)) (ap rfl) (.inr rfl)) (@ao _ _ _ (@cD _ _ _ _ (@dR _ _ _ _ _ _ _ _ _ _ _ _ PySem.F.plainAttrs_list PySem.F.slot_list_append PySem.F.type_list_append dY (pv 6) (@ad _ _ _ _ _ (@aQ _ _ _ _ _ (@ad _ _ _ _ _ (pv 7) (@ad _ _ _ _ _ (pv 8) (@ad _ _ _ _ _ (@aQ _ _ _ _ _ (@ad _ _ _ _ _ (@aQ _ _ _ _ _ (@ad _ _ _ _ _ aF (@ad _ _ _ _ _ aF ah (ac rfl)) (ac rfl))) ah (ac rfl))) (@ad _ _ _ _ _ aF (@ad _ _ _ _ _ (@aQ _ _ _ _ _ ah) ah (ac rfl)) (ac rfl)) (ac rfl)) (ac rfl)) (ac rfl))) ah (ac rfl)) rfl (cL rfl rfl) rfl (ac rfl) (aj rfl)) (ap rfl))))) (fun _=>rfl)) (@ao _ _ _ (@aH _ _ _ _ (@aQ _ _ _ _ _ (@ad _ _ _ _ _ (@bq _ _ _ _ _ _ _ _ _ bE rfl T.tuple cb (@ad _ _ _ _ _ (pv 1) ah (ac rfl)) (by decide) (by decide) (ac rfl) (aj rfl)) (@ad _ _ _ _ _ (@bq _ _ _ _ _ _ _ _ _ bE rfl T.tuple cb (@ad _ _ _ _ _ (pv 6) ah (ac rfl)) (by decide) (by decide) (ac rfl) (aj rfl)) ah (ac rfl)) (ac rfl)))))))))),?_⟩
 refine ⟨(by show 0≤sizeLine; decide),fun rl hrl0=>?_⟩
 have nrl:=hf.ne hrl0
 have s1:=af hrl0 (.lst [])
 have f1:=hf.same s1
 refine ⟨(by show 3≤sizeLine; decide),fun l1 hl1=>?_⟩
 have s2:=af hl1 (.lst [.int 0,.int 1,.int 2])
 have f2:=f1.same s2
 refine ⟨_,rfl,fp,3,sc,m,rfl,f2,by omega,by decide,by decide,fun v2 H2 a2 b2 x2 f2=>?_⟩
 obtain ⟨u,hu,_,hat⟩:=du (xs:=[V.int 0,.int 1,.int 2]) a2 b2
 obtain ⟨n,rfl,hn0,hn⟩:∃ n:Int,u=.int n∧0≤n∧n≤2:=by
  simp only [List.mem_cons,List.not_mem_nil,or_false] at hu
  rcases hu with rfl | rfl | rfl<;>exact ⟨_,rfl,by decide,by decide⟩
 refine ⟨l1,_,_,_,rfl,rfl,SqL.of (x2 _ _ (f1.ne hl1).1 ae),hat,n,rfl,by omega,by omega,?_⟩
 have hrl2:=x2 _ _ nrl.1 (s2 _ _ (ae (H:=H) (a:=rl) (o:=.lst [])))
 have E2:Ext fp H H2:=(aA.ext (s1.trans s2)).trans x2
 refine dM (n:=n.toNat) (fun k σ H'=>∃ m2 m3 m4 m5 ys R,σ=[some (.ref fp),some (.ref rl),m2,m3,m4,m5,none,none,none]∧Ext fp H H'∧Fd H' fp sc (m+1+4*k)∧H' rl=some (.lst ys)∧Paired (iW H') ys R∧R.map (·.1)=NM2.take k∧vc R∧∀ rc∈R,cv (rc.2.map (·.1))) ⟨_,_,_,_,[],[],rfl,E2,f2,hrl2,.nil,rfl,fun j rc z=>(by simp at z),fun _ z=>nomatch z⟩ (fun k σ H3 hk p=>?_) (fun σ H3 p=>?_)
 ·obtain ⟨m2,m3,m4,m5,ys,R,rfl,E3,f3,hrl,pr,hnm,hgd,hnr⟩:=p
  have lys:=Paired.length pr
  obtain ⟨nd,lR,np⟩:=nm2 hnm
  have lRk:R.length=k:=by
   have:=congrArg List.length hnm
   rw [List.length_map,List.length_take] at this
   simp at this
   omega
  refine ⟨(by show 3≤sizeLine; decide),fun l3 h3=>?_⟩
  have g3:=af h3 (.lst L3)
  have hrl3:=g3 _ _ hrl
  refine ⟨_,rfl,rl,rfl,⟨ys,SqL.of hrl3⟩,bn (xs:=ys) ys.length rfl (by omega) (fun j acc H'=>H'=upd H3 l3 (.lst L3)∧acc=((R.map (·.1)).take j).map V.str) ⟨rfl,rfl⟩ (fun j acc H' p=>by rw [p.1]; exact SqL.of hrl3) (fun j acc H6 x hj la hx p=>?_) (fun acc H6 p la D hD=>?_)⟩
  ·obtain ⟨rfl,rfl⟩:=p
   obtain ⟨rc,hrc,ra,ry,rfl,hra,_⟩:=paired_at pr j x hx
   refine ⟨⟨rfl,rfl⟩,bo ?_⟩
   refine ⟨_,rfl,ra,_,_,_,rfl,rfl,SqT.of (g3 _ _ hra),rfl,nxT (by omega) hj la ⟨rfl,?_⟩⟩
   rw [List.take_add_one,List.getElem?_map,hrc,List.map_append]
   rfl
  obtain ⟨rfl,rfl⟩:=p
  have gD:=af hD (.lst (((R.map (·.1)).take ys.length).map V.str))
  refine ⟨l3,D,_,_,rfl,rfl,gD _ _ ae,ae,Nat.le_of_lt (aL (by simp; omega)),fun kl hkl0=>?_⟩
  have gK:=af hkl0 (.lst (L3++((R.map (·.1)).take ys.length).map V.str))
  have gg:=(g3.trans gD).trans gK
  have hkl:(upd (upd (upd H3 l3 (.lst L3)) D (.lst (((R.map (·.1)).take ys.length).map V.str))) kl (.lst (L3++((R.map (·.1)).take ys.length).map V.str))) kl=some (.lst ((PL3++R.map (·.1)).map V.str)):=by
   rw [ae,lys,← List.length_map (f:=fun r:Rec=>r.1),List.take_length,List.map_append]
   rfl
  have klf:H3 kl=none:=(g3.trans gD).free hkl0
  generalize (upd (upd (upd H3 l3 (.lst L3)) D (.lst (((R.map (·.1)).take ys.length).map V.str))) kl (.lst (L3++((R.map (·.1)).take ys.length).map V.str)))=HK at gg hkl
  have fK:=f3.same gg
  have nkl:=f3.ne klf
  have hrlK:=gg _ _ hrl
  refine ⟨(by show 3≤sizeLine; decide),fun l4 h4=>?_⟩
  have g4:=af h4 (.lst [.str "x",.str "a",.str "ab"])
  have f4:=fK.same g4
  refine ⟨_,rfl,_,rfl,_,_,rfl,rfl,?_⟩
  refine ⟨fp,_,sc,_,rfl,f4,by omega,by omega,by omega,fun v H5 a5 b5 x5 f5=>?_⟩
  have b5':v<2+(0+(k:Int)):=b5
  refine ⟨_,_,rfl,rfl,_,rfl,l4,_,rfl,SqL.of (x5 _ _ (fK.ne h4).1 ae),fun nl hnl0=>?_⟩
  have g5:=af hnl0 (.lst (dj [.str "x",.str "a",.str "ab"] none (some (1+v))))
  have hnl:(upd H5 nl (.lst (dj [.str "x",.str "a",.str "ab"] none (some (1+v))))) nl=some (.lst ((([("x":Str), "a", "ab"]:List Str).take (1+v).toNat).map V.str)):=by
   rw [ae,zq (by omega) (by omega),List.map_take]
   rfl
  have lns0:(([("x":Str), "a", "ab"]:List Str).take (1+v).toNat).length=(1+v).toNat:=by
   rw [List.length_take]
   show min _ 3=_
   omega
  have ff:=f5.same g5
  have hkl5:=g5 _ _ (x5 _ _ nkl.1 (g4 _ _ hkl))
  have nnl:=(f5.ne hnl0).1
  have hrl5:=g5 _ _ (x5 _ _ nrl.1 (g4 _ _ hrlK))
  have k5:Tk H3 (upd H5 nl (.lst (dj [.str "x",.str "a",.str "ab"] none (some (1+v))))):=(am (gg.trans g4)).trans ((f4.tk x5).trans (am g5))
  have E5:Ext fp H3 (upd H5 nl (.lst (dj [.str "x",.str "a",.str "ab"] none (some (1+v))))):=(aA.ext (gg.trans g4)).trans (x5.trans (aA.ext g5))
  generalize (upd H5 nl (.lst (dj [.str "x",.str "a",.str "ab"] none (some (1+v)))))=H8 at hnl ff hkl5 hrl5 k5 E5
  have hkl:=hkl5
  have nkl:=nkl.1
  have lks:(PL3++R.map (·.1)).length=3+R.length:=by rw [List.length_append,List.length_map]; rfl
  have ndn:cv (([("x":Str), "a", "ab"]:List Str).take (1+v).toNat):=kA (by decide +kernel) (by decide +kernel)
  generalize hns:(([("x":Str), "a", "ab"]:List Str).take (1+v).toNat)=ns at hnl lns0 ndn
  generalize hks:(PL3++R.map (·.1))=ks at hkl lks
  refine ⟨_,rfl,nl,rfl,⟨_,SqL.of hnl⟩,bn (xs:=ns.map V.str) ns.length (by rw [List.length_map]) (by omega) (fun jx acc H'=>∃ fs,Ext fp H8 H'∧Fd H' fp sc (m+1+4*k+1+jx)∧Paired (ma H') acc fs∧fs.length=jx∧(∀ p∈fs,p.2∈ks)∧fs.map (·.1)=ns.take jx) ⟨[],Ext.refl _ _,ff,.nil,rfl,fun _ z=>(nomatch z),rfl⟩ (fun jx acc H' p=>SqL.of (p.choose_spec.1 _ _ nnl hnl)) (fun jx acc H6 x hj la hx p=>?_) (fun acc H6 p la D hD=>?_)⟩
  ·obtain ⟨fs,x6,f6,pf,lf,hk,hfn⟩:=p
   obtain ⟨nm,hnmx,rfl⟩:∃ nm,ns[jx]?=some nm∧x=.str nm:=by
    rw [List.getElem?_map] at hx
    obtain ⟨nm,h1,e⟩:=Option.map_eq_some_iff.mp hx
    exact ⟨nm,h1,e.symm⟩
   have hkl6:=x6 _ _ nkl hkl
   refine ⟨⟨rfl,rfl⟩,bo ?_⟩
   refine ⟨_,rfl,_,rfl,_,rfl,_,rfl,kl,_,rfl,.inl (SqL.of hkl6),fp,_,sc,_,rfl,f6,by omega,by rw [List.length_map]; omega,by rw [List.length_map]; omega,fun v H7 a7 b7 x7 f7=>?_⟩
   obtain ⟨u,hu,_,hat⟩:=du a7 b7
   obtain ⟨kk,hkk,rfl⟩:=List.mem_map.mp hu
   refine ⟨kl,_,_,_,rfl,rfl,SqL.of (x7 _ _ nkl hkl6),hat,(by show 2≤sizeLine; decide),fun p hp=>?_⟩
   have g8:=af hp (.tup [.str nm,.str kk])
   refine nxT (by omega) hj la ⟨fs++[(nm,kk)],(x6.trans x7).trans (aA.ext g8),(f7.same g8).le (by omega),Paired.app (Paired.mapP pf fun _ _ z=>(z.mono (f6.tk x7)).mono (am g8)) (.cons ⟨p,rfl,ae⟩ .nil),by simp [lf],fun q hq=>?_,?_⟩
   ·rcases List.mem_append.mp hq with hq | hq
    ·exact hk q hq
    ·rw [List.mem_singleton.mp hq]
     exact hkk
   ·rw [List.map_append,hfn,List.take_add_one,hnmx]
    rfl
  obtain ⟨fs,x6,f6,pf,lf,hk,hfn⟩:=p
  rw [List.take_length] at hfn
  refine ⟨D,acc,rfl,.inl ⟨SqL.of ae,fun t ht=>?_⟩⟩
  have gT:=(af hD (.lst acc)).trans (af ht (.tup acc))
  have xT:=x6.trans (aA.ext gT)
  have fT:=f6.same gT
  have pfT:dk (upd (upd H6 D (.lst acc)) t (.tup acc)) (.ref t) fs:=⟨t,acc,rfl,ae,Paired.mapP pf fun _ _ z=>z.mono (am gT)⟩
  have hrlT:=xT _ _ nrl.1 hrl5
  have kT:=k5.trans (ff.tk xT)
  have ET:=E5.trans xT
  generalize (upd (upd H6 D (.lst acc)) t (.tup acc))=HT at xT fT pfT hrlT kT ET gT
  refine ⟨_,rfl,.inl ⟨rfl,_,SqL.of hrlT⟩,(by show 2≤sizeLine; decide),fun l5 h5=>?_⟩
  have g9:=af h5 (.lst [.str "pair",.str "box"])
  obtain ⟨nm,hnmk⟩:∃ nm,NM2[k]?=some nm:=⟨_,List.getElem?_eq_getElem (show k<2 by omega)⟩
  have hatn:atI [V.str "pair",.str "box"] (0+(k:Int))=some (.str nm):=xx (xs:=NM2.map V.str) (by rw [List.getElem?_map,hnmk]; rfl)
  refine ⟨_,rfl,l5,_,_,_,rfl,rfl,SqL.of ae,hatn,_,rfl,(by show 2≤sizeLine; decide),fun p6 h6=>?_⟩
  have g10:=g9.trans (af h6 (.tup [.str nm,.ref t]))
  have hrl10:=g10 _ _ hrlT
  have kt:=cy hrl10 (.lst (ys++[.ref p6]))
  refine ⟨rl,ys,_,rfl,rfl,hrl10,aL (by omega),?_⟩
  refine ⟨_,_,_,_,ys++[.ref p6],R++[(nm,fs)],rfl,((E3.trans ET).trans (aA.ext g10)).put hrl0,((fT.same g10).upd nrl).le (by omega),ae,Paired.app (Paired.mapP pr fun _ _ z=>(z.mono (kT.trans ((am g10).trans kt)))) (.cons ⟨p6,.ref t,rfl,kt _ _ ae,(pfT.mono ((am g10).trans kt))⟩ .nil),?_,?_,fun rc hrc=>?_⟩
  ·rw [List.map_append,hnm,List.take_add_one,hnmk]
   rfl
  ·intro j rc hj
   by_cases c:j<R.length
   ·rw [List.getElem?_append_left c] at hj
    have:=hgd j rc hj
    rw [List.take_append_of_le_length (by omega)]
    exact this
   ·rw [List.getElem?_append_right (by omega)] at hj
    have e0:j - R.length=0:=by
     rcases hh:j - R.length with _ | z
     ·rfl
     ·rw [hh] at hj
      cases hj
    rw [e0] at hj
    cases Option.some.inj hj
    have:j=R.length:=by omega
    subst this
    refine ⟨⟨by show 1≤fs.length; omega,by show fs.length≤3; omega⟩,fun p hp=>?_⟩
    rw [List.take_left,hks]
    exact hk p hp
  ·rcases List.mem_append.mp hrc with hrc | hrc
   ·exact hnr rc hrc
   ·rw [List.mem_singleton.mp hrc]
    show cv (fs.map (·.1))
    rw [hfn]
    exact ndn
 ·obtain ⟨m2,m3,m4,m5,ys,R,rfl,E3,f3,hrl,pr,hnm,hgd,hnr⟩:=p
  have lys:=Paired.length pr
  obtain ⟨nd,lR,np⟩:=nm2 hnm
  refine ⟨(by show 3≤sizeLine; decide),fun l3 h3=>?_⟩
  have g3:=af h3 (.lst L3)
  have hrl3:=g3 _ _ hrl
  refine ⟨_,rfl,rl,rfl,⟨ys,SqL.of hrl3⟩,bn (xs:=ys) ys.length rfl (by omega) (fun j acc H'=>H'=upd H3 l3 (.lst L3)∧acc=((R.map (·.1)).take j).map V.str) ⟨rfl,rfl⟩ (fun j acc H' p=>by rw [p.1]; exact SqL.of hrl3) (fun j acc H6 x hj la hx p=>?_) (fun acc H6 p la D hD=>?_)⟩
  ·obtain ⟨rfl,rfl⟩:=p
   obtain ⟨rc,hrc,ra,ry,rfl,hra,_⟩:=paired_at pr j x hx
   refine ⟨⟨rfl,rfl⟩,bo ?_⟩
   refine ⟨_,rfl,ra,_,_,_,rfl,rfl,SqT.of (g3 _ _ hra),rfl,nxT (by omega) hj la ⟨rfl,?_⟩⟩
   rw [List.take_add_one,List.getElem?_map,hrc,List.map_append]
   rfl
  obtain ⟨rfl,rfl⟩:=p
  have gD:=af hD (.lst (((R.map (·.1)).take ys.length).map V.str))
  refine ⟨l3,D,_,_,rfl,rfl,gD _ _ ae,ae,Nat.le_of_lt (aL (by simp; omega)),fun kl hkl0=>?_⟩
  have gK:=af hkl0 (.lst (L3++((R.map (·.1)).take ys.length).map V.str))
  have gg:=(g3.trans gD).trans gK
  have hkl:(upd (upd (upd H3 l3 (.lst L3)) D (.lst (((R.map (·.1)).take ys.length).map V.str))) kl (.lst (L3++((R.map (·.1)).take ys.length).map V.str))) kl=some (.lst ((PL3++R.map (·.1)).map V.str)):=by
   rw [ae,lys,← List.length_map (f:=fun r:Rec=>r.1),List.take_length,List.map_append]
   rfl
  have klf:H3 kl=none:=(g3.trans gD).free hkl0
  generalize (upd (upd (upd H3 l3 (.lst L3)) D (.lst (((R.map (·.1)).take ys.length).map V.str))) kl (.lst (L3++((R.map (·.1)).take ys.length).map V.str)))=HK at gg hkl
  have nkl:=(f3.ne klf).1
  have fK:=f3.same gg
  have hrlK:=gg _ _ hrl
  have prK:Paired (iW HK) ys R:=Paired.mapP pr fun _ _ z=>z.mono (am gg)
  refine ⟨(by show 0≤sizeLine; decide),fun fl hfl0=>?_⟩
  have nfl:=fK.ne hfl0
  have g4:=af hfl0 (.lst [])
  have f4:=fK.same g4
  refine ⟨(by show 3≤sizeLine; decide),fun l6 h6=>?_⟩
  have g5:=af h6 (.lst [.str "f",.str "x",.str "fx"])
  have f5:=f4.same g5
  refine ⟨_,rfl,fp,3,sc,_,rfl,f5,by omega,by decide,by decide,fun v H5 a5 b5 x5 f5'=>?_⟩
  refine ⟨_,_,rfl,rfl,_,rfl,l6,_,rfl,SqL.of (x5 _ _ (f4.ne h6).1 ae),fun ol hol0=>?_⟩
  have b5':v<3:=b5
  have g6:=af hol0 (.lst (dj [.str "f",.str "x",.str "fx"] none (some (1+v))))
  have hol:(upd H5 ol (.lst (dj [.str "f",.str "x",.str "fx"] none (some (1+v))))) ol=some (.lst ((NM3.take (1+v).toNat).map V.str)):=by
   rw [ae,zq (by omega) (by omega),List.map_take]
   rfl
  have lon:(NM3.take (1+v).toNat).length=(1+v).toNat:=by
   rw [List.length_take]
   show min _ 3=_
   omega
  have ndo:(NM3.take (1+v).toNat).Nodup:=List.Sublist.nodup (List.take_sublist _ _) (by decide +kernel)
  have fS:=f5'.same g6
  have nol:=(f5'.ne hol0).1
  have GS:Ext fp HK (upd H5 ol (.lst (dj [.str "f",.str "x",.str "fx"] none (some (1+v))))):=(aA.ext (g4.trans g5)).trans (x5.trans (aA.ext g6))
  have hkl6:=GS _ _ nkl hkl
  have hrl6:=GS _ _ nrl.1 hrlK
  have hfl6:=g6 _ _ (x5 _ _ nfl.1 (g5 _ _ (ae (H:=HK) (a:=fl) (o:=.lst []))))
  have nof:ol≠fl:=(ar (x5 _ _ nfl.1 (g5 _ _ (ae (H:=HK) (a:=fl) (o:=.lst [])))) hol0).symm
  have pr6:Paired (iW (upd H5 ol (.lst (dj [.str "f",.str "x",.str "fx"] none (some (1+v)))))) ys R:=Paired.mapP prK fun _ _ z=>z.mono (fK.tk GS)
  have ES:Ext fp H (upd H5 ol (.lst (dj [.str "f",.str "x",.str "fx"] none (some (1+v))))):=(E3.trans (aA.ext gg)).trans GS
  have Hfl:H fl=none:=by
   cases e9:H fl with
   | none=>rfl
   | some o =>
    have:=(E3.trans (aA.ext gg)) _ _ nfl.1 e9
    rw [hfl0] at this
    cases this
  have nkf:kl≠fl:=ar hkl hfl0
  have nrf:rl≠fl:=ar hrlK hfl0
  generalize (upd H5 ol (.lst (dj [.str "f",.str "x",.str "fx"] none (some (1+v)))))=HS at hol fS hkl6 hrl6 hfl6 pr6 ES
  have lks:(PL3++R.map (·.1)).length=3+R.length:=by rw [List.length_append,List.length_map]; rfl
  have dal:∀ k,k∈PL3++R.map (·.1)→fj R 4 k:=fun k hk=>tY hgd nd np lR hk
  generalize hks:(PL3++R.map (·.1))=ks at hkl6 lks dal
  generalize hon:NM3.take (1+v).toNat=on at hol lon ndo
  refine ⟨ol,rfl,⟨_,SqL.of hol⟩,dv (xs:=on.map V.str) (fun j σ H'=>∃ m4 m7 m8 zs FS,σ=[some (.ref fp),some (.ref rl),m2,some (.ref kl),m4,m5,some (.ref fl),m7,m8]∧(∀ b o,b≠fp→b≠fl→HS b=some o→H' b=some o)∧Tk HS H'∧Fd H' fp sc (m+11+4*j)∧H' fl=some (.lst zs)∧Paired (iU H') zs FS∧FS.map (·.1)=on.take j∧∀ F∈FS,F.2.length≤3∧(∀ p∈F.2,p.2∈ks)∧cv (F.2.map (·.1))) ⟨_,_,_,[],[],rfl,fun _ _ _ _ e=>e,fun _ _ e=>e,fS.le (by omega),hfl6,.nil,rfl,fun _ z=>nomatch z⟩ (fun j σ H' _ p=>?_) (fun j x σ H7 hx p=>?_) (fun σ H7 p=>?_)⟩
  ·obtain ⟨_,_,_,_,_,_,kp,_⟩:=p
   exact SqL.of (kp _ _ nol nof hol)
  ·obtain ⟨m4',m7,m8,zs,FS,rfl,kp,kS,f7,hfl7,pF,hFn,hFk⟩:=p
   obtain ⟨own,hown,rfl⟩:∃ own,on[j]?=some own∧x=.str own:=by
    rw [List.getElem?_map] at hx
    obtain ⟨nm,h1,e⟩:=Option.map_eq_some_iff.mp hx
    exact ⟨nm,h1,e.symm⟩
   have hj3:j<on.length:=(List.getElem?_eq_some_iff.mp hown).1
   refine ⟨(by show 3≤sizeLine; decide),fun l7 h7=>?_⟩
   have w1:=af h7 (.lst [.str "x",.str "xy",.str "pair"])
   refine ⟨(by show 4≤sizeLine; decide),fun l8 h8=>?_⟩
   have w2:=af h8 (.lst [.int 1,.int 2,.int 3,.int 0])
   have f8:=(f7.same w1).same w2
   refine ⟨_,rfl,fp,4,sc,_,rfl,f8,by omega,by decide,by decide,fun v9 H9 a9 b9 x9 f9=>?_⟩
   obtain ⟨u9,hu9,_,hat9⟩:=du (xs:=[V.int 1,.int 2,.int 3,.int 0]) a9 b9
   obtain ⟨n9,rfl,hn90,hn9⟩:∃ n:Int,u9=.int n∧0≤n∧n≤3:=by
    simp only [List.mem_cons,List.not_mem_nil,or_false] at hu9
    rcases hu9 with rfl | rfl | rfl | rfl<;>exact ⟨_,rfl,by decide,by decide⟩
   refine ⟨l8,_,_,_,rfl,rfl,SqL.of (x9 _ _ ((f7.same w1).ne h8).1 ae),hat9,_,rfl,l7,_,rfl,SqL.of (x9 _ _ (f7.ne h7).1 (w2 _ _ ae)),fun nl hnl0=>?_⟩
   have w3:=af hnl0 (.lst (dj [.str "x",.str "xy",.str "pair"] none (some n9)))
   have hnl:(upd H9 nl (.lst (dj [.str "x",.str "xy",.str "pair"] none (some n9)))) nl=some (.lst ((([("x":Str), "xy", "pair"]:List Str).take n9.toNat).map V.str)):=by
    rw [ae,zq (by omega) (by omega),List.map_take]
    rfl
   have lns0:(([("x":Str), "xy", "pair"]:List Str).take n9.toNat).length≤3:=by
    rw [List.length_take]
    show min _ 3≤3
    omega
   have ff:=f9.same w3
   have nnl:=(f9.ne hnl0).1
   have EW:Ext fp H7 (upd H9 nl (.lst (dj [.str "x",.str "xy",.str "pair"] none (some n9)))):=(aA.ext (w1.trans w2)).trans (x9.trans (aA.ext w3))
   have hkl:=EW _ _ nkl (kp _ _ nkl nkf hkl6)
   have hfl8:=EW _ _ nfl.1 hfl7
   generalize (upd H9 nl (.lst (dj [.str "x",.str "xy",.str "pair"] none (some n9))))=H8 at hnl ff EW hkl hfl8
   have ndn:cv (([("x":Str), "xy", "pair"]:List Str).take n9.toNat):=kA (by decide +kernel) (by decide +kernel)
   generalize (([("x":Str), "xy", "pair"]:List Str).take n9.toNat)=ns at hnl lns0 ndn
   refine ⟨_,rfl,nl,rfl,⟨_,SqL.of hnl⟩,bn (xs:=ns.map V.str) ns.length (by rw [List.length_map]) (by omega) (fun jx acc H'=>∃ fs,Ext fp H8 H'∧Fd H' fp sc (m+11+4*j+1+jx)∧Paired (ma H') acc fs∧fs.length=jx∧(∀ p∈fs,p.2∈ks)∧fs.map (·.1)=ns.take jx) ⟨[],Ext.refl _ _,ff,.nil,rfl,fun _ z=>(nomatch z),rfl⟩ (fun jx acc H' p=>SqL.of (p.choose_spec.1 _ _ nnl hnl)) (fun jx acc H6 x hj la hx p=>?_) (fun acc H6 p la D hD=>?_)⟩
   ·obtain ⟨fs,x6,f6,pf,lf,hk,hfn⟩:=p
    obtain ⟨nm,hnmx,rfl⟩:∃ nm,ns[jx]?=some nm∧x=.str nm:=by
     rw [List.getElem?_map] at hx
     obtain ⟨nm,h1,e⟩:=Option.map_eq_some_iff.mp hx
     exact ⟨nm,h1,e.symm⟩
    have hkl6:=x6 _ _ nkl hkl
    refine ⟨⟨rfl,rfl⟩,bo ?_⟩
    refine ⟨_,rfl,_,rfl,_,rfl,_,rfl,kl,_,rfl,.inl (SqL.of hkl6),fp,_,sc,_,rfl,f6,by omega,by rw [List.length_map]; omega,by rw [List.length_map]; omega,fun v H7 a7 b7 x7 f7=>?_⟩
    obtain ⟨u,hu,_,hat⟩:=du a7 b7
    obtain ⟨kk,hkk,rfl⟩:=List.mem_map.mp hu
    refine ⟨kl,_,_,_,rfl,rfl,SqL.of (x7 _ _ nkl hkl6),hat,(by show 2≤sizeLine; decide),fun p hp=>?_⟩
    have g8:=af hp (.tup [.str nm,.str kk])
    refine nxT (by omega) hj la ⟨fs++[(nm,kk)],(x6.trans x7).trans (aA.ext g8),(f7.same g8).le (by omega),Paired.app (Paired.mapP pf fun _ _ z=>(z.mono (f6.tk x7)).mono (am g8)) (.cons ⟨p,rfl,ae⟩ .nil),by simp [lf],fun q hq=>?_,?_⟩
    ·rcases List.mem_append.mp hq with hq | hq
     ·exact hk q hq
     ·rw [List.mem_singleton.mp hq]
      exact hkk
    ·rw [List.map_append,hfn,List.take_add_one,hnmx]
     rfl
   obtain ⟨fs,x6,f6,pf,lf,hk,hfn⟩:=p
   rw [List.take_length] at hfn
   refine ⟨D,acc,rfl,.inl ⟨SqL.of ae,fun t ht=>?_⟩⟩
   have gT:=(af hD (.lst acc)).trans (af ht (.tup acc))
   have xT:=x6.trans (aA.ext gT)
   have fT:=f6.same gT
   have pfT:dk (upd (upd H6 D (.lst acc)) t (.tup acc)) (.ref t) fs:=⟨t,acc,rfl,ae,Paired.mapP pf fun _ _ z=>z.mono (am gT)⟩
   have ET:=EW.trans xT
   have hflT:=ET _ _ nfl.1 hfl7
   have kT:Tk H7 (upd (upd H6 D (.lst acc)) t (.tup acc)):=f7.tk ET
   generalize (upd (upd H6 D (.lst acc)) t (.tup acc))=HT at xT fT pfT hflT kT ET gT
   refine ⟨_,rfl,.inl ⟨rfl,_,SqL.of hflT⟩,_,rfl,_,rfl,(by show 2≤sizeLine; decide),fun p1 h1=>⟨(by show 1≤sizeLine; decide),fun p2 h2=>⟨(by show 0≤sizeLine; decide),fun p3 h3=>⟨(by show 5≤sizeLine; decide),fun p4 h4=>?_⟩⟩⟩⟩
   have y1:=af h1 (.tup [.str "y",.str "num"])
   have y2:=af h2 (.tup [.ref p1])
   have y3:=af h3 (.tup [])
   have y4:=af h4 (.tup [.str own,.ref t,.ref p2,.str "num",.ref p3])
   have yy:=((y1.trans y2).trans y3).trans y4
   have hflY:=yy _ _ hflT
   have kt:=cy hflY (.lst (zs++[.ref p4]))
   have lzs:=Paired.length pF
   have lFS:=congrArg List.length hFn
   rw [List.length_map,List.length_take] at lFS
   refine ⟨fl,zs,_,rfl,rfl,hflY,aL (by omega),?_⟩
   refine ⟨_,_,_,zs++[.ref p4],FS++[(own,fs)],rfl,fun b o n1 n2 e=>?_,kS.trans (kT.trans ((am yy).trans kt)),((fT.same yy).upd nfl).le (by omega),ae,Paired.app (Paired.mapP pF fun _ _ z=>(z.mono (kT.trans ((am yy).trans kt)))) (.cons ⟨p4,.ref t,.ref p2,.ref p3,rfl,kt _ _ ae,pfT.mono ((am yy).trans kt)⟩ .nil),?_,fun G hG=>?_⟩
   ·rw [aW n2]
    exact yy _ _ (ET _ _ n1 (kp _ _ n1 n2 e))
   ·rw [List.map_append,hFn,List.take_add_one,hown]
    rfl
   ·rcases List.mem_append.mp hG with hG | hG
    ·exact hFk G hG
    ·rw [List.mem_singleton.mp hG]
     exact ⟨by show fs.length≤3; omega,hk,by show cv (fs.map (·.1)); rw [hfn]; exact ndn⟩
  ·obtain ⟨m4',m7,m8,zs,FS,rfl,kp,kS,f7,hfl7,pF,hFn,hFk⟩:=p
   rw [List.length_map,List.take_length] at hFn
   have lFS:=congrArg List.length hFn
   rw [List.length_map] at lFS
   have hrl7:=kp _ _ nrl.1 nrf hrl6
   refine ⟨_,rfl,rl,ys,rfl,.inl ⟨SqL.of hrl7,fun t1 ht1=>?_⟩⟩
   have z1:=af ht1 (.tup ys)
   refine ⟨_,rfl,fl,zs,rfl,.inl ⟨SqL.of (z1 _ _ hfl7),fun t2 ht2=>⟨(by show 2≤sizeLine; decide),fun t3 ht3=>?_⟩⟩⟩
   have z2:=af ht2 (.tup zs)
   have z3:=af ht3 (.tup [.ref t1,.ref t2])
   have zz:=(z1.trans z2).trans z3
   refine q (.ref t3) R FS _ (fun b o nb e=>?_) ((f7.same zz).le (by rw [List.length_map]; omega)) ⟨t3,.ref t1,t2,zs,rfl,ae,⟨t1,ys,rfl,z3 _ _ (z2 _ _ ae),Paired.mapP pr6 fun _ _ z=>z.mono (kS.trans (am zz))⟩,z3 _ _ ae,Paired.mapP pF fun _ _ z=>z.mono (am zz)⟩ ⟨nd,lR,by rw [hFn]; exact ndo,fun G hG=>⟨(hFk G hG).1,fun p hp=>dal _ ((hFk G hG).2.1 p hp)⟩⟩ (by omega) (by omega) ⟨hnr,fun G hG=>(hFk G hG).2.2⟩
   exact zz _ _ (kp _ _ nb (ar e Hfl) (ES _ _ nb e))
end
end K6
namespace L2
open PySem PySem.Spec PyProof.Rows
end L2
namespace K6
open PySem L2
section
variable {P:Program} {w:World} {K:Frag} {mg:Str→Option Value} {base:Heap} {f g:Addr} {fd gd:FuncData}
def uB (K:Frag):Sp:=fun vs H Q _=>∃ a ns,vs=[.ref a]∧SqL K H a (List.map V.int ns)∧∀ H',Q (.bl true) H'
end
open PySem L2
def bd (p:List Str):PyData:=.tuple (p.map .str)
def nmD (p:List Str):PyData:=.tuple [.str "name",bd p]
def fo (c:Int) (t:PyData) (m:Int):PyData:=.tuple [.str "least",.tuple [.int c,.tuple [.tuple [t,.int m]]]]
inductive Fct
 | lo (p:List Str) (n:Int) | hi (p:List Str) (n:Int) | ln (p:List Str) (n:Int) | e1 (p:List Str) (lg n:Int) | e2 (p:List Str) (lg n:Int)
def lc (p:List Str) (lg s n:Int):PyData:=.tuple [.str "each",nmD p,.tuple [.int 0,.tuple []],.tuple [.int lg,.tuple []],.int s,.int 0,.tuple [.int n,.tuple []]]
def Fct.d:Fct→PyData
 | .lo p n=>fo (-n) (nmD p) 1
 | .hi p n=>fo n (nmD p) (-1)
 | .ln p n=>fo n (.tuple [.str "len",nmD p]) (-1)
 | .e1 p lg n=>lc p lg 1 (-n)
 | .e2 p lg n=>lc p lg (-1) n
def aZ (r:Rm) (q:bL):List Fct:=if q.2=Str.ofString "num" then [.lo q.1 r.a,.hi q.1 r.b] else [.ln q.1 r.c,.e1 q.1 r.c (if q.2=Str.ofString "text" then r.d else r.a),.e2 q.1 r.c (if q.2=Str.ofString "text" then r.e else r.b)]
theorem uZ {H:Hp} {y:V} {p:List Str} (h:eT H y p):KAt H y (bd p):=by
 obtain ⟨a,rfl,e⟩:=h
 refine .tup e ?_
 clear e
 induction p with
 | nil=>exact .nil
 | cons x r ih=>exact .cons (.str x) ih
section
variable {P:Program} {w:World} {K:Frag} {mg:Str→Option Value} {base:Heap} {f g:Addr} {fd gd:FuncData}
abbrev qe:List Str:=["thing", "number"]
theorem oz:aU qe ["thing", "number"] (defScope gz):=⟨rfl,rfl,rfl,by decide +kernel,rfl,by decide +kernel,by decide +kernel⟩
def yq:Sp:=fun vs H Q _=>∃ u n d,vs=[u,.int n]∧KAt H u d∧∀ v H',aA H H'→KAt H' v (fo (-n) d 1)→Q v H'
theorem zt (F:Fun K "at_least" "at_least" gz f fd):bI P w K mg base CX0 1 f fd ["thing", "number"] yq:=by
 refine F.ok oz (fun vs H Q E h=>?_) (fun cdv A outer s H vs Q E hr h=>?_)
 ·obtain ⟨u,n,d,rfl,_⟩:=h
  rfl
 obtain ⟨u,n,d,rfl,hu,q⟩:=h
 refine ⟨_,(@ao _ _ _ (@aH _ _ _ _ (@aQ _ _ _ _ _ (@ad _ _ _ _ _ aF (@ad _ _ _ _ _ (@aQ _ _ _ _ _ (@ad _ _ _ _ _ (@hV _ _ _ _ _ _ eu (pv 1)) (@ad _ _ _ _ _ (@aQ _ _ _ _ _ (@ad _ _ _ _ _ (@aQ _ _ _ _ _ (@ad _ _ _ _ _ (pv 0) (@ad _ _ _ _ _ ag ah (ac rfl)) (ac rfl))) ah (ac rfl))) ah (ac rfl)) (ac rfl))) ah (ac rfl)) (ac rfl))))),?_⟩
 refine ⟨_,rfl,n,rfl,_,rfl,(by show 2≤sizeLine; decide),fun p1 h1=>⟨(by show 1≤sizeLine; decide),fun p2 h2=>⟨(by show 2≤sizeLine; decide),fun p3 h3=>⟨(by show 2≤sizeLine; decide),fun p4 h4=>?_⟩⟩⟩⟩
 have g1:=af h1 (.tup [u,.int 1])
 have g2:=af h2 (.tup [.ref p1])
 have g3:=af h3 (.tup [.int (-n),.ref p2])
 have g4:=af h4 (.tup [.str "least",.ref p3])
 exact q _ _ (((g1.trans g2).trans g3).trans g4) (.tup ae (.cons (.str _) (.cons (.tup (g4 _ _ ae) (.cons (.int _) (.cons (.tup (g4 _ _ (g3 _ _ ae)) (.cons (.tup (g4 _ _ (g3 _ _ (g2 _ _ ae))) (.cons (hu.mono (am (((g1.trans g2).trans g3).trans g4))) (.cons (.int _) .nil))) .nil)) .nil))) .nil)))
abbrev sr:List Str:=["thing", "number"]
theorem pQ:aU sr ["thing", "number"] (defScope io):=⟨rfl,rfl,rfl,by decide +kernel,rfl,by decide +kernel,by decide +kernel⟩
def xM:Sp:=fun vs H Q _=>∃ u n d,vs=[u,.int n]∧KAt H u d∧∀ v H',aA H H'→KAt H' v (fo n d (-1))→Q v H'
theorem yH (F:Fun K "at_most" "at_most" io f fd):bI P w K mg base CX0 1 f fd ["thing", "number"] xM:=by
 refine F.ok pQ (fun vs H Q E h=>?_) (fun cdv A outer s H vs Q E hr h=>?_)
 ·obtain ⟨u,n,d,rfl,_⟩:=h
  rfl
 obtain ⟨u,n,d,rfl,hu,q⟩:=h
 refine ⟨_,(@ao _ _ _ (@aH _ _ _ _ (@aQ _ _ _ _ _ (@ad _ _ _ _ _ aF (@ad _ _ _ _ _ (@aQ _ _ _ _ _ (@ad _ _ _ _ _ (pv 1) (@ad _ _ _ _ _ (@aQ _ _ _ _ _ (@ad _ _ _ _ _ (@aQ _ _ _ _ _ (@ad _ _ _ _ _ (pv 0) (@ad _ _ _ _ _ (@hV _ _ _ _ _ _ eu ag) ah (ac rfl)) (ac rfl))) ah (ac rfl))) ah (ac rfl)) (ac rfl))) ah (ac rfl)) (ac rfl))))),?_⟩
 refine ⟨_,rfl,_,rfl,_,rfl,(by show 2≤sizeLine; decide),fun p1 h1=>⟨(by show 1≤sizeLine; decide),fun p2 h2=>⟨(by show 2≤sizeLine; decide),fun p3 h3=>⟨(by show 2≤sizeLine; decide),fun p4 h4=>?_⟩⟩⟩⟩
 have g1:=af h1 (.tup [u,.int (-1)])
 have g2:=af h2 (.tup [.ref p1])
 have g3:=af h3 (.tup [.int n,.ref p2])
 have g4:=af h4 (.tup [.str "least",.ref p3])
 exact q _ _ (((g1.trans g2).trans g3).trans g4) (.tup ae (.cons (.str _) (.cons (.tup (g4 _ _ ae) (.cons (.int _) (.cons (.tup (g4 _ _ (g3 _ _ ae)) (.cons (.tup (g4 _ _ (g3 _ _ (g2 _ _ ae))) (.cons (hu.mono (am (((g1.trans g2).trans g3).trans g4))) (.cons (.int _) .nil))) .nil)) .nil))) .nil)))
abbrev jR:List Str:=["name", "long", "least", "most", "void", "behind"]
theorem cR:aU jR ["name", "long", "least", "most"] (defScope dw):=⟨rfl,rfl,rfl,by decide +kernel,rfl,by decide +kernel,by decide +kernel⟩
def uG:Sp:=fun vs H Q _=>∃ u p lg n m,vs=[u,.int lg,.int n,.int m]∧KAt H u (nmD p)∧∀ l v1 v2 H',aA H H'→H l=none→H' l=some (.lst [v1,v2])→KAt H' v1 (lc p lg 1 (-n))→KAt H' v2 (lc p lg (-1) m)→Q (.ref l) H'
theorem wQ (F:Fun K "each_between" "each_between" dw f fd):bI P w K mg base CX0 1 f fd ["name", "long", "least", "most"] uG:=by
 refine F.ok cR (fun vs H Q E h=>?_) (fun cdv A outer s H vs Q E hr h=>?_)
 ·obtain ⟨u,p,lg,n,m,rfl,_⟩:=h
  rfl
 obtain ⟨u,p,lg,n,m,rfl,hu,q⟩:=h
 refine ⟨_,(@ak _ _ _ _ _ (@aB _ _ 4 _ _ _ _ cR.nd rfl (Or.inl rfl) (@aQ _ _ _ _ _ (@ad _ _ _ _ _ ag (@ad _ _ _ _ _ (@aQ _ _ _ _ _ ah) ah (ac rfl)) (ac rfl))) (ap rfl) (.inr rfl)) (@ak _ _ _ _ _ (@aB _ _ 5 _ _ _ _ cR.nd rfl (Or.inl rfl) (@aQ _ _ _ _ _ (@ad _ _ _ _ _ (pv 1) (@ad _ _ _ _ _ (@aQ _ _ _ _ _ ah) ah (ac rfl)) (ac rfl))) (ap rfl) (.inr rfl)) (@ao _ _ _ (@aH _ _ _ _ (@aY _ _ _ _ (@ad _ _ _ _ _ (@aQ _ _ _ _ _ (@ad _ _ _ _ _ aF (@ad _ _ _ _ _ (pv 0) (@ad _ _ _ _ _ (pv 4) (@ad _ _ _ _ _ (pv 5) (@ad _ _ _ _ _ ag (@ad _ _ _ _ _ ag (@ad _ _ _ _ _ (@aQ _ _ _ _ _ (@ad _ _ _ _ _ (@hV _ _ _ _ _ _ eu (pv 2)) (@ad _ _ _ _ _ (@aQ _ _ _ _ _ ah) ah (ac rfl)) (ac rfl))) ah (ac rfl)) (ac rfl)) (ac rfl)) (ac rfl)) (ac rfl)) (ac rfl)) (ac rfl))) (@ad _ _ _ _ _ (@aQ _ _ _ _ _ (@ad _ _ _ _ _ aF (@ad _ _ _ _ _ (pv 0) (@ad _ _ _ _ _ (pv 4) (@ad _ _ _ _ _ (pv 5) (@ad _ _ _ _ _ (@hV _ _ _ _ _ _ eu ag) (@ad _ _ _ _ _ ag (@ad _ _ _ _ _ (@aQ _ _ _ _ _ (@ad _ _ _ _ _ (pv 3) (@ad _ _ _ _ _ (@aQ _ _ _ _ _ ah) ah (ac rfl)) (ac rfl))) ah (ac rfl)) (ac rfl)) (ac rfl)) (ac rfl)) (ac rfl)) (ac rfl)) (ac rfl))) ah (ac rfl)) (ac rfl))))))),?_⟩
 refine ⟨(by show 0≤sizeLine; decide),fun p1 h1=>⟨(by show 2≤sizeLine; decide),fun p2 h2=>⟨_,rfl,(by show 0≤sizeLine; decide),fun p3 h3=>⟨(by show 2≤sizeLine; decide),fun p4 h4=>?_⟩⟩⟩⟩
 have g1:=af h1 (.tup [])
 have g2:=af h2 (.tup [.int 0,.ref p1])
 have g3:=af h3 (.tup [])
 have g4:=af h4 (.tup [.int lg,.ref p3])
 have G4:=((g1.trans g2).trans g3).trans g4
 have kv:KAt _ (.ref p2) (.tuple [.int 0,.tuple []]):=.tup (g4 _ _ (g3 _ _ ae)) (.cons (.int _) (.cons (.tup (g4 _ _ (g3 _ _ (g2 _ _ ae))) .nil) .nil))
 have kb:KAt _ (.ref p4) (.tuple [.int lg,.tuple []]):=.tup (ae (H:=upd (upd (upd H p1 (.tup [])) p2 (.tup [.int 0,.ref p1])) p3 (.tup []))) (.cons (.int _) (.cons (.tup (g4 _ _ ae) .nil) .nil))
 have ku:=hu.mono (am G4)
 generalize (upd (upd (upd (upd H p1 (.tup [])) p2 (.tup [.int 0,.ref p1])) p3 (.tup [])) p4 (.tup [.int lg,.ref p3]))=H5 at G4 kv kb ku
 refine ⟨_,rfl,_,rfl,_,rfl,_,rfl,n,rfl,(by show 0≤sizeLine; decide),fun p5 h5=>⟨(by show 2≤sizeLine; decide),fun p6 h6=>⟨(by show 7≤sizeLine; decide),fun p7 h7=>⟨_,rfl,_,rfl,_,rfl,1,rfl,_,rfl,(by show 0≤sizeLine; decide),fun p8 h8=>⟨(by show 2≤sizeLine; decide),fun p9 h9=>⟨(by show 7≤sizeLine; decide),fun pa ha=>⟨(by show 2≤sizeLine; decide),fun l hl=>?_⟩⟩⟩⟩⟩⟩⟩
 have y5:=af h5 (.tup [])
 have y6:=af h6 (.tup [.int (-n),.ref p5])
 have y7:=af h7 (.tup [.str "each",u,.ref p2,.ref p4,.int 1,.int 0,.ref p6])
 have y8:=af h8 (.tup [])
 have y9:=af h9 (.tup [.int m,.ref p8])
 have ya:=af ha (.tup [.str "each",u,.ref p2,.ref p4,.int (-1),.int 0,.ref p9])
 have yl:=af hl (.lst [.ref p7,.ref pa])
 have z8:=((y8.trans y9).trans ya).trans yl
 have Z:=(((y5.trans y6).trans y7).trans z8)
 have kz:=am Z
 refine q l (.ref p7) (.ref pa) _ (G4.trans Z) ((G4.trans (((((y5.trans y6).trans y7).trans y8).trans y9).trans ya)).free hl) ae ?_ ?_
 ·exact .tup (z8 _ _ ae) (.cons (.str _) (.cons (ku.mono kz) (.cons (kv.mono kz) (.cons (kb.mono kz) (.cons (.int _) (.cons (.int _) (.cons (.tup (z8 _ _ (y7 _ _ ae)) (.cons (.int _) (.cons (.tup (z8 _ _ (y7 _ _ (y6 _ _ ae))) .nil) .nil))) .nil)))))))
 ·exact .tup (yl _ _ ae) (.cons (.str _) (.cons (ku.mono kz) (.cons (kv.mono kz) (.cons (kb.mono kz) (.cons (.int _) (.cons (.int _) (.cons (.tup (yl _ _ (ya _ _ ae)) (.cons (.int _) (.cons (.tup (yl _ _ (ya _ _ (y9 _ _ ae))) .nil) .nil))) .nil)))))))
abbrev mW:List Str:=["program", "f", "room", "told", "path", "sort", "name", "least", "most"]
theorem bD:aU mW ["program", "f", "room"] (defScope dZ):=⟨rfl,rfl,rfl,by decide +kernel,rfl,by decide +kernel,by decide +kernel⟩
def Ab:Sp:=fun vs H Q _=>∃ v z R FS F rv r,vs=[v,.str z,rv]∧iY H v R FS∧iO FS z=some F∧F.2.length≤3∧(∀ p∈F.2,fj R 4 p.2)∧mf H rv r∧∀ l ys H',aA H H'→H l=none→H' l=some (.lst ys)→bP H' ys (((ppM R 4 F.2).flatMap (aZ r)).map Fct.d)→Q (.ref l) H'
theorem Ai (F:Fun K "room_facts" "room_facts" dZ f fd) (D_param_parts:Cal P w K mg base 6 "param_parts" ["program", "f"] (AA 4)) (D_at_least:Cal P w K mg base 1 "at_least" ["thing", "number"] yq) (D_at_most:Cal P w K mg base 1 "at_most" ["thing", "number"] xM) (D_each_between:Cal P w K mg base 1 "each_between" ["name", "long", "least", "most"] uG):bI P w K mg base CX0 7 f fd ["program", "f", "room"] Ab:=by
 obtain ⟨g_param_parts,gd_param_parts,G_param_parts,b_param_parts,k_param_parts,m_param_parts⟩:=D_param_parts.ex
 obtain ⟨g_at_most,gd_at_most,G_at_most,b_at_most,k_at_most,m_at_most⟩:=D_at_most.ex
 obtain ⟨g_at_least,gd_at_least,G_at_least,b_at_least,k_at_least,m_at_least⟩:=D_at_least.ex
 obtain ⟨g_each_between,gd_each_between,G_each_between,b_each_between,k_each_between,m_each_between⟩:=D_each_between.ex
 refine F.ok bD (fun vs H Q E h=>?_) (fun cdv A outer s H vs Q E hr h=>?_)
 ·obtain ⟨v,z,R,FS,F,rv,r,rfl,_⟩:=h
  rfl
 obtain ⟨v,z,R,FS,FF,rv,r,rfl,hp,hF,hl,hd,⟨rp,rfl,hrp⟩,q⟩:=h
 refine ⟨_,(@ak _ _ _ _ _ (@aB _ _ 3 _ _ _ _ bD.nd rfl (Or.inl rfl) (@aY _ _ _ _ ah) (ap rfl) (.inr rfl)) (@ak _ _ _ _ _ (@bF _ _ _ _ _ _ _ _ PassesOwn.never rfl (br (@au _ _ _ _ _ _ _ _ _ _ _ _ _ _ _ _ G_param_parts (hr.mono (by omega)) rfl m_param_parts k_param_parts b_param_parts .nil aO (@ad _ _ _ _ _ (pv 0) (@ad _ _ _ _ _ (pv 1) ah (ac rfl)) (ac rfl)) (by decide) (ac rfl) (aj rfl))) (cQ rfl (aV (ax (i:=4) bD.nd rfl (Or.inl rfl)) (aV (ax (i:=5) bD.nd rfl (Or.inl rfl)) cf))) (@ak _ _ _ _ _ (@aB _ _ 6 _ _ _ _ bD.nd rfl (Or.inl rfl) (@aQ _ _ _ _ _ (@ad _ _ _ _ _ aF (@ad _ _ _ _ _ (pv 4) ah (ac rfl)) (ac rfl))) (ap rfl) (.inr rfl)) (@ao _ _ _ (@bf _ _ _ _ _ _ _ _ (@aC _ _ _ _ _ _ _ _ bt (pv 5) aF (aD _)) (@ao _ _ _ (@cD _ _ _ _ (@dR _ _ _ _ _ _ _ _ _ _ _ _ PySem.F.plainAttrs_list PySem.F.slot_list_extend PySem.F.type_list_extend fQ (pv 3) (@ad _ _ _ _ _ (@aY _ _ _ _ (@ad _ _ _ _ _ (@au _ _ _ _ _ _ _ _ _ _ _ _ _ _ _ _ G_at_least (hr.mono (by omega)) rfl m_at_least k_at_least b_at_least .nil aO (@ad _ _ _ _ _ (pv 6) (@ad _ _ _ _ _ (@aq _ _ _ _ _ _ _ aw (pv 2) ag (fun _ _=>rfl)) ah (ac rfl)) (ac rfl)) (by decide) (ac rfl) (aj rfl)) (@ad _ _ _ _ _ (@au _ _ _ _ _ _ _ _ _ _ _ _ _ _ _ _ G_at_most (hr.mono (by omega)) rfl m_at_most k_at_most b_at_most .nil aO (@ad _ _ _ _ _ (pv 6) (@ad _ _ _ _ _ (@aq _ _ _ _ _ _ _ aw (pv 2) ag (fun _ _=>rfl)) ah (ac rfl)) (ac rfl)) (by decide) (ac rfl) (aj rfl)) ah (ac rfl)) (ac rfl))) ah (ac rfl)) rfl (cL rfl rfl) rfl (ac rfl) (aj rfl)) (ap rfl))) (@ak _ _ _ _ _ (@cD _ _ _ _ (@dR _ _ _ _ _ _ _ _ _ _ _ _ PySem.F.plainAttrs_list PySem.F.slot_list_append PySem.F.type_list_append dY (pv 3) (@ad _ _ _ _ _ (@au _ _ _ _ _ _ _ _ _ _ _ _ _ _ _ _ G_at_most (hr.mono (by omega)) rfl m_at_most k_at_most b_at_most .nil aO (@ad _ _ _ _ _ (@aQ _ _ _ _ _ (@ad _ _ _ _ _ aF (@ad _ _ _ _ _ (pv 6) ah (ac rfl)) (ac rfl))) (@ad _ _ _ _ _ (@aq _ _ _ _ _ _ _ aw (pv 2) ag (fun _ _=>rfl)) ah (ac rfl)) (ac rfl)) (by decide) (ac rfl) (aj rfl)) ah (ac rfl)) rfl (cL rfl rfl) rfl (ac rfl) (aj rfl)) (ap rfl)) (@ak _ _ _ _ _ (@aB _ _ 7 _ _ _ _ bD.nd rfl (Or.inl rfl) (@cY _ _ _ _ _ _ _ _ (@aC _ _ _ _ _ _ _ _ bt (pv 5) aF (aD _)) (@aq _ _ _ _ _ _ _ aw (pv 2) ag (fun _ _=>rfl)) (@aq _ _ _ _ _ _ _ aw (pv 2) ag (fun _ _=>rfl))) (ap rfl) (.inr rfl)) (@ak _ _ _ _ _ (@aB _ _ 8 _ _ _ _ bD.nd rfl (Or.inl rfl) (@cY _ _ _ _ _ _ _ _ (@aC _ _ _ _ _ _ _ _ bt (pv 5) aF (aD _)) (@aq _ _ _ _ _ _ _ aw (pv 2) ag (fun _ _=>rfl)) (@aq _ _ _ _ _ _ _ aw (pv 2) ag (fun _ _=>rfl))) (ap rfl) (.inr rfl)) (@ao _ _ _ (@cD _ _ _ _ (@dR _ _ _ _ _ _ _ _ _ _ _ _ PySem.F.plainAttrs_list PySem.F.slot_list_extend PySem.F.type_list_extend fQ (pv 3) (@ad _ _ _ _ _ (@au _ _ _ _ _ _ _ _ _ _ _ _ _ _ _ _ G_each_between (hr.mono (by omega)) rfl m_each_between k_each_between b_each_between .nil aO (@ad _ _ _ _ _ (pv 6) (@ad _ _ _ _ _ (@aq _ _ _ _ _ _ _ aw (pv 2) ag (fun _ _=>rfl)) (@ad _ _ _ _ _ (pv 7) (@ad _ _ _ _ _ (pv 8) ah (ac rfl)) (ac rfl)) (ac rfl)) (ac rfl)) (by decide) (ac rfl) (aj rfl)) ah (ac rfl)) rfl (cL rfl rfl) rfl (ac rfl) (aj rfl)) (ap rfl))))))))) (fun _=>rfl)) (@ao _ _ _ (@aH _ _ _ _ (pv 3))))),?_⟩
 refine ⟨(by show 0≤sizeLine; decide),fun t ht=>?_⟩
 have s1:=af ht (.lst [])
 refine ⟨_,rfl,_,rfl,v,z,R,FS,FF,rfl,hp.mono (am s1),hF,hl,by decide,hd,fun pl ps H2 g2 hpl0 hpl hps=>?_⟩
 have ht2:=g2 _ _ (ae (H:=H) (a:=t) (o:=.lst []))
 have G2:=s1.trans g2
 have lpp:=jt (R:=R) (n:=4) (by decide) hl hd
 have lps:=Paired.length hps
 have npt:pl≠t:=(ar (ae (H:=H) (a:=t) (o:=.lst [])) hpl0).symm
 refine ⟨pl,rfl,⟨ps,SqL.of hpl⟩,dv (xs:=ps) (fun j σ H'=>∃ m4 m5 m6 m7 m8 ys,σ=[some v,some (.str z),some (.ref rp),some (.ref t),m4,m5,m6,m7,m8]∧Ext t H2 H'∧H' t=some (.lst ys)∧bP H' ys ((((ppM R 4 FF.2).take j).flatMap (aZ r)).map Fct.d)) ⟨_,_,_,_,_,[],rfl,Ext.refl _ _,ht2,.nil⟩ (fun j σ H' _ p=>?_) (fun j x σ H3 hx p=>?_) (fun σ H3 p=>?_)⟩
 ·obtain ⟨_,_,_,_,_,_,_,x3,_⟩:=p
  exact SqL.of (x3 _ _ npt hpl)
 ·obtain ⟨m4,m5,m6,m7,m8,ys,rfl,x3,ht3,kys⟩:=p
  obtain ⟨qq,hqq,hpa⟩:=paired_at hps j x hx
  have k3:=cg x3 ht2
  obtain ⟨a2,y2,rfl,ha2,hpt⟩:=hpa.mono k3
  have hrp3:=k3 _ _ (G2 _ _ hrp)
  have kp:=uZ hpt
  have lys:ys.length≤3*j:=by
   rw [cu kys,List.length_map]
   have:=ca (l:=(ppM R 4 FF.2).take j) (g:=aZ r) (b:=3) fun q _=>by
    unfold aZ
    split<;>simp
   rw [List.length_take] at this
   omega
  have hj:j<243:=by
   have:=(List.getElem?_eq_some_iff.mp hqq).1
   omega
  have step:((ppM R 4 FF.2).take (j+1)).flatMap (aZ r)=((ppM R 4 FF.2).take j).flatMap (aZ r)++aZ r qq:=by
   rw [List.take_add_one,hqq,List.flatMap_append]
   simp
  refine ⟨a2,_,rfl,SqT.of ha2,rfl,_,_,rfl,_,_,rfl,rfl,?_⟩
  refine ⟨_,rfl,(by show 2≤sizeLine; decide),fun p1 h1=>?_⟩
  have g1:=af h1 (.tup [.str "name",y2])
  have kn:KAt _ (.ref p1) (nmD qq.1):=.tup (ae (H:=H3)) (.cons (.str _) (.cons (kp.mono (am g1)) .nil))
  have ht4:=g1 _ _ ht3
  have hrp4:=g1 _ _ hrp3
  have kys4:=kys.mono (am g1)
  have x4:=x3.trans (aA.ext g1)
  generalize (upd H3 p1 (.tup [.str "name",y2]))=H4 at kn ht4 hrp4 kys4 x4
  refine ⟨_,rfl,rfl,_,rfl,?_⟩
  refine bh (fun c=>?_) (fun c=>?_)
  ·have ec:=eqS c
   refine ⟨_,rfl,.inl ⟨rfl,_,SqL.of ht4⟩,_,rfl,_,rfl,rp,_,_,_,rfl,rfl,SqT.of hrp4,rfl,.ref p1,r.a,nmD qq.1,rfl,kn,fun v5 H5 g5 k5=>?_⟩
   refine ⟨_,rfl,_,rfl,rp,_,_,_,rfl,rfl,SqT.of (g5 _ _ hrp4),rfl,.ref p1,r.b,nmD qq.1,rfl,kn.mono (am g5),fun v6 H6 g6 k6=>?_⟩
   refine ⟨(by show 2≤sizeLine; decide),fun l hl=>?_⟩
   have g7:=af hl (.lst [v5,v6])
   have gg:=(g5.trans g6).trans g7
   have ht7:=gg _ _ ht4
   have kt:=cy ht7 (.lst (ys++[v5,v6]))
   refine ⟨t,l,ys,[v5,v6],rfl,rfl,ht7,ae,Nat.le_of_lt (aL (by simp; omega)),?_⟩
   refine ⟨_,_,_,_,_,ys++[v5,v6],rfl,(x4.trans (aA.ext gg)).trans Ext.upd,ae,?_⟩
   rw [step,List.map_append]
   refine db ((kys4.mono (am gg)).mono kt) ?_
   unfold aZ
   rw [if_pos ec]
   exact .cons ((k5.mono (am (g6.trans g7))).mono kt) (.cons ((k6.mono (am g7)).mono kt) .nil)
  ·have nc:=neS c
   refine ⟨_,rfl,.inl ⟨rfl,_,SqL.of ht4⟩,_,rfl,(by show 2≤sizeLine; decide),fun p2 h2=>?_⟩
   have g2':=af h2 (.tup [.str "len",.ref p1])
   refine ⟨_,rfl,rp,_,_,_,rfl,rfl,SqT.of (g2' _ _ hrp4),rfl,.ref p2,r.c,.tuple [.str "len",nmD qq.1],rfl,.tup ae (.cons (.str _) (.cons (kn.mono (am g2')) .nil)),fun v5 H5 g5 k5=>?_⟩
   have gg:=g2'.trans g5
   have ht5:=gg _ _ ht4
   have kt:=cy ht5 (.lst (ys++[v5]))
   refine ⟨t,ys,_,rfl,rfl,ht5,aL (by omega),?_⟩
   have hrp6:=kt _ _ (gg _ _ hrp4)
   have kn6:=(kn.mono (am gg)).mono kt
   have kys6:=(kys4.mono (am gg)).mono kt
   have k56:=k5.mono kt
   have x6:=(x4.trans (aA.ext gg)).trans (Ext.upd (o:=.lst (ys++[v5])))
   have ht6:(upd H5 t (.lst (ys++[v5]))) t=some (.lst (ys++[v5])):=ae
   generalize (upd H5 t (.lst (ys++[v5])))=H6 at hrp6 kn6 kys6 k56 x6 ht6
   by_cases et:qq.2=Str.ofString "text"
   ·have dt:decide (V.str qq.2=V.str (Str.ofString "text"))=true:=by rw [et]; simp
    refine ⟨_,rfl,rfl,_,rfl,?_⟩
    rw [dt]
    refine eP ⟨_,rfl,rp,_,_,_,rfl,rfl,SqT.of hrp6,rfl,?_⟩
    refine ⟨_,rfl,rfl,_,rfl,?_⟩
    rw [dt]
    refine eP ⟨_,rfl,rp,_,_,_,rfl,rfl,SqT.of hrp6,rfl,?_⟩
    refine ⟨_,rfl,.inl ⟨rfl,_,SqL.of ht6⟩,_,rfl,_,rfl,rp,_,_,_,rfl,rfl,SqT.of hrp6,rfl,_,rfl,_,rfl,.ref p1,qq.1,r.c,r.d,r.e,rfl,kn6,fun el w1 w2 H8 g8 hel0 hel kw1 kw2=>?_⟩
    have ht8:=g8 _ _ ht6
    have kt8:=cy ht8 (.lst ((ys++[v5])++[w1,w2]))
    refine ⟨t,el,ys++[v5],[w1,w2],rfl,rfl,ht8,hel,Nat.le_of_lt (aL (by simp; omega)),?_⟩
    refine ⟨_,_,_,_,_,(ys++[v5])++[w1,w2],rfl,(x6.trans (aA.ext g8)).trans Ext.upd,ae,?_⟩
    rw [step,List.map_append]
    unfold aZ
    rw [if_neg nc,if_pos et,if_pos et]
    have zz:=db (db ((kys6.mono (am g8)).mono kt8) (.cons ((k56.mono (am g8)).mono kt8) .nil)) (.cons (kw1.mono kt8) (.cons (kw2.mono kt8) .nil))
    have ez:∀ (D:List PyData) (a b c:PyData),D++[a]++[b,c]=D++[a,b,c]:=fun D a b c=>by simp
    exact (ez _ _ _ _) ▸ zz
   ·have dt:decide (V.str qq.2=V.str (Str.ofString "text"))=false:=decide_eq_false fun e=>et (V.str.inj e)
    refine ⟨_,rfl,rfl,_,rfl,?_⟩
    rw [dt]
    refine bU ⟨_,rfl,rp,_,_,_,rfl,rfl,SqT.of hrp6,rfl,?_⟩
    refine ⟨_,rfl,rfl,_,rfl,?_⟩
    rw [dt]
    refine bU ⟨_,rfl,rp,_,_,_,rfl,rfl,SqT.of hrp6,rfl,?_⟩
    refine ⟨_,rfl,.inl ⟨rfl,_,SqL.of ht6⟩,_,rfl,_,rfl,rp,_,_,_,rfl,rfl,SqT.of hrp6,rfl,_,rfl,_,rfl,.ref p1,qq.1,r.c,r.a,r.b,rfl,kn6,fun el w1 w2 H8 g8 hel0 hel kw1 kw2=>?_⟩
    have ht8:=g8 _ _ ht6
    have kt8:=cy ht8 (.lst ((ys++[v5])++[w1,w2]))
    refine ⟨t,el,ys++[v5],[w1,w2],rfl,rfl,ht8,hel,Nat.le_of_lt (aL (by simp; omega)),?_⟩
    refine ⟨_,_,_,_,_,(ys++[v5])++[w1,w2],rfl,(x6.trans (aA.ext g8)).trans Ext.upd,ae,?_⟩
    rw [step,List.map_append]
    unfold aZ
    rw [if_neg nc,if_neg et,if_neg et]
    have zz:=db (db ((kys6.mono (am g8)).mono kt8) (.cons ((k56.mono (am g8)).mono kt8) .nil)) (.cons (kw1.mono kt8) (.cons (kw2.mono kt8) .nil))
    have ez:∀ (D:List PyData) (a b c:PyData),D++[a]++[b,c]=D++[a,b,c]:=fun D a b c=>by simp
    exact (ez _ _ _ _) ▸ zz
 ·obtain ⟨m4,m5,m6,m7,m8,ys,rfl,x3,ht3,kys⟩:=p
  rw [lps,List.take_length] at kys
  exact ⟨_,rfl,q t ys H3 (fun b o e=>x3 _ _ (ar e ht) (G2 _ _ e)) ht ht3 kys⟩
end
open PySem L2
theorem qr {A:Around} {k:Nat} (hr:eQ k A):A.units+60<cLine:=by have:=hr.units; omega
theorem vq:∀ x∈NMS,PyData.strOk x=true:=by decide +kernel
theorem dN {H:Hp} {a:Addr} {p:List Str} (h:H a=some (.tup (p.map V.str))) (hn:∀ x∈p,x∈NMS):NAt H a (bd p):=by
 have q:pks (p.map .str)=true∧PyData.depthAll (p.map PyData.str)≤1:=by
  clear h
  induction p with
  | nil=>exact ⟨rfl,by simp [PyData.depthAll]⟩
  | cons x r ih =>
   have ih:=ih fun y hy=>hn y (List.mem_cons_of_mem _ hy)
   refine ⟨?_,?_⟩
   ·simp only [List.map_cons,pks,pk,Bool.and_eq_true]
    exact ⟨vq x (hn x List.mem_cons_self),ih.1⟩
   ·simp only [List.map_cons,PyData.depthAll,PyData.depth]
    have:=ih.2
    omega
 refine ⟨uZ ⟨a,rfl,h⟩,?_,?_⟩
 ·show pk (.tuple (p.map .str))=true
  simp only [pk]
  exact q.1
 ·show (PyData.tuple (p.map PyData.str)).depth≤8
  simp only [PyData.depth]
  omega
theorem fV {p q:List Str} (h:bd p=bd q):p=q:=by
 have:p.map PyData.str=q.map PyData.str:=by injection h
 exact List.map_inj_right (fun _ _ e=>by injection e) |>.mp this
def RNd (R:List Rec):Prop:=∀ rc∈R,cv (rc.2.map (·.1))
theorem rG {R:List Rec} (h:RNd R) (k:Str):cv ((look R k).map (·.1)):=by
 unfold look
 cases e:R.find? fun r=>decide (r.1=k) with
 | none=>exact ⟨List.nodup_nil,fun _ z=>nomatch z⟩
 | some rc=>exact h rc (List.mem_of_find?_eq_some e)
theorem qQ {l:List Fld} {g:Fld→List bL} (hl:(l.map (·.1)).Nodup) (hg:∀ p∈l,((g p).map (·.1)).Nodup):((l.flatMap fun p=>(g p).map fun q=>(p.1::q.1,q.2)).map (·.1)).Nodup:=by
 induction l with
 | nil=>exact List.nodup_nil
 | cons p r ih =>
  have n:=List.nodup_cons.mp hl
  rw [List.flatMap_cons,List.map_append,List.nodup_append]
  refine ⟨?_,ih n.2 fun q hq=>hg q (List.mem_cons_of_mem _ hq),fun a ha b hb e=>?_⟩
  ·rw [List.map_map]
   have:((g p).map ((fun x=>x.1) ∘ fun q:bL=>(p.1::q.1,q.2)))=((g p).map (·.1)).map (p.1::·):=by rw [List.map_map]; rfl
   rw [this]
   exact List.Pairwise.map _ (fun a b h e=>h (List.cons.inj e).2) (hg p List.mem_cons_self)
  ·subst e
   obtain ⟨q1,h1,rfl⟩:=List.mem_map.mp ha
   obtain ⟨q1',_,rfl⟩:=List.mem_map.mp h1
   obtain ⟨q2,h2,e2⟩:=List.mem_map.mp hb
   obtain ⟨p2,hp2,h2⟩:=List.mem_flatMap.mp h2
   obtain ⟨q2',_,rfl⟩:=List.mem_map.mp h2
   have:p2.1=p.1:=(List.cons.inj e2).1
   exact n.1 (by show p.1∈_; rw [← this]; exact List.mem_map_of_mem hp2)
theorem gW {R:List Rec} (h:RNd R):∀ (n:Nat) (k:Str),((aE R n k).map (·.1)).Nodup∧∀ q∈aE R n k,∀ x∈q.1,x∈NMS
 | 0,_=>⟨List.nodup_nil,fun _ z=>nomatch z⟩
 | n+1,k=>by
  unfold aE
  split
  ·refine ⟨by simp,fun q hq x hx=>?_⟩
   rw [List.mem_singleton.mp hq] at hx
   cases hx
  ·refine ⟨qQ (rG h k).1 fun p _=>(gW h n p.2).1,fun q hq x hx=>?_⟩
   unfold nj at hq
   obtain ⟨p,hp,hq⟩:=List.mem_flatMap.mp hq
   obtain ⟨q',hq',rfl⟩:=List.mem_map.mp hq
   rcases List.mem_cons.mp hx with rfl | hx
   ·exact (rG h k).2 _ (List.mem_map_of_mem hp)
   ·exact (gW h n p.2).2 q' hq' x hx
theorem yw {R:List Rec} (h:RNd R) {l:List Fld} (hl:cv (l.map (·.1))):((ppM R 4 l).map (·.1)).Nodup∧∀ q∈ppM R 4 l,∀ x∈q.1,x∈NMS:=by
 refine ⟨qQ hl.1 fun p _=>(gW h 4 p.2).1,fun q hq x hx=>?_⟩
 unfold ppM at hq
 obtain ⟨p,hp,hq⟩:=List.mem_flatMap.mp hq
 obtain ⟨q',hq',rfl⟩:=List.mem_map.mp hq
 rcases List.mem_cons.mp hx with rfl | hx
 ·exact hl.2 _ (List.mem_map_of_mem hp)
 ·exact (gW h 4 p.2).2 q' hq' x hx
def kvq (q:bL):PyData×V:=(bd q.1,.str q.2)
theorem mF {kvs:List (PyData×V)} {k:PyData} {v:V} (h:∀ kv∈kvs,kv.1≠k):gN kvs k v=kvs++[(k,v)]:=by
 unfold gN
 rw [if_neg]
 intro e
 obtain ⟨kv,h1,h2⟩:=List.any_eq_true.mp e
 exact h kv h1 (of_decide_eq_true h2)
section
variable {P:Program} {w:World} {K:Frag} {mg:Str→Option Value} {base:Heap} {f g:Addr} {fd gd:FuncData}
abbrev sA:List Str:=["_law_program", "_law_f", "_law_found", "_law_name", "_law_kind", "_law_path", "_law_sort"]
theorem cM:aU sA ["_law_program", "_law_f"] (defScope iu):=⟨rfl,rfl,rfl,by decide +kernel,rfl,by decide +kernel,by decide +kernel⟩
def rA:Sp:=fun vs H Q _=>∃ pg i R FS F,vs=[pg,.int (i:Nat)]∧iY H pg R FS∧wS R FS∧Az R FS∧FS[i]?=some F∧∀ d H',aA H H'→H d=none→H' d=some (.dT ((ppM R 4 F.2).map kvq))→Q (.ref d) H'
theorem vY (F:Fun K "_law_paths" "_law_paths" iu f fd) (D_l_sorts:Cal P w K mg base 5 "_law_sorts" pSo (eE 4)):bI P w K mg base CX0 6 f fd ["_law_program", "_law_f"] rA:=by
 obtain ⟨g_l_sorts,gd_l_sorts,G_l_sorts,b_l_sorts,k_l_sorts,m_l_sorts⟩:=D_l_sorts.ex
 refine F.ok cM (fun vs H Q E h=>?_) (fun cdv A outer s H vs Q E hr h=>?_)
 ·obtain ⟨pg,i,R,FS,F,rfl,_⟩:=h
  rfl
 obtain ⟨pg,i,R,FS,FF,rfl,hp,hpg,hnd,hF,q⟩:=h
 have hFm:=List.mem_of_getElem? hF
 obtain ⟨hl,hDp⟩:=hpg.fl FF hFm
 obtain ⟨ndp,nmp⟩:=yw hnd.1 (hnd.2 FF hFm)
 obtain ⟨a,y,b,fs,rfl,ha,hRc,hb,pf⟩:=id hp
 obtain ⟨fx,hfx,c,yy,l0,b',rfl,hc,pb,xs,rfl,hpb,rs⟩:∃ fx,fs[i]?=some fx∧iU H fx FF:=by
  obtain ⟨fx,h1⟩:∃ fx,fs[i]?=some fx:=⟨_,List.getElem?_eq_getElem (by rw [Paired.length pf]; exact (List.getElem?_eq_some_iff.mp hF).1)⟩
  obtain ⟨F2,h2,h3⟩:=paired_at pf i fx h1
  rw [hF] at h2
  cases h2
  exact ⟨fx,h1,h3⟩
 have lpp:=jt (R:=R) (n:=4) (by decide) hl hDp
 have lrs:=Paired.length rs
 refine ⟨_,(@ak _ _ _ _ _ (@aB _ _ 2 _ _ _ _ cM.nd rfl (Or.inl rfl) nI (ap rfl) (.inr rfl)) (@ak _ _ _ _ _ (@bF _ _ _ _ _ _ _ _ PassesOwn.never rfl (cZ (@aq _ _ _ _ _ _ _ aw (@aq _ _ _ _ _ _ _ aw (@aq _ _ _ _ _ _ _ aw (pv 0) ag (fun _ _=>rfl)) (pv 1) (fun _ _=>rfl)) ag (fun _ _=>rfl))) (cQ rfl (aV (ax (i:=3) cM.nd rfl (Or.inl rfl)) (aV (ax (i:=4) cM.nd rfl (Or.inl rfl)) cf))) (@ao _ _ _ (@bF _ _ _ _ _ _ _ _ PassesOwn.never rfl (br (@au _ _ _ _ _ _ _ _ _ _ _ _ _ _ _ _ G_l_sorts (hr.mono (by omega)) rfl m_l_sorts k_l_sorts b_l_sorts .nil aO (@ad _ _ _ _ _ (@aq _ _ _ _ _ _ _ aw (pv 0) ag (fun _ _=>rfl)) (@ad _ _ _ _ _ (pv 4) ah (ac rfl)) (ac rfl)) (by decide) (ac rfl) (aj rfl))) (cQ rfl (aV (ax (i:=5) cM.nd rfl (Or.inl rfl)) (aV (ax (i:=6) cM.nd rfl (Or.inl rfl)) cf))) (@ao _ _ _ (rz (qr hr) (pv 2) (@aN _ _ _ _ _ _ _ _ jn (@aQ _ _ _ _ _ (@ad _ _ _ _ _ (pv 3) ah (ac rfl))) (pv 5)) (pv 6) (ap rfl))) (fun _=>rfl))) (fun _=>rfl)) (@ao _ _ _ (@aH _ _ _ _ (pv 2))))),?_⟩
 intro t ht
 have gD:=af ht (.dT [])
 have htt:(upd H t (.dT [])) t=some (.dT []):=ae
 generalize (upd H t (.dT []))=H1 at gD htt
 refine ⟨_,rfl,a,_,_,_,rfl,rfl,SqT.of (gD _ _ ha),rfl,_,rfl,b,_,_,_,rfl,rfl,SqT.of (gD _ _ hb),yR hfx,c,_,_,_,rfl,rfl,SqT.of (gD _ _ hc),rfl,?_⟩
 refine ⟨pb,rfl,⟨xs,SqT.of (gD _ _ hpb)⟩,dB (xs:=xs) (fun j σ H2=>∃ m3 m4 m5 m6,σ=[some (.ref a),some (.int (i:Nat)),some (.ref t),m3,m4,m5,m6]∧Ext t H1 H2∧H2 t=some (.dT ((ppM R 4 (FF.2.take j)).map kvq))) ⟨_,_,_,_,rfl,Ext.refl _ _,htt⟩ (fun j σ H2 _ p=>?_) (fun j u σ H2 hx p=>?_) (fun σ H2 p=>?_)⟩
 ·obtain ⟨_,_,_,_,_,x2,_⟩:=p
  exact SqT.of (x2 _ _ (gq (gD _ _ hpb) htt (fun z=>by cases z)) (gD _ _ hpb))
 ·obtain ⟨m3,m4,m5,m6,rfl,x2,ht2⟩:=p
  obtain ⟨fl,hfl,ta,rfl,hta⟩:=paired_at rs j u hx
  have k2:Tk H1 H2:=fun b xs e=>x2 _ _ (gq e htt (fun z=>by cases z)) e
  have dp:=hDp fl (List.mem_of_getElem? hfl)
  have snoc:ppM R 4 (FF.2.take (j+1))=ppM R 4 (FF.2.take j)++(aE R 4 fl.2).map fun q=>(fl.1::q.1,q.2):=by
   rw [List.take_add_one,hfl]
   exact oF R 4 _ fl
  have pre:∃ bb,ppM R 4 FF.2=ppM R 4 (FF.2.take (j+1))++bb:=by
   refine ⟨ppM R 4 (FF.2.drop (j+1)),?_⟩
   unfold ppM
   rw [← List.flatMap_append,List.take_append_drop]
  obtain ⟨bb,ebb⟩:=pre
  refine ⟨ta,_,rfl,SqT.of (k2 _ _ (gD _ _ hta)),rfl,_,_,rfl,_,_,rfl,rfl,?_⟩
  refine ⟨_,rfl,a,_,_,_,rfl,rfl,SqT.of (k2 _ _ (gD _ _ ha)),rfl,_,rfl,_,fl.2,R,rfl,(hRc.mono (am gD)).mono k2,hpg.rn,by have:=hpg.rl; omega,by decide,dp,fun rr zs H3 g3 hr0 hrz pz=>?_⟩
  have ht3:=g3 _ _ ht2
  have nrt:rr≠t:=(ar ht2 hr0).symm
  have lz:=Paired.length pz
  refine ⟨rr,rfl,⟨zs,SqL.of hrz⟩,dv (xs:=zs) (fun jj σ H4=>∃ m5 m6,σ=[some (.ref a),some (.int (i:Nat)),some (.ref t),some (.str fl.1),some (.str fl.2),m5,m6]∧Ext t H3 H4∧H4 t=some (.dT ((ppM R 4 (FF.2.take j)++((aE R 4 fl.2).take jj).map fun q=>(fl.1::q.1,q.2)).map kvq))) ⟨_,_,rfl,Ext.refl _ _,by rw [List.take_zero,List.map_nil,List.append_nil]; exact ht3⟩ (fun jj σ H4 _ p=>?_) (fun jj u σ H4 hx2 p=>?_) (fun σ H4 p=>?_)⟩
  ·obtain ⟨_,_,_,x4,_⟩:=p
   exact SqL.of (x4 _ _ nrt hrz)
  ·obtain ⟨m5,m6,rfl,x4,ht4⟩:=p
   have k4:Tk H3 H4:=fun b xs e=>x4 _ _ (gq e ht3 (fun z=>by cases z)) e
   obtain ⟨qq,hqq,hpa⟩:=paired_at pz jj u hx2
   obtain ⟨a2,y2,rfl,ha2,a3,rfl,ha3⟩:=hpa.mono k4
   have hm:qq∈aE R 4 fl.2:=List.mem_of_getElem? hqq
   have pl:=cN 4 hm
   have eqs:ppM R 4 (FF.2.take j)++((aE R 4 fl.2).take (jj+1)).map (fun q=>(fl.1::q.1,q.2))=(ppM R 4 (FF.2.take j)++((aE R 4 fl.2).take jj).map fun q=>(fl.1::q.1,q.2))++[(fl.1::qq.1,qq.2)]:=by
    rw [List.take_add_one,hqq,List.map_append,← List.append_assoc]
    rfl
   have pre2:∃ b2,ppM R 4 FF.2=((ppM R 4 (FF.2.take j)++((aE R 4 fl.2).take jj).map fun q=>(fl.1::q.1,q.2))++[(fl.1::qq.1,qq.2)])++b2:=by
    rw [← eqs]
    refine ⟨((aE R 4 fl.2).drop (jj+1)).map (fun q=>(fl.1::q.1,q.2))++bb,?_⟩
    rw [ebb,snoc,List.append_assoc (ppM R 4 (FF.2.take j)) (((aE R 4 fl.2).take (jj+1)).map _),← List.append_assoc (((aE R 4 fl.2).take (jj+1)).map _),← List.map_append,List.take_append_drop,List.append_assoc]
   rw [eqs]
   generalize hkq:(ppM R 4 (FF.2.take j)++((aE R 4 fl.2).take jj).map fun q=>(fl.1::q.1,q.2))=qs at ht4 pre2
   obtain ⟨b2,eb2⟩:=pre2
   have nq:∀ q∈qs,q.1≠fl.1::qq.1:=fun q hq e=>by
    rw [eb2,List.map_append,List.map_append] at ndp
    have:=(List.nodup_append.mp (List.nodup_append.mp ndp).1).2.2
    exact this q.1 (List.mem_map_of_mem hq) (fl.1::qq.1) (by simp) e
   have nmq:∀ x∈fl.1::qq.1,x∈NMS:=nmp (fl.1::qq.1,qq.2) (by rw [eb2]; simp)
   have lqs:qs.length<243:=by
    have:=congrArg List.length eb2
    rw [List.length_append,List.length_append] at this
    simp at this
    omega
   have fin:∀ (p2:Addr) (H5:Hp),aA H4 H5→H5 p2=some (.tup ((fl.1::qq.1).map V.str))→∃ aa H6,V.ref t=.ref aa∧nE H5 aa (.ref p2) (.str qq.2) H6∧∃ m5 m6,([some (.ref a),some (.int (i:Nat)),some (.ref t),some (.str fl.1),some (.str fl.2),some (.ref a3),some (.str qq.2)]:St)=[some (.ref a),some (.int (i:Nat)),some (.ref t),some (.str fl.1),some (.str fl.2),m5,m6]∧Ext t H3 H6∧H6 t=some (.dT ((qs++[(fl.1::qq.1,qq.2)]).map kvq)):=by
    intro p2 H5 g5 h2
    refine ⟨t,_,rfl,nE.t (g5 _ _ ht4) (dN h2 nmq) (aL (by rw [List.length_map]; omega)),_,_,rfl,(x4.trans (aA.ext g5)).trans Ext.upd,?_⟩
    rw [ae,mF,List.map_append]
    ·rfl
    ·intro kv hkv
     obtain ⟨q0,hq0,rfl⟩:=List.mem_map.mp hkv
     exact fun e=>nq q0 hq0 (fV e)
   refine ⟨a2,_,rfl,SqT.of ha2,rfl,_,_,rfl,_,_,rfl,rfl,?_⟩
   refine ⟨_,rfl,_,rfl,_,rfl,(by show 1≤sizeLine; decide),fun p1 hp1=>?_⟩
   have g5:=af hp1 (.tup [.str fl.1])
   refine ⟨_,rfl,p1,a3,_,_,rfl,rfl,SqT.of ae,SqT.of (g5 _ _ ha3),(by simp),?_,fun z=>?_,fun z p3 hp3=>?_⟩
   ·rw [List.length_map]
    exact Nat.le_of_lt (aL (by simp; omega))
   ·have ep:qq.1=[]:=by simpa using z
    exact fin p1 _ g5 (by rw [ep]; exact ae)
   ·exact fin p3 _ (g5.trans (af hp3 _)) ae
  ·obtain ⟨m5,m6,rfl,x4,ht4⟩:=p
   rw [lz,List.take_length,← snoc] at ht4
   exact ⟨_,_,_,_,rfl,(x2.trans (aA.ext g3)).trans x4,ht4⟩
 ·obtain ⟨m3,m4,m5,m6,rfl,x2,ht2⟩:=p
  rw [lrs,List.take_length] at ht2
  exact ⟨_,rfl,q t H2 (fun b o e=>x2 _ _ (ar e ht) (gD _ _ e)) ht ht2⟩
end
open PySem L2
theorem qX {H:Hp}:∀ {xs:List V} {p:List Str},bP H xs (p.map .str)→xs=p.map V.str
 | _,[],.nil=>rfl
 | _,i::is,.cons h r=>by cases h; rw [qX r]; rfl
theorem lT {H:Hp} {u:V} {p:List Str} (h:KAt H u (nmD p)):∃ a b,u=.ref a∧H a=some (.tup [.str "name",.ref b])∧H b=some (.tup (p.map V.str)):=by
 unfold nmD bd at h
 cases h with
 | tup e r =>
  cases r with
  | cons q r =>
   cases q
   cases r with
   | cons q r =>
    cases r
    cases q with
    | tup e2 r2 =>
     obtain rfl:=qX r2
     exact ⟨_,_,rfl,e,e2⟩
inductive ThV (H:Hp) (kvs:List (PyData×V)):PyData→Int→Prop
 | nm {p:List Str} {i:Int}:(∀ x∈p,x∈NMS)→cj kvs (bd p)=some (.int i)→ThV H kvs (nmD p) i
 | ln {p:List Str} {a:Addr} {zs:List V}:(∀ x∈p,x∈NMS)→cj kvs (bd p)=some (.ref a)→H a=some (.tup zs)→ThV H kvs (.tuple [.str "len",nmD p]) zs.length
section
variable {P:Program} {w:World} {K:Frag} {mg:Str→Option Value} {base:Heap} {f g:Addr} {fd gd:FuncData}
abbrev mR:List Str:=["_law_known_here", "_law_thing", "_law_row", "_law_place"]
theorem kY:aU mR ["_law_known_here", "_law_thing"] (defScope er):=⟨rfl,rfl,rfl,by decide +kernel,rfl,by decide +kernel,by decide +kernel⟩
def rF:Sp:=fun vs H Q _=>∃ kd kvs u d i,vs=[.ref kd,u]∧H kd=some (.dT kvs)∧KAt H u d∧ThV H kvs d i∧Q (.int i) H
theorem uO (T:G0 mg) (F:Fun K "_law_thing_of" "_law_thing_of" er f fd):bI P w K mg base CX0 1 f fd ["_law_known_here", "_law_thing"] rF:=by
 refine F.ok kY (fun vs H Q E h=>?_) (fun cdv A outer s H vs Q E hr h=>?_)
 ·obtain ⟨kd,kvs,u,d,i,rfl,_⟩:=h
  rfl
 obtain ⟨kd,kvs,u,d,i,rfl,hkd,hu,ht,q⟩:=h
 refine ⟨_,(@ak _ _ _ _ _ (@bf _ _ _ _ _ _ _ _ (@aC _ _ _ _ _ _ _ _ bt (@aq _ _ _ _ _ _ _ aw (pv 1) ag (fun _ _=>rfl)) aF (aD _)) (@ao _ _ _ (@aH _ _ _ _ (mO (qr hr) (pv 0) (@aq _ _ _ _ _ _ _ aw (pv 1) ag (fun _ _=>rfl)) (fun _ _=>rfl)))) aS) (@ak _ _ _ _ _ (@bf _ _ _ _ _ _ _ _ (@aC _ _ _ _ _ _ _ _ bt (@aq _ _ _ _ _ _ _ aw (pv 1) ag (fun _ _=>rfl)) aF (aD _)) (@ao _ _ _ (@aH _ _ _ _ (@ay _ _ _ _ _ _ _ _ _ aI rfl T.len cp (@ad _ _ _ _ _ (mO (qr hr) (pv 0) (@aq _ _ _ _ _ _ _ aw (@aq _ _ _ _ _ _ _ aw (pv 1) ag (fun _ _=>rfl)) ag (fun _ _=>rfl)) (fun _ _=>rfl)) ah (ac rfl)) (by decide) (by decide) (ac rfl) (aj rfl)))) aS) gb)),?_⟩
 cases ht with
 | @nm p i hn hv =>
  obtain ⟨a,b,rfl,ha,hb⟩:=lT hu
  refine ⟨_,rfl,a,_,_,_,rfl,rfl,SqT.of ha,rfl,rfl,_,rfl,?_⟩
  refine bh (fun c=>?_) (fun c=>absurd rfl (neS c))
  exact ⟨_,rfl,_,rfl,a,_,_,_,rfl,rfl,SqT.of ha,rfl,kd,_,rfl,hv ▸ jf.t hkd (dN hb hn),q⟩
 | @ln p ra zs hn hv hra =>
  obtain ⟨a0,x1,rfl,ha0,h1⟩:∃ a0 x1,u=.ref a0∧H a0=some (.tup [.str "len",x1])∧KAt H x1 (nmD p):=by
   cases hu with
   | tup e r =>
    cases r with
    | cons q r =>
     cases q
     cases r with
     | cons q r =>
      cases r
      exact ⟨_,_,rfl,e,q⟩
  obtain ⟨a,b,rfl,ha,hb⟩:=lT h1
  refine ⟨_,rfl,a0,_,_,_,rfl,rfl,SqT.of ha0,rfl,rfl,_,rfl,?_⟩
  refine bh (fun c=>absurd (eqS c) (by decide +kernel)) (fun c=>?_)
  refine ⟨_,rfl,a0,_,_,_,rfl,rfl,SqT.of ha0,rfl,rfl,_,rfl,?_⟩
  refine bh (fun c=>?_) (fun c=>absurd rfl (neS c))
  exact ⟨_,rfl,_,rfl,a0,_,_,_,rfl,rfl,SqT.of ha0,rfl,a,_,_,_,rfl,rfl,SqT.of ha,rfl,kd,_,rfl,hv ▸ jf.t hkd (dN hb hn),ra,zs,rfl,.inr (SqT.of hra),q⟩
abbrev qp:List Str:=["_law_known_here", "_law_term", "_law_row", "_law_place"]
theorem nA:aU qp ["_law_known_here", "_law_term"] (defScope gO):=⟨rfl,rfl,rfl,by decide +kernel,rfl,by decide +kernel,by decide +kernel⟩
def xN:Sp:=fun vs H Q _=>∃ kd kvs u p v,vs=[.ref kd,u]∧H kd=some (.dT kvs)∧KAt H u (nmD p)∧(∀ x∈p,x∈NMS)∧cj kvs (bd p)=some v∧Q v H
theorem vf (T:G0 mg) (F:Fun K "_law_row_of" "_law_row_of" gO f fd):bI P w K mg base CX0 1 f fd ["_law_known_here", "_law_term"] xN:=by
 refine F.ok nA (fun vs H Q E h=>?_) (fun cdv A outer s H vs Q E hr h=>?_)
 ·obtain ⟨kd,kvs,u,p,v,rfl,_⟩:=h
  rfl
 obtain ⟨kd,kvs,u,p,v,rfl,hkd,hu,hn,hv,q⟩:=h
 refine ⟨_,(@ak _ _ _ _ _ (@bf _ _ _ _ _ _ _ _ (@aC _ _ _ _ _ _ _ _ bt (@aq _ _ _ _ _ _ _ aw (pv 1) ag (fun _ _=>rfl)) aF (aD _)) (@ao _ _ _ (@aH _ _ _ _ (mO (qr hr) (pv 0) (@aq _ _ _ _ _ _ _ aw (pv 1) ag (fun _ _=>rfl)) (fun _ _=>rfl)))) aS) gb),?_⟩
 obtain ⟨a,b,rfl,ha,hb⟩:=lT hu
 refine ⟨_,rfl,a,_,_,_,rfl,rfl,SqT.of ha,rfl,rfl,_,rfl,?_⟩
 refine bh (fun c=>?_) (fun c=>absurd rfl (neS c))
 exact ⟨_,rfl,_,rfl,a,_,_,_,rfl,rfl,SqT.of ha,rfl,kd,_,rfl,hv ▸ jf.t hkd (dN hb hn),q⟩
abbrev iI:List Str:=["_law_known_here", "_law_form"]
abbrev eW:List Str:=["_law_thing", "_law_many_here", "_law_known_here"]
theorem eL:eW.Nodup:=by decide +kernel
theorem mL:aU iI ["_law_known_here", "_law_form"] (defScope dD):=⟨rfl,rfl,rfl,by decide +kernel,rfl,by decide +kernel,by decide +kernel⟩
def eK (c:Int) (o:Option (PyData×Int)):PyData:=.tuple [.int c,.tuple (o.toList.map fun t=>.tuple [t.1,.int t.2])]
def tR:Sp:=fun vs H Q _=>∃ kd kvs u c o i,vs=[.ref kd,u]∧H kd=some (.dT kvs)∧KAt H u (eK c o)∧(match o with | none=>i=0 | some (d,m)=>∃ z,ThV H kvs d z∧(-10≤m∧m≤10)∧i=m*z)∧∀ H',aA H H'→Q (.int (c+i)) H'
theorem wZ (TX:GX mg) (F:Fun K "_law_form_of" "_law_form_of" dD f fd) (D_l_thing_of:Cal P w K mg base 1 "_law_thing_of" ["_law_known_here", "_law_thing"] rF):bI P w K mg base CX0 2 f fd ["_law_known_here", "_law_form"] tR:=by
 obtain ⟨g_l_thing_of,gd_l_thing_of,G_l_thing_of,b_l_thing_of,k_l_thing_of,m_l_thing_of⟩:=D_l_thing_of.ex
 refine F.ok mL (fun vs H Q E h=>?_) (fun cdv A outer s H vs Q E hr h=>?_)
 ·obtain ⟨kd,kvs,u,c,o,i,rfl,_⟩:=h
  rfl
 obtain ⟨kd,kvs,u,c,o,i,rfl,hkd,hu,ho,q⟩:=h
 refine ⟨_,(@ao _ _ _ (@aH _ _ _ _ (@aN _ _ _ _ _ _ _ _ bx (@aq _ _ _ _ _ _ _ aw (pv 1) ag (fun _ _=>rfl)) (@ay _ _ _ _ _ _ _ _ _ (uf rfl) rfl TX.sum Aw (@ad _ _ _ _ _ (bM (N':=eW) (ρ:=[none,none,some 0]) (m:=2) (bH.of (fs:=defScope dD) (N:=iI) rfl rfl (by decide +kernel)) rfl (cZ (aq aw (pv 1) ag (fun _ _=>rfl))) (fun _ _ _ _=>(qW (n:=2) (K:=K) rfl rfl (aV (ax (i:=0) eL rfl (Or.inl rfl)) (aV (ax (i:=1) eL rfl (Or.inl rfl)) cf)))) (fun _ _ _ _=>bu) (fun _ _ _ _=>(aN dJ (pv 1) (au G_l_thing_of (hr.mono (by omega)) rfl m_l_thing_of k_l_thing_of b_l_thing_of .nil aO (ad (pv 2) (ad (pv 0) ah)))))) ah (ac rfl)) (by decide) (by decide) (ac rfl) (aj rfl))))),?_⟩
 obtain ⟨a,b,xs,rfl,ha,hb,hx⟩:∃ a b xs,u=.ref a∧H a=some (.tup [.int c,.ref b])∧H b=some (.tup xs)∧bP H xs (o.toList.map fun t=>.tuple [t.1,.int t.2]):=by
  cases hu with
  | tup e r =>
   cases r with
   | cons q r =>
    cases q
    cases r with
    | cons q r =>
     cases r
     cases q with
     | tup e2 r2=>exact ⟨_,_,_,rfl,e,e2,r2⟩
 refine ⟨_,rfl,a,_,_,_,rfl,rfl,SqT.of ha,rfl,?_⟩
 refine ⟨_,rfl,a,_,_,_,rfl,rfl,SqT.of ha,rfl,?_⟩
 have lx:=cu hx
 have lo:xs.length≤1:=by
  rw [lx,List.length_map]
  cases o<;>simp
 refine ⟨b,rfl,⟨xs,SqT.of hb⟩,jy (xs:=xs) xs.length rfl (by omega) (fun j acc H'=>H'=H∧∃ ns:List Int,acc=ns.map V.int∧ns.length=j∧(j=0∨ns=[i])) ⟨rfl,[],rfl,rfl,.inl rfl⟩ (fun j acc H' p=>by rw [p.1]; exact SqT.of hb) (fun j acc H' x hj la hx2 p=>?_) (fun acc H' p la D hD=>?_)⟩
 ·obtain ⟨rfl,ns,rfl,ln,hns⟩:=p
  obtain rfl:j=0:=by omega
  obtain rfl:ns=[]:=List.eq_nil_of_length_eq_zero ln
  cases o with
  | none=>cases hx; cases hx2
  | some t =>
   obtain ⟨d,m⟩:=t
   obtain ⟨z,hz,hm,rfl⟩:=ho
   obtain ⟨e,he,ke⟩:=eU hx 0 x hx2
   cases he
   cases ke with
   | @tup xa xs2 _ hxa kx =>
    cases kx with
    | @cons x0 r0 _ _ k0 kr =>
     cases kr with
     | @cons x1 r1 _ _ k1 kr2 =>
      cases kr2
      cases k1
      refine ⟨xa,_,rfl,SqT.of hxa,rfl,_,_,rfl,_,_,rfl,rfl,⟨rfl,rfl⟩,bo ?_⟩
      refine ⟨_,rfl,_,rfl,_,rfl,kd,kvs,x0,d,z,rfl,hkd,k0,hz,_,_,rfl,rfl,.inl (by omega),nxT (by omega) hj la ⟨rfl,[m*z],rfl,rfl,.inr rfl⟩⟩
 ·obtain ⟨rfl,ns,rfl,ln,hns⟩:=p
  refine ⟨D,ns,rfl,SqL.of ae,_,_,rfl,rfl,?_⟩
  have:ns.sum=i:=by
   rcases hns with h0 | rfl
   ·obtain rfl:ns=[]:=List.eq_nil_of_length_eq_zero (by omega)
    cases o with
    | none=>rw [ho]; rfl
    | some t =>
     have:xs.length=1:=by rw [lx]; rfl
     omega
   ·simp
  rw [this]
  exact q _ (af hD _)
end
open PySem L2
inductive FcV (H:Hp) (kvs:List (PyData×V)):Fct→Bool→Prop
 | lo {p:List Str} {n i:Int}:(∀ x∈p,x∈NMS)→cj kvs (bd p)=some (.int i)→FcV H kvs (.lo p n) (decide (n≤i))
 | hi {p:List Str} {n i:Int}:(∀ x∈p,x∈NMS)→cj kvs (bd p)=some (.int i)→FcV H kvs (.hi p n) (decide (i≤n))
 | ln {p:List Str} {n:Int} {a:Addr} {is:List Int}:(∀ x∈p,x∈NMS)→cj kvs (bd p)=some (.ref a)→H a=some (.tup (is.map V.int))→FcV H kvs (.ln p n) (decide ((is.length:Int)≤n))
 | e1 {p:List Str} {lg n:Int} {a:Addr} {is:List Int}:(∀ x∈p,x∈NMS)→cj kvs (bd p)=some (.ref a)→H a=some (.tup (is.map V.int))→is.length≤1000→FcV H kvs (.e1 p lg n) ((is.take lg.toNat).all fun i=>decide (n≤i))
 | e2 {p:List Str} {lg n:Int} {a:Addr} {is:List Int}:(∀ x∈p,x∈NMS)→cj kvs (bd p)=some (.ref a)→H a=some (.tup (is.map V.int))→is.length≤1000→FcV H kvs (.e2 p lg n) ((is.take lg.toNat).all fun i=>decide (i≤n))
theorem jk {H:Hp} {u:V} {p:List Str} {lg s n:Int} (h:KAt H u (lc p lg s n)):∃ a x1 x2 x3 x6,u=.ref a∧H a=some (.tup [.str "each",x1,x2,x3,.int s,.int 0,x6])∧KAt H x1 (nmD p)∧KAt H x2 (eK 0 none)∧KAt H x3 (eK lg none)∧KAt H x6 (eK n none):=by
 unfold lc at h
 cases h with
 | tup e r =>
  cases r with
  | cons q r =>
   cases q
   cases r with
   | cons q1 r =>
    cases r with
    | cons q2 r =>
     cases r with
     | cons q3 r =>
      cases r with
      | cons q4 r =>
       cases q4
       cases r with
       | cons q5 r =>
        cases q5
        cases r with
        | cons q6 r =>
         cases r
         exact ⟨_,_,_,_,_,rfl,e,q1,q2,q3,q6⟩
theorem da {H:Hp} {u:V} {c m:Int} {t:PyData} (h:KAt H u (fo c t m)):∃ a x1,u=.ref a∧H a=some (.tup [.str "least",x1])∧KAt H x1 (eK c (some (t,m))):=by
 unfold fo at h
 cases h with
 | tup e r =>
  cases r with
  | cons q r =>
   cases q
   cases r with
   | cons q1 r =>
    cases r
    exact ⟨_,_,rfl,e,q1⟩
section
variable {P:Program} {w:World} {K:Frag} {mg:Str→Option Value} {base:Heap} {f g:Addr} {fd gd:FuncData}
abbrev iF:List Str:=["_law_known_here", "_law_fact", "_law_row", "_law_first", "_law_last", "_law_rest", "_law_some"]
abbrev ie:List Str:=["_law_one"]
theorem kW:ie.Nodup:=by decide +kernel
abbrev hX:List Str:=["_law_k", "_law_first", "_law_last", "_law_rest", "_law_fact", "_law_row"]
theorem kM:hX.Nodup:=by decide +kernel
theorem cJ:aU iF ["_law_known_here", "_law_fact"] (defScope dS):=⟨rfl,rfl,rfl,by decide +kernel,rfl,by decide +kernel,by decide +kernel⟩
def rJ:Sp:=fun vs H Q _=>∃ kd kvs u ft b,vs=[.ref kd,u]∧H kd=some (.dT kvs)∧KAt H u (Fct.d ft)∧FcV H kvs ft b∧∀ H',aA H H'→Q (.bl b) H'
theorem vL (T:G0 mg) (F:Fun K "_law_holds" "_law_holds" dS f fd) (D_l_form_of:Cal P w K mg base 2 "_law_form_of" ["_law_known_here", "_law_form"] tR) (D_l_row_of:Cal P w K mg base 1 "_law_row_of" ["_law_known_here", "_law_term"] xN):bI P w K mg base CX0 3 f fd ["_law_known_here", "_law_fact"] rJ:=by
 obtain ⟨g_l_form_of,gd_l_form_of,G_l_form_of,b_l_form_of,k_l_form_of,m_l_form_of⟩:=D_l_form_of.ex
 obtain ⟨g_l_row_of,gd_l_row_of,G_l_row_of,b_l_row_of,k_l_row_of,m_l_row_of⟩:=D_l_row_of.ex
 refine F.ok cJ (fun vs H Q E h=>?_) (fun cdv A outer s H vs Q E hr h=>?_)
 ·obtain ⟨kd,kvs,u,ft,b,rfl,_⟩:=h
  rfl
 obtain ⟨kd,kvs,u,ft,b,rfl,hkd,hu,ht,q⟩:=h
 refine ⟨_,(@ak _ _ _ _ _ (@bf _ _ _ _ _ _ _ _ (@aC _ _ _ _ _ _ _ _ bt (@aq _ _ _ _ _ _ _ aw (pv 1) ag (fun _ _=>rfl)) aF (aD _)) (@ao _ _ _ (@aH _ _ _ _ (@bw _ _ _ _ _ _ _ _ vo (@au _ _ _ _ _ _ _ _ _ _ _ _ _ _ _ _ G_l_form_of (hr.mono (by omega)) rfl m_l_form_of k_l_form_of b_l_form_of .nil aO (@ad _ _ _ _ _ (pv 0) (@ad _ _ _ _ _ (@aq _ _ _ _ _ _ _ aw (pv 1) ag (fun _ _=>rfl)) ah (ac rfl)) (ac rfl)) (by decide) (ac rfl) (aj rfl)) ag (aD _)))) aS) (@ak _ _ _ _ _ (@aB _ _ 2 _ _ _ _ cJ.nd rfl (Or.inr rfl) (@au _ _ _ _ _ _ _ _ _ _ _ _ _ _ _ _ G_l_row_of (hr.mono (by omega)) rfl m_l_row_of k_l_row_of b_l_row_of .nil aO (@ad _ _ _ _ _ (pv 0) (@ad _ _ _ _ _ (@aq _ _ _ _ _ _ _ aw (pv 1) ag (fun _ _=>rfl)) ah (ac rfl)) (ac rfl)) (by decide) (ac rfl) (aj rfl)) (ap rfl) (.inl rfl)) (@ak _ _ _ _ _ (@aB _ _ 3 _ _ _ _ cJ.nd rfl (Or.inr rfl) (@au _ _ _ _ _ _ _ _ _ _ _ _ _ _ _ _ G_l_form_of (hr.mono (by omega)) rfl m_l_form_of k_l_form_of b_l_form_of .nil aO (@ad _ _ _ _ _ (pv 0) (@ad _ _ _ _ _ (@aq _ _ _ _ _ _ _ aw (pv 1) ag (fun _ _=>rfl)) ah (ac rfl)) (ac rfl)) (by decide) (ac rfl) (aj rfl)) (ap rfl) (.inl rfl)) (@ak _ _ _ _ _ (@aB _ _ 4 _ _ _ _ cJ.nd rfl (Or.inr rfl) (@au _ _ _ _ _ _ _ _ _ _ _ _ _ _ _ _ G_l_form_of (hr.mono (by omega)) rfl m_l_form_of k_l_form_of b_l_form_of .nil aO (@ad _ _ _ _ _ (pv 0) (@ad _ _ _ _ _ (@aq _ _ _ _ _ _ _ aw (pv 1) ag (fun _ _=>rfl)) ah (ac rfl)) (ac rfl)) (by decide) (ac rfl) (aj rfl)) (ap rfl) (.inl rfl)) (@ak _ _ _ _ _ (@aB _ _ 5 _ _ _ _ cJ.nd rfl (Or.inr rfl) (@au _ _ _ _ _ _ _ _ _ _ _ _ _ _ _ _ G_l_form_of (hr.mono (by omega)) rfl m_l_form_of k_l_form_of b_l_form_of .nil aO (@ad _ _ _ _ _ (pv 0) (@ad _ _ _ _ _ (@aq _ _ _ _ _ _ _ aw (pv 1) ag (fun _ _=>rfl)) ah (ac rfl)) (ac rfl)) (by decide) (ac rfl) (aj rfl)) (ap rfl) (.inl rfl)) (@ak _ _ _ _ _ (fN (i:=6) (N':=hX) (ρ:=[none,some 3,some 4,some 5,some 1,some 2]) (m:=1) (bH.of (fs:=defScope dS) (N:=iF) rfl rfl (by decide +kernel)) cJ.nd rfl (Or.inl rfl) rfl (cX rfl T.range (ad (ay aI rfl T.len cp (ad (pv 2) ah)) ah)) (fun _ _ _ _=>(ax (i:=0) kM rfl (Or.inl rfl))) (fun _ _ _ _=>(mo (oo ia uh (pv 1) (pv 0) (pv 2)))) (fun _ _ _ _=>(aN bx (aN bx (aN dJ (aq (cm (K:=K) rfl) (pv 4) ag (fun _ _=>rfl)) (aq (cm (K:=K) rfl) (pv 5) (pv 0) (fun _ _=>rfl))) (aN dJ (aq (cm (K:=K) rfl) (pv 4) ag (fun _ _=>rfl)) (pv 0))) (pv 3)))) (@ao _ _ _ (@aH _ _ _ _ (@bw _ _ _ _ _ _ _ _ cn cH (bM (N':=ie) (ρ:=[none]) (m:=1) (bH.of (fs:=defScope dS) (N:=iF) rfl rfl (by decide +kernel)) rfl (br (pv 6)) (fun _ _ _ _=>(ax (i:=0) kW rfl (Or.inl rfl))) (fun _ _ _ _=>bu) (fun _ _ _ _=>(bw vo (pv 0) ag (aD _)))) rfl))))))))),?_⟩
 have LE:∀ {c m:Int} {t:PyData} {z:Int},KAt H u (fo c t m)→ThV H kvs t z→(-10≤m∧m≤10)→b=decide (0≤c+m*z)→∃ a x1,u=.ref a∧H a=some (.tup [.str "least",x1])∧KAt H x1 (eK c (some (t,m))):=fun h _ _ _=>da h
 cases ht with
 | @lo p n i hn hv =>
  obtain ⟨a,x1,rfl,ha,k1⟩:=da hu
  refine ⟨_,rfl,a,_,_,_,rfl,rfl,SqT.of ha,rfl,rfl,_,rfl,?_⟩
  refine bh (fun c=>?_) (fun c=>absurd rfl (neS c))
  refine ⟨_,rfl,_,rfl,a,_,_,_,rfl,rfl,SqT.of ha,rfl,kd,kvs,x1,-n,some (nmD p,1),1*i,rfl,hkd,k1,⟨i,.nm hn hv,by decide,rfl⟩,fun H' g'=>⟨_,_,rfl,rfl,?_⟩⟩
  have e:decide ((0:Int)≤-n+1*i)=decide (n≤i):=decide_eq_decide.mpr ⟨fun h=>by omega,fun h=>by omega⟩
  have:=q H' g'
  rw [← e] at this
  exact this
 | @hi p n i hn hv =>
  obtain ⟨a,x1,rfl,ha,k1⟩:=da hu
  refine ⟨_,rfl,a,_,_,_,rfl,rfl,SqT.of ha,rfl,rfl,_,rfl,?_⟩
  refine bh (fun c=>?_) (fun c=>absurd rfl (neS c))
  refine ⟨_,rfl,_,rfl,a,_,_,_,rfl,rfl,SqT.of ha,rfl,kd,kvs,x1,n,some (nmD p,-1),-1*i,rfl,hkd,k1,⟨i,.nm hn hv,by decide,rfl⟩,fun H' g'=>⟨_,_,rfl,rfl,?_⟩⟩
  have e:decide ((0:Int)≤n+-1*i)=decide (i≤n):=decide_eq_decide.mpr ⟨fun h=>by omega,fun h=>by omega⟩
  have:=q H' g'
  rw [← e] at this
  exact this
 | @ln p n ra is hn hv hra =>
  obtain ⟨a,x1,rfl,ha,k1⟩:=da hu
  refine ⟨_,rfl,a,_,_,_,rfl,rfl,SqT.of ha,rfl,rfl,_,rfl,?_⟩
  refine bh (fun c=>?_) (fun c=>absurd rfl (neS c))
  refine ⟨_,rfl,_,rfl,a,_,_,_,rfl,rfl,SqT.of ha,rfl,kd,kvs,x1,n,some (.tuple [.str "len",nmD p],-1),-1*((is.map V.int).length:Int),rfl,hkd,k1,⟨_,.ln hn hv hra,by decide,rfl⟩,fun H' g'=>⟨_,_,rfl,rfl,?_⟩⟩
  have e:decide ((0:Int)≤n+-1*((is.map V.int).length:Int))=decide ((is.length:Int)≤n):=by
   rw [List.length_map]
   exact decide_eq_decide.mpr ⟨fun h=>by omega,fun h=>by omega⟩
  have:=q H' g'
  rw [← e] at this
  exact this
 | @e1 p lg n ra is hn hv hra li =>
  obtain ⟨a,x1,x2,x3,x6,rfl,ha,k1,k2,k3,k6⟩:=jk hu
  refine ⟨_,rfl,a,_,_,_,rfl,rfl,SqT.of ha,rfl,rfl,_,rfl,?_⟩
  refine bh (fun c=>absurd (eqS c) (by decide +kernel)) (fun c=>?_)
  refine ⟨_,rfl,_,rfl,a,_,_,_,rfl,rfl,SqT.of ha,rfl,kd,kvs,x1,p,_,rfl,hkd,k1,hn,hv,?_⟩
  refine ⟨_,rfl,_,rfl,a,_,_,_,rfl,rfl,SqT.of ha,rfl,kd,kvs,x2,0,none,0,rfl,hkd,k2,rfl,fun H1 g1=>?_⟩
  refine ⟨_,rfl,_,rfl,a,_,_,_,rfl,rfl,SqT.of (g1 _ _ ha),rfl,kd,kvs,x3,lg,none,0,rfl,g1 _ _ hkd,k3.mono (am g1),rfl,fun H2 g2=>?_⟩
  have g12:=g1.trans g2
  refine ⟨_,rfl,_,rfl,a,_,_,_,rfl,rfl,SqT.of (g12 _ _ ha),rfl,kd,kvs,x6,-n,none,0,rfl,g12 _ _ hkd,k6.mono (am g12),rfl,fun H3 g3=>?_⟩
  have G:=g12.trans g3
  have hra3:=G _ _ hra
  have ha3:=G _ _ ha
  refine ⟨_,rfl,ra,_,rfl,.inr (SqT.of hra3),?_⟩
  rw [List.length_map]
  refine ⟨_,rfl,by omega,by omega,gB (lo:=0) is.length (by omega) (fun j acc H'=>H'=H3∧acc=((is.take j).take lg.toNat).map fun i=>V.int (1*i+-n)) ⟨rfl,by simp⟩ (fun j acc H' hj la pp=>?_) (fun acc H' pp la D hD=>?_)⟩
  ·obtain ⟨rfl,rfl⟩:=pp
   obtain ⟨ik,hik⟩:∃ ik,is[j]?=some ik:=⟨_,List.getElem?_eq_getElem hj⟩
   refine ⟨⟨rfl,rfl⟩,?_⟩
   refine ⟨_,rfl,_,rfl,_,_,rfl,rfl,_,rfl,?_⟩
   rw [show (decide ((0:Int)+0≤0+(j:Int)))=true from decide_eq_true (by omega)]
   refine eP ⟨_,rfl,_,_,rfl,rfl,_,rfl,?_⟩
   refine bh (fun c2=>?_) (fun c2=>?_)
   ·have c2':(0:Int)+(j:Int)<lg+0:=of_decide_eq_true c2
    have hat:atI (is.map V.int) (0+(j:Int))=some (.int ik):=xx (by rw [List.getElem?_map,hik]; rfl)
    refine ⟨_,rfl,a,_,_,_,rfl,rfl,SqT.of ha3,rfl,_,rfl,_,rfl,ra,_,_,_,rfl,rfl,SqT.of hra3,hat,_,_,rfl,rfl,.inl (by decide),_,rfl,a,_,_,_,rfl,rfl,SqT.of ha3,rfl,_,rfl,_,_,rfl,rfl,.inl (by decide),_,_,rfl,rfl,_,rfl,_,_,rfl,rfl,nxT (by omega) hj la ⟨rfl,?_⟩⟩
    rw [List.take_take,List.take_take,Nat.min_eq_right (by omega),Nat.min_eq_right (by omega),List.take_add_one,hik,List.map_append]
    show _=_++[V.int (1*ik+-n)]
    rw [show 1*ik+-n=1*ik+0*(0+(j:Int))+(-n+0) by omega]
   ·have c2':¬ ((0:Int)+(j:Int)<lg+0):=of_decide_eq_false (Bool.eq_false_iff.mpr c2)
    refine nxF hj la ⟨rfl,?_⟩
    rw [List.take_take,List.take_take,Nat.min_eq_left (by omega),Nat.min_eq_left (by omega)]
  obtain ⟨rfl,rfl⟩:=pp
  have gD:=af hD (.lst (((is.take is.length).take lg.toNat).map fun i=>V.int (1*i+-n)))
  have hDl:(upd H' D (.lst (((is.take is.length).take lg.toNat).map fun i=>V.int (1*i+-n)))) D=_:=ae
  generalize (upd H' D (.lst (((is.take is.length).take lg.toNat).map fun i=>V.int (1*i+-n))))=H4 at gD hDl
  rw [List.take_length] at hDl
  have lt:(is.take lg.toNat).length≤1000:=by rw [List.length_take]; omega
  refine ⟨_,rfl,D,rfl,⟨_,SqL.of hDl⟩,bn (xs:=(is.take lg.toNat).map fun i=>V.int (1*i+-n)) (is.take lg.toNat).length (by rw [List.length_map]) lt (fun j acc H'=>H'=H4∧acc=(((is.take lg.toNat).take j).map fun i=>decide (0≤1*i+-n)).map V.bl) ⟨rfl,rfl⟩ (fun j acc H' pp=>by rw [pp.1]; exact SqL.of hDl) (fun j acc H' x hj la hx pp=>?_) (fun acc H' pp la D2 hD2=>?_)⟩
  ·obtain ⟨rfl,rfl⟩:=pp
   obtain ⟨ik,hik⟩:∃ ik,(is.take lg.toNat)[j]?=some ik:=⟨_,List.getElem?_eq_getElem hj⟩
   rw [List.getElem?_map,hik] at hx
   cases hx
   refine ⟨⟨rfl,rfl⟩,bo ?_⟩
   refine ⟨_,rfl,_,_,rfl,rfl,nxT lt hj la ⟨rfl,?_⟩⟩
   rw [List.take_add_one,hik,List.map_append,List.map_append]
   rfl
  ·obtain ⟨rfl,rfl⟩:=pp
   refine ⟨D2,_,rfl,.inl (SqL.of ae),rfl,cP _,?_⟩
   rw [not_false,List.take_length,List.all_map]
   have e:(is.take lg.toNat).all (id ∘ fun i=>decide (0≤1*i+-n))=(is.take lg.toNat).all fun i=>decide (n≤i):=by
    congr 1
    funext i
    exact decide_eq_decide.mpr ⟨fun h=>by omega,fun h=>by omega⟩
   rw [e]
   exact q _ ((G.trans gD).trans (af hD2 _))
 | @e2 p lg n ra is hn hv hra li =>
  obtain ⟨a,x1,x2,x3,x6,rfl,ha,k1,k2,k3,k6⟩:=jk hu
  refine ⟨_,rfl,a,_,_,_,rfl,rfl,SqT.of ha,rfl,rfl,_,rfl,?_⟩
  refine bh (fun c=>absurd (eqS c) (by decide +kernel)) (fun c=>?_)
  refine ⟨_,rfl,_,rfl,a,_,_,_,rfl,rfl,SqT.of ha,rfl,kd,kvs,x1,p,_,rfl,hkd,k1,hn,hv,?_⟩
  refine ⟨_,rfl,_,rfl,a,_,_,_,rfl,rfl,SqT.of ha,rfl,kd,kvs,x2,0,none,0,rfl,hkd,k2,rfl,fun H1 g1=>?_⟩
  refine ⟨_,rfl,_,rfl,a,_,_,_,rfl,rfl,SqT.of (g1 _ _ ha),rfl,kd,kvs,x3,lg,none,0,rfl,g1 _ _ hkd,k3.mono (am g1),rfl,fun H2 g2=>?_⟩
  have g12:=g1.trans g2
  refine ⟨_,rfl,_,rfl,a,_,_,_,rfl,rfl,SqT.of (g12 _ _ ha),rfl,kd,kvs,x6,n,none,0,rfl,g12 _ _ hkd,k6.mono (am g12),rfl,fun H3 g3=>?_⟩
  have G:=g12.trans g3
  have hra3:=G _ _ hra
  have ha3:=G _ _ ha
  refine ⟨_,rfl,ra,_,rfl,.inr (SqT.of hra3),?_⟩
  rw [List.length_map]
  refine ⟨_,rfl,by omega,by omega,gB (lo:=0) is.length (by omega) (fun j acc H'=>H'=H3∧acc=((is.take j).take lg.toNat).map fun i=>V.int (-1*i+n)) ⟨rfl,by simp⟩ (fun j acc H' hj la pp=>?_) (fun acc H' pp la D hD=>?_)⟩
  ·obtain ⟨rfl,rfl⟩:=pp
   obtain ⟨ik,hik⟩:∃ ik,is[j]?=some ik:=⟨_,List.getElem?_eq_getElem hj⟩
   refine ⟨⟨rfl,rfl⟩,?_⟩
   refine ⟨_,rfl,_,rfl,_,_,rfl,rfl,_,rfl,?_⟩
   rw [show (decide ((0:Int)+0≤0+(j:Int)))=true from decide_eq_true (by omega)]
   refine eP ⟨_,rfl,_,_,rfl,rfl,_,rfl,?_⟩
   refine bh (fun c2=>?_) (fun c2=>?_)
   ·have c2':(0:Int)+(j:Int)<lg+0:=of_decide_eq_true c2
    have hat:atI (is.map V.int) (0+(j:Int))=some (.int ik):=xx (by rw [List.getElem?_map,hik]; rfl)
    refine ⟨_,rfl,a,_,_,_,rfl,rfl,SqT.of ha3,rfl,_,rfl,_,rfl,ra,_,_,_,rfl,rfl,SqT.of hra3,hat,_,_,rfl,rfl,.inl (by decide),_,rfl,a,_,_,_,rfl,rfl,SqT.of ha3,rfl,_,rfl,_,_,rfl,rfl,.inl (by decide),_,_,rfl,rfl,_,rfl,_,_,rfl,rfl,nxT (by omega) hj la ⟨rfl,?_⟩⟩
    rw [List.take_take,List.take_take,Nat.min_eq_right (by omega),Nat.min_eq_right (by omega),List.take_add_one,hik,List.map_append]
    show _=_++[V.int (-1*ik+n)]
    rw [show -1*ik+n=-1*ik+0*(0+(j:Int))+(n+0) by omega]
   ·have c2':¬ ((0:Int)+(j:Int)<lg+0):=of_decide_eq_false (Bool.eq_false_iff.mpr c2)
    refine nxF hj la ⟨rfl,?_⟩
    rw [List.take_take,List.take_take,Nat.min_eq_left (by omega),Nat.min_eq_left (by omega)]
  obtain ⟨rfl,rfl⟩:=pp
  have gD:=af hD (.lst (((is.take is.length).take lg.toNat).map fun i=>V.int (-1*i+n)))
  have hDl:(upd H' D (.lst (((is.take is.length).take lg.toNat).map fun i=>V.int (-1*i+n)))) D=_:=ae
  generalize (upd H' D (.lst (((is.take is.length).take lg.toNat).map fun i=>V.int (-1*i+n))))=H4 at gD hDl
  rw [List.take_length] at hDl
  have lt:(is.take lg.toNat).length≤1000:=by rw [List.length_take]; omega
  refine ⟨_,rfl,D,rfl,⟨_,SqL.of hDl⟩,bn (xs:=(is.take lg.toNat).map fun i=>V.int (-1*i+n)) (is.take lg.toNat).length (by rw [List.length_map]) lt (fun j acc H'=>H'=H4∧acc=(((is.take lg.toNat).take j).map fun i=>decide (0≤-1*i+n)).map V.bl) ⟨rfl,rfl⟩ (fun j acc H' pp=>by rw [pp.1]; exact SqL.of hDl) (fun j acc H' x hj la hx pp=>?_) (fun acc H' pp la D2 hD2=>?_)⟩
  ·obtain ⟨rfl,rfl⟩:=pp
   obtain ⟨ik,hik⟩:∃ ik,(is.take lg.toNat)[j]?=some ik:=⟨_,List.getElem?_eq_getElem hj⟩
   rw [List.getElem?_map,hik] at hx
   cases hx
   refine ⟨⟨rfl,rfl⟩,bo ?_⟩
   refine ⟨_,rfl,_,_,rfl,rfl,nxT lt hj la ⟨rfl,?_⟩⟩
   rw [List.take_add_one,hik,List.map_append,List.map_append]
   rfl
  ·obtain ⟨rfl,rfl⟩:=pp
   refine ⟨D2,_,rfl,.inl (SqL.of ae),rfl,cP _,?_⟩
   rw [not_false,List.take_length,List.all_map]
   have e:(is.take lg.toNat).all (id ∘ fun i=>decide (0≤-1*i+n))=(is.take lg.toNat).all fun i=>decide (i≤n):=by
    congr 1
    funext i
    exact decide_eq_decide.mpr ⟨fun h=>by omega,fun h=>by omega⟩
   rw [e]
   exact q _ ((G.trans gD).trans (af hD2 _))
end
open PySem L2
inductive dy
 | i (n:Int) | t (z:Str) | r (is:List Int)
def je (H:Hp) (v:V):dy→Prop
 | .i n=>v=.int n
 | .t z=>v=.str z∧z.length≤900
 | .r is=>∃ a,v=.ref a∧H a=some (.tup (is.map V.int))∧is.length≤900
def eR (m:Rm):dy→Bool
 | .i n=>cO m.a m.b n
 | .t z=>decide ((z.length:Int)≤m.c)&&z.cps.toList.all fun c:Nat=>cO m.d m.e (c:Int)
 | .r is=>decide ((is.length:Int)≤m.c)&&is.all fun n=>cO m.a m.b n
theorem je.mono {H H':Hp} (t:Tk H H') {v:V}:∀ {p:dy},je H v p→je H' v p
 | .i n,h=>h
 | .t z,h=>h
 | .r is,⟨a,e,h,l⟩=>⟨a,e,t _ _ h,l⟩
section
variable {P:Program} {w:World} {K:Frag} {mg:Str→Option Value} {base:Heap} {f g:Addr} {fd gd:FuncData}
abbrev iz:List Str:=["_law_room_here", "_law_value"]
abbrev gP:List Str:=["_law_one", "_law_room_here"]
theorem kN:gP.Nodup:=by decide +kernel
abbrev gY:List Str:=["_law_sign", "_law_room_here"]
theorem kJ:gY.Nodup:=by decide +kernel
theorem oO:aU iz ["_law_room_here", "_law_value"] (defScope dP):=⟨rfl,rfl,rfl,by decide +kernel,rfl,by decide +kernel,by decide +kernel⟩
def wt:Sp:=fun vs H Q _=>∃ rv m v px,vs=[rv,v]∧mf H rv m∧je H v px∧∀ H',aA H H'→Q (.bl (eR m px)) H'
theorem wK (T:G0 mg) (F:Fun K "_law_is_in" "_law_is_in" dP f fd):bI P w K mg base CX0 1 f fd ["_law_room_here", "_law_value"] wt:=by
 refine F.ok oO (fun vs H Q E h=>?_) (fun cdv A outer s H vs Q E hr h=>?_)
 ·obtain ⟨rv,m,v,px,rfl,_⟩:=h
  rfl
 obtain ⟨rv,m,v,px,rfl,⟨rp,rfl,hrp⟩,hv,q⟩:=h
 refine ⟨_,(@ak _ _ _ _ _ (@bf _ _ _ _ _ _ _ _ (bV (@ay _ _ _ _ _ _ _ _ _ bv rfl T.isi dz (@ad _ _ _ _ _ (pv 1) (@ad _ _ _ _ _ (bR (v:=.ty "int") rfl T.int oJ rfl) ah (ac rfl)) (ac rfl)) (by decide) (by decide) (ac rfl) (aj rfl))) (@ao _ _ _ (@aH _ _ _ _ (jQ ia ia (@aq _ _ _ _ _ _ _ aw (pv 0) ag (fun _ _=>rfl)) (pv 1) (@aq _ _ _ _ _ _ _ aw (pv 0) ag (fun _ _=>rfl))))) aS) (@ak _ _ _ _ _ (@bf _ _ _ _ _ _ _ _ (@aC _ _ _ _ _ _ _ _ jJ (@ay _ _ _ _ _ _ _ _ _ (bW.or aI mK) rfl T.len cp (@ad _ _ _ _ _ (pv 1) ah (ac rfl)) (by decide) (by decide) (ac rfl) (aj rfl)) (@aq _ _ _ _ _ _ _ aw (pv 0) ag (fun _ _=>rfl)) (aD _)) (@ao _ _ _ (@aH _ _ _ _ cH)) aS) (@ak _ _ _ _ _ (@bf _ _ _ _ _ _ _ _ (bV (@ay _ _ _ _ _ _ _ _ _ bv rfl T.isi dz (@ad _ _ _ _ _ (pv 1) (@ad _ _ _ _ _ (bR (v:=.ty "str") rfl T.str rE rfl) ah (ac rfl)) (ac rfl)) (by decide) (by decide) (ac rfl) (aj rfl))) (@ao _ _ _ (@aH _ _ _ _ (@bw _ _ _ _ _ _ _ _ cn cH (bM (N':=gY) (ρ:=[none,some 0]) (m:=1) (bH.of (fs:=defScope dP) (N:=iz) rfl rfl (by decide +kernel)) rfl (pB (pv 1)) (fun _ _ _ _=>(ax (i:=0) kJ rfl (Or.inl rfl))) (fun _ _ _ _=>bu) (fun _ _ _ _=>(jQ ia ia (aq (cm (K:=K) rfl) (pv 1) ag (fun _ _=>rfl)) (ay jW rfl T.ord wC (ad (pv 0) ah)) (aq (cm (K:=K) rfl) (pv 1) ag (fun _ _=>rfl))))) rfl))) aS) (@ao _ _ _ (@aH _ _ _ _ (@bw _ _ _ _ _ _ _ _ cn cH (bM (N':=gP) (ρ:=[none,some 0]) (m:=1) (bH.of (fs:=defScope dP) (N:=iz) rfl rfl (by decide +kernel)) rfl (cZ (pv 1)) (fun _ _ _ _=>(ax (i:=0) kN rfl (Or.inl rfl))) (fun _ _ _ _=>bu) (fun _ _ _ _=>(jQ ia ia (aq (cm (K:=K) rfl) (pv 1) ag (fun _ _=>rfl)) (pv 0) (aq (cm (K:=K) rfl) (pv 1) ag (fun _ _=>rfl))))) rfl)))))),?_⟩
 cases px with
 | i n =>
  obtain rfl:=hv
  refine ⟨_,rfl,_,_,_,true,rfl,.int n,rfl,_,rfl,eP ?_⟩
  refine ⟨_,rfl,rp,_,_,_,rfl,rfl,SqT.of hrp,rfl,_,rfl,_,_,rfl,rfl,_,rfl,?_⟩
  have q0:=q _ (aA.refl _)
  simp only [eR,cO] at q0
  refine bh (fun c=>?_) (fun c=>?_)
  ·refine ⟨_,rfl,rp,_,_,_,rfl,rfl,SqT.of hrp,rfl,_,_,rfl,rfl,?_⟩
   rw [c] at q0
   exact q0
  ·rw [Bool.eq_false_iff.mpr c] at q0
   exact q0
 | t z =>
  obtain ⟨rfl,hz⟩:=hv
  have hz1:z.cps.size≤1000:=show z.length≤1000 by omega
  refine ⟨_,rfl,_,_,_,false,rfl,.str z,rfl,_,rfl,bU ?_⟩
  refine ⟨_,rfl,.inr ⟨z,rfl,Nat.le_of_lt (aL (by omega)),_,rfl,rp,_,_,_,rfl,rfl,SqT.of hrp,rfl,_,_,rfl,rfl,_,rfl,?_⟩⟩
  refine bh (fun c3=>?_) (fun c3=>?_)
  ·have c3':m.c<(z.length:Int):=of_decide_eq_true c3
   have q0:=q _ (aA.refl _)
   simp only [eR] at q0
   rw [decide_eq_false (show ¬ (z.length:Int)≤m.c by omega)] at q0
   exact q0
  have c3':¬ m.c<(z.length:Int):=of_decide_eq_false (Bool.eq_false_iff.mpr c3)
  refine ⟨_,rfl,_,_,_,true,rfl,.str z,rfl,_,rfl,eP ?_⟩
  refine ⟨_,rfl,z,rfl,jK z.cps.size rfl hz1 (fun i acc H'=>H'=H∧acc=((z.cps.toList.take i).map (fun c:Nat=>cO m.d m.e (c:Int))).map V.bl) ⟨rfl,rfl⟩ (fun i acc H' c hi la hc p=>?_) (fun acc H' p la D hD=>?_)⟩
  ·obtain ⟨rfl,rfl⟩:=p
   refine ⟨⟨rfl,rfl⟩,bo ?_⟩
   have step:((z.cps.toList.take (i+1)).map (fun c:Nat=>cO m.d m.e (c:Int))).map V.bl=((z.cps.toList.take i).map (fun c:Nat=>cO m.d m.e (c:Int))).map V.bl++[V.bl (cO m.d m.e ((c:Nat):Int))]:=by
    rw [List.take_add_one,show z.cps.toList[i]?=some c by simpa using hc,List.map_append,List.map_append]
    rfl
   refine ⟨_,rfl,_,_,_,_,rfl,rfl,SqT.of hrp,rfl,_,rfl,_,rfl,rfl,_,_,rfl,rfl,_,rfl,?_⟩
   refine bh (fun c1=>?_) (fun c1=>?_)
   ·have c1':decide (m.d≤((c:Nat):Int))=true:=c1
    refine ⟨_,rfl,_,_,_,_,rfl,rfl,SqT.of hrp,rfl,_,_,rfl,rfl,nxT hz1 hi la ⟨rfl,?_⟩⟩
    rw [step,show cO m.d m.e ((c:Nat):Int)=decide (((c:Nat):Int)≤m.e) from by unfold cO; rw [c1']; rfl]
    rfl
   ·have c1':decide (m.d≤((c:Nat):Int))=false:=Bool.eq_false_iff.mpr c1
    refine nxT hz1 hi la ⟨rfl,?_⟩
    rw [step,show cO m.d m.e ((c:Nat):Int)=false from by unfold cO; rw [c1']; rfl]
  ·obtain ⟨rfl,rfl⟩:=p
   refine ⟨D,_,rfl,.inl (SqL.of ae),rfl,cP _,?_⟩
   rw [not_false,← Array.length_toList,List.take_length,List.all_map]
   have q0:=q _ (af hD (.lst ((List.map (fun c:Nat=>cO m.d m.e (c:Int)) (List.take z.cps.toList.length z.cps.toList)).map V.bl)))
   simp only [eR] at q0
   rw [decide_eq_true (show (z.length:Int)≤m.c by omega),List.take_length] at q0
   exact q0
 | r is =>
  obtain ⟨a,rfl,ha,li⟩:=hv
  refine ⟨_,rfl,_,_,_,false,rfl,.tup ha,rfl,_,rfl,bU ?_⟩
  refine ⟨_,rfl,.inl ⟨a,_,rfl,.inr (SqT.of ha),_,rfl,rp,_,_,_,rfl,rfl,SqT.of hrp,rfl,_,_,rfl,rfl,_,rfl,?_⟩⟩
  rw [List.length_map]
  refine bh (fun c3=>?_) (fun c3=>?_)
  ·have c3':m.c<(is.length:Int):=of_decide_eq_true c3
   have q0:=q _ (aA.refl _)
   simp only [eR] at q0
   rw [decide_eq_false (show ¬ (is.length:Int)≤m.c by omega)] at q0
   exact q0
  have c3':¬ m.c<(is.length:Int):=of_decide_eq_false (Bool.eq_false_iff.mpr c3)
  refine ⟨_,rfl,_,_,_,false,rfl,.tup ha,rfl,_,rfl,bU ?_⟩
  refine ⟨_,rfl,a,rfl,⟨_,SqT.of ha⟩,jy (xs:=is.map V.int) is.length (by rw [List.length_map]) (by omega) (fun i acc H'=>H'=H∧acc=((is.take i).map fun n=>cO m.a m.b n).map V.bl) ⟨rfl,rfl⟩ (fun i acc H' p=>by rw [p.1]; exact SqT.of ha) (fun i acc H' x hi la hx p=>?_) (fun acc H' p la D hD=>?_)⟩
  ·obtain ⟨rfl,rfl⟩:=p
   obtain ⟨n,hn⟩:∃ n,is[i]?=some n:=⟨_,List.getElem?_eq_getElem hi⟩
   rw [List.getElem?_map,hn] at hx
   cases hx
   refine ⟨⟨rfl,rfl⟩,bo ?_⟩
   have step:((is.take (i+1)).map fun n=>cO m.a m.b n).map V.bl=((is.take i).map fun n=>cO m.a m.b n).map V.bl++[V.bl (cO m.a m.b n)]:=by
    rw [List.take_add_one,hn,List.map_append,List.map_append]
    rfl
   refine ⟨_,rfl,_,_,_,_,rfl,rfl,SqT.of hrp,rfl,_,rfl,_,_,rfl,rfl,_,rfl,?_⟩
   refine bh (fun c1=>?_) (fun c1=>?_)
   ·have c1':decide (m.a≤n)=true:=c1
    refine ⟨_,rfl,_,_,_,_,rfl,rfl,SqT.of hrp,rfl,_,_,rfl,rfl,nxT (by omega) hi la ⟨rfl,?_⟩⟩
    rw [step,show cO m.a m.b n=decide (n≤m.b) from by unfold cO; rw [c1']; rfl]
   ·have c1':decide (m.a≤n)=false:=Bool.eq_false_iff.mpr c1
    refine nxT (by omega) hi la ⟨rfl,?_⟩
    rw [step,show cO m.a m.b n=false from by unfold cO; rw [c1']; rfl]
  ·obtain ⟨rfl,rfl⟩:=p
   refine ⟨D,_,rfl,.inl (SqL.of ae),rfl,cP _,?_⟩
   rw [not_false,List.take_length,List.all_map]
   have q0:=q _ (af hD (.lst ((List.map (fun n=>cO m.a m.b n) (List.take is.length is)).map V.bl)))
   simp only [eR] at q0
   rw [decide_eq_true (show (is.length:Int)≤m.c by omega),List.take_length] at q0
   exact q0
end
open PySem L2
theorem qT:∀ {ps:List bL} {q:bL},(ps.map (·.1)).Nodup→q∈ps→cj (ps.map kvq) (bd q.1)=some (.str q.2)
 | [],_,_,h=>nomatch h
 | r::ps,q,n,h=>by
  have n':=List.nodup_cons.mp n
  unfold cj
  rw [List.map_cons]
  by_cases e:r.1=q.1
  ·have:r=q:=by
    rcases List.mem_cons.mp h with h | h
    ·exact h.symm
    ·exact absurd (by show r.1∈_; rw [e]; exact List.mem_map_of_mem h) n'.1
   subst this
   rw [List.find?_cons_of_pos (by show decide (bd r.1=bd r.1)=true; simp)]
   rfl
  ·have hm:q∈ps:=by
    rcases List.mem_cons.mp h with h | h
    ·exact absurd (by rw [h]) e
    ·exact h
   rw [List.find?_cons_of_neg (by show ¬ decide (bd r.1=bd q.1)=true; simp; exact fun z=>e (fV z))]
   exact qT n'.2 hm
section
variable {P:Program} {w:World} {K:Frag} {mg:Str→Option Value} {base:Heap} {f g:Addr} {fd gd:FuncData}
abbrev qm:List Str:=["_law_paths_here", "_law_term", "_law_some"]
theorem mY:aU qm ["_law_paths_here", "_law_term"] (defScope gu):=⟨rfl,rfl,rfl,by decide +kernel,rfl,by decide +kernel,by decide +kernel⟩
def mV:Sp:=fun vs H Q _=>∃ pd kvs u p z,vs=[.ref pd,u]∧H pd=some (.dT kvs)∧KAt H u (nmD p)∧(∀ x∈p,x∈NMS)∧cj kvs (bd p)=some (.str z)∧(z = "row"∨z = "text")∧∀ H',aA H H'→Q (.bl true) H'
theorem uz (T:G0 mg) (F:Fun K "_law_is_row" "_law_is_row" gu f fd):bI P w K mg base CX0 1 f fd ["_law_paths_here", "_law_term"] mV:=by
 refine F.ok mY (fun vs H Q E h=>?_) (fun cdv A outer s H vs Q E hr h=>?_)
 ·obtain ⟨pd,kvs,u,p,z,rfl,_⟩:=h
  rfl
 obtain ⟨pd,kvs,u,p,z,rfl,hpd,hu,hn,hv,hz,q⟩:=h
 refine ⟨_,(@ak _ _ _ _ _ (@bf _ _ _ _ _ _ _ _ (PW.pt (dE (cU (bV (@ay _ _ _ _ _ _ _ _ _ bv rfl T.isi dz (@ad _ _ _ _ _ (pv 1) (@ad _ _ _ _ _ (bR (v:=.ty "tuple") rfl T.tuple cb rfl) ah (ac rfl)) (ac rfl)) (by decide) (by decide) (ac rfl) (aj rfl)))) (eX (@aC _ _ _ _ _ _ _ _ uh (@ay _ _ _ _ _ _ _ _ _ aI rfl T.len cp (@ad _ _ _ _ _ (pv 1) ah (ac rfl)) (by decide) (by decide) (ac rfl) (aj rfl)) ag (aD _))))) (@ao _ _ _ (@aH _ _ _ _ cH)) aS) (@ak _ _ _ _ _ (@bf _ _ _ _ _ _ _ _ (@aC _ _ _ _ _ _ _ _ bt (@aq _ _ _ _ _ _ _ aw (pv 1) ag (fun _ _=>rfl)) aF (aD _)) (@ao _ _ _ (@aH _ _ _ _ (gE (@bw _ _ _ _ _ _ _ _ bt (@ay _ _ _ _ _ _ _ _ _ aI rfl T.len cp (@ad _ _ _ _ _ (pv 1) ah (ac rfl)) (by decide) (by decide) (ac rfl) (aj rfl)) ag (aD _)) (iq (@bw _ _ _ _ _ _ _ _ fU (nL (qr hr) (pv 0) (@aq _ _ _ _ _ _ _ aw (pv 1) ag (fun _ _=>rfl)) ⟨rfl,rfl,rfl,rfl⟩) (@aY _ _ _ _ (@ad _ _ _ _ _ aF (@ad _ _ _ _ _ aF ah (ac rfl)) (ac rfl))) rfl))))) aS) gb)),?_⟩
 obtain ⟨a,b,rfl,ha,hb⟩:=lT hu
 refine ⟨_,rfl,_,_,_,true,rfl,.tup ha,rfl,_,rfl,bU ?_⟩
 refine ⟨_,rfl,a,_,rfl,.inr (SqT.of ha),_,_,rfl,rfl,_,rfl,bU ?_⟩
 refine ⟨_,rfl,a,_,_,_,rfl,rfl,SqT.of ha,rfl,rfl,_,rfl,?_⟩
 refine bh (fun c=>?_) (fun c=>absurd rfl (neS c))
 refine ⟨_,rfl,a,_,rfl,.inr (SqT.of ha),rfl,_,rfl,eP ?_⟩
 refine ⟨_,rfl,pd,rfl,.inr ⟨_,.inl hpd⟩,_,rfl,a,_,_,_,rfl,rfl,SqT.of ha,rfl,_,hv ▸ jf.t hpd (dN hb hn),?_⟩
 refine ⟨(by show 2≤sizeLine; decide),fun l hl=>?_⟩
 refine ⟨l,_,rfl,.inl (SqL.of ae),rfl,(by decide +kernel),?_⟩
 have e:inV (.str z) [V.str (Str.ofString "row"),V.str (Str.ofString "text")]=true:=by
  have:=fZ z [Str.ofString "row",Str.ofString "text"]
  rw [List.map_cons,List.map_cons,List.map_nil] at this
  rw [this]
  rcases hz with rfl | rfl<;>decide +kernel
 have q0:=q _ (af hl (.lst [V.str (Str.ofString "row"),V.str (Str.ofString "text")]))
 rw [← e] at q0
 exact q0
abbrev mh:List Str:=["_law_paths_here", "_law_thing"]
theorem kQ:aU mh ["_law_paths_here", "_law_thing"] (defScope eB):=⟨rfl,rfl,rfl,by decide +kernel,rfl,by decide +kernel,by decide +kernel⟩
def lO:Sp:=fun vs H Q _=>∃ pd kvs u p z d,vs=[.ref pd,u]∧H pd=some (.dT kvs)∧KAt H u d∧(∀ x∈p,x∈NMS)∧cj kvs (bd p)=some (.str z)∧((d=nmD p∧z = "num")∨(d=.tuple [.str "len",nmD p]∧(z = "row"∨z = "text")))∧∀ H',aA H H'→Q (.bl true) H'
theorem qc (T:G0 mg) (F:Fun K "_law_is_thing" "_law_is_thing" eB f fd) (D_l_is_row:Cal P w K mg base 1 "_law_is_row" ["_law_paths_here", "_law_term"] mV):bI P w K mg base CX0 2 f fd ["_law_paths_here", "_law_thing"] lO:=by
 obtain ⟨g_l_is_row,gd_l_is_row,G_l_is_row,b_l_is_row,k_l_is_row,m_l_is_row⟩:=D_l_is_row.ex
 refine F.ok kQ (fun vs H Q E h=>?_) (fun cdv A outer s H vs Q E hr h=>?_)
 ·obtain ⟨pd,kvs,u,p,z,d,rfl,_⟩:=h
  rfl
 obtain ⟨pd,kvs,u,p,z,d,rfl,hpd,hu,hn,hv,hz,q⟩:=h
 refine ⟨_,(@ak _ _ _ _ _ (@bf _ _ _ _ _ _ _ _ (PW.pt (dE (cU (bV (@ay _ _ _ _ _ _ _ _ _ bv rfl T.isi dz (@ad _ _ _ _ _ (pv 1) (@ad _ _ _ _ _ (bR (v:=.ty "tuple") rfl T.tuple cb rfl) ah (ac rfl)) (ac rfl)) (by decide) (by decide) (ac rfl) (aj rfl)))) (eX (@aC _ _ _ _ _ _ _ _ uh (@ay _ _ _ _ _ _ _ _ _ aI rfl T.len cp (@ad _ _ _ _ _ (pv 1) ah (ac rfl)) (by decide) (by decide) (ac rfl) (aj rfl)) ag (aD _))))) (@ao _ _ _ (@aH _ _ _ _ cH)) aS) (@ak _ _ _ _ _ (@bf _ _ _ _ _ _ _ _ (@aC _ _ _ _ _ _ _ _ bt (@aq _ _ _ _ _ _ _ aw (pv 1) ag (fun _ _=>rfl)) aF (aD _)) (@ao _ _ _ (@aH _ _ _ _ (gE (@bw _ _ _ _ _ _ _ _ bt (@ay _ _ _ _ _ _ _ _ _ aI rfl T.len cp (@ad _ _ _ _ _ (pv 1) ah (ac rfl)) (by decide) (by decide) (ac rfl) (aj rfl)) ag (aD _)) (iq (@bw _ _ _ _ _ _ _ _ bt (nL (qr hr) (pv 0) (@aq _ _ _ _ _ _ _ aw (pv 1) ag (fun _ _=>rfl)) ⟨rfl,rfl,rfl,rfl⟩) aF (aD _)))))) aS) (@ak _ _ _ _ _ (@bf _ _ _ _ _ _ _ _ (@aC _ _ _ _ _ _ _ _ bt (@aq _ _ _ _ _ _ _ aw (pv 1) ag (fun _ _=>rfl)) aF (aD _)) (@ao _ _ _ (@aH _ _ _ _ (gE (@bw _ _ _ _ _ _ _ _ bt (@ay _ _ _ _ _ _ _ _ _ aI rfl T.len cp (@ad _ _ _ _ _ (pv 1) ah (ac rfl)) (by decide) (by decide) (ac rfl) (aj rfl)) ag (aD _)) (gE (@bw _ _ _ _ _ _ _ _ bt (@aq _ _ _ _ _ _ _ aw (@aq _ _ _ _ _ _ _ aw (pv 1) ag (fun _ _=>rfl)) ag (fun _ _=>rfl)) aF (aD _)) (iq (@au _ _ _ _ _ _ _ _ _ _ _ _ _ _ _ _ G_l_is_row (hr.mono (by omega)) rfl m_l_is_row k_l_is_row b_l_is_row .nil aO (@ad _ _ _ _ _ (pv 0) (@ad _ _ _ _ _ (@aq _ _ _ _ _ _ _ aw (pv 1) ag (fun _ _=>rfl)) ah (ac rfl)) (ac rfl)) (by decide) (ac rfl) (aj rfl))))))) aS) gb))),?_⟩
 rcases hz with ⟨rfl,rfl⟩ | ⟨rfl,hz⟩
 ·obtain ⟨a,b,rfl,ha,hb⟩:=lT hu
  refine ⟨_,rfl,_,_,_,true,rfl,.tup ha,rfl,_,rfl,bU ?_⟩
  refine ⟨_,rfl,a,_,rfl,.inr (SqT.of ha),_,_,rfl,rfl,_,rfl,bU ?_⟩
  refine ⟨_,rfl,a,_,_,_,rfl,rfl,SqT.of ha,rfl,rfl,_,rfl,?_⟩
  refine bh (fun c=>?_) (fun c=>absurd rfl (neS c))
  refine ⟨_,rfl,a,_,rfl,.inr (SqT.of ha),rfl,_,rfl,eP ?_⟩
  refine ⟨_,rfl,pd,rfl,.inr ⟨_,.inl hpd⟩,_,rfl,a,_,_,_,rfl,rfl,SqT.of ha,rfl,_,hv ▸ jf.t hpd (dN hb hn),rfl,?_⟩
  have q0:=q _ (aA.refl _)
  have e:decide (V.str (Str.ofString "num")=V.str (Str.ofString "num"))=true:=by simp
  rw [← e] at q0
  exact q0
 ·obtain ⟨a0,x1,rfl,ha0,h1⟩:∃ a0 x1,u=.ref a0∧H a0=some (.tup [.str "len",x1])∧KAt H x1 (nmD p):=by
   cases hu with
   | tup e r =>
    cases r with
    | cons q r =>
     cases q
     cases r with
     | cons q r =>
      cases r
      exact ⟨_,_,rfl,e,q⟩
  obtain ⟨a,b,rfl,ha,hb⟩:=lT h1
  refine ⟨_,rfl,_,_,_,true,rfl,.tup ha0,rfl,_,rfl,bU ?_⟩
  refine ⟨_,rfl,a0,_,rfl,.inr (SqT.of ha0),_,_,rfl,rfl,_,rfl,bU ?_⟩
  refine ⟨_,rfl,a0,_,_,_,rfl,rfl,SqT.of ha0,rfl,rfl,_,rfl,?_⟩
  refine bh (fun c=>absurd (eqS c) (by decide +kernel)) (fun c=>?_)
  refine ⟨_,rfl,a0,_,_,_,rfl,rfl,SqT.of ha0,rfl,rfl,_,rfl,?_⟩
  refine bh (fun c=>?_) (fun c=>absurd rfl (neS c))
  refine ⟨_,rfl,a0,_,rfl,.inr (SqT.of ha0),rfl,_,rfl,eP ?_⟩
  refine ⟨_,rfl,a0,_,_,_,rfl,rfl,SqT.of ha0,rfl,a,_,_,_,rfl,rfl,SqT.of ha,rfl,rfl,_,rfl,eP ?_⟩
  exact ⟨_,rfl,_,rfl,a0,_,_,_,rfl,rfl,SqT.of ha0,rfl,pd,kvs,_,p,z,rfl,hpd,h1,hn,hv,hz,fun H' g'=>q H' g'⟩
end
end K6
namespace L2
open PySem PySem.W PySem.Spec PyProof.Rows
def gf (h:Heap) (d:Addr) (es:Array DictEntry) (ep:Nat):Prop:=∃ o,h.get? d=some o∧o.ExactDict∧o.data=.dict es ep
section
variable {prog:Program} {w:World} {A:Around} {E:Value→Shared→Prop} {s:Shared} {d it:Addr} {es:Array DictEntry} {ep i:Nat}
theorem gf.ty (x:gf s.heap d es ep):s.TypeIs (.ref d) "dict":=let ⟨o,h,c,_⟩:=x; ⟨o,h,c.1⟩
theorem vC {Q:Value→Shared→Prop} (hd:(d==sysModules)=false) (hm:gf s.heap d es ep)
  (hQ:Q (.ref s.heap.objs.size) { s with heap:=s.heap.push { cls:=.type "dict_keyiterator",data:=.fields #[.ref d,.int 0 0,.int es.size 0,.int ep 0] } }):wpAny (model prog w) A (pyIter (.ref d)) Q E s:=by
 have hT:=hm.ty
 obtain ⟨o,ho,_,hdat⟩:=hm
 refine wpAny_pyIter_slot hT F.slot_dict_iter (wpAny_call_entry F.slot_dict_iter hT F.entry_dict_iter ?_ (F.args_dict_iter_1 _))
 unfold Builtin.«dict.__iter__» Builtin.Dict.dictSlotNone
 refine wpAny_bind (wpAny_bind (wpAny_notOrdered_dict hT (wpAny_pure ?_)))
 show wpAny _ _ (Builtin.Dict.showsAll d >>= _) _ _ s
 unfold Builtin.Dict.showsAll
 rw [if_neg (by rw [hd]; exact Bool.false_ne_true)]
 refine wpAny_bind (wpAny_pure (wpAny_bind (wpAny_dictEntries ho hdat (wpAny_bind (wpAny_dictEpoch ho hdat ?_)))))
 refine wpAny_bind (wpAny_newObj_type (wpAny_pure ⟨_,rfl, "dict_keyiterator",_,⟨_,Heap.get?_push_size _ rfl,rfl⟩,F.slot_dict_keyiterator_next.lookup,?_⟩))
 simpa [rawInt] using hQ
theorem ua {Q:Option Value→Shared→Prop} (hit:s.heap.IsKeyIter it d i es.size ep) (hm:gf s.heap d es ep) (hlt':i<es.size)
  (hQ:∀ h',h'.IsKeyIter it d (i+1) es.size ep→Heap.SameBut it s.heap h'→Q (some es[i].key) { s with heap:=h' }):wpAny (model prog w) A (pyNext (.ref it)) Q E s:=by
 obtain ⟨o,ho,hc,hd⟩:=id hit
 obtain ⟨od,hod,hcd,hdd⟩:=hm
 unfold pyNext
 refine wpAny_bind (wpAny_attempt (wpAny_callSpecial?_slot (name:=Str.ofString "__next__") hit.typeIs F.slot_dict_keyiterator_next (wpAny_call_entry F.slot_dict_keyiterator_next hit.typeIs F.entry_dict_keyiterator_next ?_ (F.args_dict_keyiterator_next_1 _))))
 refine wpAny_bind (wpAny_pure (wpAny_bind (wpAny_bind ?_)))
 first | refine wpAny_bind (wpAny_typeNameOfWhole_keyiter hit.typeIs (wpAny_pure ?_)) | refine wpAny_bind (wpAny_typeNameOf_keyiter hit.typeIs (wpAny_pure ?_))
 refine wpAny_bind (wpAny_fieldsOf ho hd ?_)
 simp only [show Builtin.Dict_items.ownsTuple "dict_keyiterator"=false by decide,Bool.false_eq_true,if_false]
 show wpAny _ _ (if (Value.ref d==Value.none)=true then _ else _) _ _ s
 rw [if_neg (show ¬ ((Value.ref d==Value.none)=true) from Bool.false_ne_true)]
 refine wpAny_bind (wpAny_pure (wpAny_bind (wpAny_dictEntries hod hdd ?_)))
 rw [if_neg (by simp)]
 refine wpAny_bind (wpAny_pure (wpAny_bind (wpAny_dictEpoch hod hdd ?_)))
 rw [if_neg (by simp)]
 refine wpAny_pure ?_
 simp only [show ¬ ((i:Int)<0) from by omega,if_false,Int.toNat_natCast,Array.getElem?_eq_getElem hlt']
 refine wpAny_bind ?_
 first | refine wpAny_bind (wpAny_typeNameOfWhole_keyiter hit.typeIs (wpAny_pure ?_)) | refine wpAny_bind (wpAny_typeNameOf_keyiter hit.typeIs (wpAny_pure ?_))
 refine wpAny_bind (wpAny_isOneOf_keyiter hit.typeIs ?_)
 show wpAny _ _ (setField (.ref it) 1 (rawInt ((i:Int)+1)) >>= _) _ _ s
 refine wpAny_bind (wpAny_setField ho hd (by simp) ?_)
 have hit':(s.heap.update it (Obj.mapFields (·.setIfInBounds 1 (rawInt ((i:Int)+1))))).IsKeyIter it d (i+1) es.size ep :=
  ⟨_,Heap.get?_update_self _ ho (Obj.isFreed_of_fields (Obj.data_mapFields hd _)),(Obj.cls_mapFields ..).trans hc,by rw [Obj.data_mapFields hd]; simp [rawInt]⟩
 refine wpAny_bind (wpAny_holding (wpAny_bind (wpAny_isOneOf_keyiter (s:={ s with heap:=s.heap.update it (Obj.mapFields (·.setIfInBounds 1 (rawInt ((i:Int)+1)))) }) hit'.typeIs ?_)))
 show wpAny _ _ (pure es[i].key) _ _ _
 exact wpAny_pure (wpAny_pure ⟨_,rfl,wpAny_pure (hQ _ hit' (Heap.SameBut.update ..))⟩)
theorem xi {Q:Option Value→Shared→Prop} (hh:A.handled=none) (hit:s.heap.IsKeyIter it d es.size es.size ep) (hm:gf s.heap d es ep)
  (hQ:∀ h',Heap.ExtBut it s.heap h'→Q none { s with heap:=h' }):wpAny (model prog w) A (pyNext (.ref it)) Q E s:=by
 obtain ⟨o,ho,hc,hd⟩:=id hit
 obtain ⟨od,hod,hcd,hdd⟩:=hm
 unfold pyNext
 refine wpAny_bind (wpAny_attempt (wpAny_callSpecial?_slot (name:=Str.ofString "__next__") hit.typeIs F.slot_dict_keyiterator_next (wpAny_call_entry F.slot_dict_keyiterator_next hit.typeIs F.entry_dict_keyiterator_next ?_ (F.args_dict_keyiterator_next_1 _))))
 refine wpAny_bind (wpAny_pure (wpAny_bind (wpAny_bind ?_)))
 first | refine wpAny_bind (wpAny_typeNameOfWhole_keyiter hit.typeIs (wpAny_pure ?_)) | refine wpAny_bind (wpAny_typeNameOf_keyiter hit.typeIs (wpAny_pure ?_))
 refine wpAny_bind (wpAny_fieldsOf ho hd ?_)
 simp only [show Builtin.Dict_items.ownsTuple "dict_keyiterator"=false by decide,Bool.false_eq_true,if_false]
 show wpAny _ _ (if (Value.ref d==Value.none)=true then _ else _) _ _ s
 rw [if_neg (show ¬ ((Value.ref d==Value.none)=true) from Bool.false_ne_true)]
 refine wpAny_bind (wpAny_pure (wpAny_bind (wpAny_dictEntries hod hdd ?_)))
 rw [if_neg (by simp)]
 refine wpAny_bind (wpAny_pure (wpAny_bind (wpAny_dictEpoch hod hdd ?_)))
 rw [if_neg (by simp)]
 refine wpAny_pure ?_
 simp only [show ¬ ((es.size:Int)<0) from by omega,if_false,Int.toNat_natCast,Array.getElem?_eq_none (Nat.le_refl es.size)]
 refine wpAny_bind ?_
 first | refine wpAny_bind (wpAny_typeNameOfWhole_keyiter hit.typeIs (wpAny_pure ?_)) | refine wpAny_bind (wpAny_typeNameOf_keyiter hit.typeIs (wpAny_pure ?_))
 show wpAny _ _ (setField (.ref it) 0 .none >>= _) _ _ s
 refine wpAny_bind (wpAny_setField ho hd (by simp) ?_)
 show wpAny _ _ (newExc (.type "StopIteration") [] >>= _) _ _ _
 refine wpAny_bind ?_
 simp only [newExc,newTuple]
 refine wpAny_bind (wpAny_newObj_type ?_ (by size_fits))
 refine wpAny_bind (m:=firstArgMember _ _) (wpAny_of_eq (a:=Value.none) (by first | rfl | (simp only [firstArgMember]; rfl)) ?_)
 refine wpAny_newObj_type ?_ (by size_fits)
 simp only [raiseNew]
 refine wpAny_bind (wpAny_handled ?_)
 rw [show A.in1.handled=none from hh]
 refine wpAny_bind (wpAny_pure (wpAny_throw ?_))
 refine wpAny_bind (wpAny_isInstance (T := "StopIteration") (b:=true) ⟨_,Heap.get?_push_size _ rfl,rfl⟩ isSubtype_stop ?_)
 exact wpAny_pure (hQ _ (((Heap.SameBut.update ..).extBut.push _).push _))
theorem gf.at {h h':Heap} (x:gf h d es ep) (k:∀ o,h.get? d=some o→h'.get? d=some o):gf h' d es ep:=let ⟨o,e,r⟩:=x; ⟨o,k o e,r⟩
theorem tw (hh:A.handled=none) (I d:Addr) (hne:d≠I) (es:Array DictEntry) (ep:Nat) :
  Walks prog w A I [I,d] [I] es.size (fun i v=>∃ e,es[i]?=some e∧v=e.key) (fun i h=>h.IsKeyIter I d i es.size ep∧gf h d es ep) where
 sub:=fun b hb=>by simp at hb; simp [hb]
 frame:=fun _ _ _ st hk=>⟨st.1.at fun o e=>hk I (by simp) o e,st.2.at fun o e=>hk d (by simp) o e⟩
 item:=fun i s Q E hi st hQ=>ua st.1 st.2 hi fun h' hit' hs'=>hQ _ h' s.toks ⟨_,Array.getElem?_eq_getElem hi,rfl⟩ ⟨hit',st.2.at fun o e=>hs'.extBut d o hne e⟩ fun b o hb e=>hs'.extBut b o (fun h=>hb (by simp [h])) e
 done:=fun s Q E st hQ=>xi hh st.1 st.2 fun h' he'=>hQ h' s.toks fun b o hb e=>he' b o (fun h=>hb (by simp [h])) e
 self:=fun _ _ _ _ st hQ=>wpAny_pyIter_keyiter st.1 hQ
theorem xw (lo:(d==sysModules)=false):KdlSrc prog w "dict" d d es.size (fun i v=>∃ e,es[i]?=some e∧v=e.key) (fun h=>gf h d es ep) where
 type:=fun _ hm=>hm.ty
 there:=fun _ hm=>let ⟨_,e,_⟩:=hm; ⟨Heap.lt_size e,Heap.lt_size e⟩
 keep:=fun _ _ hm hk=>hm.at fun o e=>hk d (.inl rfl) o e
 notList:=by decide
 notTuple:=by decide
 hint:=fun _ _ _ _ hm hq=>kdl_hint_dict hm.ty hq
 iter:=fun _ _ hh hm=>⟨_,_,(fun _ _ hq=>vC lo hm hq),tw hh _ d (let ⟨_,e,_⟩:=hm; Nat.ne_of_lt (Heap.lt_size e)) es ep,⟨⟨_,Heap.get?_push_size _ rfl,rfl,rfl⟩,hm.at fun o e=>Heap.get?_push_of_some _ e⟩⟩
end
section
variable {X:Cx}
theorem mD:∀ {vs:List V} {us:List Value},vs.length=us.length→(∀ (j:Nat) (u:Value),us[j]?=some u→∃ v,vs[j]?=some v∧aX v u)→aR vs us
 | [],[],_,_=>.nil
 | [],_::_,h,_=>by simp at h
 | _::_,[],h,_=>by simp at h
 | v::vs,u::us,h,k=>by
  obtain ⟨v',e,r⟩:=k 0 u rfl
  have e':v=v':=by simpa using e
  subst e'
  exact .cons r (mD (by simpa using h) fun j u' hu=>by simpa using k (j+1) u' (by simpa using hu))
theorem zS {H:Hp} {kvs:List (PyData×V)} {ys:List (PyData×Addr×Value)} (rel:KT H kvs ys):Paired (fun (b:Addr) (p:PyData×V)=>NAt H b p.1) (ys.map (·.2.1)) kvs:=by
 induction rel with
 | nil=>exact .nil
 | cons h _ ih=>exact .cons h.2.1 ih
theorem pA (hc:X.calm=true):bW X (.type "list") (fun xs H Q=>∃ a kvs,xs=[.ref a]∧Rd H a (.dT kvs)∧∀ as l,Paired (fun (b:Addr) (p:PyData×V)=>NAt H b p.1) as kvs→H l=none→Q (.ref l) (upd H l (.lst (as.map V.ref)))):=by
 intro pins s σ H xs us Q I r h
 obtain ⟨a,kvs,rfl,ha,q⟩:=h
 obtain ⟨u,rfl,rx⟩:=eN r
 cases rx
 obtain ⟨z,hd,ys,rel,o,es,ep,h1,h2,h3,h4,_,_⟩:=lU I.hok ha
 have ly:kvs.length=ys.length:=Paired.length rel
 have le:es.size=ys.length:=by rw [← Array.length_toList,h4,List.length_map]
 refine kdl_call (xw hd) (I.ok.hd hc) (⟨o,h1,h2,h3⟩:gf s.heap a es ep) (by omega) fun h' tk acc' c' kp e hacc=>?_
 have hv:aR ((ys.map (·.2.1)).map V.ref) acc'.toList:=by
  refine mD (by have:=hacc.1; rw [List.length_map,List.length_map]; simp only [Array.length_toList]; omega) fun j u hu=>?_
  obtain ⟨en,he,rfl⟩:=hacc.2 j u (by rw [← Array.getElem?_toList]; exact hu)
  rw [← Array.getElem?_toList,h4,List.getElem?_map] at he
  obtain ⟨y,hy,rfl⟩:=Option.map_eq_some_iff.mp he
  exact ⟨.ref y.2.1,by rw [List.getElem?_map,List.getElem?_map,hy]; rfl,rfl⟩
 have pr:=zS rel
 exact ⟨.ref s.heap.objs.size,_,I.laid (t':=tk) kp (Nat.le_refl _) (show bm X.prog X.w _ h' _ (.lst ((ys.map (·.2.1)).map V.ref)) from ⟨by rw [List.length_map,List.length_map]; omega,acc'.toList,c',hv,by simpa using e⟩),rfl,q _ _ pr (I.hok.fresh (Nat.le_refl _))⟩
end
end L2
namespace K6
open PySem L2
def yg:dy→List Int
 | .i n=>[n]
 | .t z=>z.cps.toList.map fun c:Nat=>(c:Int)
 | .r is=>is
def KnV (H:Hp) (v:V):dy→Prop
 | .i n=>v=.int n
 | .t z=>∃ a,v=.ref a∧H a=some (.tup ((yg (.t z)).map V.int))
 | .r is=>∃ a,v=.ref a∧H a=some (.tup (is.map V.int))
theorem KnV.mono {H H':Hp} (t:Tk H H') {v:V}:∀ {p:dy},KnV H v p→KnV H' v p
 | .i n,h=>h
 | .t z,⟨a,e,h⟩=>⟨a,e,t _ _ h⟩
 | .r is,⟨a,e,h⟩=>⟨a,e,t _ _ h⟩
def kP (H:Hp) (kv:PyData×V) (x:bL×dy):Prop:=kv.1=bd x.1.1∧KnV H kv.2 x.2
theorem kP.mono {H H':Hp} (t:Tk H H') {kv:PyData×V} {x:bL×dy} (h:kP H kv x):kP H' kv x:=⟨h.1,h.2.mono t⟩
theorem wF {H H':Hp} (g:aA H H') {a:Addr} {u:HO} (h:Rd H a u):Rd H' a u:=by
 rcases h with h | ⟨o,h⟩
 ·exact .inl (g _ _ h)
 ·exact .inr ⟨o,g _ _ h⟩
section
variable {P:Program} {w:World} {K:Frag} {mg:Str→Option Value} {base:Heap} {f g:Addr} {fd gd:FuncData}
abbrev lI:List Str:=["_law_paths_here", "_law_given", "_law_known_here", "_law_path", "_law_value"]
abbrev hW:List Str:=["_law_sign"]
theorem kU:hW.Nodup:=by decide +kernel
theorem eC:aU lI ["_law_paths_here", "_law_given"] (defScope fY):=⟨rfl,rfl,rfl,by decide +kernel,rfl,by decide +kernel,by decide +kernel⟩
def qK:Sp:=fun vs H Q _=>∃ pd gl,∃ ps:List bL,∃ ys pvs,vs=[.ref pd,.ref gl]∧Rd H pd (.dT (ps.map kvq))∧(ps.map (·.1)).Nodup∧ps.length≤900∧H gl=some (.lst ys)∧Paired (je H) ys pvs∧ps.length=pvs.length∧∀ kd kvs H',aA H H'→H' kd=some (.dT kvs)→Paired (kP H') kvs (ps.zip pvs)→Q (.ref kd) H'
theorem uq (T:G0 mg) (TZ:mg "zip"=none) (F:Fun K "_law_known" "_law_known" fY f fd):bI P w K mg base CX0 1 f fd ["_law_paths_here", "_law_given"] qK:=by
 refine F.ok eC (fun vs H Q E h=>?_) (fun cdv A outer s H vs Q E hr h=>?_)
 ·obtain ⟨pd,gl,ps,ys,pvs,rfl,_⟩:=h
  rfl
 obtain ⟨pd,gl,ps,ys,pvs,rfl,hpd,hnd,lps,hgl,pys,lpv,q⟩:=h
 refine ⟨_,(@ak _ _ _ _ _ (@aB _ _ 2 _ _ _ _ eC.nd rfl (Or.inl rfl) nI (ap rfl) (.inr rfl)) (@ak _ _ _ _ _ (@bF _ _ _ _ _ _ _ _ PassesOwn.never rfl (yJ false false rfl TZ (@ad _ _ _ _ _ (@bq _ _ _ _ _ _ _ _ _ (pA rfl) rfl T.list mH (@ad _ _ _ _ _ (pv 0) ah (ac rfl)) (by decide) (by decide) (ac rfl) (aj rfl)) (@ad _ _ _ _ _ (pv 1) ah (ac rfl)) (ac rfl))) (cQ rfl (aV (ax (i:=3) eC.nd rfl (Or.inl rfl)) (aV (ax (i:=4) eC.nd rfl (Or.inl rfl)) cf))) (@ao _ _ _ (rz (qr hr) (pv 2) (pv 3) (@cY _ _ _ _ _ _ _ _ (bV (@ay _ _ _ _ _ _ _ _ _ bv rfl T.isi dz (@ad _ _ _ _ _ (pv 4) (@ad _ _ _ _ _ (bR (v:=.ty "str") rfl T.str rE rfl) ah (ac rfl)) (ac rfl)) (by decide) (by decide) (ac rfl) (aj rfl))) (@bq _ _ _ _ _ _ _ _ _ bE rfl T.tuple cb (@ad _ _ _ _ _ (bM (N':=hW) (ρ:=[none]) (m:=1) (bH.of (fs:=defScope fY) (N:=lI) rfl rfl (by decide +kernel)) rfl (pB (pv 4)) (fun _ _ _ _=>(ax (i:=0) kU rfl (Or.inl rfl))) (fun _ _ _ _=>bu) (fun _ _ _ _=>(ay jW rfl T.ord wC (ad (pv 0) ah)))) ah (ac rfl)) (by decide) (by decide) (ac rfl) (aj rfl)) (pv 4)) (ap rfl))) (fun _=>rfl)) (@ao _ _ _ (@aH _ _ _ _ (pv 2))))),?_⟩
 intro t ht
 have gD:=af ht (.dT [])
 have htt:(upd H t (.dT [])) t=some (.dT []):=ae
 generalize (upd H t (.dT []))=H1 at gD htt
 refine ⟨_,rfl,pd,_,rfl,wF gD hpd,fun as al pas hal=>?_⟩
 have gl1:=af hal (.lst (as.map V.ref))
 have las:=Paired.length pas
 have lys:=Paired.length pys
 rw [List.length_map] at las
 have G2:=gD.trans gl1
 have ht2:=gl1 _ _ htt
 have hal2:(upd H1 al (.lst (as.map V.ref))) al=some (.lst (as.map V.ref)):=ae
 have pas2:Paired (fun (b:Addr) (p:PyData×V)=>NAt (upd H1 al (.lst (as.map V.ref))) b p.1) as (ps.map kvq):=Paired.mapP pas fun _ _ z=>z.mono (am gl1)
 have pys2:Paired (je (upd H1 al (.lst (as.map V.ref)))) ys pvs:=Paired.mapP pys fun _ _ z=>z.mono (am G2)
 generalize (upd H1 al (.lst (as.map V.ref)))=H2 at G2 ht2 hal2 pas2 pys2
 have hgl2:=G2 _ _ hgl
 have nat_:al≠t:=(ar htt hal).symm
 have ngt:gl≠t:=ar hgl ht
 have lzp:(ps.zip pvs).length=ps.length:=by rw [List.length_zip]; omega
 refine ⟨_,rfl,al,gl,rfl,⟨_,SqL.of hal2⟩,⟨_,SqL.of hgl2⟩,xc (xs:=as.map V.ref) (ys:=ys) ps.length (by rw [List.length_map]; omega) (by omega) (fun i σ H'=>∃ m3 m4 kvs,σ=[some (.ref pd),some (.ref gl),some (.ref t),m3,m4]∧Ext t H2 H'∧H' t=some (.dT kvs)∧Paired (kP H') kvs ((ps.zip pvs).take i)) ⟨_,_,[],rfl,Ext.refl _ _,ht2,.nil⟩ (fun i σ H' _ p=>?_) (fun i x y p0 σ H3 hx hy p hp0=>?_) (fun σ H3 p=>?_)⟩
 ·obtain ⟨_,_,_,_,x3,_⟩:=p
  exact ⟨SqL.of (x3 _ _ nat_ hal2),SqL.of (x3 _ _ ngt hgl2)⟩
 ·obtain ⟨m3,m4,kvs,rfl,x3,ht3,pk3⟩:=p
  have k3:Tk H2 H3:=fun b xs e=>x3 _ _ (gq e ht2 (fun z=>by cases z)) e
  have g4:=af hp0 (.tup [x,y])
  rw [List.getElem?_map] at hx
  obtain ⟨ka,hka,rfl⟩:=Option.map_eq_some_iff.mp hx
  obtain ⟨kv,hkv,nka⟩:=paired_at pas2 i ka hka
  rw [List.getElem?_map] at hkv
  obtain ⟨qq,hqq,rfl⟩:=Option.map_eq_some_iff.mp hkv
  obtain ⟨pw,hpw,hpv⟩:=paired_at pys2 i y hy
  have k4:=k3.trans (am g4)
  have hpv4:=hpv.mono k4
  have nka4:=nka.mono k4
  have ez:(ps.zip pvs)[i]?=some (qq,pw):=by
   rw [List.getElem?_zip_eq_some]
   exact ⟨hqq,hpw⟩
  have ht4:=g4 _ _ ht3
  have hp4:(upd H3 p0 (.tup [.ref ka,y])) p0=some (.tup [.ref ka,y]):=ae
  have pk4:Paired (kP (upd H3 p0 (.tup [.ref ka,y]))) kvs ((ps.zip pvs).take i):=Paired.mapP pk3 fun _ _ z=>z.mono (am g4)
  have x4:=x3.trans (aA.ext g4)
  generalize (upd H3 p0 (.tup [.ref ka,y]))=H4 at k4 hpv4 nka4 ht4 hp4 pk4 x4
  have lk:=Paired.length pk4
  rw [List.length_take,lzp] at lk
  have hi:i<ps.length:=(List.getElem?_eq_some_iff.mp hqq).1
  have fin:∀ (v:V) (H5:Hp),aA H4 H5→KnV H5 v pw→∃ aa H6,V.ref t=.ref aa∧nE H5 aa (.ref ka) v H6∧∃ m3 m4 kvs',([some (.ref pd),some (.ref gl),some (.ref t),some (.ref ka),some y]:St)=[some (.ref pd),some (.ref gl),some (.ref t),m3,m4]∧Ext t H2 H6∧H6 t=some (.dT kvs')∧Paired (kP H6) kvs' ((ps.zip pvs).take (i+1)):=by
   intro v H5 g5 kv5
   have ht5:=g5 _ _ ht4
   have new:∀ kv∈kvs,kv.1≠bd qq.1:=by
    intro kv hkv e
    obtain ⟨x0,hx0,hk0⟩:=jZ pk4 kv hkv
    have e2:x0.1.1=qq.1:=fV (hk0.1.symm.trans e)
    obtain ⟨j,hj⟩:=List.getElem?_of_mem hx0
    have hji:j<i:=by
     have:=(List.getElem?_eq_some_iff.mp hj).1
     rw [List.length_take] at this
     omega
    rw [List.getElem?_take_of_lt hji] at hj
    obtain ⟨h1,h2⟩:=List.getElem?_zip_eq_some.mp hj
    have a1:(ps.map (·.1))[j]?=some qq.1:=by rw [List.getElem?_map,h1,← e2]; rfl
    have a2:(ps.map (·.1))[i]?=some qq.1:=by rw [List.getElem?_map,hqq]; rfl
    have:=(List.getElem?_inj (by rw [List.length_map]; omega) hnd).mp (a1.trans a2.symm)
    omega
   have kt:Tk H5 (upd H5 t (.dT (kvs++[(bd qq.1,v)]))):=fun b xs e=>by rw [aW (gq e ht5 (fun z=>by cases z))]; exact e
   refine ⟨t,_,rfl,nE.t ht5 (nka4.mono (am g5)) (aL (by omega)),_,_,kvs++[(bd qq.1,v)],rfl,?_,?_,?_⟩
   ·exact (x4.trans (aA.ext g5)).trans Ext.upd
   ·rw [ae]
    show some (HO.dT (gN kvs (bd qq.1) v))=_
    rw [mF new]
   ·show Paired (kP (upd H5 t (.dT (gN kvs (bd qq.1) v)))) _ _
    rw [mF new,List.take_add_one,ez]
    exact Paired.app (Paired.mapP pk4 fun _ _ z=>(z.mono (am g5)).mono kt) (.cons ⟨rfl,kv5.mono kt⟩ .nil)
  refine ⟨p0,_,rfl,SqT.of hp4,rfl,_,_,rfl,_,_,rfl,rfl,?_⟩
  cases pw with
  | i n =>
   obtain rfl:=hpv4
   refine ⟨_,rfl,_,_,_,false,rfl,.int n,rfl,_,rfl,bU ?_⟩
   exact ⟨_,rfl,_,rfl,_,rfl,fin _ _ (aA.refl _) rfl⟩
  | r is =>
   obtain ⟨ra,rfl,hra,li⟩:=hpv4
   refine ⟨_,rfl,_,_,_,false,rfl,.tup hra,rfl,_,rfl,bU ?_⟩
   exact ⟨_,rfl,_,rfl,_,rfl,fin _ _ (aA.refl _) ⟨ra,rfl,hra⟩⟩
  | t z =>
   obtain ⟨rfl,hz⟩:=hpv4
   have hz1:z.cps.size≤1000:=show z.length≤1000 by omega
   refine ⟨_,rfl,_,_,_,true,rfl,.str z,rfl,_,rfl,eP ?_⟩
   refine ⟨_,rfl,z,rfl,jK z.cps.size rfl hz1 (fun j acc H'=>H'=H4∧acc=((z.cps.toList.take j).map fun c:Nat=>(c:Int)).map V.int) ⟨rfl,rfl⟩ (fun j acc H' c hj la hc pp=>?_) (fun acc H' pp la D hD=>?_)⟩
   ·obtain ⟨rfl,rfl⟩:=pp
    refine ⟨⟨rfl,rfl⟩,bo ?_⟩
    refine ⟨_,rfl,_,rfl,rfl,nxT hz1 hj la ⟨rfl,?_⟩⟩
    rw [List.take_add_one,show z.cps.toList[j]?=some c by simpa using hc,List.map_append,List.map_append]
    rfl
   ·obtain ⟨rfl,rfl⟩:=pp
    refine ⟨D,_,rfl,.inl ⟨SqL.of ae,fun tt htt2=>?_⟩⟩
    have g5:=(af hD (.lst (((z.cps.toList.take z.cps.size).map fun c:Nat=>(c:Int)).map V.int))).trans (af htt2 (.tup (((z.cps.toList.take z.cps.size).map fun c:Nat=>(c:Int)).map V.int)))
    refine ⟨_,rfl,_,rfl,fin _ _ g5 ⟨tt,rfl,?_⟩⟩
    rw [ae,← Array.length_toList,List.take_length]
    rfl
 ·obtain ⟨m3,m4,kvs,rfl,x3,ht3,pk3⟩:=p
  rw [← lzp,List.take_length] at pk3
  exact ⟨_,rfl,q t kvs H3 (fun b o e=>x3 _ _ (ar e ht) (G2 _ _ e)) ht3 pk3⟩
end
open PySem L2
def gv (sort:Str):dy→Prop
 | .i _=>sort=Str.ofString "num"
 | .t z=>sort=Str.ofString "text"∧z.length≤900
 | .r is=>sort=Str.ofString "row"∧is.length≤900
theorem oH {is:List Int} {c:Int} {lo hi:Int}:([decide ((is.length:Int)≤c),(is.take c.toNat).all fun i=>decide (lo≤i),(is.take c.toNat).all fun i=>decide (i≤hi)]:List Bool).all id=(decide ((is.length:Int)≤c)&&is.all fun n=>cO lo hi n):=by
 by_cases h:(is.length:Int)≤c
 ·rw [List.take_of_length_le (show is.length≤c.toNat by omega),decide_eq_true h]
  simp only [List.all_cons,List.all_nil,id,Bool.true_and,Bool.and_true]
  rw [Bool.eq_iff_iff,Bool.and_eq_true,List.all_eq_true,List.all_eq_true,List.all_eq_true]
  unfold cO
  constructor
  ·intro hh x hx
   rw [Bool.and_eq_true]
   exact ⟨hh.1 x hx,hh.2 x hx⟩
  ·intro hh
   refine ⟨fun x hx=>?_,fun x hx=>?_⟩
   ·have:=hh x hx
    rw [Bool.and_eq_true] at this
    exact this.1
   ·have:=hh x hx
    rw [Bool.and_eq_true] at this
    exact this.2
 ·rw [decide_eq_false h]
  rfl
theorem wA {H:Hp} {kvs:List (PyData×V)} {m:Rm} {q:bL} {v:V} {px:dy} (hn:∀ x∈q.1,x∈NMS) (hv:cj kvs (bd q.1)=some v) (hk:KnV H v px) (hs:gv q.2 px):∃ bs,Paired (FcV H kvs) (aZ m q) bs∧bs.all id=eR m px:=by
 cases px with
 | i n =>
  have hk':v=.int n:=hk
  subst hk'
  have e:aZ m q=[.lo q.1 m.a,.hi q.1 m.b]:=by unfold aZ; rw [if_pos (show q.2=Str.ofString "num" from hs)]
  rw [e]
  refine ⟨_,.cons (.lo hn hv) (.cons (.hi hn hv) .nil),?_⟩
  simp [eR,cO]
 | r is =>
  obtain ⟨a,rfl,ha⟩:=hk
  obtain ⟨h1,h2⟩:=hs
  have e:aZ m q=[.ln q.1 m.c,.e1 q.1 m.c m.a,.e2 q.1 m.c m.b]:=by
   unfold aZ
   rw [if_neg (by rw [h1]; decide +kernel),if_neg (by rw [h1]; decide +kernel),if_neg (by rw [h1]; decide +kernel)]
  rw [e]
  exact ⟨_,.cons (.ln hn hv ha) (.cons (.e1 hn hv ha (by omega)) (.cons (.e2 hn hv ha (by omega)) .nil)),oH⟩
 | t z =>
  obtain ⟨a,rfl,ha⟩:=hk
  obtain ⟨h1,h2⟩:=hs
  have e:aZ m q=[.ln q.1 m.c,.e1 q.1 m.c m.d,.e2 q.1 m.c m.e]:=by
   unfold aZ
   rw [if_neg (by rw [h1]; decide +kernel),if_pos h1,if_pos h1]
  have lz:(yg (.t z)).length=z.length:=by
   show (z.cps.toList.map fun c:Nat=>(c:Int)).length=z.cps.size
   rw [List.length_map,Array.length_toList]
  rw [e]
  refine ⟨_,.cons (.ln hn hv ha) (.cons (.e1 hn hv ha (by omega)) (.cons (.e2 hn hv ha (by omega)) .nil)),?_⟩
  rw [oH,lz]
  show _=(decide ((z.length:Int)≤m.c)&&z.cps.toList.all fun c:Nat=>cO m.d m.e (c:Int))
  congr 1
  show (z.cps.toList.map fun c:Nat=>(c:Int)).all _=_
  rw [List.all_map]
  rfl
theorem iT {α β:Type} {F:α→Bool→Prop} {g:β→List α} {h:β→Bool}:∀ {l:List β},(∀ x∈l,∃ bs,Paired F (g x) bs∧bs.all id=h x)→∃ bs,Paired F (l.flatMap g) bs∧bs.all id=l.all h
 | [],_=>⟨[],.nil,rfl⟩
 | x::l,k=>by
  obtain ⟨b1,p1,e1⟩:=k x List.mem_cons_self
  obtain ⟨b2,p2,e2⟩:=iT fun y hy=>k y (List.mem_cons_of_mem _ hy)
  refine ⟨b1++b2,?_,?_⟩
  ·rw [List.flatMap_cons]
   exact Paired.app p1 p2
  ·rw [List.all_append,e1,e2,List.all_cons]
mutual
theorem xb {K:Frag} {H:Hp}:∀ {v:V} {d:PyData},KAt H v d→RdD K H v d
 | _,_,.int i=>.int i
 | _,_,.str x=>.str x
 | _,_,.tup h r=>.tup (SqT.of h) (eZ r)
theorem eZ {K:Frag} {H:Hp}:∀ {v:List V} {d:List PyData},bP H v d→eM K H v d
 | _,_,.nil=>.nil
 | _,_,.cons h r=>.cons (xb h) (eZ r)
end
theorem wT {p:List Str} (hn:∀ x∈p,x∈NMS):pk (bd p)=true∧(bd p).depth≤2:=by
 have q:pks (p.map .str)=true∧PyData.depthAll (p.map PyData.str)≤1:=by
  induction p with
  | nil=>exact ⟨rfl,by simp [PyData.depthAll]⟩
  | cons x r ih =>
   have ih:=ih fun y hy=>hn y (List.mem_cons_of_mem _ hy)
   refine ⟨?_,?_⟩
   ·simp only [List.map_cons,pks,pk,Bool.and_eq_true]
    exact ⟨vq x (hn x List.mem_cons_self),ih.1⟩
   ·simp only [List.map_cons,PyData.depthAll,PyData.depth]
    have:=ih.2
    omega
 unfold bd
 simp only [pk,PyData.depth]
 exact ⟨q.1,by omega⟩
theorem yi {p:List Str} (hn:∀ x∈p,x∈NMS):pk (nmD p)=true∧(nmD p).depth≤3:=by
 obtain ⟨h1,h2⟩:=wT hn
 unfold nmD
 simp only [pk,pks,h1,PyData.depth,PyData.depthAll,Bool.and_true]
 exact ⟨by decide +kernel,by omega⟩
theorem zB {p:List Str} (hn:∀ x∈p,x∈NMS):pk (.tuple [.str "len",nmD p])=true∧(PyData.tuple [.str "len",nmD p]).depth≤4:=by
 obtain ⟨h1,h2⟩:=yi hn
 simp only [pk,pks,h1,PyData.depth,PyData.depthAll,Bool.and_true]
 exact ⟨by decide +kernel,by omega⟩
theorem lD {ds:List PyData} (h:pks ds=true) (hd:PyData.depthAll ds≤60):SeqAt.shaped (.list ds)=true∧PyData.eqv (.list ds) (.list ds)=true:=by
 refine ⟨?_,?_⟩
 ·simp only [SeqAt.shaped,PyData.canLay0,PyData.depth,Bool.and_eq_true,decide_eq_true_eq]
  refine ⟨md h,?_⟩
  exact decide_eq_true (by omega)
 ·simp only [PyData.eqv]
  exact (mj h h).mpr rfl
def xz (kvs:List (PyData×V)) (d:PyData):Prop:=∃ p z,(∀ x∈p,x∈NMS)∧cj kvs (bd p)=some (.str z)∧((d=nmD p∧z = "num")∨(d=.tuple [.str "len",nmD p]∧(z = "row"∨z = "text")))
theorem xz.begins {kvs:List (PyData×V)} {d:PyData} (h:xz kvs d):pk d=true∧d.depth≤20∧∃ z r,d=.tuple (.str z::r):=by
 obtain ⟨p,z,hn,hv,h⟩:=h
 rcases h with ⟨rfl,_⟩ | ⟨rfl,_⟩
 ·obtain ⟨h1,h2⟩:=yi hn
  exact ⟨h1,by omega,_,_,rfl⟩
 ·obtain ⟨h1,h2⟩:=zB hn
  exact ⟨h1,by omega,_,_,rfl⟩
section
variable {P:Program} {w:World} {K:Frag} {mg:Str→Option Value} {base:Heap} {f g:Addr} {fd gd:FuncData} {tp:Addr}
abbrev iQ:List Str:=["_law_paths_here", "_law_form", "_law_pair", "_law_things"]
abbrev fD:List Str:=["_law_pair"]
theorem jc:fD.Nodup:=by decide +kernel
theorem eG:aU iQ ["_law_paths_here", "_law_form"] (defScope dC):=⟨rfl,rfl,rfl,by decide +kernel,rfl,by decide +kernel,by decide +kernel⟩
def nU:Sp:=fun vs H Q _=>∃ pd kvs u c o,vs=[.ref pd,u]∧H pd=some (.dT kvs)∧KAt H u (eK c o)∧(∀ t,o=some t→t.2≠0∧xz kvs t.1)∧∀ H',aA H H'→Q (.bl true) H'
theorem tN (T:G0 mg) (TX:GX mg) (TS:mg "set"=none) (F:Fun K "_law_is_form" "_law_is_form" dC f fd) (D_l_is_thing:Cal P w K mg base 2 "_law_is_thing" ["_law_paths_here", "_law_thing"] lO) (D_l_whole:Cal P w K mg base 1 "_law_whole" ["_law_thing"] (mB tp)):bI P w K mg base CX0 3 f fd ["_law_paths_here", "_law_form"] nU:=by
 obtain ⟨g_l_is_thing,gd_l_is_thing,G_l_is_thing,b_l_is_thing,k_l_is_thing,m_l_is_thing⟩:=D_l_is_thing.ex
 obtain ⟨g_l_whole,gd_l_whole,G_l_whole,b_l_whole,k_l_whole,m_l_whole⟩:=D_l_whole.ex
 refine F.ok eG (fun vs H Q E h=>?_) (fun cdv A outer s H vs Q E hr h=>?_)
 ·obtain ⟨pd,kvs,u,c,o,rfl,_⟩:=h
  rfl
 obtain ⟨pd,kvs,u,c,o,rfl,hpd,hu,ho,q⟩:=h
 obtain ⟨a,b,xs,rfl,ha,hb,hx⟩:∃ a b xs,u=.ref a∧H a=some (.tup [.int c,.ref b])∧H b=some (.tup xs)∧bP H xs (o.toList.map fun t=>.tuple [t.1,.int t.2]):=by
  cases hu with
  | tup e r =>
   cases r with
   | cons q r =>
    cases q
    cases r with
    | cons q r =>
     cases r
     cases q with
     | tup e2 r2=>exact ⟨_,_,_,rfl,e,e2,r2⟩
 have lx:=cu hx
 have lo:xs.length≤1:=by
  rw [lx,List.length_map]
  cases o<;>simp
 have pair:∀ {j:Nat} {x:V},xs[j]?=some x→∃ t pa y,o=some t∧x=.ref pa∧H pa=some (.tup [y,.int t.2])∧KAt H y t.1:=by
  intro j x hx2
  obtain ⟨e,he,ke⟩:=eU hx j x hx2
  cases o with
  | none=>cases j<;>cases he
  | some t =>
   have e0:j=0:=by
    have:=(List.getElem?_eq_some_iff.mp hx2).1
    omega
   subst e0
   cases he
   cases ke with
   | @tup xa xs2 _ hxa kx =>
    cases kx with
    | @cons x0 r0 _ _ k0 kr =>
     cases kr with
     | @cons x1 r1 _ _ k1 kr2 =>
      cases kr2
      cases k1
      exact ⟨t,xa,x0,rfl,rfl,hxa,k0⟩
 refine ⟨_,(@ak _ _ _ _ _ (@bf _ _ _ _ _ _ _ _ (PW.pt (dE (cU (bV (@ay _ _ _ _ _ _ _ _ _ bv rfl T.isi dz (@ad _ _ _ _ _ (pv 1) (@ad _ _ _ _ _ (bR (v:=.ty "tuple") rfl T.tuple cb rfl) ah (ac rfl)) (ac rfl)) (by decide) (by decide) (ac rfl) (aj rfl)))) (dE (@aC _ _ _ _ _ _ _ _ lV (@ay _ _ _ _ _ _ _ _ _ aI rfl T.len cp (@ad _ _ _ _ _ (pv 1) ah (ac rfl)) (by decide) (by decide) (ac rfl) (aj rfl)) ag (aD _)) (dE (cU (bV (@au _ _ _ _ _ _ _ _ _ _ _ _ _ _ _ _ G_l_whole (hr.mono (by omega)) rfl m_l_whole k_l_whole b_l_whole .nil aO (@ad _ _ _ _ _ (@aq _ _ _ _ _ _ _ aw (pv 1) ag (fun _ _=>rfl)) ah (ac rfl)) (by decide) (ac rfl) (aj rfl)))) (eX (cU (bV (@ay _ _ _ _ _ _ _ _ _ bv rfl T.isi dz (@ad _ _ _ _ _ (@aq _ _ _ _ _ _ _ aw (pv 1) ag (fun _ _=>rfl)) (@ad _ _ _ _ _ (bR (v:=.ty "tuple") rfl T.tuple cb rfl) ah (ac rfl)) (ac rfl)) (by decide) (by decide) (ac rfl) (aj rfl))))))))) (@ao _ _ _ (@aH _ _ _ _ cH)) aS) (@ak _ _ _ _ _ (@bF _ _ _ _ _ _ _ _ PassesOwn.never rfl (cZ (@aq _ _ _ _ _ _ _ aw (pv 1) ag (fun _ _=>rfl))) (ax (i:=2) eG.nd rfl (Or.inl rfl)) (@ak _ _ _ _ _ (@bf _ _ _ _ _ _ _ _ (PW.pt (dE (cU (bV (@ay _ _ _ _ _ _ _ _ _ bv rfl T.isi dz (@ad _ _ _ _ _ (pv 2) (@ad _ _ _ _ _ (bR (v:=.ty "tuple") rfl T.tuple cb rfl) ah (ac rfl)) (ac rfl)) (by decide) (by decide) (ac rfl) (aj rfl)))) (dE (@aC _ _ _ _ _ _ _ _ lV (@ay _ _ _ _ _ _ _ _ _ aI rfl T.len cp (@ad _ _ _ _ _ (pv 2) ah (ac rfl)) (by decide) (by decide) (ac rfl) (aj rfl)) ag (aD _)) (dE (cU (bV (@au _ _ _ _ _ _ _ _ _ _ _ _ _ _ _ _ G_l_whole (hr.mono (by omega)) rfl m_l_whole k_l_whole b_l_whole .nil aO (@ad _ _ _ _ _ (@aq _ _ _ _ _ _ _ aw (pv 2) ag (fun _ _=>rfl)) ah (ac rfl)) (by decide) (ac rfl) (aj rfl)))) (eX (@aC _ _ _ _ _ _ _ _ bt (@aq _ _ _ _ _ _ _ aw (pv 2) ag (fun _ _=>rfl)) ag (aD _))))))) (@ao _ _ _ (@aH _ _ _ _ cH)) aS) (@ao _ _ _ (@bf _ _ _ _ _ _ _ _ (cU (bV (@au _ _ _ _ _ _ _ _ _ _ _ _ _ _ _ _ G_l_is_thing (hr.mono (by omega)) rfl m_l_is_thing k_l_is_thing b_l_is_thing .nil aO (@ad _ _ _ _ _ (pv 0) (@ad _ _ _ _ _ (@aq _ _ _ _ _ _ _ aw (pv 2) ag (fun _ _=>rfl)) ah (ac rfl)) (ac rfl)) (by decide) (ac rfl) (aj rfl)))) (@ao _ _ _ (@aH _ _ _ _ cH)) aS))) (fun _=>rfl)) (@ak _ _ _ _ _ (fN (i:=3) (N':=fD) (ρ:=[none]) (m:=1) (bH.of (fs:=defScope dC) (N:=iQ) rfl rfl (by decide +kernel)) eG.nd rfl (Or.inl rfl) rfl (cZ (aq aw (pv 1) ag (fun _ _=>rfl))) (fun _ _ _ _=>(ax (i:=0) jc rfl (Or.inl rfl))) (fun _ _ _ _=>bu) (fun _ _ _ _=>(aq (cm (K:=K) rfl) (pv 0) ag (fun _ _=>rfl)))) (@ao _ _ _ (@aH _ _ _ _ (@bw _ _ _ _ _ _ _ _ (uR hr.units) (pv 3) (pe rfl hr.units rfl TX.sorted rfl TS (pv 3)) (aD _))))))),?_⟩
 refine ⟨_,rfl,_,_,_,true,rfl,.tup ha,rfl,_,rfl,bU ?_⟩
 refine ⟨_,rfl,a,_,rfl,.inr (SqT.of ha),rfl,_,rfl,bU ?_⟩
 refine ⟨_,rfl,a,_,_,_,rfl,rfl,SqT.of ha,rfl,_,_,rfl,.int c,_,rfl,bU ?_⟩
 refine ⟨_,rfl,a,_,_,_,rfl,rfl,SqT.of ha,rfl,_,_,_,true,rfl,.tup hb,rfl,_,rfl,bU ?_⟩
 refine ⟨_,rfl,a,_,_,_,rfl,rfl,SqT.of ha,rfl,b,rfl,⟨xs,SqT.of hb⟩,dB (xs:=xs) (fun j σ H'=>∃ m2 m3,σ=[some (.ref pd),some (.ref a),m2,m3]∧aA H H') ⟨_,_,rfl,aA.refl _⟩ (fun j σ H' _ p=>?_) (fun j x σ H' hx2 p=>?_) (fun σ H' p=>?_)⟩
 ·obtain ⟨_,_,_,g'⟩:=p
  exact SqT.of (g' _ _ hb)
 ·obtain ⟨m2,m3,rfl,g'⟩:=p
  obtain ⟨t,pa,y,et,rfl,hpa,ky⟩:=pair hx2
  obtain ⟨tn,p,z,hn,hv,hz⟩:=ho t et
  have hpa':=g' _ _ hpa
  refine ⟨_,rfl,_,_,_,true,rfl,.tup hpa',rfl,_,rfl,bU ?_⟩
  refine ⟨_,rfl,pa,_,rfl,.inr (SqT.of hpa'),rfl,_,rfl,bU ?_⟩
  refine ⟨_,rfl,pa,_,_,_,rfl,rfl,SqT.of hpa',rfl,_,_,rfl,.int _,_,rfl,bU ?_⟩
  refine ⟨_,rfl,pa,_,_,_,rfl,rfl,SqT.of hpa',rfl,rfl,_,rfl,?_⟩
  refine bh (fun c=>?_) (fun _=>?_)
  ·exact absurd (V.int.inj (of_decide_eq_true c)) tn
  refine ⟨_,rfl,_,rfl,pa,_,_,_,rfl,rfl,SqT.of hpa',rfl,pd,kvs,y,p,z,t.1,rfl,g' _ _ hpd,ky.mono (am g'),hn,hv,hz,fun H2 g2=>?_⟩
  exact ⟨_,rfl,bU ⟨_,_,rfl,g'.trans g2⟩⟩
 ·obtain ⟨m2,m3,rfl,g'⟩:=p
  have hb':=g' _ _ hb
  have hx':=hx.mono (am g')
  refine ⟨_,rfl,a,_,_,_,rfl,rfl,SqT.of (g' _ _ ha),rfl,b,rfl,⟨xs,SqT.of hb'⟩,jy (xs:=xs) xs.length rfl (by omega) (fun j acc H2=>H2=H'∧bP H' acc ((o.toList.map (·.1)).take j)) ⟨rfl,.nil⟩ (fun j acc H2 p=>by rw [p.1]; exact SqT.of hb') (fun j acc H2 x hj la hx2 p=>?_) (fun acc H2 p la D hD=>?_)⟩
  ·obtain ⟨rfl,ka⟩:=p
   obtain ⟨t,pa,y,et,rfl,hpa,ky⟩:=pair hx2
   refine ⟨⟨rfl,rfl⟩,bo ?_⟩
   refine ⟨_,rfl,pa,_,_,_,rfl,rfl,SqT.of (g' _ _ hpa),rfl,nxT (by omega) hj la ⟨rfl,?_⟩⟩
   obtain rfl:j=0:=by omega
   obtain rfl:acc=[]:=List.eq_nil_of_length_eq_zero (Nat.le_zero.mp la)
   rw [et]
   exact .cons (ky.mono (am g')) .nil
  ·obtain ⟨rfl,ka⟩:=p
   have gD:=af hD (.lst acc)
   have lt:(o.toList.map (·.1)).take xs.length=o.toList.map (·.1):=List.take_of_length_le (by rw [lx,List.length_map,List.length_map]; exact Nat.le_refl _)
   rw [lt] at ka
   have bg:wB (o.toList.map (·.1)):=by
    intro d hd
    cases o with
    | none=>cases hd
    | some t =>
     obtain rfl:d=t.1:=by simpa using hd
     exact (ho t rfl).2.begins
   have bp:pks (o.toList.map (·.1))=true∧PyData.depthAll (o.toList.map (·.1))≤60:=by
    cases o with
    | none=>exact ⟨rfl,by simp [PyData.depthAll]⟩
    | some t =>
     obtain ⟨h1,h2,_⟩:=(ho t rfl).2.begins
     simp only [Option.toList,List.map_cons,List.map_nil,pks,PyData.depthAll,h1,Bool.and_true]
     exact ⟨trivial,by omega⟩
   have ka2:=ka.mono (am gD)
   refine ⟨_,rfl,_,rfl,D,acc,_,rfl,SqL.of ae,ka2,by omega,bg,fun p hp=>?_⟩
   have gp:=af hp (.lst acc)
   obtain ⟨sh,eq⟩:=lD bp.1 bp.2
   refine ⟨.list (o.toList.map (·.1)),.list (o.toList.map (·.1)),.lst (SqL.of (gp _ _ ae)) (eZ (ka2.mono (am gp))),.lst (SqL.of ae) (eZ (ka2.mono (am gp))),sh,sh,?_⟩
   have q0:=q _ ((g'.trans gD).trans gp)
   rw [← eq] at q0
   exact q0
end
open PySem L2
def qH (kvs:List (PyData×V)):Fct→Prop
 | .lo p _=>(∀ x∈p,x∈NMS)∧cj kvs (bd p)=some (.str "num")
 | .hi p _=>(∀ x∈p,x∈NMS)∧cj kvs (bd p)=some (.str "num")
 | .ln p _=>(∀ x∈p,x∈NMS)∧∃ z:Str,cj kvs (bd p)=some (.str z)∧(z = "row"∨z = "text")
 | .e1 p _ _=>(∀ x∈p,x∈NMS)∧∃ z:Str,cj kvs (bd p)=some (.str z)∧(z = "row"∨z = "text")
 | .e2 p _ _=>(∀ x∈p,x∈NMS)∧∃ z:Str,cj kvs (bd p)=some (.str z)∧(z = "row"∨z = "text")
theorem sD {H:Hp} {kvs:List (PyData×V)} {u:V} {ft:Fct} (hu:KAt H u ft.d) (hf:qH kvs ft) :
  (∃ a x1 c t,u=.ref a∧H a=some (.tup [.str "least",x1])∧KAt H x1 (eK c (some t))∧t.2≠0∧xz kvs t.1) ∨
  (∃ a x1 x2 x3 x6 s p c2 c3 c6 z,u=.ref a∧H a=some (.tup [.str "each",x1,x2,x3,.int s,.int 0,x6])∧KAt H x1 (nmD p)∧KAt H x2 (eK c2 none)∧KAt H x3 (eK c3 none)∧KAt H x6 (eK c6 none)∧(∀ x∈p,x∈NMS)∧cj kvs (bd p)=some (.str z)∧(z = "row"∨z = "text")):=by
 cases ft with
 | lo p n =>
  obtain ⟨a,x1,h1,h2,h3⟩:=da hu
  exact .inl ⟨a,x1,_,_,h1,h2,h3,(by decide:(1:Int)≠0),p,_,hf.1,hf.2,.inl ⟨rfl,rfl⟩⟩
 | hi p n =>
  obtain ⟨a,x1,h1,h2,h3⟩:=da hu
  exact .inl ⟨a,x1,_,_,h1,h2,h3,(by decide:(-1:Int)≠0),p,_,hf.1,hf.2,.inl ⟨rfl,rfl⟩⟩
 | ln p n =>
  obtain ⟨a,x1,h1,h2,h3⟩:=da hu
  obtain ⟨hn,z,hv,hz⟩:=hf
  exact .inl ⟨a,x1,_,_,h1,h2,h3,(by decide:(-1:Int)≠0),p,z,hn,hv,.inr ⟨rfl,hz⟩⟩
 | e1 p lg n =>
  obtain ⟨a,x1,x2,x3,x6,h1,h2,k1,k2,k3,k6⟩:=jk hu
  obtain ⟨hn,z,hv,hz⟩:=hf
  exact .inr ⟨a,x1,x2,x3,x6,_,p,_,_,_,z,h1,h2,k1,k2,k3,k6,hn,hv,hz⟩
 | e2 p lg n =>
  obtain ⟨a,x1,x2,x3,x6,h1,h2,k1,k2,k3,k6⟩:=jk hu
  obtain ⟨hn,z,hv,hz⟩:=hf
  exact .inr ⟨a,x1,x2,x3,x6,_,p,_,_,_,z,h1,h2,k1,k2,k3,k6,hn,hv,hz⟩
section
variable {P:Program} {w:World} {K:Frag} {mg:Str→Option Value} {base:Heap} {f g:Addr} {fd gd:FuncData} {tp:Addr}
abbrev iV:List Str:=["_law_paths_here", "_law_fact"]
abbrev fi:List Str:=["_law_k", "_law_paths_here", "_law_fact"]
theorem ja:fi.Nodup:=by decide +kernel
theorem mN:aU iV ["_law_paths_here", "_law_fact"] (defScope dA):=⟨rfl,rfl,rfl,by decide +kernel,rfl,by decide +kernel,by decide +kernel⟩
def og:Sp:=fun vs H Q _=>∃ pd kvs u ft,vs=[.ref pd,u]∧H pd=some (.dT kvs)∧KAt H u (Fct.d ft)∧qH kvs ft∧∀ H',aA H H'→Q (.bl true) H'
theorem tm (T:G0 mg) (F:Fun K "_law_is_spec" "_law_is_spec" dA f fd) (D_l_is_form:Cal P w K mg base 3 "_law_is_form" ["_law_paths_here", "_law_form"] nU) (D_l_is_row:Cal P w K mg base 1 "_law_is_row" ["_law_paths_here", "_law_term"] mV) (D_l_whole:Cal P w K mg base 1 "_law_whole" ["_law_thing"] (mB tp)):bI P w K mg base CX0 4 f fd ["_law_paths_here", "_law_fact"] og:=by
 obtain ⟨g_l_is_form,gd_l_is_form,G_l_is_form,b_l_is_form,k_l_is_form,m_l_is_form⟩:=D_l_is_form.ex
 obtain ⟨g_l_is_row,gd_l_is_row,G_l_is_row,b_l_is_row,k_l_is_row,m_l_is_row⟩:=D_l_is_row.ex
 obtain ⟨g_l_whole,gd_l_whole,G_l_whole,b_l_whole,k_l_whole,m_l_whole⟩:=D_l_whole.ex
 refine F.ok mN (fun vs H Q E h=>?_) (fun cdv A outer s H vs Q E hr h=>?_)
 ·obtain ⟨pd,kvs,u,ft,rfl,_⟩:=h
  rfl
 obtain ⟨pd,kvs,u,ft,rfl,hpd,hu,hf,q⟩:=h
 have sh:=sD hu hf
 clear hu hf
 refine ⟨_,(@ak _ _ _ _ _ (@bf _ _ _ _ _ _ _ _ (PW.pt (dE (cU (bV (@ay _ _ _ _ _ _ _ _ _ bv rfl T.isi dz (@ad _ _ _ _ _ (pv 1) (@ad _ _ _ _ _ (bR (v:=.ty "tuple") rfl T.tuple cb rfl) ah (ac rfl)) (ac rfl)) (by decide) (by decide) (ac rfl) (aj rfl)))) (eX (@aC _ _ _ _ _ _ _ _ bt (@ay _ _ _ _ _ _ _ _ _ aI rfl T.len cp (@ad _ _ _ _ _ (pv 1) ah (ac rfl)) (by decide) (by decide) (ac rfl) (aj rfl)) ag (aD _))))) (@ao _ _ _ (@aH _ _ _ _ cH)) aS) (@ak _ _ _ _ _ (@bf _ _ _ _ _ _ _ _ (@aC _ _ _ _ _ _ _ _ bt (@aq _ _ _ _ _ _ _ aw (pv 1) ag (fun _ _=>rfl)) aF (aD _)) (@ao _ _ _ (@aH _ _ _ _ (gE (@bw _ _ _ _ _ _ _ _ bt (@ay _ _ _ _ _ _ _ _ _ aI rfl T.len cp (@ad _ _ _ _ _ (pv 1) ah (ac rfl)) (by decide) (by decide) (ac rfl) (aj rfl)) ag (aD _)) (iq (@au _ _ _ _ _ _ _ _ _ _ _ _ _ _ _ _ G_l_is_form (hr.mono (by omega)) rfl m_l_is_form k_l_is_form b_l_is_form .nil aO (@ad _ _ _ _ _ (pv 0) (@ad _ _ _ _ _ (@aq _ _ _ _ _ _ _ aw (pv 1) ag (fun _ _=>rfl)) ah (ac rfl)) (ac rfl)) (by decide) (ac rfl) (aj rfl)))))) aS) (@ak _ _ _ _ _ (@bf _ _ _ _ _ _ _ _ (PW.pt (dE (@aC _ _ _ _ _ _ _ _ lV (@aq _ _ _ _ _ _ _ aw (pv 1) ag (fun _ _=>rfl)) aF (aD _)) (dE (@aC _ _ _ _ _ _ _ _ lV (@ay _ _ _ _ _ _ _ _ _ aI rfl T.len cp (@ad _ _ _ _ _ (pv 1) ah (ac rfl)) (by decide) (by decide) (ac rfl) (aj rfl)) ag (aD _)) (dE (cU (bV (@au _ _ _ _ _ _ _ _ _ _ _ _ _ _ _ _ G_l_whole (hr.mono (by omega)) rfl m_l_whole k_l_whole b_l_whole .nil aO (@ad _ _ _ _ _ (@aq _ _ _ _ _ _ _ aw (pv 1) ag (fun _ _=>rfl)) ah (ac rfl)) (by decide) (ac rfl) (aj rfl)))) (eX (cU (bV (@au _ _ _ _ _ _ _ _ _ _ _ _ _ _ _ _ G_l_whole (hr.mono (by omega)) rfl m_l_whole k_l_whole b_l_whole .nil aO (@ad _ _ _ _ _ (@aq _ _ _ _ _ _ _ aw (pv 1) ag (fun _ _=>rfl)) ah (ac rfl)) (by decide) (ac rfl) (aj rfl))))))))) (@ao _ _ _ (@aH _ _ _ _ cH)) aS) (@ao _ _ _ (@aH _ _ _ _ (gE (@au _ _ _ _ _ _ _ _ _ _ _ _ _ _ _ _ G_l_is_row (hr.mono (by omega)) rfl m_l_is_row k_l_is_row b_l_is_row .nil aO (@ad _ _ _ _ _ (pv 0) (@ad _ _ _ _ _ (@aq _ _ _ _ _ _ _ aw (pv 1) ag (fun _ _=>rfl)) ah (ac rfl)) (ac rfl)) (by decide) (ac rfl) (aj rfl)) (iq (@bw _ _ _ _ _ _ _ _ cn cH (bM (N':=fi) (ρ:=[none,some 0,some 1]) (m:=1) (bH.of (fs:=defScope dA) (N:=iV) rfl rfl (by decide +kernel)) rfl (br (aY (ad ag (ad ag (ad ag ah))))) (fun _ _ _ _=>(ax (i:=0) ja rfl (Or.inl rfl))) (fun _ _ _ _=>bu) (fun _ _ _ _=>(au G_l_is_form (hr.mono (by omega)) rfl m_l_is_form k_l_is_form b_l_is_form .nil aO (ad (pv 1) (ad (aq (cm (K:=K) rfl) (pv 2) (pv 0) (fun _ _=>rfl)) ah))))) rfl)))))))),?_⟩
 rcases sh with ⟨a,x1,c,t,rfl,ha,k1,tn,tok⟩ | ⟨a,x1,x2,x3,x6,s,p,c2,c3,c6,z,rfl,ha,k1,k2,k3,k6,hn,hv,hz⟩
 ·refine ⟨_,rfl,_,_,_,true,rfl,.tup ha,rfl,_,rfl,bU ?_⟩
  refine ⟨_,rfl,a,_,rfl,.inr (SqT.of ha),rfl,_,rfl,bU ?_⟩
  refine ⟨_,rfl,a,_,_,_,rfl,rfl,SqT.of ha,rfl,rfl,_,rfl,?_⟩
  refine bh (fun _=>?_) (fun c=>absurd rfl (neS c))
  refine ⟨_,rfl,a,_,rfl,.inr (SqT.of ha),rfl,_,rfl,eP ?_⟩
  exact ⟨_,rfl,_,rfl,a,_,_,_,rfl,rfl,SqT.of ha,rfl,pd,kvs,x1,c,some t,rfl,hpd,k1,fun t' et=>by cases et; exact ⟨tn,tok⟩,fun H' g'=>q H' g'⟩
 ·refine ⟨_,rfl,_,_,_,true,rfl,.tup ha,rfl,_,rfl,bU ?_⟩
  refine ⟨_,rfl,a,_,rfl,.inr (SqT.of ha),rfl,_,rfl,bU ?_⟩
  refine ⟨_,rfl,a,_,_,_,rfl,rfl,SqT.of ha,rfl,rfl,_,rfl,?_⟩
  refine bh (fun c=>absurd (eqS c) (by decide +kernel)) (fun c=>?_)
  refine ⟨_,rfl,a,_,_,_,rfl,rfl,SqT.of ha,rfl,rfl,_,rfl,?_⟩
  rw [show (!decide (V.str (Str.ofString "each")=V.str (Str.ofString "each")))=false by simp]
  refine bU ?_
  refine ⟨_,rfl,a,_,rfl,.inr (SqT.of ha),rfl,_,rfl,bU ?_⟩
  refine ⟨_,rfl,a,_,_,_,rfl,rfl,SqT.of ha,rfl,_,_,rfl,.int s,_,rfl,bU ?_⟩
  refine ⟨_,rfl,a,_,_,_,rfl,rfl,SqT.of ha,rfl,_,_,rfl,.int 0,_,rfl,bU ?_⟩
  refine ⟨_,rfl,_,rfl,a,_,_,_,rfl,rfl,SqT.of ha,rfl,pd,kvs,x1,p,z,rfl,hpd,k1,hn,hv,hz,fun H1 g1=>?_⟩
  refine ⟨_,rfl,eP ?_⟩
  refine ⟨(by show 3≤sizeLine; decide),fun l hl=>?_⟩
  have g2:=af hl (.lst [.int 2,.int 3,.int 6])
  have hl2:(upd H1 l (.lst [.int 2,.int 3,.int 6])) l=some (.lst [.int 2,.int 3,.int 6]):=ae
  generalize (upd H1 l (.lst [.int 2,.int 3,.int 6]))=H2 at g2 hl2
  have G:=g1.trans g2
  refine ⟨l,rfl,⟨_,SqL.of hl2⟩,bn (xs:=[.int 2,.int 3,.int 6]) 3 rfl (by decide) (fun j acc H'=>aA H2 H'∧acc=List.replicate j (V.bl true)) ⟨aA.refl _,rfl⟩ (fun j acc H' p=>SqL.of (p.1 _ _ hl2)) (fun j acc H3 x hj la hx p=>?_) (fun acc H3 p la D hD=>?_)⟩
  ·obtain ⟨g3,rfl⟩:=p
   have G3:=G.trans g3
   have ha3:=G3 _ _ ha
   obtain ⟨k,xk,ck,rfl,hat,kk⟩:∃ (k:Int) (xk:V) (ck:Int),x=.int k∧atI [.str "each",x1,x2,x3,.int s,.int 0,x6] k=some xk∧KAt H xk (eK ck none):=by
    match j,hj,hx with
    | 0,_,hx=>cases hx; exact ⟨2,x2,c2,rfl,rfl,k2⟩
    | 1,_,hx=>cases hx; exact ⟨3,x3,c3,rfl,rfl,k3⟩
    | 2,_,hx=>cases hx; exact ⟨6,x6,c6,rfl,rfl,k6⟩
   refine ⟨⟨rfl,rfl⟩,bo ?_⟩
   exact ⟨_,rfl,_,rfl,_,rfl,a,_,_,_,rfl,rfl,SqT.of ha3,hat,pd,kvs,xk,ck,none,rfl,G3 _ _ hpd,kk.mono (am G3),fun t et=>(by cases et),fun H4 g4=>nxT (by decide) hj la ⟨g3.trans g4,List.replicate_succ'.symm⟩⟩
  ·obtain ⟨g3,rfl⟩:=p
   refine ⟨D,_,rfl,.inl (SqL.of ae),rfl,by decide +kernel,?_⟩
   exact q _ ((G.trans g3).trans (af hD _))
end
end K6
namespace L2
open PySem PySem.Spec PyProof.Rows
section
variable {X:Cx}
def gU (z:Str):List Str:=z.cps.toList.map fun c=>⟨#[c]⟩
theorem pL (hc:X.calm=true):bW X (.type "list") (fun xs H Q=>∃ z,xs=[.str z]∧z.length≤1000∧∀ l,H l=none→Q (.ref l) (upd H l (.lst ((gU z).map V.str)))):=by
 intro pins s σ H xs us Q I r h
 obtain ⟨z,rfl,hz,q⟩:=h
 obtain ⟨u,rfl,rx⟩:=eN r
 obtain ⟨t,rfl⟩:=rx
 have hz1:z.cps.size≤1000:=hz
 refine call_list_str (I.ok.hd hc) z t (fun h' tk acc' c' kp e hacc=>?_) (by rw [sizeLine_eq]; omega)
 have ls:((gU z).map V.str).length=z.cps.size:=by rw [List.length_map,gU,List.length_map,Array.length_toList]
 have hv:aR ((gU z).map V.str) acc'.toList:=by
  refine mD (by rw [ls,Array.length_toList,hacc.1]) fun j u hu=>?_
  obtain ⟨c,k,he,rfl⟩:=hacc.2 j u (by rw [← Array.getElem?_toList]; exact hu)
  exact ⟨.str ⟨#[c]⟩,by rw [List.getElem?_map,gU,List.getElem?_map,Array.getElem?_toList,he]; rfl,k,rfl⟩
 exact ⟨.ref s.heap.objs.size,_,I.laid (t':=tk) kp (Nat.le_refl _) (show bm X.prog X.w _ h' _ (.lst ((gU z).map V.str)) from ⟨by rw [ls,sizeLine_eq]; omega,acc'.toList,c',hv,by simpa using e⟩),rfl,q _ (I.hok.fresh (Nat.le_refl _))⟩
end
end L2
namespace K6
open PySem L2
def dy.kd:dy→Nat
 | .i _=>0 | .t _=>1 | .r _=>2
def dy.len:dy→Nat
 | .i _=>0 | .t z=>z.length | .r is=>is.length
def LK:dy→V→Prop
 | .i _,_=>True
 | .t _,v=>∃ z:Str,v=.str z∧z.length≤1
 | .r _,v=>∃ i:Int,v=.int i
theorem rk {z:Str}:∀ {xs:List V},(∀ v∈xs,LK (.t z) v)→∃ ts:List Str,xs=ts.map V.str∧(ts.map (·.length)).sum≤ts.length
 | [],_=>⟨[],rfl,by simp⟩
 | v::xs,h=>by
  obtain ⟨ts,e,l⟩:=rk fun v hv=>h v (List.mem_cons_of_mem _ hv)
  obtain ⟨x,rfl,lx⟩:=h v List.mem_cons_self
  exact ⟨x::ts,by rw [e]; rfl,by rw [List.map_cons,List.sum_cons,List.length_cons]; omega⟩
theorem rB {is:List Int}:∀ {xs:List V},(∀ v∈xs,LK (.r is) v)→∃ js:List Int,xs=js.map V.int
 | [],_=>⟨[],rfl⟩
 | v::xs,h=>by
  obtain ⟨js,e⟩:=rB fun v hv=>h v (List.mem_cons_of_mem _ hv)
  obtain ⟨x,rfl⟩:=h v List.mem_cons_self
  exact ⟨x::js,by rw [e]; rfl⟩
theorem xO:zI 10 9:=⟨by decide,by decide,by decide⟩
section
variable {P:Program} {w:World} {K:Frag} {mg:Str→Option Value} {base:Heap} {f g:Addr} {fd gd:FuncData} {tp:Addr}
abbrev tf:List Str:=["_law_feed_here", "_law_value", "_law_row", "_law_at", "_law_way", "_law_fresh"]
theorem cK:aU tf ["_law_feed_here", "_law_value"] (defScope ip):=⟨rfl,rfl,rfl,by decide +kernel,rfl,by decide +kernel,by decide +kernel⟩
def rH:Sp:=fun vs H Q _=>∃ fp sc m v px,vs=[.ref fp,v]∧Fd H fp sc m∧m+4≤100000∧je H v px∧px.len≤800∧∀ v' px' H',Ext fp H H'→Fd H' fp sc (m+4)→je H' v' px'→px'.kd=px.kd→Q v' H'
theorem vb (T:G0 mg) (F:Fun K "_law_other" "_law_other" ip f fd) (D_l_draw:Cal P w K mg base 1 "_law_draw" ["_law_feed_here", "_law_many_here"] vO):bI P w K mg base CX0 2 f fd ["_law_feed_here", "_law_value"] rH:=by
 obtain ⟨g_l_draw,gd_l_draw,G_l_draw,b_l_draw,k_l_draw,m_l_draw⟩:=D_l_draw.ex
 refine F.ok cK (fun vs H Q E h=>?_) (fun cdv A outer s H vs Q E hr h=>?_)
 ·obtain ⟨fp,sc,m,v,px,rfl,_⟩:=h
  rfl
 obtain ⟨fp,sc,m,v,px,rfl,hfd,hm,hv,hl,q⟩:=h
 refine ⟨_,(@ak _ _ _ _ _ (@bf _ _ _ _ _ _ _ _ (bV (@ay _ _ _ _ _ _ _ _ _ bv rfl T.isi dz (@ad _ _ _ _ _ (pv 1) (@ad _ _ _ _ _ (bR (v:=.ty "int") rfl T.int oJ rfl) ah (ac rfl)) (ac rfl)) (by decide) (by decide) (ac rfl) (aj rfl))) (@ao _ _ _ (@aH _ _ _ _ (@aN _ _ _ _ _ _ _ _ bx (pv 1) (@aq _ _ _ _ _ _ _ aM (@aY _ _ _ _ (@ad _ _ _ _ _ ag (@ad _ _ _ _ _ (@hV _ _ _ _ _ _ eu ag) (@ad _ _ _ _ _ ag (@ad _ _ _ _ _ (@hV _ _ _ _ _ _ eu ag) (@ad _ _ _ _ _ (@aN _ _ _ _ _ _ _ _ oT ag ag) (@ad _ _ _ _ _ (@hV _ _ _ _ _ _ eu (@aN _ _ _ _ _ _ _ _ oT ag ag)) (@ad _ _ _ _ _ ag ah (ac rfl)) (ac rfl)) (ac rfl)) (ac rfl)) (ac rfl)) (ac rfl)) (ac rfl))) (@au _ _ _ _ _ _ _ _ _ _ _ _ _ _ _ _ G_l_draw (hr.mono (by omega)) rfl m_l_draw k_l_draw b_l_draw .nil aO (@ad _ _ _ _ _ (pv 0) (@ad _ _ _ _ _ ag ah (ac rfl)) (ac rfl)) (by decide) (ac rfl) (aj rfl)) (fun _ _=>rfl))))) aS) (@ak _ _ _ _ _ (@aB _ _ 2 _ _ _ _ cK.nd rfl (Or.inl rfl) (@bq _ _ _ _ _ _ _ _ _ (bW.or mJ (pL rfl)) rfl T.list mH (@ad _ _ _ _ _ (pv 1) ah (ac rfl)) (by decide) (by decide) (ac rfl) (aj rfl)) (ap rfl) (.inr rfl)) (@ak _ _ _ _ _ (@aB _ _ 3 _ _ _ _ cK.nd rfl (Or.inl rfl) (@au _ _ _ _ _ _ _ _ _ _ _ _ _ _ _ _ G_l_draw (hr.mono (by omega)) rfl m_l_draw k_l_draw b_l_draw .nil aO (@ad _ _ _ _ _ (pv 0) (@ad _ _ _ _ _ (@aN _ _ _ _ _ _ _ _ bx (@ay _ _ _ _ _ _ _ _ _ aI rfl T.len cp (@ad _ _ _ _ _ (pv 2) ah (ac rfl)) (by decide) (by decide) (ac rfl) (aj rfl)) ag) ah (ac rfl)) (ac rfl)) (by decide) (ac rfl) (aj rfl)) (ap rfl) (.inr rfl)) (@ak _ _ _ _ _ (@aB _ _ 4 _ _ _ _ cK.nd rfl (Or.inl rfl) (@au _ _ _ _ _ _ _ _ _ _ _ _ _ _ _ _ G_l_draw (hr.mono (by omega)) rfl m_l_draw k_l_draw b_l_draw .nil aO (@ad _ _ _ _ _ (pv 0) (@ad _ _ _ _ _ ag ah (ac rfl)) (ac rfl)) (by decide) (ac rfl) (aj rfl)) (ap rfl) (.inr rfl)) (@ak _ _ _ _ _ (@aB _ _ 5 _ _ _ _ cK.nd rfl (Or.inl rfl) (@aN _ _ _ _ _ _ _ _ kD (@au _ _ _ _ _ _ _ _ _ _ _ _ _ _ _ _ G_l_draw (hr.mono (by omega)) rfl m_l_draw k_l_draw b_l_draw .nil aO (@ad _ _ _ _ _ (pv 0) (@ad _ _ _ _ _ ag ah (ac rfl)) (ac rfl)) (by decide) (ac rfl) (aj rfl)) ag) (ap rfl) (.inr rfl)) (@ak _ _ _ _ _ (@bf _ _ _ _ _ _ _ _ (bV (@ay _ _ _ _ _ _ _ _ _ bv rfl T.isi dz (@ad _ _ _ _ _ (pv 1) (@ad _ _ _ _ _ (bR (v:=.ty "str") rfl T.str rE rfl) ah (ac rfl)) (ac rfl)) (by decide) (by decide) (ac rfl) (aj rfl))) (@ao _ _ _ (@aB _ _ 5 _ _ _ _ cK.nd rfl (Or.inl rfl) (@aq _ _ _ _ _ _ _ zA aF (@au _ _ _ _ _ _ _ _ _ _ _ _ _ _ _ _ G_l_draw (hr.mono (by omega)) rfl m_l_draw k_l_draw b_l_draw .nil aO (@ad _ _ _ _ _ (pv 0) (@ad _ _ _ _ _ ag ah (ac rfl)) (ac rfl)) (by decide) (ac rfl) (aj rfl)) (fun _ _=>rfl)) (ap rfl) (.inr rfl))) aS) (@ak _ _ _ _ _ (@bf _ _ _ _ _ _ _ _ (PW.pt (dE (@aC _ _ _ _ _ _ _ _ bt (pv 4) ag (aD _)) (eX (@aC _ _ _ _ _ _ _ _ bt (pv 3) (@ay _ _ _ _ _ _ _ _ _ aI rfl T.len cp (@ad _ _ _ _ _ (pv 2) ah (ac rfl)) (by decide) (by decide) (ac rfl) (aj rfl)) (aD _))))) (@ao _ _ _ (@cD _ _ _ _ (@dR _ _ _ _ _ _ _ _ _ _ _ _ PySem.F.plainAttrs_list PySem.F.slot_list_insert PySem.F.type_list_insert su (pv 2) (@ad _ _ _ _ _ (pv 3) (@ad _ _ _ _ _ (pv 5) ah (ac rfl)) (ac rfl)) rfl (cL rfl rfl) rfl (ac rfl) (aj rfl)) (ap rfl))) (@ao _ _ _ (@bf _ _ _ _ _ _ _ _ (@aC _ _ _ _ _ _ _ _ bt (pv 4) ag (aD _)) (@ao _ _ _ (@cD _ _ _ _ (@dR _ _ _ _ _ _ _ _ _ _ _ _ PySem.F.plainAttrs_list PySem.F.slot_list_pop PySem.F.type_list_pop tQ (pv 2) (@ad _ _ _ _ _ (pv 3) ah (ac rfl)) rfl (cL rfl rfl) rfl (ac rfl) (aj rfl)) (ap rfl))) (@ao _ _ _ (@dc _ _ _ _ _ _ (pv 5) (cS (pv 2) (pv 3) bS) rfl rfl rfl))))) (@ao _ _ _ (@aH _ _ _ _ (@cY _ _ _ _ _ _ _ _ (bV (@ay _ _ _ _ _ _ _ _ _ bv rfl T.isi dz (@ad _ _ _ _ _ (pv 1) (@ad _ _ _ _ _ (bR (v:=.ty "str") rfl T.str rE rfl) ah (ac rfl)) (ac rfl)) (by decide) (by decide) (ac rfl) (aj rfl))) (@dR _ _ _ _ _ _ _ _ _ _ _ _ PySem.F.plainAttrs_str PySem.F.slot_str_join PySem.F.type_str_join rD aF (@ad _ _ _ _ _ (pv 2) ah (ac rfl)) rfl (cL rfl rfl) rfl (ac rfl) (aj rfl)) (@bq _ _ _ _ _ _ _ _ _ bE rfl T.tuple cb (@ad _ _ _ _ _ (pv 2) ah (ac rfl)) (by decide) (by decide) (ac rfl) (aj rfl)))))))))))),?_⟩
 by_cases hi:∃ n,px=.i n
 ·obtain ⟨n,rfl⟩:=hi
  obtain rfl:v=.int n:=hv
  refine ⟨_,rfl,_,_,_,true,rfl,.int n,rfl,_,rfl,eP ?_⟩
  refine ⟨_,rfl,_,rfl,_,rfl,_,_,rfl,rfl,xO,_,_,rfl,rfl,xO,_,rfl,(by show 7≤sizeLine; decide),fun l1 hl1=>?_⟩
  have s1:=af hl1 (.lst [.int 1,.int (-1),.int 2,.int (-2),.int (10 ^ 9),.int (-(10 ^ 9)),.int 0])
  refine ⟨_,rfl,fp,7,sc,m,rfl,hfd.same s1,by omega,by decide,by decide,fun v2 H2 a2 b2 x2 f2=>?_⟩
  obtain ⟨u,hu,_,hat⟩:=du (xs:=[V.int 1,.int (-1),.int 2,.int (-2),.int (10 ^ 9),.int (-(10 ^ 9)),.int 0]) a2 b2
  obtain ⟨d,rfl⟩:∃ d:Int,u=.int d:=by
   simp only [List.mem_cons,List.not_mem_nil,or_false] at hu
   rcases hu with rfl | rfl | rfl | rfl | rfl | rfl | rfl<;>exact ⟨_,rfl⟩
  refine ⟨l1,_,_,_,rfl,rfl,SqL.of (x2 _ _ (hfd.ne hl1).1 ae),hat,_,_,rfl,rfl,?_⟩
  exact q (.int (n+d)) (.i (n+d)) H2 ((aA.ext s1).trans x2) (f2.le (by omega)) rfl rfl
 ·have hi2:px.kd≠0:=fun e=>by
   cases px with
   | i n=>exact hi ⟨n,rfl⟩
   | t z=>cases e
   | r is=>cases e
  have isi:∀ {H':Hp},Tk H H'→∃ t,gQ K H' v t∧PySem.W.kitOne K t (.type "int")=some false∧PySem.W.kitOne K t (.type "str")=some (decide (px.kd=1)):=by
   intro H' tk
   cases px with
   | i n=>exact absurd rfl hi2
   | t z =>
    obtain ⟨rfl,_⟩:=hv
    exact ⟨_,.str z,rfl,rfl⟩
   | r is =>
    obtain ⟨a,rfl,ha,_⟩:=hv
    exact ⟨_,.tup (tk _ _ ha),rfl,rfl⟩
  obtain ⟨ty0,it0,ii0,_⟩:=isi (fun _ _ e=>e)
  refine ⟨_,rfl,_,_,_,false,rfl,it0,ii0,_,rfl,bU ?_⟩
  have lst:∃ xs,(∀ v∈xs,LK px v)∧xs.length≤800∧((∃ p ys,([v]:List V)=[.ref p]∧(SqL K H p ys∨SqT K H p ys)∧xs=ys)∨∃ z,([v]:List V)=[.str z]∧z.length≤1000∧xs=(gU z).map V.str):=by
   cases px with
   | i n=>exact absurd rfl hi2
   | t z =>
    obtain ⟨rfl,_⟩:=hv
    have hl':z.length≤800:=hl
    refine ⟨(gU z).map V.str,fun v hv=>?_,?_,.inr ⟨z,rfl,by omega,rfl⟩⟩
    ·obtain ⟨x,hx,rfl⟩:=List.mem_map.mp hv
     obtain ⟨c,_,rfl⟩:=List.mem_map.mp hx
     exact ⟨_,rfl,Nat.le_refl _⟩
    ·rw [List.length_map,gU,List.length_map,Array.length_toList]
     exact hl'
   | r is =>
    obtain ⟨a,rfl,ha,_⟩:=hv
    refine ⟨is.map V.int,fun v hv=>?_,by rw [List.length_map]; exact hl,.inl ⟨a,_,rfl,.inr (SqT.of ha),rfl⟩⟩
    obtain ⟨x,_,rfl⟩:=List.mem_map.mp hv
    exact ⟨x,rfl⟩
  obtain ⟨xs,hxs,lxs,src⟩:=lst
  dsimp only [ul]
  refine df (fun σ H1=>∃ l,σ=[some (.ref fp),some v,some (.ref l),none,none,none]∧H l=none∧H1=upd H l (.lst xs)) (fun NX hNX=>?_) (fun σ H1 jj=>?_)
  ·rcases src with ⟨p,ys,e1,e2,rfl⟩ | ⟨z,e1,e2,rfl⟩
   ·exact ⟨_,rfl,.inl ⟨p,_,e1,e2,fun l hl0=>hNX _ _ ⟨l,rfl,hl0,rfl⟩⟩⟩
   ·exact ⟨_,rfl,.inr ⟨z,e1,e2,fun l hl0=>hNX _ _ ⟨l,rfl,hl0,rfl⟩⟩⟩
  obtain ⟨l,rfl,hl0,rfl⟩:=jj
  have s1:=af hl0 (.lst xs)
  have nl:=hfd.ne hl0
  have hl1:(upd H l (.lst xs)) l=some (.lst xs):=ae
  generalize (upd H l (.lst xs))=H1 at s1 hl1
  refine ⟨_,rfl,_,rfl,l,xs,rfl,.inl (SqL.of hl1),_,_,rfl,rfl,fp,_,sc,m,rfl,hfd.same s1,by omega,by omega,by omega,fun at_ H2 a2 b2 x2 f2=>?_⟩
  refine ⟨_,rfl,fp,3,sc,_,rfl,f2,by omega,by decide,by decide,fun way H3 a3 b3 x3 f3=>?_⟩
  refine ⟨_,rfl,fp,21,sc,_,rfl,f3,by omega,by decide,by decide,fun fr H4 a4 b4 x4 f4=>⟨_,_,rfl,rfl,?_⟩⟩
  have E4:Ext fp H H4:=(aA.ext s1).trans (x2.trans (x3.trans x4))
  have hl4:H4 l=some (.lst xs):=x4 _ _ nl.1 (x3 _ _ nl.1 (x2 _ _ nl.1 hl1))
  dsimp only [jD]
  refine df (fun σ H5=>∃ y,σ=[some (.ref fp),some v,some (.ref l),some (.int at_),some (.int way),some y]∧LK px y∧Ext fp H H5∧Fd H5 fp sc (m+4)∧H5 l=some (.lst xs)) (fun NX hNX=>?_) (fun σ H5 jj=>?_)
  ·obtain ⟨ty,it,_,is⟩:=isi (hfd.tk E4)
   refine ⟨_,rfl,_,_,_,_,rfl,it,is,_,rfl,?_⟩
   refine bh (fun c=>?_) (fun c=>?_)
   ·have c1:px.kd=1:=of_decide_eq_true c
    refine ⟨_,rfl,fp,10,sc,_,rfl,f4,by omega,by decide,by decide,fun v5 H5 a5 b5 x5 f5=>?_⟩
    obtain ⟨ch,_,_,hat⟩:=du (xs:=(Str.ofString " !$&'azA~}").cps.toList) a5 (by rw [show (Str.ofString " !$&'azA~}").cps.toList.length=10 by decide +kernel]; exact b5)
    refine ⟨_,v5,ch,rfl,rfl,(by decide +kernel),hat,hNX _ _ ⟨_,rfl,?_,E4.trans x5,f5,x5 _ _ nl.1 hl4⟩⟩
    cases px with
    | i n=>cases c1
    | t z=>exact ⟨_,rfl,Nat.le_refl _⟩
    | r is=>cases c1
   ·have c1:¬ px.kd=1:=of_decide_eq_false (Bool.eq_false_iff.mpr c)
    refine hNX _ _ ⟨_,rfl,?_,E4,f4.le (by omega),hl4⟩
    cases px with
    | i n=>trivial
    | t z=>exact absurd rfl c1
    | r is=>exact ⟨_,rfl⟩
  ·obtain ⟨y,rfl,hy,E5,f5,hl5⟩:=jj
   refine df (fun σ H6=>∃ xs',σ=[some (.ref fp),some v,some (.ref l),some (.int at_),some (.int way),some y]∧(∀ v∈xs',LK px v)∧xs'.length≤900∧Ext fp H H6∧Fd H6 fp sc (m+4)∧H6 l=some (.lst xs')) (fun NX hNX=>?_) (fun σ H6 jj=>?_)
   ·have ins:∀ {Z:Prop},(at_≤(xs.length:Int)→Z)→Z:=fun h=>h (by omega)
    have upF:∀ ys,(∀ v∈ys,LK px v)→ys.length≤900→NX [some (.ref fp),some v,some (.ref l),some (.int at_),some (.int way),some y] (upd H5 l (.lst ys)):=fun ys h1 h2=>hNX _ _ ⟨ys,rfl,h1,h2,E5.put hl0,f5.upd nl,ae⟩
    have insF:NX [some (.ref fp),some v,some (.ref l),some (.int at_),some (.int way),some y] (upd H5 l (.lst (xs.take at_.toNat++y::xs.drop at_.toNat))):=by
     refine upF _ (fun v hv=>?_) ?_
     ·rcases List.mem_append.mp hv with hv | hv
      ·exact hxs v (List.mem_of_mem_take hv)
      ·rcases List.mem_cons.mp hv with rfl | hv
       ·exact hy
       ·exact hxs v (List.mem_of_mem_drop hv)
     ·rw [List.length_append,List.length_cons,List.length_take,List.length_drop]
      omega
    refine ⟨_,rfl,rfl,_,rfl,?_⟩
    refine bh (fun c=>?_) (fun c=>?_)
    ·exact eP ⟨_,rfl,.inl ⟨rfl,_,SqL.of hl5⟩,_,rfl,_,rfl,l,xs,at_,y,rfl,rfl,hl5,a2,by omega,by rw [sizeLine_eq]; omega,insF⟩
    ·refine ⟨_,rfl,_,rfl,l,xs,rfl,.inl (SqL.of hl5),rfl,_,rfl,?_⟩
     refine bh (fun c2=>?_) (fun c2=>?_)
     ·exact ⟨_,rfl,.inl ⟨rfl,_,SqL.of hl5⟩,_,rfl,_,rfl,l,xs,at_,y,rfl,rfl,hl5,a2,by omega,by rw [sizeLine_eq]; omega,insF⟩
     ·have nat_:at_≠(xs.length:Int):=fun e=>absurd (by rw [e]) (of_decide_eq_false (Bool.eq_false_iff.mpr c2))
      have lt:at_.toNat<xs.length:=by omega
      have ixa:ixN xs.length at_=some at_.toNat:=by unfold ixN; rw [if_pos a2,if_pos (by omega)]
      refine ⟨_,rfl,rfl,_,rfl,?_⟩
      refine bh (fun c3=>?_) (fun c3=>?_)
      ·refine ⟨_,rfl,.inl ⟨rfl,_,SqL.of hl5⟩,_,rfl,l,xs,at_,at_.toNat,xs[at_.toNat],rfl,rfl,hl5,by omega,by omega,?_,List.getElem?_eq_getElem lt,upF _ (fun v hv=>hxs v (List.mem_of_mem_eraseIdx hv)) ?_⟩
       ·exact (mM ixa).1
       ·rw [List.length_eraseIdx]
        split<;>omega
      ·refine ⟨_,rfl,_,rfl,_,rfl,l,xs,at_,at_.toNat,rfl,rfl,hl5,?_,upF _ (fun v hv=>?_) ?_⟩
       ·exact ixa
       ·rcases List.mem_or_eq_of_mem_set hv with hv | rfl
        ·exact hxs v hv
        ·exact hy
       ·rw [List.length_set]
        omega
   ·obtain ⟨xs',rfl,hx',lx',E6,f6,hl6⟩:=jj
    obtain ⟨ty,it,_,is⟩:=isi (hfd.tk E6)
    refine ⟨_,rfl,_,_,_,_,rfl,it,is,_,rfl,?_⟩
    refine bh (fun c=>?_) (fun c=>?_)
    ·have c1:px.kd=1:=of_decide_eq_true c
     cases px with
     | i n=>cases c1
     | r is=>cases c1
     | t z =>
      obtain ⟨ts,rfl,lts⟩:=rk hx'
      rw [List.length_map] at lx'
      have lj:=StrLaws.join_length_le (Str.ofString "") ts
      rw [show (Str.ofString "").length=0 from rfl,Nat.mul_zero] at lj
      refine ⟨rfl,_,rfl,Str.ofString "",l,ts,rfl,rfl,.inl (SqL.of hl6),?_,q _ (.t (Str.join "" ts)) H6 E6 f6 ⟨rfl,by omega⟩ rfl⟩
      unfold jl
      rw [show (Str.ofString "").length=0 from rfl,Nat.mul_zero,sizeLine_eq]
      omega
    ·have c1:¬ px.kd=1:=of_decide_eq_false (Bool.eq_false_iff.mpr c)
     cases px with
     | i n=>exact absurd rfl hi2
     | t z=>exact absurd rfl c1
     | r is =>
      obtain ⟨js,rfl⟩:=rB hx'
      rw [List.length_map] at lx'
      refine ⟨_,rfl,l,_,rfl,.inl ⟨SqL.of hl6,fun t ht=>?_⟩⟩
      have s7:=af ht (.tup (js.map V.int))
      exact q _ (.r js) _ (E6.trans (aA.ext s7)) (f6.same s7) ⟨t,rfl,ae,lx'⟩ rfl
end
end K6
namespace L2
open PySem PySem.Spec PyProof.Rows
section
variable {prog:Program} {w:World} {A:Around} {E:Value→Shared→Prop} {s:Shared} {d it:Addr} {es:Array DictEntry} {ep i:Nat}
theorem sS {Q:Value→Shared→Prop} (hd:(d==sysModules)=false) (hm:gf s.heap d es ep) (h:Q (.ref s.heap.objs.size) { s with heap:=s.heap.push { cls:=.type "dict_values",data:=.fields #[.ref d] } }) :
  wpAny (model prog w) A (call (.builtin "dict.values") [.ref d]) Q E s:=by
 refine wpAny_call_entry F.slot_dict_values hm.ty F.entry_dict_values ?_ (F.args_dict_values_1 _)
 refine wpAny_bind ?_
 unfold Builtin.Dict.noArgs
 refine wpAny_bind (wpAny_notOrdered_dict hm.ty ?_)
 show wpAny _ _ (pure d) _ _ s
 refine wpAny_pure ?_
 show wpAny _ _ (Builtin.Dict.showsAll d >>= _) _ _ s
 unfold Builtin.Dict.showsAll
 rw [if_neg (by rw [hd]; exact Bool.false_ne_true)]
 refine wpAny_bind (wpAny_pure ?_)
 exact wpAny_bind (wpAny_newObj_type (wpAny_pure ⟨_,rfl,h⟩))
theorem sX {v:Addr} {Q:Value→Shared→Prop} (hv:s.heap.IsValuesView v d) (hm:gf s.heap d es ep)
  (hQ:Q (.ref s.heap.objs.size) { s with heap:=s.heap.push { cls:=.type "dict_valueiterator",data:=.fields #[.ref d,.int 0 0,.int es.size 0,.int ep 0] } }):wpAny (model prog w) A (pyIter (.ref v)) Q E s:=by
 obtain ⟨ov,hov,hcv,hdv⟩:=id hv
 obtain ⟨o,ho,hc,hdat⟩:=id hm
 refine wpAny_pyIter_slot hv.typeIs F.slot_dict_values_iter (wpAny_call_entry F.slot_dict_values_iter hv.typeIs F.entry_dict_values_iter ?_ (F.args_dict_values_iter_1 _))
 unfold Builtin.«dict_values.__iter__»
 refine wpAny_bind (wpAny_pure ?_)
 refine wpAny_bind ?_
 unfold Builtin.Dict_items.dictOf
 refine wpAny_bind (wpAny_field hov hdv (x:=.ref d) rfl (wpAny_pure ?_))
 refine wpAny_bind ?_
 unfold Builtin.Dict_items.newIterator
 refine wpAny_bind (wpAny_dictEntries ho hdat ?_)
 refine wpAny_bind (wpAny_dictEpoch ho hdat ?_)
 have hown:Builtin.Dict_items.ownsTuple "dict_valueiterator"=false:=by decide
 simp only [hown,Bool.false_eq_true,if_false]
 refine wpAny_newObj_type (wpAny_pure ⟨_,rfl, "dict_valueiterator",_,⟨_,Heap.get?_push_size _ rfl,rfl⟩,F.slot_dict_valueiterator_next.lookup,?_⟩)
 simpa [rawInt] using hQ
theorem sW {Q:Option Value→Shared→Prop} (hit:s.heap.IsValIter it d i es.size ep) (hm:gf s.heap d es ep) (hlt':i<es.size)
  (hQ:∀ h',h'.IsValIter it d (i+1) es.size ep→Heap.SameBut it s.heap h'→Q (some es[i].val) { s with heap:=h' }):wpAny (model prog w) A (pyNext (.ref it)) Q E s:=by
 obtain ⟨o,ho,hc,hd⟩:=id hit
 obtain ⟨od,hod,hcd,hdd⟩:=hm
 unfold pyNext
 refine wpAny_bind (wpAny_attempt (wpAny_callSpecial?_slot (name:=Str.ofString "__next__") hit.typeIs F.slot_dict_valueiterator_next (wpAny_call_entry F.slot_dict_valueiterator_next hit.typeIs F.entry_dict_valueiterator_next ?_ (F.args_dict_valueiterator_next_1 _))))
 refine wpAny_bind (wpAny_pure (wpAny_bind (wpAny_bind ?_)))
 first | refine wpAny_bind (wpAny_typeNameOfWhole_valiter hit.typeIs (wpAny_pure ?_)) | refine wpAny_bind (wpAny_typeNameOf_valiter hit.typeIs (wpAny_pure ?_))
 refine wpAny_bind (wpAny_fieldsOf ho hd ?_)
 simp only [show Builtin.Dict_items.ownsTuple "dict_valueiterator"=false by decide,Bool.false_eq_true,if_false]
 show wpAny _ _ (if (Value.ref d==Value.none)=true then _ else _) _ _ s
 rw [if_neg (show ¬ ((Value.ref d==Value.none)=true) from Bool.false_ne_true)]
 refine wpAny_bind (wpAny_pure (wpAny_bind (wpAny_dictEntries hod hdd ?_)))
 rw [if_neg (by simp)]
 refine wpAny_bind (wpAny_pure (wpAny_bind (wpAny_dictEpoch hod hdd ?_)))
 rw [if_neg (by simp)]
 refine wpAny_pure ?_
 simp only [show ¬ ((i:Int)<0) from by omega,if_false,Int.toNat_natCast,Array.getElem?_eq_getElem hlt']
 refine wpAny_bind ?_
 first | refine wpAny_bind (wpAny_typeNameOfWhole_valiter hit.typeIs (wpAny_pure ?_)) | refine wpAny_bind (wpAny_typeNameOf_valiter hit.typeIs (wpAny_pure ?_))
 refine wpAny_bind (wpAny_isOneOf_valiter hit.typeIs ?_)
 show wpAny _ _ (setField (.ref it) 1 (rawInt ((i:Int)+1)) >>= _) _ _ s
 refine wpAny_bind (wpAny_setField ho hd (by simp) ?_)
 have hit':(s.heap.update it (Obj.mapFields (·.setIfInBounds 1 (rawInt ((i:Int)+1))))).IsValIter it d (i+1) es.size ep :=
  ⟨_,Heap.get?_update_self _ ho (Obj.isFreed_of_fields (Obj.data_mapFields hd _)),(Obj.cls_mapFields ..).trans hc,by rw [Obj.data_mapFields hd]; simp [rawInt]⟩
 refine wpAny_bind (wpAny_holding (wpAny_bind (wpAny_isOneOf_valiter (s:={ s with heap:=s.heap.update it (Obj.mapFields (·.setIfInBounds 1 (rawInt ((i:Int)+1)))) }) hit'.typeIs ?_)))
 refine wpAny_bind (wpAny_isOneOf_valiter (s:={ s with heap:=s.heap.update it (Obj.mapFields (·.setIfInBounds 1 (rawInt ((i:Int)+1)))) }) hit'.typeIs ?_)
 show wpAny _ _ (pure es[i].val) _ _ _
 exact wpAny_pure (wpAny_pure ⟨_,rfl,wpAny_pure (hQ _ hit' (Heap.SameBut.update ..))⟩)
theorem uV {Q:Option Value→Shared→Prop} (hh:A.handled=none) (hit:s.heap.IsValIter it d i es.size ep) (hi:i=es.size) (hm:gf s.heap d es ep)
  (hQ:∀ h',Heap.ExtBut it s.heap h'→Q none { s with heap:=h' }):wpAny (model prog w) A (pyNext (.ref it)) Q E s:=by
 subst hi
 obtain ⟨o,ho,hc,hd⟩:=id hit
 obtain ⟨od,hod,hcd,hdd⟩:=hm
 unfold pyNext
 refine wpAny_bind (wpAny_attempt (wpAny_callSpecial?_slot (name:=Str.ofString "__next__") hit.typeIs F.slot_dict_valueiterator_next (wpAny_call_entry F.slot_dict_valueiterator_next hit.typeIs F.entry_dict_valueiterator_next ?_ (F.args_dict_valueiterator_next_1 _))))
 refine wpAny_bind (wpAny_pure (wpAny_bind (wpAny_bind ?_)))
 first | refine wpAny_bind (wpAny_typeNameOfWhole_valiter hit.typeIs (wpAny_pure ?_)) | refine wpAny_bind (wpAny_typeNameOf_valiter hit.typeIs (wpAny_pure ?_))
 refine wpAny_bind (wpAny_fieldsOf ho hd ?_)
 simp only [show Builtin.Dict_items.ownsTuple "dict_valueiterator"=false by decide,Bool.false_eq_true,if_false]
 show wpAny _ _ (if (Value.ref d==Value.none)=true then _ else _) _ _ s
 rw [if_neg (show ¬ ((Value.ref d==Value.none)=true) from Bool.false_ne_true)]
 refine wpAny_bind (wpAny_pure (wpAny_bind (wpAny_dictEntries hod hdd ?_)))
 rw [if_neg (by simp)]
 refine wpAny_bind (wpAny_pure (wpAny_bind (wpAny_dictEpoch hod hdd ?_)))
 rw [if_neg (by simp)]
 refine wpAny_pure ?_
 simp only [show ¬ ((es.size:Int)<0) from by omega,if_false,Int.toNat_natCast,Array.getElem?_eq_none (Nat.le_refl es.size)]
 refine wpAny_bind ?_
 first | refine wpAny_bind (wpAny_typeNameOfWhole_valiter hit.typeIs (wpAny_pure ?_)) | refine wpAny_bind (wpAny_typeNameOf_valiter hit.typeIs (wpAny_pure ?_))
 show wpAny _ _ (setField (.ref it) 0 .none >>= _) _ _ s
 refine wpAny_bind (wpAny_setField ho hd (by simp) ?_)
 show wpAny _ _ (newExc (.type "StopIteration") [] >>= _) _ _ _
 refine wpAny_bind ?_
 simp only [newExc,newTuple]
 refine wpAny_bind (wpAny_newObj_type ?_ (by size_fits))
 refine wpAny_bind (m:=firstArgMember _ _) (wpAny_of_eq (a:=Value.none) (by first | rfl | (simp only [firstArgMember]; rfl)) ?_)
 refine wpAny_newObj_type ?_ (by size_fits)
 simp only [raiseNew]
 refine wpAny_bind (wpAny_handled ?_)
 rw [show A.in1.handled=none from hh]
 refine wpAny_bind (wpAny_pure (wpAny_throw ?_))
 refine wpAny_bind (wpAny_isInstance (T := "StopIteration") (b:=true) ⟨_,Heap.get?_push_size _ rfl,rfl⟩ isSubtype_stop ?_)
 exact wpAny_pure (hQ _ (((Heap.SameBut.update ..).extBut.push _).push _))
end
def Itd (d:Addr) (o:Obj) (kvs:List (PyData×V)):It :=
 ⟨fun i H=>H d=some (.frz o (.dT kvs))∧i<kvs.length,fun i H x H'=>H'=H∧∃ k,kvs[i]?=some (k,x),fun i H=>H d=some (.frz o (.dT kvs))∧i=kvs.length⟩
theorem mn {P:Program} {w:World} {H:Hp} {h:Heap} {d:Addr} {o:Obj} {kvs:List (PyData×V)} (ok:HOk P w H h) (e:H d=some (.frz o (.dT kvs))) :
  (d==sysModules)=false∧∃ es ep,h.get? d=some o∧o.ExactDict∧o.data=.dict es ep∧es.size=kvs.length∧∀ (i:Nat) (en:DictEntry),es[i]?=some en→∃ k x,kvs[i]?=some (k,x)∧aX x en.val:=by
 obtain ⟨h1,_,h2,xs,rel,o',es,ep,h3,h4,h5,h6,_⟩:=(show bm P w H h d (.frz o (.dT kvs)) from ok _ _ e)
 rw [h1] at h3
 cases h3
 have lr:=Paired.length rel
 have le:es.size=xs.length:=by rw [← Array.length_toList,h6,List.length_map]
 refine ⟨h2,es,ep,h1,h4,h5,by omega,fun i en hen=>?_⟩
 rw [← Array.getElem?_toList,h6,List.getElem?_map] at hen
 obtain ⟨x,hx,rfl⟩:=Option.map_eq_some_iff.mp hen
 have hi:=(List.getElem?_eq_some_iff.mp hx).1
 obtain ⟨kv,hkv⟩:∃ kv,kvs[i]?=some kv:=⟨_,List.getElem?_eq_getElem (by omega)⟩
 obtain ⟨q,hq,r1,r2,r3⟩:=K6.paired_at rel i kv hkv
 rw [hx] at hq
 cases hq
 exact ⟨kv.1,kv.2,hkv,r3⟩
theorem rR {P:Program} {w:World} {K:Frag} {tg:Expr} (d it:Addr) (o:Obj) (kvs:List (PyData×V)) (es:Array DictEntry) (ep:Nat) (hod:o.data=.dict es ep) (hes:es.size=kvs.length) :
  mq P w K tg (Itd d o kvs) [it] it (fun i h=>h.IsValIter it d i es.size ep) where
 mem:=by simp
 obj:=fun i h st b hb=>by
  have e:b=it:=by simpa using hb
  subst e
  obtain ⟨o,e,c,d⟩:=st
  exact ⟨o,e,fun v z=>by rw [d] at z; cases z⟩
 keep:=fun i h h' st k=>st.at fun o e=>k it (by simp) o e
 item:=by
  intro X hP hw hK hc i pins s σ H E I hf st hg
  subst hP hw hK
  obtain ⟨hg,hi⟩:=hg
  obtain ⟨_,es',ep',e1,e2,e3,e4,e5⟩:=mn I.hok hg
  rw [hod] at e3
  cases e3
  obtain ⟨f0,f1,f2,f3,f4,f5⟩:=hf it (by simp)
  refine sW st ⟨o,e1,e2,hod⟩ (by omega) fun h' st' sb=>?_
  obtain ⟨k,x,hx,rx⟩:=e5 i _ (Array.getElem?_eq_getElem (by omega))
  have I1:Inv X pins σ H { s with heap:=h' }:=I.turned (t':=s.toks) (fun b o hb e=>(sb.2 b hb).trans e) f0 f1 f3 f4 f5
  obtain ⟨o2,eo,c,dd⟩:=id st'
  exact ⟨_,rfl,lK (s:={ s with heap:=h' }) eo c dd (by decide) ⟨x,H,I1,rx,⟨rfl,k,hx⟩,st',fun b hb=>(hf b hb).1⟩⟩
 done:=by
  intro X hP hw hK hc i pins s σ H E I hf st hg
  subst hP hw hK
  obtain ⟨hg,hi⟩:=hg
  obtain ⟨_,es',ep',e1,e2,e3,e4,e5⟩:=mn I.hok hg
  rw [hod] at e3
  cases e3
  obtain ⟨f0,f1,f2,f3,f4,f5⟩:=hf it (by simp)
  exact uV (I.ok.hd hc) st (by omega) ⟨o,e1,e2,hod⟩ fun h' eb=>⟨rfl,I.turned (t':=s.toks) (fun b o hb e=>eb b o hb e) f0 f1 f3 f4 f5⟩
 self:=fun _ _ _ _ _ st h=>wpAny_pyIter_valiter st h
section
variable {X:Cx} {tg:Expr}
theorem Inv.freeze {pins:List (Addr×Obj)} {σ:St} {H:Hp} {s:Shared} {d:Addr} {kvs:List (PyData×V)} (I:Inv X pins σ H s) (e:Rd H d (.dT kvs)):∃ o,Inv X pins σ (upd H d (.frz o (.dT kvs))) s:=by
 rcases e with e | ⟨o,e⟩
 ·obtain ⟨h0,h2,xs,rel,o,es,ep,h3,h4⟩:=(show bm X.prog X.w H s.heap d (.dT kvs) from I.hok _ _ e)
  have tk:∀ b ys,H b=some (.tup ys)→(upd H d (.frz o (.dT kvs))) b=some (.tup ys):=fun b ys q=>by rw [aW (gq q e (fun z=>by cases z))]; exact q
  refine ⟨o,I.write (x:=d) (e:=d) (o:=.frz o (.dT kvs)) (t':=s.toks) (h':=s.heap) (by rw [e]; trivial) (.inl rfl) (fun b u _ q=>q) ⟨o,h3⟩ ?_⟩
  exact ⟨h3,h0,h2,xs,Paired.mapP rel fun _ _ z=>⟨z.1,z.2.1.mono tk,z.2.2⟩,o,es,ep,h3,h4⟩
 ·refine ⟨o,?_⟩
  have:upd H d (.frz o (.dT kvs))=H:=by
   funext b
   by_cases hb:b=d
   ·rw [hb,ae,e]
   ·rw [aW hb]
  rw [this]
  exact I
def At (te:TE):TI:=fun σ H R=>te σ H fun x H1=>∃ d kvs,x=.ref d∧Rd H1 d (.dT kvs)∧∀ o,R (Itd d o kvs) (upd H1 d (.frz o (.dT kvs)))
theorem xu {o:Expr} {te:TE} {apos cpos:Pos} (he:PE X o te) (hbase:attributeBase o "values" X.env (eval o X.env)=eval o X.env:=by rfl) (hline:(apos.endLine==cpos.line)=true:=by rfl) :
  PI X tg (.Call (.Attribute o "values" apos) [] [] cpos) (At te):=by
 intro pins s σ H R I h
 refine wpAny_Call_method0_late hbase hline (thn (he pins s σ H _ I h) fun v s1 ⟨x,H1,I1,r1,d,kvs,hx,hd,q⟩=>?_)
 subst hx
 cases r1
 obtain ⟨ob,I2⟩:=I1.freeze hd
 obtain ⟨hs,es,ep,e1,e2,e3,e4,e5⟩:=mn I2.hok (ae (H:=H1) (a:=d) (o:=.frz ob (.dT kvs)))
 have raw:gf s1.heap d es ep:=⟨ob,e1,e2,e3⟩
 refine ⟨"dict", "dict.values",F.plainAttrs_dict,F.slot_dict_values,F.type_dict_values,raw.ty,fun a e=>?_,Calls.callWith_builtin rfl (PySem.evalArgs_none (sS hs raw ?_))⟩
 ·cases e
  exact ⟨ob,e1,e2.2.1⟩
 have I3:Inv X pins σ (upd H1 d (.frz ob (.dT kvs))) { s1 with heap:=s1.heap.push { cls:=.type "dict_values",data:=.fields #[.ref d] } }:=I2.kept (t':=s1.toks) fun b o e=>Heap.get?_push_of_some _ e
 refine sX (s:={ s1 with heap:=s1.heap.push { cls:=.type "dict_values",data:=.fields #[.ref d] } }) (d:=d) (es:=es) (ep:=ep) ⟨_,Heap.get?_push_size _ rfl,rfl,rfl⟩ (raw.at fun o e=>Heap.get?_push_of_some _ e) ?_
 refine ⟨_,[_],_,_,_,rfl,I3.kept (t':=s1.toks) fun b o e=>Heap.get?_push_of_some _ e,rR d _ ob kvs es ep e3 e4,⟨_,Heap.get?_push_size _ rfl,rfl,rfl⟩,fun b hb=>?_,q ob⟩
 have e:b=_:=List.mem_singleton.mp hb
 subst e
 exact I3.fpOk (Nat.le_refl _) (I3.hok.fresh (Nat.le_refl _))
end
section
variable {m:Nat} {g:TG} {tt:TT} {te:TE} {σ':St} {Z:List V→Hp→Prop} {H1:Hp}
theorem rT {d:Addr} {o:Obj} {kvs:List (PyData×V)} (n:Nat) (hz:n=kvs.length) (hn:n≤1000) (Pv:Nat→List V→Hp→Prop) (h0:Pv 0 [] H1) (hq:∀ i acc H,Pv i acc H→H d=some (.frz o (.dT kvs)))
  (hs:∀ i acc H k x,i<n→acc.length≤i→kvs[i]?=some (k,x)→Pv i acc H→g x σ' H fun σ2 H2=>(σ2.drop m=σ'.drop m∧σ2.length=σ'.length)∧tt σ2 H2 fun b H3=>if b=true then te σ2 H3 fun v H4=>NxT n Pv i acc v H4 else NxF n Pv i acc H3)
  (hd:∀ acc H,Pv n acc H→acc.length≤n→Z acc H):iR (Itd d o kvs) m g tt te σ' Z H1 :=
 gR n hn Pv h0 (fun i acc H hi la p=>⟨⟨hq i acc H p,by omega⟩,fun x H' y=>by obtain ⟨e,k,y⟩:=y; subst e; exact hs i acc _ k x hi la y p⟩) fun acc H p la=>⟨⟨hq n acc H p,hz⟩,hd acc H p la⟩
end
end L2
namespace K6
open PySem L2
theorem lG {R:List Rec}:∀ {n:Nat} {k:Str} {q:bL},q∈aE R n k→q.2∈PL
 | 0,_,_,h=>nomatch h
 | n+1,k,q,h=>by
  unfold aE at h
  split at h
  ·rw [List.mem_singleton.mp h]
   assumption
  ·unfold nj at h
   obtain ⟨p,_,h⟩:=List.mem_flatMap.mp h
   obtain ⟨q',h',rfl⟩:=List.mem_map.mp h
   exact lG (q:=q') h'
theorem rm {R:List Rec} {l:List Fld} {q:bL} (h:q∈ppM R 4 l):q.2∈PL∧q.2∈(bO R l).map (·.2):=by
 unfold ppM at h
 obtain ⟨p,hp,h⟩:=List.mem_flatMap.mp h
 obtain ⟨q',h',rfl⟩:=List.mem_map.mp h
 refine ⟨lG (q:=q') h',List.mem_map.mpr ⟨q',?_,rfl⟩⟩
 unfold bO
 exact List.mem_flatMap.mpr ⟨p,hp,h'⟩
theorem lS:∀ {l:List Nat} {n:Nat},(∀ n∈l,1≤n)→n∈l→n≤eJ l
 | a::r,n,h,hn=>by
  have pr:1≤eJ r:=lQ fun n hn=>h n (List.mem_cons_of_mem _ hn)
  show n≤a*eJ r
  rcases List.mem_cons.mp hn with rfl | hn
  ·exact Nat.le_mul_of_pos_right _ pr
  ·have:=lS (fun n hn=>h n (List.mem_cons_of_mem _ hn)) hn
   exact Nat.le_trans this (Nat.le_mul_of_pos_left _ (h a List.mem_cons_self))
theorem uM {r:Rm} {R:List Rec} {l:List Fld} {q:bL} (hr:iC r) (hm:cB r (bO R l)≤40) (h:q∈ppM R 4 l):cnt r q.2≤40:=by
 obtain ⟨q',h1,h2⟩:=List.mem_map.mp (rm h).2
 refine Nat.le_trans (lS (fun n hn=>?_) (List.mem_map.mpr ⟨q',h1,?_⟩)) hm
 ·obtain ⟨x,_,rfl⟩:=List.mem_map.mp hn
  exact rC hr _
 ·rw [h2]
theorem wD {z:Str} (h:z∈PL):z = "num"∨z = "row"∨z = "text":=by
 have:PL=(["num", "text", "row"]:List Str):=rfl
 rw [this] at h
 simp only [List.mem_cons,List.not_mem_nil,or_false] at h
 rcases h with h | h | h
 ·exact .inl h
 ·exact .inr (.inr h)
 ·exact .inr (.inl h)
theorem zD {kvs:List (PyData×V)} {r:Rm} {q:bL} (hn:∀ x∈q.1,x∈NMS) (hv:cj kvs (bd q.1)=some (.str q.2)) (hp:q.2∈PL):∀ ft∈aZ r q,qH kvs ft:=by
 intro ft hft
 unfold aZ at hft
 split at hft
 ·rename_i e
  simp only [List.mem_cons,List.not_mem_nil,or_false] at hft
  rw [e] at hv
  rcases hft with rfl | rfl<;>exact ⟨hn,hv⟩
 ·rename_i e
  have z:q.2 = "row"∨q.2 = "text":=by
   rcases wD hp with h | h
   ·exact absurd h e
   ·exact h
  simp only [List.mem_cons,List.not_mem_nil,or_false] at hft
  rcases hft with rfl | rfl | rfl<;>exact ⟨hn,q.2,hv,z⟩
theorem yT {H:Hp} {v:V} {e:PyData} {sort:Str} (k:KAt H v e) (h:PcD sort e):∃ px,je H v px∧gv sort px∧px.len≤800:=by
 rcases h with ⟨h0,i,rfl⟩ | ⟨h0,z,hz,rfl,_⟩ | ⟨h0,is,hl,rfl⟩
 ·cases k
  exact ⟨.i i,rfl,h0,Nat.zero_le _⟩
 ·cases k
  exact ⟨.t z,⟨rfl,by omega⟩,⟨h0,by omega⟩,by show z.length≤800; omega⟩
 ·cases k with
  | @tup a xs _ ha kx =>
   have e:xs=is.map V.int:=by
    clear ha hl
    induction is generalizing xs with
    | nil=>cases kx; rfl
    | cons i is ih =>
     cases kx with
     | cons k1 k2 =>
      cases k1
      rw [ih k2]
      rfl
   subst e
   exact ⟨.r is,⟨a,rfl,ha,by omega⟩,⟨h0,by omega⟩,by show is.length≤800; omega⟩
theorem xC {H:Hp} {v:V} {sort:Str} {px px':dy} (hs:gv sort px) (e:px'.kd=px.kd) (h:je H v px'):gv sort px':=by
 cases px with
 | i n =>
  cases px' with
  | i m=>exact hs
  | t z=>cases e
  | r is=>cases e
 | t z =>
  cases px' with
  | i m=>cases e
  | t y=>exact ⟨hs.1,h.2⟩
  | r is=>cases e
 | r is =>
  cases px' with
  | i m=>cases e
  | t y=>cases e
  | r js =>
   obtain ⟨_,_,_,l⟩:=h
   exact ⟨hs.1,l⟩
theorem vM {H:Hp}:∀ {kvs:List (PyData×V)} {ps:List bL} {pvs:List dy} {q:bL} {px:dy},Paired (kP H) kvs (ps.zip pvs)→(ps.map (·.1)).Nodup→(q,px)∈ps.zip pvs→∃ v,cj kvs (bd q.1)=some v∧KnV H v px
 | kvs,[],pvs,q,px,_,_,h=>by simp at h
 | kvs,p::ps,[],q,px,_,_,h=>by simp at h
 | kvs,p::ps,pv::pvs,q,px,pr,n,h=>by
  rw [List.zip_cons_cons] at pr h
  have n':=List.nodup_cons.mp n
  cases pr with
  | @cons kv _ kvs' _ h1 h2 =>
   unfold cj
   by_cases e:p.1=q.1
   ·have:(q,px)=(p,pv):=by
     rcases List.mem_cons.mp h with h | h
     ·exact h
     ·have hm:q∈ps:=(List.of_mem_zip h).1
      exact absurd (by show p.1∈_; rw [e]; exact List.mem_map_of_mem hm) n'.1
    cases this
    rw [List.find?_cons_of_pos (by rw [h1.1]; simp)]
    exact ⟨_,rfl,h1.2⟩
   ·have hm:(q,px)∈ps.zip pvs:=by
     rcases List.mem_cons.mp h with h | h
     ·cases h
      exact absurd rfl e
     ·exact h
    rw [List.find?_cons_of_neg (by rw [h1.1]; simp; exact fun z=>e (fV z))]
    exact vM h2 n'.2 hm
theorem tG {H:Hp} {kvs:List (PyData×V)} {m:Rm} {ps:List bL} {pvs:List dy} (pr:Paired (kP H) kvs (ps.zip pvs)) (nd:(ps.map (·.1)).Nodup) (hn:∀ q∈ps,∀ x∈q.1,x∈NMS) (sk:Paired (fun (pv:dy) (q:bL)=>gv q.2 pv) pvs ps) :
  ∃ bs,Paired (FcV H kvs) (ps.flatMap (aZ m)) bs∧bs.all id=pvs.all (eR m):=by
 have ln:=Paired.length sk
 obtain ⟨bs,h1,h2⟩:=iT (F:=FcV H kvs) (g:=fun x:bL×dy=>aZ m x.1) (h:=fun x=>eR m x.2) (l:=ps.zip pvs) (fun x hx=>by
  obtain ⟨v,hv,hk⟩:=vM pr nd (q:=x.1) (px:=x.2) hx
  have hq:=(List.of_mem_zip hx).1
  refine wA (hn _ hq) hv hk ?_
  obtain ⟨j,hj⟩:=List.getElem?_of_mem hx
  obtain ⟨j1,j2⟩:=List.getElem?_zip_eq_some.mp hj
  obtain ⟨b,hb,sb⟩:=paired_at sk j x.2 j2
  rw [j1] at hb
  cases hb
  exact sb)
 refine ⟨bs,?_,?_⟩
 ·have e:(ps.zip pvs).flatMap (fun x=>aZ m x.1)=ps.flatMap (aZ m):=by
   have:(ps.zip pvs).map Prod.fst=ps:=List.map_fst_zip (by omega)
   conv=>rhs; rw [← this]
   rw [List.flatMap_map]
  rw [← e]
  exact h1
 ·rw [h2]
  have:(ps.zip pvs).map Prod.snd=pvs:=List.map_snd_zip (by omega)
  conv=>rhs; rw [← this]
  rw [List.all_map]
  rfl
theorem FcV.mono {H H':Hp} (t:Tk H H') {kvs:List (PyData×V)} {ft:Fct} {b:Bool} (h:FcV H kvs ft b):FcV H' kvs ft b:=by
 cases h with
 | lo a b=>exact .lo a b
 | hi a b=>exact .hi a b
 | ln a b c=>exact .ln a b (t _ _ c)
 | e1 a b c d=>exact .e1 a b (t _ _ c) d
 | e2 a b c d=>exact .e2 a b (t _ _ c) d
def oy (fp:Addr) (r:Rm) (H:Hp) (v:V) (q:bL):Prop:=∃ l ys es,v=.ref l∧l≠fp∧H l=some (.lst ys)∧bP H ys es∧es.length=cnt r q.2∧∀ e∈es,PcD q.2 e
theorem oy.ext {fp:Addr} {r:Rm} {H H':Hp} (x:Ext fp H H') (t:Tk H H') {v:V} {q:bL} (h:oy fp r H v q):oy fp r H' v q:=by
 obtain ⟨l,ys,es,h1,h2,h3,h4,h5,h6⟩:=h
 exact ⟨l,ys,es,h1,h2,x _ _ h2 h3,h4.mono t,h5,h6⟩
def pO (H:Hp) (v:V) (q:bL):Prop:=∃ e,KAt H v e∧PcD q.2 e
theorem pO.mono {H H':Hp} (t:Tk H H') {v:V} {q:bL} (h:pO H v q):pO H' v q:=let ⟨e,k,p⟩:=h; ⟨e,k.mono t,p⟩
theorem Ay {H:Hp} {fp sc p:Addr} {m:Nat} (h:Fd H fp sc m) (hp:∀ xs,H p≠some (.lst xs)):p≠fp∧p≠sc:=by
 obtain ⟨ns,a,b,c,h1,h2,_⟩:=h
 exact ⟨fun e=>hp _ (e ▸ h1),fun e=>hp _ (e ▸ h2)⟩
theorem zu {H:Hp} {d:Addr} {o:Obj} {kvs:List (PyData×V)} (h:Rd H d (.dT kvs)):Tk H (upd H d (.frz o (.dT kvs))):=fun b xs e=>by
 rw [aW (fun z=>by
  subst z
  rcases h with h | ⟨o',h⟩<;>(rw [h] at e; cases e))]
 exact e
theorem xV {H:Hp} {d:Addr} {kvs:List (PyData×V)} (h:Rd H d (.dT kvs)):∀ xs,H d≠some (.lst xs):=fun xs e=>by
 rcases h with h | ⟨o',h⟩<;>(rw [h] at e; cases e)
theorem nZ {H:Hp}:∀ {vs:List V} {ps:List bL},Paired (pO H) vs ps→∃ ds,bP H vs ds∧Paired (fun d (q:bL)=>PcD q.2 d) ds ps
 | _,_,.nil=>⟨[],.nil,.nil⟩
 | _,_,.cons ⟨e,k,p⟩ r=>let ⟨ds,h1,h2⟩:=nZ r; ⟨e::ds,.cons k h1,.cons p h2⟩
theorem oj {H:Hp}:∀ {vs:List V} {ps:List bL},Paired (pO H) vs ps→∃ pvs,Paired (je H) vs pvs∧Paired (fun (pv:dy) (q:bL)=>gv q.2 pv) pvs ps∧∀ pv∈pvs,pv.len≤800
 | _,_,.nil=>⟨[],.nil,.nil,fun _ z=>nomatch z⟩
 | _,_,.cons ⟨e,k,p⟩ r=>by
  obtain ⟨pvs,h1,h2,h3⟩:=oj r
  obtain ⟨px,a1,a2,a3⟩:=yT k p
  refine ⟨px::pvs,.cons a1 h1,.cons a2 h2,fun pv hpv=>?_⟩
  rcases List.mem_cons.mp hpv with rfl | h
  ·exact a3
  ·exact h3 pv h
theorem ko {α β:Type} {F:α→β→Prop} {v:α} {x:β} (h:F v x):∀ {l:List α} {m:List β} (j:Nat),Paired F l m→Paired F (l.set j v) (m.set j x)
 | _,_,_,.nil=>by simpa using Paired.nil
 | _,_,0,.cons _ r=>.cons h r
 | _,_,j+1,.cons h1 r=>.cons h1 (ko h j r)
theorem iP {α β:Type} {F:α→β→Prop} {v:α}:∀ {l:List α} {m:List β} (j:Nat),Paired F l m→(∀ x,m[j]?=some x→F v x)→Paired F (l.set j v) m
 | _,_,_,.nil,_=>by simpa using Paired.nil
 | _,_,0,.cons _ r,h=>.cons (h _ rfl) r
 | _,_,j+1,.cons h1 r,h=>.cons h1 (iP j r fun x hx=>h x (by simpa using hx))
section
variable {P:Program} {w:World} {K:Frag} {mg:Str→Option Value} {base:Heap} {f g:Addr} {fd gd:FuncData}
abbrev ld:List Str:=["_law_script", "_law_feed_here", "_law_k", "_law_program", "_law_f", "_law_room_here", "_law_paths_here", "_law_facts", "_law_j", "_law_given", "_law_at", "_law_known_here", "_law_due"]
abbrev nO:List Str:=["_law_fact", "_law_known_here"]
theorem rS:nO.Nodup:=by decide +kernel
abbrev nR:List Str:=["_law_value", "_law_room_here"]
theorem tD:nR.Nodup:=by decide +kernel
abbrev nY:List Str:=["_law_some", "_law_feed_here"]
theorem sE:nY.Nodup:=by decide +kernel
abbrev ou:List Str:=["_law_sort", "_law_room_here"]
theorem sL:ou.Nodup:=by decide +kernel
abbrev oE:List Str:=["_law_fact", "_law_paths_here"]
theorem sg:oE.Nodup:=by decide +kernel
theorem cC:aU ld ["_law_script"] (defScope gZ):=⟨rfl,rfl,rfl,by decide +kernel,rfl,by decide +kernel,by decide +kernel⟩
theorem yQ (T:G0 mg) (F:Fun K "law" "law" gZ f fd) (D_l_feed:Cal P w K mg base 1 "_law_feed" ["_law_script"] (An K)) (D_l_headed:Cal P w K mg base 2 "_law_headed" ["_law_feed_here"] zW) (D_l_draw:Cal P w K mg base 1 "_law_draw" ["_law_feed_here", "_law_many_here"] vO) (D_l_room:Cal P w K mg base 7 "_law_room" ["_law_feed_here", "_law_program", "_law_f", "_law_most"] Aq) (D_l_paths:Cal P w K mg base 6 "_law_paths" ["_law_program", "_law_f"] rA) (D_room_facts:Cal P w K mg base 7 "room_facts" ["program", "f", "room"] Ab) (D_l_is_spec:Cal P w K mg base 4 "_law_is_spec" ["_law_paths_here", "_law_fact"] og) (D_l_all:Cal P w K mg base 1 "_law_all" pAl yc) (D_l_other:Cal P w K mg base 2 "_law_other" ["_law_feed_here", "_law_value"] rH) (D_l_known:Cal P w K mg base 1 "_law_known" ["_law_paths_here", "_law_given"] qK) (D_l_is_in:Cal P w K mg base 1 "_law_is_in" ["_law_room_here", "_law_value"] wt) (D_l_holds:Cal P w K mg base 3 "_law_holds" ["_law_known_here", "_law_fact"] rJ):bI P w K mg base CX0 8 f fd ["_law_script"] (uB K):=by
 obtain ⟨g_l_holds,gd_l_holds,G_l_holds,b_l_holds,k_l_holds,m_l_holds⟩:=D_l_holds.ex
 obtain ⟨g_l_is_in,gd_l_is_in,G_l_is_in,b_l_is_in,k_l_is_in,m_l_is_in⟩:=D_l_is_in.ex
 obtain ⟨g_l_known,gd_l_known,G_l_known,b_l_known,k_l_known,m_l_known⟩:=D_l_known.ex
 obtain ⟨g_l_draw,gd_l_draw,G_l_draw,b_l_draw,k_l_draw,m_l_draw⟩:=D_l_draw.ex
 obtain ⟨g_l_other,gd_l_other,G_l_other,b_l_other,k_l_other,m_l_other⟩:=D_l_other.ex
 obtain ⟨g_l_all,gd_l_all,G_l_all,b_l_all,k_l_all,m_l_all⟩:=D_l_all.ex
 obtain ⟨g_l_is_spec,gd_l_is_spec,G_l_is_spec,b_l_is_spec,k_l_is_spec,m_l_is_spec⟩:=D_l_is_spec.ex
 obtain ⟨g_room_facts,gd_room_facts,G_room_facts,b_room_facts,k_room_facts,m_room_facts⟩:=D_room_facts.ex
 obtain ⟨g_l_paths,gd_l_paths,G_l_paths,b_l_paths,k_l_paths,m_l_paths⟩:=D_l_paths.ex
 obtain ⟨g_l_room,gd_l_room,G_l_room,b_l_room,k_l_room,m_l_room⟩:=D_l_room.ex
 obtain ⟨g_l_headed,gd_l_headed,G_l_headed,b_l_headed,k_l_headed,m_l_headed⟩:=D_l_headed.ex
 obtain ⟨g_l_feed,gd_l_feed,G_l_feed,b_l_feed,k_l_feed,m_l_feed⟩:=D_l_feed.ex
 refine F.ok cC (fun vs H Q E h=>?_) (fun cdv A outer s H vs Q E hr h=>?_)
 ·obtain ⟨a,ns,rfl,_⟩:=h
  rfl
 obtain ⟨a,ns,rfl,ha,q⟩:=h
 refine ⟨_,(@ak _ _ _ _ _ (@aB _ _ 1 _ _ _ _ cC.nd rfl (Or.inr rfl) (@au _ _ _ _ _ _ _ _ _ _ _ _ _ _ _ _ G_l_feed (hr.mono (by omega)) rfl m_l_feed k_l_feed b_l_feed .nil aO (@ad _ _ _ _ _ (pv 0) ah (ac rfl)) (by decide) (ac rfl) (aj rfl)) (ap rfl) (.inl rfl)) (@ak _ _ _ _ _ (@bF _ _ _ _ _ _ _ _ PassesOwn.never rfl (cX rfl T.range (@ad _ _ _ _ _ ag ah (ac rfl))) (ax (i:=2) cC.nd rfl (Or.inl rfl)) (@ak _ _ _ _ _ (@aB _ _ 3 _ _ _ _ cC.nd rfl (Or.inl rfl) (@au _ _ _ _ _ _ _ _ _ _ _ _ _ _ _ _ G_l_headed (hr.mono (by omega)) rfl m_l_headed k_l_headed b_l_headed .nil aO (@ad _ _ _ _ _ (pv 1) ah (ac rfl)) (by decide) (ac rfl) (aj rfl)) (ap rfl) (.inr rfl)) (@ak _ _ _ _ _ (@aB _ _ 4 _ _ _ _ cC.nd rfl (Or.inl rfl) (@au _ _ _ _ _ _ _ _ _ _ _ _ _ _ _ _ G_l_draw (hr.mono (by omega)) rfl m_l_draw k_l_draw b_l_draw .nil aO (@ad _ _ _ _ _ (pv 1) (@ad _ _ _ _ _ (@ay _ _ _ _ _ _ _ _ _ aI rfl T.len cp (@ad _ _ _ _ _ (@aq _ _ _ _ _ _ _ aw (pv 3) ag (fun _ _=>rfl)) ah (ac rfl)) (by decide) (by decide) (ac rfl) (aj rfl)) ah (ac rfl)) (ac rfl)) (by decide) (ac rfl) (aj rfl)) (ap rfl) (.inr rfl)) (@ak _ _ _ _ _ (@aB _ _ 5 _ _ _ _ cC.nd rfl (Or.inr rfl) (@au _ _ _ _ _ _ _ _ _ _ _ _ _ _ _ _ G_l_room (hr.mono (by omega)) rfl m_l_room k_l_room b_l_room .nil aO (@ad _ _ _ _ _ (pv 1) (@ad _ _ _ _ _ (pv 3) (@ad _ _ _ _ _ (pv 4) (@ad _ _ _ _ _ ag ah (ac rfl)) (ac rfl)) (ac rfl)) (ac rfl)) (by decide) (ac rfl) (aj rfl)) (ap rfl) (.inl rfl)) (@ak _ _ _ _ _ (@aB _ _ 6 _ _ _ _ cC.nd rfl (Or.inr rfl) (@au _ _ _ _ _ _ _ _ _ _ _ _ _ _ _ _ G_l_paths (hr.mono (by omega)) rfl m_l_paths k_l_paths b_l_paths .nil aO (@ad _ _ _ _ _ (pv 3) (@ad _ _ _ _ _ (pv 4) ah (ac rfl)) (ac rfl)) (by decide) (ac rfl) (aj rfl)) (ap rfl) (.inl rfl)) (@ak _ _ _ _ _ (@aB _ _ 7 _ _ _ _ cC.nd rfl (Or.inl rfl) (@au _ _ _ _ _ _ _ _ _ _ _ _ _ _ _ _ G_room_facts (hr.mono (by omega)) rfl m_room_facts k_room_facts b_room_facts .nil aO (@ad _ _ _ _ _ (pv 3) (@ad _ _ _ _ _ (@aq _ _ _ _ _ _ _ aw (@aq _ _ _ _ _ _ _ aw (@aq _ _ _ _ _ _ _ aw (pv 3) ag (fun _ _=>rfl)) (pv 4) (fun _ _=>rfl)) ag (fun _ _=>rfl)) (@ad _ _ _ _ _ (pv 5) ah (ac rfl)) (ac rfl)) (ac rfl)) (by decide) (ac rfl) (aj rfl)) (ap rfl) (.inr rfl)) (@ak _ _ _ _ _ (@bf _ _ _ _ _ _ _ _ (PW.pt (dE (cU (bV (@ay _ _ _ _ _ _ _ _ _ bv rfl T.isi dz (@ad _ _ _ _ _ (pv 7) (@ad _ _ _ _ _ (bR (v:=.ty "list") rfl T.list mH rfl) ah (ac rfl)) (ac rfl)) (by decide) (by decide) (ac rfl) (aj rfl)))) (eX (@aC _ _ _ _ _ _ _ _ fU cH (bM (N':=oE) (ρ:=[none,some 6]) (m:=1) (bH.of (fs:=defScope gZ) (N:=ld) rfl rfl (by decide +kernel)) rfl (br (pv 7)) (fun _ _ _ _=>(ax (i:=0) sg rfl (Or.inl rfl))) (fun _ _ _ _=>bu) (fun _ _ _ _=>(au G_l_is_spec (hr.mono (by omega)) rfl m_l_is_spec k_l_is_spec b_l_is_spec .nil aO (ad (pv 1) (ad (pv 0) ah))))) rfl)))) (@ao _ _ _ (@aH _ _ _ _ cH)) aS) (@ao _ _ _ (@bF _ _ _ _ _ _ _ _ PassesOwn.never rfl (cX rfl T.range (@ad _ _ _ _ _ ag ah (ac rfl))) (ax (i:=8) cC.nd rfl (Or.inl rfl)) (@ak _ _ _ _ _ (fN (i:=9) (N':=ou) (ρ:=[none,some 5]) (m:=1) (bH.of (fs:=defScope gZ) (N:=ld) rfl rfl (by decide +kernel)) cC.nd rfl (Or.inl rfl) rfl (xu (pv 6)) (fun _ _ _ _=>(ax (i:=0) sL rfl (Or.inl rfl))) (fun _ _ _ _=>bu) (fun _ _ _ _=>(au G_l_all (hr.mono (by omega)) rfl m_l_all k_l_all b_l_all .nil aO (ad (pv 1) (ad (pv 0) ah))))) (@ak _ _ _ _ _ (fN (i:=9) (N':=nY) (ρ:=[none,some 1]) (m:=1) (bH.of (fs:=defScope gZ) (N:=ld) rfl rfl (by decide +kernel)) cC.nd rfl (Or.inl rfl) rfl (br (pv 9)) (fun _ _ _ _=>(ax (i:=0) sE rfl (Or.inl rfl))) (fun _ _ _ _=>bu) (fun _ _ _ _=>(aq (jG (K:=K) rfl) (pv 0) (au G_l_draw (hr.mono (by omega)) rfl m_l_draw k_l_draw b_l_draw .nil aO (ad (pv 1) (ad (ay (dH (K:=K) rfl) rfl T.len cp (ad (pv 0) ah)) ah))) (fun _ _=>rfl)))) (@ak _ _ _ _ _ (@bf _ _ _ _ _ _ _ _ (PW.pt (pV (@aC _ _ _ _ _ _ _ _ (zl hr.units) (pv 9) (@aY _ _ _ _ ah) (aD _)) (ml (@aC _ _ _ _ _ _ _ _ jJ (@au _ _ _ _ _ _ _ _ _ _ _ _ _ _ _ _ G_l_draw (hr.mono (by omega)) rfl m_l_draw k_l_draw b_l_draw .nil aO (@ad _ _ _ _ _ (pv 1) (@ad _ _ _ _ _ ag ah (ac rfl)) (ac rfl)) (by decide) (ac rfl) (aj rfl)) ag (aD _))))) (@ak _ _ _ _ _ (@aB _ _ 10 _ _ _ _ cC.nd rfl (Or.inl rfl) (@au _ _ _ _ _ _ _ _ _ _ _ _ _ _ _ _ G_l_draw (hr.mono (by omega)) rfl m_l_draw k_l_draw b_l_draw .nil aO (@ad _ _ _ _ _ (pv 1) (@ad _ _ _ _ _ (@ay _ _ _ _ _ _ _ _ _ aI rfl T.len cp (@ad _ _ _ _ _ (pv 9) ah (ac rfl)) (by decide) (by decide) (ac rfl) (aj rfl)) ah (ac rfl)) (ac rfl)) (by decide) (ac rfl) (aj rfl)) (ap rfl) (.inr rfl)) (@ao _ _ _ (@dc _ _ _ _ _ _ (@au _ _ _ _ _ _ _ _ _ _ _ _ _ _ _ _ G_l_other (hr.mono (by omega)) rfl m_l_other k_l_other b_l_other .nil aO (@ad _ _ _ _ _ (pv 1) (@ad _ _ _ _ _ (@aq _ _ _ _ _ _ _ aM (pv 9) (pv 10) (fun _ _=>rfl)) ah (ac rfl)) (ac rfl)) (by decide) (ac rfl) (aj rfl)) (cS (pv 9) (pv 10) bS) rfl rfl rfl))) aS) (@ak _ _ _ _ _ (@aB _ _ 11 _ _ _ _ cC.nd rfl (Or.inr rfl) (@au _ _ _ _ _ _ _ _ _ _ _ _ _ _ _ _ G_l_known (hr.mono (by omega)) rfl m_l_known k_l_known b_l_known .nil aO (@ad _ _ _ _ _ (pv 6) (@ad _ _ _ _ _ (pv 9) ah (ac rfl)) (ac rfl)) (by decide) (ac rfl) (aj rfl)) (ap rfl) (.inl rfl)) (@ak _ _ _ _ _ (@aB _ _ 12 _ _ _ _ cC.nd rfl (Or.inl rfl) (@bw _ _ _ _ _ _ _ _ cn cH (bM (N':=nR) (ρ:=[none,some 5]) (m:=1) (bH.of (fs:=defScope gZ) (N:=ld) rfl rfl (by decide +kernel)) rfl (br (pv 9)) (fun _ _ _ _=>(ax (i:=0) tD rfl (Or.inl rfl))) (fun _ _ _ _=>bu) (fun _ _ _ _=>(au G_l_is_in (hr.mono (by omega)) rfl m_l_is_in k_l_is_in b_l_is_in .nil aO (ad (pv 1) (ad (pv 0) ah))))) rfl) (ap rfl) (.inr rfl)) (@ao _ _ _ (@bf _ _ _ _ _ _ _ _ (@aC _ _ _ _ _ _ _ _ lV (pv 12) (@bw _ _ _ _ _ _ _ _ cn cH (bM (N':=nO) (ρ:=[none,some 11]) (m:=1) (bH.of (fs:=defScope gZ) (N:=ld) rfl rfl (by decide +kernel)) rfl (br (pv 7)) (fun _ _ _ _=>(ax (i:=0) rS rfl (Or.inl rfl))) (fun _ _ _ _=>bu) (fun _ _ _ _=>(au G_l_holds (hr.mono (by omega)) rfl m_l_holds k_l_holds b_l_holds .nil aO (ad (pv 1) (ad (pv 0) ah))))) rfl) (aD _)) (@ao _ _ _ (@aH _ _ _ _ cH)) aS))))))) (fun _=>rfl))))))))) (fun _=>rfl)) (@ao _ _ _ (@aH _ _ _ _ cH)))),?_⟩
 refine ⟨_,rfl,a,ns,rfl,ha,fun fp sc H1 g1 hfn f1=>?_⟩
 refine ⟨4,rfl,by decide,by decide,dM (n:=4) (fun k σ H'=>∃ m2 m3 m4 m5 m6 m7 m8 m9 m10 m11 m12,σ=[some (.ref a),some (.ref fp),m2,m3,m4,m5,m6,m7,m8,m9,m10,m11,m12]∧Fd H' fp sc (2000*k)) ⟨_,_,_,_,_,_,_,_,_,_,_,rfl,f1⟩ (fun k σ H2 hk p=>?_) (fun σ H2 p=>?_)⟩
 rotate_left
 ·obtain ⟨_,_,_,_,_,_,_,_,_,_,_,rfl,_⟩:=p
  exact q _
 obtain ⟨m2,m3,m4,m5,m6,m7,m8,m9,m10,m11,m12,rfl,f2⟩:=p
 refine ⟨_,rfl,fp,sc,_,rfl,f2,by omega,fun pg R FS H3 x3 f3 hpg hok hl1 hl3 hnd=>?_⟩
 obtain ⟨pa,py,pb,fxs,rfl,hpa,hRc,hpb,pF⟩:=id hpg
 have lF:=Paired.length pF
 refine ⟨_,rfl,_,rfl,pa,_,_,_,rfl,rfl,SqT.of hpa,rfl,pb,fxs,rfl,.inr (SqT.of hpb),fp,_,sc,_,rfl,f3,by omega,by omega,by omega,fun v H4 a4 b4 x4 f4=>?_⟩
 obtain ⟨i,rfl⟩:∃ i:Nat,v=(i:Int):=⟨v.toNat,by omega⟩
 obtain ⟨FF,hF⟩:∃ FF,FS[i]?=some FF:=⟨_,List.getElem?_eq_getElem (by omega)⟩
 have hpg4:=hpg.mono (f3.tk x4)
 refine ⟨_,rfl,_,rfl,_,rfl,fp,sc,_,_,i,R,FS,FF,rfl,f4,by omega,hpg4,hok,hF,fun rv r H5 x5 f5 hrm hrk hmn=>?_⟩
 have hpg5:=hpg4.mono (f4.tk x5)
 refine ⟨_,rfl,_,rfl,_,i,R,FS,FF,rfl,hpg5,hok,hnd,hF,fun pd H6 g6 hpd0 hpd=>?_⟩
 have hpg6:=hpg5.mono (am g6)
 have hrm6:=hrm.mono (am g6)
 have f6:=f5.same g6
 have hFm:=List.mem_of_getElem? hF
 obtain ⟨hl,hDp⟩:=hok.fl FF hFm
 obtain ⟨ndp,nmp⟩:=yw hnd.1 (hnd.2 FF hFm)
 have lpp:=jt (R:=R) (n:=4) (by decide) hl hDp
 have plp:∀ q∈ppM R 4 FF.2,q.2∈PL:=fun q hq=>(rm hq).1
 have cnp:∀ q∈ppM R 4 FF.2,cnt r q.2≤40:=fun q hq=>uM hrk hmn hq
 obtain ⟨c,b2,y2,l2,z2,hfx,hc⟩:∃ c b2 y2 l2 z2,fxs[i]?=some (.ref c)∧H3 c=some (.tup [.str FF.1,b2,y2,l2,z2]):=by
  obtain ⟨fx,h1⟩:∃ fx,fxs[i]?=some fx:=⟨_,List.getElem?_eq_getElem (by omega)⟩
  obtain ⟨F2,h2,h3⟩:=paired_at pF i fx h1
  rw [hF] at h2
  cases h2
  obtain ⟨c,yy,l0,b',rfl,hc,pb,xs,rfl,hpb,rs⟩:=h3
  exact ⟨c,_,_,_,_,h1,hc⟩
 have t36:Tk H3 H6:=((f3.tk x4).trans (f4.tk x5)).trans (am g6)
 refine ⟨_,rfl,_,rfl,pa,_,_,_,rfl,rfl,SqT.of (t36 _ _ hpa),rfl,_,rfl,pb,_,_,_,rfl,rfl,SqT.of (t36 _ _ hpb),yR hfx,c,_,_,_,rfl,rfl,SqT.of (t36 _ _ hc),rfl,_,rfl,_,FF.1,R,FS,FF,rv,r,rfl,hpg6,nT hok.fn hF,hl,hDp,hrm6,fun fl ys H7 g7 hfl0 hfl kfs=>?_⟩
 have f7:=f6.same g7
 have hpd7:=g7 _ _ hpd
 have hrm7:=hrm6.mono (am g7)
 have lys:ys.length≤729:=by
  rw [cu kfs,List.length_map]
  have:=ca (l:=ppM R 4 FF.2) (g:=aZ r) (b:=3) fun q _=>by
   unfold aZ
   split<;>simp
  omega
 refine ⟨_,rfl,_,_,_,true,rfl,.lst hfl,rfl,_,rfl,bU ?_⟩
 refine ⟨_,rfl,fl,rfl,⟨_,SqL.of hfl⟩,bn (xs:=ys) ys.length rfl (by omega) (fun j acc H'=>aA H7 H'∧acc=(List.replicate j true).map V.bl) ⟨aA.refl _,rfl⟩ (fun j acc H' p=>SqL.of (p.1 _ _ hfl)) (fun j acc H8 x hj la hx p=>?_) (fun acc H8 p la D hD=>?_)⟩
 ·obtain ⟨g8,rfl⟩:=p
  obtain ⟨d,hd,kd⟩:=eU kfs j x hx
  rw [List.getElem?_map] at hd
  obtain ⟨ft,hft,rfl⟩:=Option.map_eq_some_iff.mp hd
  have hok':qH ((ppM R 4 FF.2).map kvq) ft:=by
   obtain ⟨q,hq,hf⟩:=List.mem_flatMap.mp (List.mem_of_getElem? hft)
   exact zD (nmp q hq) (qT ndp hq) (plp q hq) ft hf
  refine ⟨⟨rfl,rfl⟩,bo ?_⟩
  refine ⟨_,rfl,_,rfl,pd,_,x,ft,rfl,g8 _ _ hpd7,kd.mono (am g8),hok',fun H9 g9=>nxT (by omega) hj la ⟨g8.trans g9,?_⟩⟩
  rw [List.replicate_succ',List.map_append]
  rfl
 obtain ⟨g8,rfl⟩:=p
 have gD:=g8.trans (af hD (.lst ((List.replicate ys.length true).map V.bl)))
 refine ⟨D,_,rfl,.inl (SqL.of ae),rfl,cP _,?_⟩
 generalize (upd H8 D (.lst ((List.replicate ys.length true).map V.bl)))=H9 at gD
 have eF:inV (.bl false) ((List.replicate ys.length true).map V.bl)=false:=by
  rw [jY]
  simp
 refine ⟨_,rfl,?_⟩
 rw [show (if false=true then !inV (.bl false) ((List.replicate ys.length true).map V.bl) else inV (.bl false) ((List.replicate ys.length true).map V.bl))=false from eF]
 refine bU ?_
 have f9:=f7.same gD
 refine ⟨6,rfl,by decide,by decide,dM (n:=6) (fun j σ H'=>∃ m8 m9 m10 m11 m12,σ=[some (.ref a),some (.ref fp),some (.int (0+(k:Int))),some (.ref pa),some (.int (i:Int)),some rv,some (.ref pd),some (.ref fl),m8,m9,m10,m11,m12]∧Fd H' fp sc (2000*k+33+300*j)∧mf H' rv r∧Rd H' pd (.dT ((ppM R 4 FF.2).map kvq))∧H' fl=some (.lst ys)∧bP H' ys (((ppM R 4 FF.2).flatMap (aZ r)).map Fct.d)) ⟨_,_,_,_,_,rfl,f9.le (by omega),hrm7.mono (am gD),.inl (gD _ _ hpd7),gD _ _ hfl,kfs.mono (am gD)⟩ (fun j σ HA hj p=>?_) (fun σ HA p=>?_)⟩
 rotate_left
 ·obtain ⟨_,_,_,_,_,rfl,fA,_⟩:=p
  exact ⟨_,_,_,_,_,_,_,_,_,_,_,rfl,fA.le (by omega)⟩
 have nfl:=(f6.ne hfl0).1
 clear gD g8 f9 eF hfl kfs hfl0 hpd7 hrm7 f7 g7 hrm6 hpg6 f6 hpd g6
 obtain ⟨m8,m9,m10,m11,m12,rfl,fA,hrmA,hpdA,hflA,kfA⟩:=p
 generalize hps:ppM R 4 FF.2=ps at *
 refine ⟨_,rfl,pd,_,rfl,hpdA,fun ob=>?_⟩
 have npd:=Ay fA (xV hpdA)
 have tB:=zu (o:=ob) hpdA
 have fB:=fA.upd (o:=.frz ob (.dT (ps.map kvq))) npd
 have hflB:(upd HA pd (.frz ob (.dT (ps.map kvq)))) fl=some (.lst ys):=by
  rw [aW (fun e=>xV hpdA _ (e ▸ hflA))]
  exact hflA
 have hpdB:(upd HA pd (.frz ob (.dT (ps.map kvq)))) pd=some (.frz ob (.dT (ps.map kvq))):=ae
 have hrmB:=hrmA.mono tB
 have kfB:=kfA.mono tB
 generalize (upd HA pd (.frz ob (.dT (ps.map kvq))))=HB at tB fB hflB hpdB hrmB kfB
 clear fA hflA hpdA hrmA kfA
 refine rT (d:=pd) (o:=ob) (kvs:=ps.map kvq) ps.length (by rw [List.length_map]) (by omega) (fun n acc H'=>aA HB H'∧Paired (oy fp r H') acc (ps.take n)) ⟨aA.refl _,.nil⟩ (fun n acc H' p=>p.1 _ _ hpdB) (fun n acc HC kk x hn la hx p=>?_) (fun acc HC p la D hD=>?_)
 ·obtain ⟨gC,pC⟩:=p
  rw [List.getElem?_map] at hx
  obtain ⟨q,hq,eq⟩:=Option.map_eq_some_iff.mp hx
  cases eq
  have hqm:=List.mem_of_getElem? hq
  refine ⟨⟨rfl,rfl⟩,bo ?_⟩
  refine ⟨_,rfl,_,rfl,rv,r,q.2,rfl,hrmB.mono (am gC),hrk,plp q hqm,cnp q hqm,fun l ys2 es HD gD hl0 hl kes les pes=>nxT (by omega) hn la ⟨gC.trans gD,?_⟩⟩
  rw [List.take_add_one,hq]
  exact Paired.app (Paired.mapP pC fun _ _ z=>z.ext (aA.ext gD) (am gD)) (.cons ⟨l,ys2,es,rfl,((fB.same gC).ne hl0).1,hl,kes,les,pes⟩ .nil)
 obtain ⟨gC,pC⟩:=p
 rw [List.take_length] at pC
 have gD:=gC.trans (af hD (.lst acc))
 have hDl:(upd HC D (.lst acc)) D=some (.lst acc):=ae
 have pD:Paired (oy fp r (upd HC D (.lst acc))) acc ps:=Paired.mapP pC fun _ _ z=>z.ext (aA.ext (af hD _)) (am (af hD _))
 have nD:=((fB.same gC).ne hD).1
 generalize (upd HC D (.lst acc))=HE at gD hDl pD
 have lacc:=Paired.length pD
 have fE:=fB.same gD
 refine ⟨_,rfl,D,rfl,⟨_,SqL.of hDl⟩,bn (xs:=acc) acc.length rfl (by omega) (fun n acc2 H'=>Ext fp HE H'∧Fd H' fp sc (2000*k+33+300*j+n)∧Paired (pO H') acc2 (ps.take n)) ⟨Ext.refl _ _,fE,.nil⟩ (fun n acc2 H' p=>SqL.of (p.1 _ _ nD hDl)) (fun n acc2 HF x hn la2 hx p=>?_) (fun acc2 HF p la2 G hG=>?_)⟩
 ·obtain ⟨xF,fF,pF2⟩:=p
  obtain ⟨q,hq,l,ys2,es,rfl,nl,hl',kes,les,pes⟩:=paired_at pD n x hx
  have hqm:=List.mem_of_getElem? hq
  have lF2:=xF _ _ nl hl'
  have lys2:=cu kes
  have c1:=rC hrk q.2
  have c2:=cnp q hqm
  refine ⟨⟨rfl,rfl⟩,bo ?_⟩
  refine ⟨_,rfl,_,rfl,_,rfl,l,ys2,rfl,.inl (SqL.of lF2),fp,_,sc,_,rfl,fF,by omega,by omega,by omega,fun v HG aG bG xG fG=>?_⟩
  obtain ⟨u,hu,_,hat⟩:=du aG bG
  obtain ⟨e,he,ke⟩:=uK kes u hu
  refine ⟨l,_,_,_,rfl,rfl,SqL.of (xG _ _ nl lF2),hat,nxT (by omega) hn la2 ⟨xF.trans xG,fG,?_⟩⟩
  rw [List.take_add_one,hq]
  exact Paired.app (Paired.mapP pF2 fun _ _ z=>z.mono (fF.tk xG)) (.cons ⟨e,ke.mono (fE.tk (xF.trans xG)),pes e he⟩ .nil)
 obtain ⟨xF,fF,pF2⟩:=p
 rw [lacc,List.take_length] at pF2
 have sG:=af hG (.lst acc2)
 have tF:=(am gD).trans (fE.tk xF)
 have hflG:=sG _ _ (xF _ _ nfl (gD _ _ hflB))
 have hpdG:=sG _ _ (xF _ _ npd.1 (gD _ _ hpdB))
 have hrmG:=(hrmB.mono tF).mono (am sG)
 have kfG:=(kfB.mono tF).mono (am sG)
 have fG:=fF.same sG
 have pG:Paired (pO (upd HF G (.lst acc2))) acc2 ps:=Paired.mapP pF2 fun _ _ z=>z.mono (am sG)
 have nG:=(fF.ne hG).1
 have hGl:(upd HF G (.lst acc2)) G=some (.lst acc2):=ae
 generalize (upd HF G (.lst acc2))=HG at sG hflG hpdG hrmG kfG fG pG hGl
 have lac2:=Paired.length pG
 obtain ⟨pvs,pv1,pv2,pv3⟩:=oj pG
 have nGf:G≠fl:=fun e=>by
  have h1:=xF _ _ nfl (gD _ _ hflB)
  rw [← e,hG] at h1
  cases h1
 have nGp:G≠pd:=fun e=>by rw [e,hpdG] at hGl; cases hGl
 dsimp only [jD]
 refine df (fun σ H'=>∃ ys2 pvs m10,σ=[some (.ref a),some (.ref fp),some (.int (0+(k:Int))),some (.ref pa),some (.int (i:Int)),some rv,some (.ref pd),some (.ref fl),some (.int (0+(j:Int))),some (.ref G),m10,m11,m12]∧Fd H' fp sc (2000*k+33+300*j+250)∧mf H' rv r∧H' pd=some (.frz ob (.dT (ps.map kvq)))∧H' fl=some (.lst ys)∧bP H' ys ((ps.flatMap (aZ r)).map Fct.d)∧H' G=some (.lst ys2)∧Paired (je H') ys2 pvs∧Paired (fun (pv:dy) (q:bL)=>gv q.2 pv) pvs ps) (fun NX hNX=>?_) (fun σ HH jj=>?_)
 ·refine ⟨_,rfl,(by show 0≤sizeLine; decide),fun ne he=>?_⟩
  have sI:=af he (.lst [])
  have hnil:(upd HG ne (.lst [])) ne=some (.lst []):=ae
  have fI:=fG.same sI
  generalize (upd HG ne (.lst []))=HI at sI hnil fI
  have out:∀ {H':Hp} {m:Nat},Ext fp HI H'→Fd H' fp sc (2000*k+33+300*j+m)→m≤250→∀ m10,NX [some (.ref a),some (.ref fp),some (.int (0+(k:Int))),some (.ref pa),some (.int (i:Int)),some rv,some (.ref pd),some (.ref fl),some (.int (0+(j:Int))),some (.ref G),m10,m11,m12] H':=by
   intro H' m xI fI' hm m10
   have tI:=(am sI).trans (fI.tk xI)
   exact hNX _ _ ⟨acc2,pvs,m10,rfl,fI'.le (by omega),hrmG.mono tI,xI _ _ npd.1 (sI _ _ hpdG),xI _ _ nfl (sI _ _ hflG),kfG.mono tI,xI _ _ nG (sI _ _ hGl),Paired.mapP pv1 fun _ _ z=>z.mono tI,pv2⟩
  obtain ⟨ds,kds,pds⟩:=nZ pG
  obtain ⟨pk1,pk2⟩:=yZ pds
  have lds:=cu kds
  refine ⟨.list ds,.list [],.lst (SqL.of (sI _ _ hGl)) (eZ (kds.mono (am sI))),.lst (SqL.of hnil) .nil,(lD pk1 (by omega)).1,rfl,?_⟩
  refine ⟨_,rfl,?_⟩
  refine bh (fun c=>?_) (fun c=>?_)
  rotate_left
  ·exact out (Ext.refl _ _) (m:=250) (fI.le (by omega)) (by omega) _
  have nz:0<acc2.length:=by
   rcases Nat.eq_zero_or_pos acc2.length with h0 | h0
   ·have:ds=[]:=List.eq_nil_of_length_eq_zero (by omega)
    subst this
    exact absurd c (by decide)
   ·exact h0
  refine ⟨_,rfl,fp,4,sc,_,rfl,fI,by omega,by decide,by decide,fun v HJ aJ bJ xJ fJ=>?_⟩
  refine ⟨_,_,rfl,rfl,_,rfl,?_⟩
  refine bh (fun c2=>?_) (fun c2=>?_)
  rotate_left
  ·exact out xJ (m:=250) (fJ.le (by omega)) (by omega) _
  have hGJ:=xJ _ _ nG (sI _ _ hGl)
  refine ⟨_,rfl,_,rfl,G,acc2,rfl,.inl (SqL.of hGJ),fp,_,sc,_,rfl,fJ,by omega,by omega,by omega,fun at_ HK aK bK xK fK=>?_⟩
  obtain ⟨u,hu,hui,hat⟩:=du aK bK
  have hGK:=xK _ _ nG hGJ
  obtain ⟨px,hpx,hpv⟩:=paired_at pv1 at_.toNat u hui
  have xIK:=xJ.trans xK
  have tK:=(am sI).trans (fI.tk xIK)
  refine ⟨_,rfl,_,rfl,_,rfl,G,_,_,_,rfl,rfl,SqL.of hGK,hat,fp,sc,_,u,px,rfl,fK,by omega,hpv.mono tK,pv3 px (List.mem_of_getElem? hpx),fun v' px' HL xL fL hv' kd=>?_⟩
  have hGL:=xL _ _ nG hGK
  have ixa:ixN acc2.length at_=some at_.toNat:=by unfold ixN; rw [if_pos aK,if_pos (by omega)]
  have xIL:=xIK.trans xL
  have tL:=(am sI).trans (fI.tk xIL)
  have tM:=cy hGL (.lst (acc2.set at_.toNat v'))
  have nGs:G≠sc:=(fF.ne hG).2
  refine ⟨_,rfl,_,rfl,G,acc2,at_,at_.toNat,rfl,rfl,hGL,ixa,hNX _ _ ⟨acc2.set at_.toNat v',pvs.set at_.toNat px',_,rfl,(fL.upd ⟨nG,nGs⟩).le (by omega),(hrmG.mono tL).mono tM,?_,?_,(kfG.mono tL).mono tM,ae,ko (hv'.mono tM) _ (Paired.mapP pv1 fun _ _ z=>(z.mono tL).mono tM),iP _ pv2 fun q hq=>?_⟩⟩
  ·rw [aW nGp.symm]
   exact xIL _ _ npd.1 (sI _ _ hpdG)
  ·rw [aW nGf.symm]
   exact xIL _ _ nfl (sI _ _ hflG)
  ·obtain ⟨q',hq',sq⟩:=paired_at pv2 at_.toNat px hpx
   rw [hq] at hq'
   cases hq'
   exact xC sq kd hv'
 obtain ⟨ys2,pvs2,m10',rfl,fH,hrmH,hpdH,hflH,kfH,hGH,pvH,svH⟩:=jj
 have lsv:=Paired.length svH
 have lpv:=Paired.length pvH
 refine ⟨_,rfl,_,rfl,pd,G,ps,ys2,pvs2,rfl,.inr ⟨ob,hpdH⟩,ndp,by omega,hGH,pvH,lsv.symm,fun kd kvs HI gI hkd pkn=>?_⟩
 have hGI:=gI _ _ hGH
 have hrmI:=hrmH.mono (am gI)
 refine ⟨_,rfl,G,rfl,⟨_,SqL.of hGI⟩,bn (xs:=ys2) ys2.length rfl (by omega) (fun n acc H'=>aA HI H'∧acc=((pvs2.take n).map (eR r)).map V.bl) ⟨aA.refl _,rfl⟩ (fun n acc H' p=>SqL.of (p.1 _ _ hGI)) (fun n acc HJ x hn la hx p=>?_) (fun acc HJ p la DJ hDJ=>?_)⟩
 ·obtain ⟨gJ,rfl⟩:=p
  obtain ⟨px,hpx,hv⟩:=paired_at pvH n x hx
  refine ⟨⟨rfl,rfl⟩,bo ?_⟩
  refine ⟨_,rfl,_,rfl,rv,r,x,px,rfl,hrmI.mono (am gJ),(hv.mono (am gI)).mono (am gJ),fun HK gK=>nxT (by omega) hn la ⟨gJ.trans gK,?_⟩⟩
  rw [List.take_add_one,hpx,List.map_append,List.map_append]
  rfl
 obtain ⟨gJ,rfl⟩:=p
 refine ⟨DJ,_,rfl,.inl (SqL.of ae),rfl,cP _,?_⟩
 rw [not_false,show pvs2.take ys2.length=pvs2 from List.take_of_length_le (by omega)]
 have gK:=(gI.trans gJ).trans (af hDJ (.lst (((pvs2.take ys2.length).map (eR r)).map V.bl)))
 have gK2:=gJ.trans (af hDJ (.lst (((pvs2.take ys2.length).map (eR r)).map V.bl)))
 rw [show pvs2.take ys2.length=pvs2 from List.take_of_length_le (by omega)] at gK gK2
 generalize (upd HJ DJ (.lst ((pvs2.map (eR r)).map V.bl)))=HK at gK gK2
 obtain ⟨bs,fb1,fb2⟩:=tG (m:=r) pkn ndp nmp svH
 have lfb:=Paired.length fb1
 have hflK:=gK _ _ hflH
 have kfK:=kfH.mono (am gK)
 have lyf:=cu kfK
 rw [List.length_map] at lyf
 refine ⟨_,rfl,_,rfl,fl,rfl,⟨_,SqL.of hflK⟩,bn (xs:=ys) ys.length rfl (by omega) (fun n acc H'=>aA HK H'∧acc=(bs.take n).map V.bl) ⟨aA.refl _,rfl⟩ (fun n acc H' p=>SqL.of (p.1 _ _ hflK)) (fun n acc HL x hn la hx p=>?_) (fun acc HL p la DL hDL=>?_)⟩
 ·obtain ⟨gL,rfl⟩:=p
  obtain ⟨d,hd,kd2⟩:=eU kfK n x hx
  rw [List.getElem?_map] at hd
  obtain ⟨ft,hft,rfl⟩:=Option.map_eq_some_iff.mp hd
  obtain ⟨b,hb,fcv⟩:=paired_at fb1 n ft hft
  refine ⟨⟨rfl,rfl⟩,bo ?_⟩
  refine ⟨_,rfl,_,rfl,kd,kvs,x,ft,b,rfl,gL _ _ (gK2 _ _ hkd),kd2.mono (am gL),fcv.mono (am (gK2.trans gL)),fun HM gM=>nxT (by omega) hn la ⟨gL.trans gM,?_⟩⟩
  rw [List.take_add_one,hb,List.map_append]
  rfl
 obtain ⟨gL,rfl⟩:=p
 refine ⟨DL,_,rfl,.inl (SqL.of ae),rfl,cP _,?_⟩
 rw [not_false,show bs.take ys.length=bs from List.take_of_length_le (by omega)]
 have gM:=gK.trans (gL.trans (af hDL (.lst ((bs.take ys.length).map V.bl))))
 rw [show bs.take ys.length=bs from List.take_of_length_le (by omega)] at gM
 generalize (upd HL DL (.lst (bs.map V.bl)))=HM at gM
 refine ⟨rfl,_,rfl,?_⟩
 rw [fb2,List.all_map,show (pvs2.all (id ∘ eR r))=pvs2.all (eR r) from rfl]
 rw [show (!decide (V.bl (pvs2.all (eR r))=V.bl (pvs2.all (eR r))))=false by simp]
 exact bU ⟨_,_,_,_,_,rfl,(fH.same gM).le (by omega),hrmH.mono (am gM),.inr ⟨ob,gM _ _ hpdH⟩,gM _ _ hflH,kfH.mono (am gM)⟩
end
end K6
namespace HD
open PySem PySem.W
abbrev pE:Program:=PySem.Challenge.pw_everyfork_k25_facts_of_a_room
abbrev top:Nat→Stmt:=K6.top
abbrev sx:String→Str:=Str.ofString
noncomputable abbrev de (P:Params) (x:Str) (t:Nat) (v:Value):DictEntry:=⟨PyData.keyHash P x,.str x t,v⟩
abbrev fd (i:Nat) (x qual:Str) (dV kV doc pm:Value) (an:Option Addr) (cdv ct:Value):FuncData:=fnOf x qual (L2.defArgs (top i)) (L2.defBody (top i)) (L2.defScope (top i)) dV kV doc pm an cdv ct
abbrev fd0 (i:Nat) (x qual:Str) (dV kV doc pm:Value) (an:Option Addr) (cdv ct:Value):FuncData:={ fd i x qual dV kV doc pm an cdv ct with globals:=0 }
abbrev zm (i j:Nat):Stmt:=match top i with | .ClassDef (body:=b) ..=>b.getD j (.Pass ⟨0,0,0,0⟩) | s=>s
abbrev fdm (i j:Nat) (x qual:Str) (dV kV doc pm:Value) (an:Option Addr) (cdv ct:Value):FuncData:=fnOf x qual (L2.defArgs (zm i j)) (L2.defBody (zm i j)) (L2.defScope (zm i j)) dV kV doc pm an cdv ct
abbrev Bk (i j:Nat) (x qual:Str) (dV kV doc pm:Value) (an:Option Addr) (cdv ct:Value):FuncData:={ fdm i j x qual dV kV doc pm an cdv ct with globals:=0 }
noncomputable abbrev st (x:String) (t:Nat):Value:=.str (sx x) t
abbrev i0 (i:Int):Value:=.int i 0
noncomputable abbrev tu (l:List Value):Obj:=⟨.type "tuple",none,.seq ⟨l⟩ 0,#[]⟩
noncomputable abbrev co (l:List Value):Obj:=⟨.type "code",none,.fields ⟨l⟩,#[]⟩
noncomputable abbrev dr (P:Params) (x:String) (t r:Nat):DictEntry:=de P (sx x) t (.ref r)
noncomputable abbrev fu (i:Nat) (x q m:String) (t c:Nat):Obj:=⟨.type "function",none,.func (fd i (sx x) (sx q) .none .none .none (st m t) none (.ref c) .none),#[]⟩
noncomputable abbrev fv (i:Nat) (x m:String) (t c:Nat):Obj:=fu i x x m t c
noncomputable abbrev fw (i:Nat) (x:String):Obj:=⟨.none,none,.func (fd0 i (sx x) (sx x) .none .none .none .none none .none .none),#[]⟩
noncomputable section
def m0:Nat:=11
def ann:Option Value:=some (.ref 6)
def env:Env:={ scope:=pE.main.scope,locals:=mainNs,globals:=mainNs,cells:=[],code:=.ref 13,frame:=some 14 }
abbrev cE:Code:=.body (behindTheImports pE) env
abbrev B:List Frame:=[topFrame ⟨0,0,0,0⟩]
def s0 (w:World) (os:OsState):Shared:=⟨boot_heap w.params,Array.mk [],boot_drawn,boot_toks,os⟩
def av:Obj:=tu []
def ba:Obj:=⟨.none,none,.fields #[],#[]⟩
def wL:Obj:=co [st "<module>" 182,st "<module>" 183,st "/claim/cut.py" 184,i0 1,i0 0,i0 0,i0 0,i0 0,.ref 11,.bool false,i0 181,.ref 12,.none,.none,.none,.none,i0 185,i0 1,st "/claim/cut.py" 186]
def xh:Obj:=⟨.type "frame",none,.plain,#[some (.ref 13),some (.ref 3),some (.ref 3),none,some (st "__main__" 164),none,some (.ref 0)]⟩
def ha (P:Params):Heap:=⟨⟨[(boot_o_0 P),(boot_o_1 P),(boot_o_2 P),(boot_o_3 P),(boot_o_4 P),(boot_o_5 P),(boot_o_6 P),(boot_o_7 P),(boot_o_8 P),(boot_o_9 P),(boot_o_10 P),av,ba,wL,xh]⟩,{ :Life }⟩
def sa (w:World) (os:OsState):Shared:=⟨ha w.params,#[],⟨0,0,0,0⟩,187,os⟩
theorem AH:∀ (w:World) (os:OsState),topGo treeTable pE w m0 ann 12 (s0 w os) (topStub pE)=some (sa w os,Thread.mk (denote treeTable cE) cE ⟨0,0,0,0⟩ B):=fun w os=>by kernel_rfl
def tb (P:Params):BT:=(.node (boot_o_0 P) (.node (boot_o_1 P) (.node (boot_o_3 P) (.node (boot_o_7 P) .nil .nil) (.node av .nil .nil)) (.node (boot_o_5 P) (.node (boot_o_9 P) .nil .nil) (.node wL .nil .nil))) (.node (boot_o_2 P) (.node (boot_o_4 P) (.node (boot_o_8 P) .nil .nil) (.node ba .nil .nil)) (.node (boot_o_6 P) (.node (boot_o_10 P) .nil .nil) (.node xh .nil .nil))))
def sb (w:World) (os:OsState):SharedT:=⟨tb w.params,15,{ :Life },#[],⟨0,0,0,0⟩,187,os⟩
theorem xA:∀ (w:World) (os:OsState),segRun treeTable pE w m0 ann 1 1 (sa w os) (blockOf (behindTheImports pE) env cE ⟨0,0,0,0⟩ B)=some (.next,(sb w os).abs,cE,⟨0,0,0,0⟩):=fun w os=>by kernel_rfl
def zh (P:Params):Obj:=⟨.type "dict",none,.dict #[de P (sx "__name__") 165 (st "law_everyfork_k25_facts_of_a_room" 283),de P (sx "__doc__") 166 .none,de P (sx "__package__") 167 .none,de P (sx "__loader__") 168 (.builtin "__main__.__loader__#opaque"),de P (sx "__spec__") 169 .none,dr P "__annotations__" 170 6,dr P "__builtins__" 171 4,de P (sx "__file__") 173 (st "/claim/cut.py" 172),de P (sx "__cached__") 174 .none,dr P "PLAIN_KINDS" 192 15,dr P "fields_of" 201 22,dr P "parts" 214 29,dr P "function_of" 225 36,dr P "param_parts" 239 43,dr P "at_least" 247 50,dr P "at_most" 255 57,dr P "each_between" 267 64,dr P "room_facts" 282 71,dr P "_law_feed" 291 78,dr P "_law_draw" 303 85,dr P "_law_headed" 309 90,dr P "_law_sorts" 315 95,dr P "_law_put_together" 321 100,dr P "_law_all" 327 105,dr P "_law_size" 333 110,dr P "_law_inputs" 339 115,dr P "_law_many" 345 120,dr P "_law_room" 358 127,dr P "_law_paths" 371 134,dr P "_law_thing_of" 381 141,dr P "_law_row_of" 387 146,dr P "_law_form_of" 393 151,dr P "_law_holds" 399 156,dr P "_law_whole" 406 163,dr P "_law_is_row" 412 168,dr P "_law_is_thing" 420 175,dr P "_law_is_form" 426 180,dr P "_law_is_spec" 432 185,dr P "_law_known" 438 190,dr P "_law_is_in" 444 195,dr P "_law_other" 456 202,dr P "law" 462 207] 42,#[]⟩
def xW:Obj:=⟨.none,none,.fields #[i0 3,i0 0,.ref 21,i0 8,i0 0,.ref 28,i0 17,i0 0,.ref 35,i0 23,i0 0,.ref 42,i0 29,i0 0,.ref 49,i0 31,i0 0,.ref 56,i0 33,i0 0,.ref 63,i0 37,i0 0,.ref 70,i0 50,i0 0,.ref 77,i0 52,i0 0,.ref 84,i0 67,i0 0,.ref 89,i0 81,i0 0,.ref 94,i0 88,i0 0,.ref 99,i0 92,i0 0,.ref 104,i0 108,i0 0,.ref 109,i0 112,i0 0,.ref 114,i0 126,i0 0,.ref 119,i0 137,i0 0,.ref 126,i0 153,i0 0,.ref 133,i0 159,i0 0,.ref 140,i0 169,i0 0,.ref 145,i0 181,i0 0,.ref 150,i0 183,i0 0,.ref 155,i0 192,i0 0,.ref 162,i0 194,i0 0,.ref 167,i0 205,i0 0,.ref 174,i0 215,i0 0,.ref 179,i0 225,i0 0,.ref 184,i0 233,i0 0,.ref 189,i0 238,i0 0,.ref 194,i0 246,i0 0,.ref 201,i0 262,i0 0,.ref 206],#[]⟩
def vy:Obj:=tu [st "num" 189,st "text" 190,st "row" 191]
def uW:Obj:=tu [st "program" 196,st "kind" 197,st "record" 198]
def xX:Obj:=fw 2 "fields_of"
def tT:Obj:=co [st "fields_of" 193,st "fields_of" 194,st "/claim/cut.py" 195,i0 3,i0 2,i0 0,i0 0,i0 3,.ref 16,.bool true,i0 181,.ref 17,.none,.ref 18,.ref 19,.ref 20,i0 199,i0 3,st "/claim/cut.py" 200]
def vU:Obj:=fv 2 "fields_of" "everyfork.kinds" 187 21
def vD:Obj:=tu [st "program" 205,st "kind" 206,st "told" 207,st "field" 208,st "inner" 209,st "path" 210,st "sort" 211]
def yk:Obj:=fw 3 "parts"
def vS:Obj:=co [st "parts" 202,st "parts" 203,st "/claim/cut.py" 204,i0 8,i0 2,i0 0,i0 0,i0 3,.ref 23,.bool true,i0 181,.ref 24,.none,.ref 25,.ref 26,.ref 27,i0 212,i0 8,st "/claim/cut.py" 213]
def vF:Obj:=fv 3 "parts" "everyfork.kinds" 187 28
def uJ:Obj:=tu [st "program" 220,st "f" 221,st "function" 222]
def yu:Obj:=fw 5 "function_of"
def va:Obj:=co [st "function_of" 217,st "function_of" 218,st "/claim/cut.py" 219,i0 17,i0 2,i0 0,i0 0,i0 3,.ref 30,.bool true,i0 181,.ref 31,.none,.ref 32,.ref 33,.ref 34,i0 223,i0 17,st "/claim/cut.py" 224]
def ve:Obj:=fv 5 "function_of" "everyfork.programs" 215 35
def tS:Obj:=tu [st "program" 231,st "f" 232,st "told" 233,st "param" 234,st "path" 235,st "sort" 236]
def yf:Obj:=fw 7 "param_parts"
def uD:Obj:=co [st "param_parts" 228,st "param_parts" 229,st "/claim/cut.py" 230,i0 23,i0 2,i0 0,i0 0,i0 3,.ref 37,.bool true,i0 181,.ref 38,.none,.ref 39,.ref 40,.ref 41,i0 237,i0 23,st "/claim/cut.py" 238]
def vH:Obj:=fv 7 "param_parts" "everyfork.rooms" 226 42
def ur:Obj:=tu [st "thing" 243,st "number" 244]
def xE:Obj:=fw 8 "at_least"
def tU:Obj:=co [st "at_least" 240,st "at_least" 241,st "/claim/cut.py" 242,i0 29,i0 2,i0 0,i0 0,i0 3,.ref 44,.bool true,i0 181,.ref 45,.none,.ref 46,.ref 47,.ref 48,i0 245,i0 29,st "/claim/cut.py" 246]
def ut:Obj:=fv 8 "at_least" "everyfork.rooms" 226 49
def vm:Obj:=tu [st "thing" 251,st "number" 252]
def ye:Obj:=fw 9 "at_most"
def vX:Obj:=co [st "at_most" 248,st "at_most" 249,st "/claim/cut.py" 250,i0 31,i0 2,i0 0,i0 0,i0 3,.ref 51,.bool true,i0 181,.ref 52,.none,.ref 53,.ref 54,.ref 55,i0 253,i0 31,st "/claim/cut.py" 254]
def ug:Obj:=fv 9 "at_most" "everyfork.rooms" 226 56
def wg:Obj:=tu [st "name" 259,st "long" 260,st "least" 261,st "most" 262,st "void" 263,st "behind" 264]
def ym:Obj:=fw 10 "each_between"
def vQ:Obj:=co [st "each_between" 256,st "each_between" 257,st "/claim/cut.py" 258,i0 33,i0 4,i0 0,i0 0,i0 3,.ref 58,.bool true,i0 181,.ref 59,.none,.ref 60,.ref 61,.ref 62,i0 265,i0 33,st "/claim/cut.py" 266]
def vA:Obj:=fv 10 "each_between" "everyfork.rooms" 226 63
def wd:Obj:=tu [st "program" 271,st "f" 272,st "room" 273,st "told" 274,st "path" 275,st "sort" 276,st "name" 277,st "least" 278,st "most" 279]
def yr:Obj:=fw 11 "room_facts"
def uT:Obj:=co [st "room_facts" 268,st "room_facts" 269,st "/claim/cut.py" 270,i0 37,i0 3,i0 0,i0 0,i0 3,.ref 65,.bool true,i0 181,.ref 66,.none,.ref 67,.ref 68,.ref 69,i0 280,i0 37,st "/claim/cut.py" 281]
def uA:Obj:=fv 11 "room_facts" "everyfork.rooms" 226 70
def vE:Obj:=tu [st "_law_script" 288]
def xS:Obj:=fw 13 "_law_feed"
def vw:Obj:=co [st "_law_feed" 285,st "_law_feed" 286,st "/claim/cut.py" 287,i0 50,i0 1,i0 0,i0 0,i0 3,.ref 72,.bool true,i0 181,.ref 73,.none,.ref 74,.ref 75,.ref 76,i0 289,i0 50,st "/claim/cut.py" 290]
def vt:Obj:=fv 13 "_law_feed" "law_everyfork_k25_facts_of_a_room" 283 77
def wb:Obj:=tu [st "_law_feed_here" 295,st "_law_many_here" 296,st "_law_found" 297,st "_law_cell" 298,st "_law_turn" 299,st "_law_mixed" 300]
def xP:Obj:=fw 14 "_law_draw"
def wa:Obj:=co [st "_law_draw" 292,st "_law_draw" 293,st "/claim/cut.py" 294,i0 52,i0 2,i0 0,i0 0,i0 3,.ref 79,.bool true,i0 181,.ref 80,.none,.ref 81,.ref 82,.ref 83,i0 301,i0 52,st "/claim/cut.py" 302]
def wz:Obj:=fv 14 "_law_draw" "law_everyfork_k25_facts_of_a_room" 283 84
def xQ:Obj:=fw 15 "_law_headed"
def vg:Obj:=co [st "_law_headed" 304,st "_law_headed" 305,st "/claim/cut.py" 306,i0 67,i0 1,i0 0,i0 0,i0 3,.ref 86,.bool true,i0 181,.ref 87,.none,.none,.none,.ref 88,i0 307,i0 67,st "/claim/cut.py" 308]
def vi:Obj:=fv 15 "_law_headed" "law_everyfork_k25_facts_of_a_room" 283 89
def yh:Obj:=fw 16 "_law_sorts"
def tW:Obj:=co [st "_law_sorts" 310,st "_law_sorts" 311,st "/claim/cut.py" 312,i0 81,i0 2,i0 0,i0 0,i0 3,.ref 91,.bool true,i0 181,.ref 92,.none,.none,.none,.ref 93,i0 313,i0 81,st "/claim/cut.py" 314]
def wj:Obj:=fv 16 "_law_sorts" "law_everyfork_k25_facts_of_a_room" 283 94
def xR:Obj:=fw 17 "_law_put_together"
def yo:Obj:=co [st "_law_put_together" 316,st "_law_put_together" 317,st "/claim/cut.py" 318,i0 88,i0 3,i0 0,i0 0,i0 3,.ref 96,.bool true,i0 181,.ref 97,.none,.none,.none,.ref 98,i0 319,i0 88,st "/claim/cut.py" 320]
def vI:Obj:=fv 17 "_law_put_together" "law_everyfork_k25_facts_of_a_room" 283 99
def uC:Obj:=fw 18 "_law_all"
def oP:Obj:=co [st "_law_all" 322,st "_law_all" 323,st "/claim/cut.py" 324,i0 92,i0 2,i0 0,i0 0,i0 3,.ref 101,.bool true,i0 181,.ref 102,.none,.none,.none,.ref 103,i0 325,i0 92,st "/claim/cut.py" 326]
def qz:Obj:=fv 18 "_law_all" "law_everyfork_k25_facts_of_a_room" 283 104
def vZ:Obj:=fw 19 "_law_size"
def uH:Obj:=co [st "_law_size" 328,st "_law_size" 329,st "/claim/cut.py" 330,i0 108,i0 1,i0 0,i0 0,i0 3,.ref 106,.bool true,i0 181,.ref 107,.none,.none,.none,.ref 108,i0 331,i0 108,st "/claim/cut.py" 332]
def vJ:Obj:=fv 19 "_law_size" "law_everyfork_k25_facts_of_a_room" 283 109
def uk:Obj:=fw 20 "_law_inputs"
def vR:Obj:=co [st "_law_inputs" 334,st "_law_inputs" 335,st "/claim/cut.py" 336,i0 112,i0 3,i0 0,i0 0,i0 3,.ref 111,.bool true,i0 181,.ref 112,.none,.none,.none,.ref 113,i0 337,i0 112,st "/claim/cut.py" 338]
def uu:Obj:=fv 20 "_law_inputs" "law_everyfork_k25_facts_of_a_room" 283 114
def tV:Obj:=fw 21 "_law_many"
def qF:Obj:=co [st "_law_many" 340,st "_law_many" 341,st "/claim/cut.py" 342,i0 126,i0 3,i0 0,i0 0,i0 3,.ref 116,.bool true,i0 181,.ref 117,.none,.none,.none,.ref 118,i0 343,i0 126,st "/claim/cut.py" 344]
def pN:Obj:=fv 21 "_law_many" "law_everyfork_k25_facts_of_a_room" 283 119
def oK:Obj:=tu [st "_law_feed_here" 349,st "_law_program" 350,st "_law_f" 351,st "_law_most" 352,st "_law_low" 353,st "_law_room_here" 354,st "_law_turn" 355]
def wq:Obj:=fw 22 "_law_room"
def oZ:Obj:=co [st "_law_room" 346,st "_law_room" 347,st "/claim/cut.py" 348,i0 137,i0 4,i0 0,i0 0,i0 3,.ref 121,.bool true,i0 181,.ref 122,.none,.ref 123,.ref 124,.ref 125,i0 356,i0 137,st "/claim/cut.py" 357]
def qu:Obj:=fv 22 "_law_room" "law_everyfork_k25_facts_of_a_room" 283 126
def qx:Obj:=tu [st "_law_program" 362,st "_law_f" 363,st "_law_found" 364,st "_law_name" 365,st "_law_kind" 366,st "_law_path" 367,st "_law_sort" 368]
def ud:Obj:=fw 23 "_law_paths"
def oR:Obj:=co [st "_law_paths" 359,st "_law_paths" 360,st "/claim/cut.py" 361,i0 153,i0 2,i0 0,i0 0,i0 3,.ref 128,.bool true,i0 181,.ref 129,.none,.ref 130,.ref 131,.ref 132,i0 369,i0 153,st "/claim/cut.py" 370]
def qo:Obj:=fv 23 "_law_paths" "law_everyfork_k25_facts_of_a_room" 283 133
def pZ:Obj:=tu [st "_law_known_here" 375,st "_law_thing" 376,st "_law_row" 377,st "_law_place" 378]
def ub:Obj:=fw 24 "_law_thing_of"
def pW:Obj:=co [st "_law_thing_of" 372,st "_law_thing_of" 373,st "/claim/cut.py" 374,i0 159,i0 2,i0 0,i0 0,i0 3,.ref 135,.bool true,i0 181,.ref 136,.none,.ref 137,.ref 138,.ref 139,i0 379,i0 159,st "/claim/cut.py" 380]
def oW:Obj:=fv 24 "_law_thing_of" "law_everyfork_k25_facts_of_a_room" 283 140
def vK:Obj:=fw 25 "_law_row_of"
def oU:Obj:=co [st "_law_row_of" 382,st "_law_row_of" 383,st "/claim/cut.py" 384,i0 169,i0 2,i0 0,i0 0,i0 3,.ref 142,.bool true,i0 181,.ref 143,.none,.none,.none,.ref 144,i0 385,i0 169,st "/claim/cut.py" 386]
def pK:Obj:=fv 25 "_law_row_of" "law_everyfork_k25_facts_of_a_room" 283 145
def wv:Obj:=fw 26 "_law_form_of"
def qg:Obj:=co [st "_law_form_of" 388,st "_law_form_of" 389,st "/claim/cut.py" 390,i0 181,i0 2,i0 0,i0 0,i0 3,.ref 147,.bool true,i0 181,.ref 148,.none,.none,.none,.ref 149,i0 391,i0 181,st "/claim/cut.py" 392]
def qa:Obj:=fv 26 "_law_form_of" "law_everyfork_k25_facts_of_a_room" 283 150
def vB:Obj:=fw 27 "_law_holds"
def oV:Obj:=co [st "_law_holds" 394,st "_law_holds" 395,st "/claim/cut.py" 396,i0 183,i0 2,i0 0,i0 0,i0 3,.ref 152,.bool true,i0 181,.ref 153,.none,.none,.none,.ref 154,i0 397,i0 183,st "/claim/cut.py" 398]
def qd:Obj:=fv 27 "_law_holds" "law_everyfork_k25_facts_of_a_room" 283 155
def pH:Obj:=tu [st "_law_thing" 403]
def we:Obj:=fw 28 "_law_whole"
def pX:Obj:=co [st "_law_whole" 400,st "_law_whole" 401,st "/claim/cut.py" 402,i0 192,i0 1,i0 0,i0 0,i0 3,.ref 157,.bool true,i0 181,.ref 158,.none,.ref 159,.ref 160,.ref 161,i0 404,i0 192,st "/claim/cut.py" 405]
def qv:Obj:=fv 28 "_law_whole" "law_everyfork_k25_facts_of_a_room" 283 162
def ww:Obj:=fw 29 "_law_is_row"
def pS:Obj:=co [st "_law_is_row" 407,st "_law_is_row" 408,st "/claim/cut.py" 409,i0 194,i0 2,i0 0,i0 0,i0 3,.ref 164,.bool true,i0 181,.ref 165,.none,.none,.none,.ref 166,i0 410,i0 194,st "/claim/cut.py" 411]
def qG:Obj:=fv 29 "_law_is_row" "law_everyfork_k25_facts_of_a_room" 283 167
def pj:Obj:=tu [st "_law_paths_here" 416,st "_law_thing" 417]
def wc:Obj:=fw 30 "_law_is_thing"
def pP:Obj:=co [st "_law_is_thing" 413,st "_law_is_thing" 414,st "/claim/cut.py" 415,i0 205,i0 2,i0 0,i0 0,i0 3,.ref 169,.bool true,i0 181,.ref 170,.none,.ref 171,.ref 172,.ref 173,i0 418,i0 205,st "/claim/cut.py" 419]
def qj:Obj:=fv 30 "_law_is_thing" "law_everyfork_k25_facts_of_a_room" 283 174
def uE:Obj:=fw 31 "_law_is_form"
def qw:Obj:=co [st "_law_is_form" 421,st "_law_is_form" 422,st "/claim/cut.py" 423,i0 215,i0 2,i0 0,i0 0,i0 3,.ref 176,.bool true,i0 181,.ref 177,.none,.none,.none,.ref 178,i0 424,i0 215,st "/claim/cut.py" 425]
def qb:Obj:=fv 31 "_law_is_form" "law_everyfork_k25_facts_of_a_room" 283 179
def vP:Obj:=fw 32 "_law_is_spec"
def oY:Obj:=co [st "_law_is_spec" 427,st "_law_is_spec" 428,st "/claim/cut.py" 429,i0 225,i0 2,i0 0,i0 0,i0 3,.ref 181,.bool true,i0 181,.ref 182,.none,.none,.none,.ref 183,i0 430,i0 225,st "/claim/cut.py" 431]
def pY:Obj:=fv 32 "_law_is_spec" "law_everyfork_k25_facts_of_a_room" 283 184
def uS:Obj:=fw 33 "_law_known"
def qh:Obj:=co [st "_law_known" 433,st "_law_known" 434,st "/claim/cut.py" 435,i0 233,i0 2,i0 0,i0 0,i0 3,.ref 186,.bool true,i0 181,.ref 187,.none,.none,.none,.ref 188,i0 436,i0 233,st "/claim/cut.py" 437]
def pM:Obj:=fv 33 "_law_known" "law_everyfork_k25_facts_of_a_room" 283 189
def uN:Obj:=fw 34 "_law_is_in"
def qA:Obj:=co [st "_law_is_in" 439,st "_law_is_in" 440,st "/claim/cut.py" 441,i0 238,i0 2,i0 0,i0 0,i0 3,.ref 191,.bool true,i0 181,.ref 192,.none,.none,.none,.ref 193,i0 442,i0 238,st "/claim/cut.py" 443]
def pT:Obj:=fv 34 "_law_is_in" "law_everyfork_k25_facts_of_a_room" 283 194
def pI:Obj:=tu [st "_law_feed_here" 448,st "_law_value" 449,st "_law_row" 450,st "_law_at" 451,st "_law_way" 452,st "_law_fresh" 453]
def uj:Obj:=fw 35 "_law_other"
def pR:Obj:=co [st "_law_other" 445,st "_law_other" 446,st "/claim/cut.py" 447,i0 246,i0 2,i0 0,i0 0,i0 3,.ref 196,.bool true,i0 181,.ref 197,.none,.ref 198,.ref 199,.ref 200,i0 454,i0 246,st "/claim/cut.py" 455]
def qf:Obj:=fv 35 "_law_other" "law_everyfork_k25_facts_of_a_room" 283 201
def wf:Obj:=fw 36 "law"
def qE:Obj:=co [st "law" 457,st "law" 458,st "/claim/cut.py" 459,i0 262,i0 1,i0 0,i0 0,i0 3,.ref 203,.bool true,i0 181,.ref 204,.none,.none,.none,.ref 205,i0 460,i0 262,st "/claim/cut.py" 461]
def pc:Obj:=fv 36 "law" "law_everyfork_k25_facts_of_a_room" 283 206
def t_0 (P:Params):BT:=(.node (boot_o_0 P) (.node (boot_o_1 P) (.node (zh P) (.node (boot_o_7 P) (.node vy (.node ba (.node vQ (.node qu .nil .nil) (.node av .nil .nil)) (.node wj (.node pH .nil .nil) .nil)) (.node av (.node av (.node ba .nil .nil) (.node pc .nil .nil)) (.node av (.node qj .nil .nil) .nil))) (.node av (.node tS (.node uA (.node av .nil .nil) (.node av .nil .nil)) (.node uC (.node pS .nil .nil) .nil)) (.node ye (.node ba (.node qa .nil .nil) .nil) (.node qF (.node vP .nil .nil) .nil)))) (.node av (.node av (.node va (.node wd (.node av .nil .nil) (.node pT .nil .nil)) (.node yo (.node qv .nil .nil) .nil)) (.node av (.node xP (.node av .nil .nil) .nil) (.node uu (.node qw .nil .nil) .nil))) (.node yk (.node vH (.node av (.node ub .nil .nil) (.node av .nil .nil)) (.node ba (.node pj .nil .nil) .nil)) (.node ba (.node av (.node oV .nil .nil) .nil) (.node oK (.node ba .nil .nil) .nil))))) (.node (boot_o_5 P) (.node (boot_o_9 P) (.node ba (.node av (.node av (.node ba .nil .nil) (.node uN .nil .nil)) (.node ba (.node we .nil .nil) .nil)) (.node tU (.node wb (.node oU .nil .nil) .nil) (.node uk (.node ba .nil .nil) .nil))) (.node vD (.node yf (.node ba (.node pZ .nil .nil) (.node pR .nil .nil)) (.node qz (.node av .nil .nil) .nil)) (.node ug (.node vg (.node ba .nil .nil) .nil) (.node av (.node pY .nil .nil) .nil)))) (.node wL (.node tT (.node av (.node yr (.node oR .nil .nil) (.node ba .nil .nil)) (.node av (.node ba .nil .nil) .nil)) (.node vm (.node wz (.node wv .nil .nil) .nil) (.node ba (.node av .nil .nil) .nil))) (.node vF (.node ba (.node vw (.node oW .nil .nil) (.node wf .nil .nil)) (.node uH (.node wc .nil .nil) .nil)) (.node av (.node yh (.node av .nil .nil) .nil) (.node wq (.node qh .nil .nil) .nil)))))) (.node (boot_o_2 P) (.node (boot_o_4 P) (.node (boot_o_8 P) (.node av (.node uJ (.node vA (.node av .nil .nil) (.node ba .nil .nil)) (.node av (.node av .nil .nil) .nil)) (.node xE (.node ba (.node vK .nil .nil) .nil) (.node ba (.node av .nil .nil) .nil))) (.node ba (.node av (.node av (.node ba .nil .nil) (.node uj .nil .nil)) (.node oP (.node qG .nil .nil) .nil)) (.node vX (.node xQ (.node av .nil .nil) .nil) (.node pN (.node oY .nil .nil) .nil)))) (.node xW (.node xX (.node ve (.node av (.node ud .nil .nil) (.node av .nil .nil)) (.node vI (.node av .nil .nil) .nil)) (.node ba (.node wa (.node ba .nil .nil) .nil) (.node av (.node qb .nil .nil) .nil))) (.node vS (.node av (.node xS (.node pW .nil .nil) (.node ba .nil .nil)) (.node vZ (.node av .nil .nil) .nil)) (.node wg (.node ba (.node qd .nil .nil) .nil) (.node av (.node uS .nil .nil) .nil))))) (.node (boot_o_6 P) (.node (boot_o_10 P) (.node uW (.node yu (.node ba (.node qx .nil .nil) (.node qA .nil .nil)) (.node xR (.node pX .nil .nil) .nil)) (.node ut (.node av (.node pK .nil .nil) .nil) (.node vR (.node uE .nil .nil) .nil))) (.node av (.node uD (.node vE (.node av .nil .nil) (.node qf .nil .nil)) (.node av (.node ba .nil .nil) .nil)) (.node av (.node vi (.node vB .nil .nil) .nil) (.node ba (.node av .nil .nil) .nil)))) (.node xh (.node vU (.node ba (.node uT (.node qo .nil .nil) (.node pI .nil .nil)) (.node ba (.node ww .nil .nil) .nil)) (.node av (.node av (.node qg .nil .nil) .nil) (.node tV (.node ba .nil .nil) .nil))) (.node av (.node ur (.node vt (.node av .nil .nil) (.node qE .nil .nil)) (.node vJ (.node pP .nil .nil) .nil)) (.node ym (.node tW (.node ba .nil .nil) .nil) (.node oZ (.node pM .nil .nil) .nil)))))))
def s_0 (w:World) (os:OsState):SharedT:=⟨t_0 w.params,208,{ :Life },#[],⟨0,0,0,0⟩,463,os⟩
def q0:List Stmt:=(pE.main.body.drop 0).take 37
theorem l_0:∀ (w:World) (os:OsState),segRunT treeTable pE w m0 ann 1 986 (sb w os) (piecesOf q0 env cE ⟨0,0,0,0⟩ B)=some (.next,s_0 w os,cE,⟨262,0,282,15⟩):=fun w os=>by kernel_rfl
def hz (P:Params):Heap:=⟨⟨[(boot_o_0 P),(boot_o_1 P),(boot_o_2 P),(zh P),(boot_o_4 P),(boot_o_5 P),(boot_o_6 P),(boot_o_7 P),(boot_o_8 P),(boot_o_9 P),(boot_o_10 P),av,xW,wL,xh,vy,av,ba,uW,av,xX,tT,vU,av,ba,vD,av,yk,vS,vF,av,ba,uJ,av,yu,va,ve,av,ba,tS,av,yf,uD,vH,av,ba,ur,av,xE,tU,ut,av,ba,vm,av,ye,vX,ug,av,ba,wg,av,ym,vQ,vA,av,ba,wd,av,yr,uT,uA,av,ba,vE,av,xS,vw,vt,av,ba,wb,av,xP,wa,wz,av,ba,xQ,vg,vi,av,ba,yh,tW,wj,av,ba,xR,yo,vI,av,ba,uC,oP,qz,av,ba,vZ,uH,vJ,av,ba,uk,vR,uu,av,ba,tV,qF,pN,av,ba,oK,av,wq,oZ,qu,av,ba,qx,av,ud,oR,qo,av,ba,pZ,av,ub,pW,oW,av,ba,vK,oU,pK,av,ba,wv,qg,qa,av,ba,vB,oV,qd,av,ba,pH,av,we,pX,qv,av,ba,ww,pS,qG,av,ba,pj,av,wc,pP,qj,av,ba,uE,qw,qb,av,ba,vP,oY,pY,av,ba,uS,qh,pM,av,ba,uN,qA,pT,av,ba,pI,av,uj,pR,qf,av,ba,wf,qE,pc]⟩,{ :Life }⟩
def sz (w:World) (os:OsState):Shared:=⟨hz w.params,#[],⟨0,0,0,0⟩,463,os⟩
theorem Ag:∀ (w:World) (os:OsState),topRun treeTable pE w m0 ann 2 (s_0 w os).abs (Thread.mk (doneF .next) cE ⟨262,0,282,15⟩ B)=some (sz w os):=fun w os=>by kernel_rfl
theorem Aj:∀ (w:World) (os:OsState),topRun treeTable pE w m0 ann (12+(1+(986+2))) (s0 w os) (topStub pE)=some (sz w os):=fun w os=>go_top (AH w os) (piece_block (xA w os) (piece_app (l:=q0) (segRun_of (l_0 w os)) (piece_nil (Ag w os))))
def HK (P:Params):Frag:=[(2,(boot_o_2 P)),(3,(zh P)),(15,vy),(16,av),(18,uW),(19,av),(21,tT),(22,vU),(23,av),(25,vD),(26,av),(28,vS),(29,vF),(30,av),(32,uJ),(33,av),(35,va),(36,ve),(37,av),(39,tS),(40,av),(42,uD),(43,vH),(44,av),(46,ur),(47,av),(49,tU),(50,ut),(51,av),(53,vm),(54,av),(56,vX),(57,ug),(58,av),(60,wg),(61,av),(63,vQ),(64,vA),(65,av),(67,wd),(68,av),(70,uT),(71,uA),(72,av),(74,vE),(75,av),(77,vw),(78,vt),(79,av),(81,wb),(82,av),(84,wa),(85,wz),(86,av),(89,vg),(90,vi),(91,av),(94,tW),(95,wj),(101,av),(104,oP),(105,qz),(116,av),(119,qF),(120,pN),(121,av),(123,oK),(124,av),(126,oZ),(127,qu),(128,av),(130,qx),(131,av),(133,oR),(134,qo),(135,av),(137,pZ),(138,av),(140,pW),(141,oW),(142,av),(145,oU),(146,pK),(147,av),(150,qg),(151,qa),(152,av),(155,oV),(156,qd),(157,av),(159,pH),(160,av),(162,pX),(163,qv),(164,av),(167,pS),(168,qG),(169,av),(171,pj),(172,av),(174,pP),(175,qj),(176,av),(179,qw),(180,qb),(181,av),(184,oY),(185,pY),(186,av),(189,qh),(190,pM),(191,av),(194,qA),(195,pT),(196,av),(198,pI),(199,av),(201,pR),(202,qf),(203,av),(206,qE),(207,pc)]
def HA:List Addr:=[2,3,15,16,18,19,21,22,23,25,26,28,29,30,32,33,35,36,37,39,40,42,43,44,46,47,49,50,51,53,54,56,57,58,60,61,63,64,65,67,68,70,71,72,74,75,77,78,79,81,82,84,85,86,89,90,91,94,95,101,104,105,116,119,120,121,123,124,126,127,128,130,131,133,134,135,137,138,140,141,142,145,146,147,150,151,152,155,156,157,159,160,162,163,164,167,168,169,171,172,174,175,176,179,180,181,184,185,186,189,190,191,194,195,196,198,199,201,202,203,206,207]
theorem AF (P:Params):HA=(HK P).map (·.1):=by kernel_rfl
def qV:Program:={ pE with main:={ pE.main with body:=[top 36] } }
def lo:List Str:=[(sx "PLAIN_KINDS"),(sx "fields_of"),(sx "parts"),(sx "function_of"),(sx "param_parts"),(sx "at_least"),(sx "at_most"),(sx "each_between"),(sx "room_facts"),(sx "_law_feed"),(sx "_law_draw"),(sx "_law_headed"),(sx "_law_sorts"),(sx "_law_put_together"),(sx "_law_all"),(sx "_law_size"),(sx "_law_inputs"),(sx "_law_many"),(sx "_law_room"),(sx "_law_paths"),(sx "_law_thing_of"),(sx "_law_row_of"),(sx "_law_form_of"),(sx "_law_holds"),(sx "_law_whole"),(sx "_law_is_row"),(sx "_law_is_thing"),(sx "_law_is_form"),(sx "_law_is_spec"),(sx "_law_known"),(sx "_law_is_in"),(sx "_law_other")]
abbrev rW:RowW:=OpenRow.toRowW (OpenLaw.row PySem.Challenge.rw_everyfork_k25_facts_of_a_room)
abbrev Xt:Shared→Bool:=fun s=>xlAt qV [] s&&recOk (RowW.records rW) s
abbrev hk:Hook:=kHook HK HA AF
theorem yN:∀ w:World,(fencedOpening treeTable pE w 5000).map (fun s=>(s.heap,s.gens,s.drawn,s.toks))=some (boot_heap w.params,Array.mk [],boot_drawn,boot_toks) :=
 boot_open (by kernel_rfl) (by kernel_rfl) fun s=>by kernel_rfl
theorem zn:∀ w:World,((boot_heap w.params).isNs mainGlobals&&(Array.mk []:Array GenState).size==0,(boot_heap w.params).objs.size,(boot_heap w.params).nsMap mainGlobals "__annotations__")=(true,m0,ann):=fun w=>by kernel_rfl
theorem wP:∀ w:World,(fun os=>((staticsOk (importedModules pE.main.body) (boot_heap w.params) (hz w.params)&&namesBound pE (hz w.params)&&gensDone ⟨hz w.params,#[],⟨0,0,0,0⟩,463,os⟩&&laidKept (boot_heap w.params) (hz w.params)),openSeen qV lo (importedModules pE.main.body) Xt true ⟨hz w.params,#[],⟨0,0,0,0⟩,463,os⟩,hk.obs ⟨hz w.params,#[],⟨0,0,0,0⟩,463,os⟩))=fun _=>(true,openGood qV lo,hk.val w):=fun w=>by kernel_rfl
theorem left:LeftO pE qV lo Xt hk.obs hk.val 5000:=LeftO.of_pieces (M:=(12+(1+(986+2)))) yN zn Aj (by kernel_rfl) wP
end
end HD
namespace L2
open PySem
structure Df (K:Frag) (mg:Str→Option Value) (x:Str) (st:Stmt) (ps:List Str) (f:Addr) (fd:FuncData):Prop where
 F:Fun K x x st f fd
 b:ib K fd ps []
 m:mg x=some (.ref f)
def fdA (K:Frag) (f:Addr):FuncData:=match K.lookup f with | some ⟨_,_,.func d,_⟩=>d | _=>default
abbrev fdO (K:Frag) (f:Addr) (x:Str) (st:Stmt):FuncData:=PySem.W.fnOf x x (defArgs st) (defBody st) (defScope st) .none (fdA K f).kwdefaults (fdA K f).doc (fdA K f).pyModule (fdA K f).annotations (fdA K f).code (fdA K f).closureTuple
abbrev DfE (K:Frag) (x:Str) (f:Addr) (st:Stmt):Prop:=(PySem.W.nsIn K mainGlobals x,K.lookup f,PySem.W.codeIn K (fdA K f).code x,keepIn K (.ref f))=(some (some (.ref f)),some ⟨.type "function",none,.func (fdO K f x st),#[]⟩,true,true)
section
variable {K:Frag} {mg:Str→Option Value} {h:Heap}
theorem bl1 {α:Type} {C:List α→Prop} (h:∀ a,C [a]) (us:List α) (hl:us.length=1):C us:=by
 obtain ⟨a,rfl⟩:=List.length_eq_one_iff.mp hl
 exact h a
theorem blc {α:Type} {n:Nat} {us:List α} (hl:us.length=n+1):∃ a r,us=a::r∧r.length=n:=by
 cases us with
 | nil=>cases hl
 | cons a r=>exact ⟨a,r,rfl,Nat.succ.inj hl⟩
theorem bl2 {α:Type} {C:List α→Prop} (h:∀ a b,C [a,b]) (us:List α) (hl:us.length=2):C us:=by
 obtain ⟨a,r,rfl,e⟩:=blc hl
 exact bl1 (C:=fun r=>C (a::r)) (h a) r e
theorem bl3 {α:Type} {C:List α→Prop} (h:∀ a b c,C [a,b,c]) (us:List α) (hl:us.length=3):C us:=by
 obtain ⟨a,r,rfl,e⟩:=blc hl
 exact bl2 (C:=fun r=>C (a::r)) (h a) r e
theorem bl4 {α:Type} {C:List α→Prop} (h:∀ a b c d,C [a,b,c,d]) (us:List α) (hl:us.length=4):C us:=by
 obtain ⟨a,r,rfl,e⟩:=blc hl
 exact bl3 (C:=fun r=>C (a::r)) (h a) r e
theorem bB (X:K.In h) (G:h.Ns mainGlobals mg) {x:Str} {f:Addr} {st:Stmt} {ps:List Str} (e:DfE K x f st)
  (hb:∀ (kV doc pm:Value) (an:Option Addr) (cdv ct:Value) (us:List Value),us.length=ps.length→bindArgs (PySem.W.fnOf x x (defArgs st) (defBody st) (defScope st) .none kV doc pm an cdv ct) ⟨us,[]⟩=pure (ps.zip us)):Df K mg x st ps f (fdO K f x st):=by
 obtain ⟨e1,e⟩:=Prod.mk.inj e
 obtain ⟨e2,e⟩:=Prod.mk.inj e
 obtain ⟨e3,e4⟩:=Prod.mk.inj e
 have F:Fun K x x st f (fdO K f x st):=yF e2 e3 e4
 exact ⟨F,F.binds hb,mg_of X G e1⟩
theorem Df.cal {P:Program} {w:World} {base:Heap} {x:Str} {st:Stmt} {ps:List Str} {f:Addr} {fd:FuncData} {k:Nat} {sp:Sp} (D:Df K mg x st ps f fd) (o:bI P w K mg base CX0 k f fd ps sp):K6.Cal P w K mg base k x ps sp:=⟨f,fd,o,D.b,D.F.kp,D.m⟩
def yS (K:Frag) (a:Addr):Array Value:=match K.lookup a with | some ⟨_,_,.seq xs _,_⟩=>xs | _=>#[]
abbrev tO (K:Frag) (a:Addr):Obj:=⟨.type "tuple",none,.seq (yS K a) 0,#[]⟩
def vIs:V→Value→Bool
 | .int i,.int j _=>i==j
 | .str z,.str y _=>z==y
 | .ref a,.ref b=>a==b
 | _,_=>false
theorem yx {v:V} {u:Value} (h:vIs v u=true):aX v u:=by
 unfold vIs at h
 split at h
 ·exact ⟨_,by rw [eq_of_beq h]⟩
 ·exact ⟨_,by rw [eq_of_beq h]⟩
 ·show _=_
  rw [eq_of_beq h]
 ·cases h
def nF:List V→List Value→Bool
 | [],[]=>true
 | v::vs,u::us=>vIs v u&&nF vs us
 | _,_=>false
theorem nV:∀ {vs:List V} {us:List Value},nF vs us=true→aR vs us
 | [],[],_=>.nil
 | v::vs,u::us,h=>by
  simp only [nF,Bool.and_eq_true] at h
  exact .cons (yx h.1) (nV h.2)
 | [],_::_,h=>by cases h
 | _::_,[],h=>by cases h
theorem tq {a:Addr} {xs:List V} (e:K.lookup a=some (tO K a)) (hl:xs.length≤1000) (h:nF xs (yS K a).toList=true):∀ H,SqT K H a xs:=fun H=>by
 have r:=nV h
 have:=aR.length r
 refine .inr ⟨_,_,0,e,rfl,rfl,?_,r⟩
 have:=aL hl
 rw [← Array.length_toList]
 omega
abbrev TuE (K:Frag) (x:Str) (a:Addr) (xs:List V):Prop:=(PySem.W.nsIn K mainGlobals x,K.lookup a,nF xs (yS K a).toList)=(some (some (.ref a)),some (tO K a),true)
theorem mT (X:K.In h) (G:h.Ns mainGlobals mg) {x:Str} {a:Addr} {xs:List V} (e:TuE K x a xs) (hl:xs.length≤1000):∃ a,mg x=some (.ref a)∧∀ H,SqT K H a xs:=by
 obtain ⟨e1,e⟩:=Prod.mk.inj e
 obtain ⟨e2,e3⟩:=Prod.mk.inj e
 exact ⟨a,mg_of X G e1,tq e2 hl e3⟩
end
end L2
namespace K6
open PySem L2
section
variable {P:Program} {w:World} {K:Frag} {mg:Str→Option Value} {base:Heap} {f g:Addr} {fd gd:FuncData}
end
open PySem L2
theorem x1 (P:Params):DfE (HD.HK P) "fields_of" 22 fm:=by kernel_rfl
theorem x2 (P:Params):DfE (HD.HK P) "parts" 29 jr:=by kernel_rfl
theorem x3 (P:Params):DfE (HD.HK P) "function_of" 36 dF:=by kernel_rfl
theorem x4 (P:Params):DfE (HD.HK P) "param_parts" 43 dL:=by kernel_rfl
theorem x5 (P:Params):DfE (HD.HK P) "at_least" 50 gz:=by kernel_rfl
theorem x6 (P:Params):DfE (HD.HK P) "at_most" 57 io:=by kernel_rfl
theorem x7 (P:Params):DfE (HD.HK P) "each_between" 64 dw:=by kernel_rfl
theorem x8 (P:Params):DfE (HD.HK P) "room_facts" 71 dZ:=by kernel_rfl
theorem x9 (P:Params):DfE (HD.HK P) "_law_feed" 78 jM:=by kernel_rfl
theorem x10 (P:Params):DfE (HD.HK P) "_law_draw" 85 jV:=by kernel_rfl
theorem x11 (P:Params):DfE (HD.HK P) "_law_headed" 90 cw:=by kernel_rfl
theorem x12 (P:Params):DfE (HD.HK P) "_law_sorts" 95 dW:=by kernel_rfl
theorem x13 (P:Params):DfE (HD.HK P) "_law_all" 105 fX:=by kernel_rfl
theorem x14 (P:Params):DfE (HD.HK P) "_law_many" 120 gS:=by kernel_rfl
theorem x15 (P:Params):DfE (HD.HK P) "_law_room" 127 kg:=by kernel_rfl
theorem x16 (P:Params):DfE (HD.HK P) "_law_paths" 134 iu:=by kernel_rfl
theorem x17 (P:Params):DfE (HD.HK P) "_law_thing_of" 141 er:=by kernel_rfl
theorem x18 (P:Params):DfE (HD.HK P) "_law_row_of" 146 gO:=by kernel_rfl
theorem x19 (P:Params):DfE (HD.HK P) "_law_form_of" 151 dD:=by kernel_rfl
theorem x20 (P:Params):DfE (HD.HK P) "_law_holds" 156 dS:=by kernel_rfl
theorem x21 (P:Params):DfE (HD.HK P) "_law_whole" 163 iD:=by kernel_rfl
theorem x22 (P:Params):DfE (HD.HK P) "_law_is_row" 168 gu:=by kernel_rfl
theorem x23 (P:Params):DfE (HD.HK P) "_law_is_thing" 175 eB:=by kernel_rfl
theorem x24 (P:Params):DfE (HD.HK P) "_law_is_form" 180 dC:=by kernel_rfl
theorem x25 (P:Params):DfE (HD.HK P) "_law_is_spec" 185 dA:=by kernel_rfl
theorem x26 (P:Params):DfE (HD.HK P) "_law_known" 190 fY:=by kernel_rfl
theorem x27 (P:Params):DfE (HD.HK P) "_law_is_in" 195 dP:=by kernel_rfl
theorem x28 (P:Params):DfE (HD.HK P) "_law_other" 202 ip:=by kernel_rfl
theorem x29 (P:Params):DfE (HD.HK P) "law" 207 gZ:=by kernel_rfl
theorem zH {l:PySem.W.OpenLaw} {w:World} {h:Heap} {mg:Str→Option Value} {fa:Addr} (X:(HD.HK w.params).In h) (G0:h.Ns mainGlobals mg) (hfa:mg "law"=some (.ref fa)) :
  ∃ fd:FuncData,(∀ (s:Shared) (v:Value),BindsTo s fd ⟨[v],[]⟩ [("_law_script",v)])∧∀ base:Heap,(HD.HK w.params).In base→base.Ns mainGlobals mg→bI l.prog w (HD.HK w.params) mg base CX0 8 fa fd ["_law_script"] (uB (HD.HK w.params)):=by
 have E1:=bB X G0 (ps:=["program", "kind"]) (x1 _) fun _ _ _ _ _ _=>bl2 fun _ _=>rfl
 have E2:=bB X G0 (ps:=["program", "kind"]) (x2 _) fun _ _ _ _ _ _=>bl2 fun _ _=>rfl
 have E3:=bB X G0 (ps:=["program", "f"]) (x3 _) fun _ _ _ _ _ _=>bl2 fun _ _=>rfl
 have E4:=bB X G0 (ps:=["program", "f"]) (x4 _) fun _ _ _ _ _ _=>bl2 fun _ _=>rfl
 have E5:=bB X G0 (ps:=["thing", "number"]) (x5 _) fun _ _ _ _ _ _=>bl2 fun _ _=>rfl
 have E6:=bB X G0 (ps:=["thing", "number"]) (x6 _) fun _ _ _ _ _ _=>bl2 fun _ _=>rfl
 have E7:=bB X G0 (ps:=["name", "long", "least", "most"]) (x7 _) fun _ _ _ _ _ _=>bl4 fun _ _ _ _=>rfl
 have E8:=bB X G0 (ps:=["program", "f", "room"]) (x8 _) fun _ _ _ _ _ _=>bl3 fun _ _ _=>rfl
 have E9:=bB X G0 (ps:=["_law_script"]) (x9 _) fun _ _ _ _ _ _=>bl1 fun _=>rfl
 have E10:=bB X G0 (ps:=["_law_feed_here", "_law_many_here"]) (x10 _) fun _ _ _ _ _ _=>bl2 fun _ _=>rfl
 have E11:=bB X G0 (ps:=["_law_feed_here"]) (x11 _) fun _ _ _ _ _ _=>bl1 fun _=>rfl
 have E12:=bB X G0 (ps:=["_law_records", "_law_kind"]) (x12 _) fun _ _ _ _ _ _=>bl2 fun _ _=>rfl
 have E13:=bB X G0 (ps:=["_law_room_here", "_law_sort"]) (x13 _) fun _ _ _ _ _ _=>bl2 fun _ _=>rfl
 have E14:=bB X G0 (ps:=["_law_program", "_law_f", "_law_room_here"]) (x14 _) fun _ _ _ _ _ _=>bl3 fun _ _ _=>rfl
 have E15:=bB X G0 (ps:=["_law_feed_here", "_law_program", "_law_f", "_law_most"]) (x15 _) fun _ _ _ _ _ _=>bl4 fun _ _ _ _=>rfl
 have E16:=bB X G0 (ps:=["_law_program", "_law_f"]) (x16 _) fun _ _ _ _ _ _=>bl2 fun _ _=>rfl
 have E17:=bB X G0 (ps:=["_law_known_here", "_law_thing"]) (x17 _) fun _ _ _ _ _ _=>bl2 fun _ _=>rfl
 have E18:=bB X G0 (ps:=["_law_known_here", "_law_term"]) (x18 _) fun _ _ _ _ _ _=>bl2 fun _ _=>rfl
 have E19:=bB X G0 (ps:=["_law_known_here", "_law_form"]) (x19 _) fun _ _ _ _ _ _=>bl2 fun _ _=>rfl
 have E20:=bB X G0 (ps:=["_law_known_here", "_law_fact"]) (x20 _) fun _ _ _ _ _ _=>bl2 fun _ _=>rfl
 have E21:=bB X G0 (ps:=["_law_thing"]) (x21 _) fun _ _ _ _ _ _=>bl1 fun _=>rfl
 have E22:=bB X G0 (ps:=["_law_paths_here", "_law_term"]) (x22 _) fun _ _ _ _ _ _=>bl2 fun _ _=>rfl
 have E23:=bB X G0 (ps:=["_law_paths_here", "_law_thing"]) (x23 _) fun _ _ _ _ _ _=>bl2 fun _ _=>rfl
 have E24:=bB X G0 (ps:=["_law_paths_here", "_law_form"]) (x24 _) fun _ _ _ _ _ _=>bl2 fun _ _=>rfl
 have E25:=bB X G0 (ps:=["_law_paths_here", "_law_fact"]) (x25 _) fun _ _ _ _ _ _=>bl2 fun _ _=>rfl
 have E26:=bB X G0 (ps:=["_law_paths_here", "_law_given"]) (x26 _) fun _ _ _ _ _ _=>bl2 fun _ _=>rfl
 have E27:=bB X G0 (ps:=["_law_room_here", "_law_value"]) (x27 _) fun _ _ _ _ _ _=>bl2 fun _ _=>rfl
 have E28:=bB X G0 (ps:=["_law_feed_here", "_law_value"]) (x28 _) fun _ _ _ _ _ _=>bl2 fun _ _=>rfl
 have E29:=bB X G0 (ps:=["_law_script"]) (x29 _) fun _ _ _ _ _ _=>bl1 fun _=>rfl
 have e:=hfa.symm.trans E29.m
 cases e
 have z:=fun x e=>mg_none_of (n:=x) X G0 e
 have T:K6.G0 mg:=⟨z _ (by kernel_rfl),z _ (by kernel_rfl),z _ (by kernel_rfl),z _ (by kernel_rfl),z _ (by kernel_rfl),z _ (by kernel_rfl),z _ (by kernel_rfl),z _ (by kernel_rfl),z _ (by kernel_rfl),z _ (by kernel_rfl),z _ (by kernel_rfl),z _ (by kernel_rfl)⟩
 have TZ:=z "zip" (by kernel_rfl)
 have TS:=z "set" (by kernel_rfl)
 have TX:GX mg:=⟨z _ (by kernel_rfl),z _ (by kernel_rfl),z _ (by kernel_rfl),z _ (by kernel_rfl)⟩
 have TP:GPk (HD.HK w.params) mg:=mT X G0 (a:=15) (by kernel_rfl) (by decide)
 refine ⟨fdO (HD.HK w.params) 207 "law" gZ,fun s v=>.of_eq rfl,fun base _ _=>?_⟩
 have D1:=E1.cal (base:=base) (P:=l.prog) (w:=w) (sw E1.F)
 have D2:=E2.cal (base:=base) (P:=l.prog) (w:=w) (lP TP E2.F E2.b E2.m D1 4)
 have D3:=E3.cal (base:=base) (P:=l.prog) (w:=w) (zV E3.F)
 have D4:=E4.cal (base:=base) (P:=l.prog) (w:=w) (AJ (n:=4) E4.F D3 D2)
 have D5:=E5.cal (base:=base) (P:=l.prog) (w:=w) (zt E5.F)
 have D6:=E6.cal (base:=base) (P:=l.prog) (w:=w) (yH E6.F)
 have D7:=E7.cal (base:=base) (P:=l.prog) (w:=w) (wQ E7.F)
 have D8:=E8.cal (base:=base) (P:=l.prog) (w:=w) (Ai E8.F D4 D5 D6 D7)
 have D9:=E9.cal (base:=base) (P:=l.prog) (w:=w) (Au T E9.F)
 have D10:=E10.cal (base:=base) (P:=l.prog) (w:=w) (AI T E10.F)
 have D12:=E12.cal (base:=base) (P:=l.prog) (w:=w) (lE T E12.F E12.b E12.m 4)
 have D13:=E13.cal (base:=base) (P:=l.prog) (w:=w) (yC T E13.F)
 have D14:=E14.cal (base:=base) (P:=l.prog) (w:=w) (wX T E14.F D12)
 have D15:=E15.cal (base:=base) (P:=l.prog) (w:=w) (wO T TX E15.F D14 D10)
 have D11:=E11.cal (base:=base) (P:=l.prog) (w:=w) (sY T E11.F D10)
 have D16:=E16.cal (base:=base) (P:=l.prog) (w:=w) (vY E16.F D12)
 have D17:=E17.cal (base:=base) (P:=l.prog) (w:=w) (uO T E17.F)
 have D18:=E18.cal (base:=base) (P:=l.prog) (w:=w) (vf T E18.F)
 have D19:=E19.cal (base:=base) (P:=l.prog) (w:=w) (wZ TX E19.F D17)
 have D20:=E20.cal (base:=base) (P:=l.prog) (w:=w) (vL T E20.F D19 D18)
 have D21:=E21.cal (base:=base) (P:=l.prog) (w:=w) (rY 0 T E21.F)
 have D22:=E22.cal (base:=base) (P:=l.prog) (w:=w) (uz T E22.F)
 have D23:=E23.cal (base:=base) (P:=l.prog) (w:=w) (qc T E23.F D22)
 have D24:=E24.cal (base:=base) (P:=l.prog) (w:=w) (tN T TX TS E24.F D23 D21)
 have D25:=E25.cal (base:=base) (P:=l.prog) (w:=w) (tm T E25.F D24 D22 D21)
 have D26:=E26.cal (base:=base) (P:=l.prog) (w:=w) (uq T TZ E26.F)
 have D27:=E27.cal (base:=base) (P:=l.prog) (w:=w) (wK T E27.F)
 have D28:=E28.cal (base:=base) (P:=l.prog) (w:=w) (vb T E28.F D10)
 exact yQ T E29.F D9 D11 D10 D15 D16 D8 D25 D13 D28 D26 D27 D20
theorem walk {l:PySem.W.OpenLaw} {q:Program} {loose:List Str} {XP:(Str→Option Value)→Heap→Prop} {YP:World→Heap→Prop} {d:DefRec} (hn:l.most=some 63) (hdf:d.params.defaults=[])
  (hY:∀ (w:World) (h:Heap),YP w h→(HD.HK w.params).In h) (hd:d.name = "law"):PySem.W.WalkO q loose XP YP l.row.toRowW d [] (fun f vs=>PySem.call f vs) :=
 L2.walk_of (K:=HD.HK) (n:=63) (k:=8) (x := "_law_script") (CX:=fun _=>CX0) (sp:=fun w=>uB (HD.HK w.params)) hn (by decide) hdf ⟨rfl,by decide,by decide,rfl⟩ hY (fun w mg fa h KX G hmg=>zH KX G (hd ▸ hmg)) (fun _ _ a ns hl _ hS=>⟨a,ns,rfl,hS,fun _=>rfl⟩) fun _ _ _ _ _ z=>z
end K6
open PySem PySem.W PyProof.Rows
set_option maxHeartbeats 0 in
theorem wG:PySem.Challenge.rw_everyfork_k25_facts_of_a_room.wellSaid=true:=by
 unfold OpenLaw.wellSaid
 iterate 18 refine look_both ?_ (by decide +kernel)
 unfold OpenRow.wellSaid
 iterate 2 refine look_both ?_ (by decide +kernel)
 unfold OpenRow.partSaid
 iterate 13 refine look_both ?_ (by decide +kernel)
 unfold looksOpen
 iterate 5 refine look_both ?_ (by decide +kernel)
 decide +kernel
set_option maxRecDepth 100000 in
set_option maxHeartbeats 0 in
theorem PySem.Challenge.cw_everyfork_k25_facts_of_a_room_holds : PySem.Challenge.rw_everyfork_k25_facts_of_a_room.Holds := by
 refine holds_law wG fun said=>?_
 refine holds_open (q:=HD.qV) (loose:=HD.lo) (Xt:=HD.Xt) (XP:=XL HD.qV []) (Yf:=Hook.obs HD.hk) (Ya:=Hook.val HD.hk) (YP:=Hook.says HD.hk) (N:=5000) HD.left (Hook.of HD.hk) (Hook.keeps HD.hk)
  (fun s e=>xl_of s (Bool.and_eq_true_iff.mp e).1) XL.keeps (by rfl) (by rfl) (by rfl) (fun s e=>recFacts_of (Bool.and_eq_true_iff.mp e).2) (by rfl) said (by decide +kernel) ⟨rfl,rfl,rfl,rfl,rfl,by decide +kernel⟩ ?hw
  (K6.walk (l:=PySem.Challenge.rw_everyfork_k25_facts_of_a_room) rfl rfl (fun w h Y=>kIn_of Y) rfl)
 case hw=>w_witness2