import PyProof.Rows.All
import Wide.All
import OpenK.AllK
import Wide.FinOn
import PyProof.EqAt
import PyProof.EqKinds
import PyProof.TupleKey
import PyProof.P3Eq
import PyProof.FactsAll.tuple_2
import KE.KSortTup
import KE.KDictList
import Lean
import PyProof.TupleCall
import PyProof.AttrMiss
import PyProof.IsiH_tuple
import KE.KDictOf
import PyProof.ZipIter
import PyProof.Draws
import PyProof.Rows.FactsT2
import KE.KRevIter
import PyProof.EnumStmt
import PyProof.TupleOps
import PyProof.ListRange
import PyProof.EnumFor
import PyProof.EnumMake
import PyProof.Rows.SumAny
import PyProof.AutoListH
import PyProof.FactsAll.list_3
import KE.KIntText
import PyProof.StrBlockG
import PyProof.StrLawsTight
import PyProof.StrLawsChain
import PyProof.Rows.StrItems
import PySem.Challenge.RW_everyfork_k23_rooms
open PySem.W (Frag mg_of mg_none_of keepIn KeysLit)
noncomputable section
set_option Elab.async false
set_option linter.all false
set_option maxRecDepth 100000
set_option maxHeartbeats 4000000
namespace L2
open PySem PySem.Spec PyProof.Rows
mutual
def pk:PyData→Bool
 | .int _=>true
 | .str x=>PyData.strOk x
 | .tuple l=>pks l
 | _=>false
def pks:List PyData→Bool
 | []=>true
 | d::r=>pk d&&pks r
end
mutual
def hsh (w:World):PyData→Int
 | .int i=>hashInt i
 | .str x=>hashStr w x
 | .tuple l=>reduceHash (Builtin.Tuple.tupleHashOf (jB w l))
 | _=>0
def jB (w:World):List PyData→List Int
 | []=>[]
 | d::r=>hsh w d::jB w r
end
mutual
def drw:PyData→Nat
 | .tuple l=>uL l+1
 | _=>1
def uL:List PyData→Nat
 | []=>0
 | d::r=>drw d+uL r
end
mutual
inductive RdT (h:Heap):Value→PyData→Prop
 | int (i:Int) (t:Tok):RdT h (.int i t) (.int i)
 | str (x:Str) (t:Tok):RdT h (.str x t) (.str x)
 | tup {a:Addr} {o:Obj} {vs:Array Value} {n:Nat} {ds:List PyData}:h.get? a=some o→o.cls=.type "tuple"→o.data=.seq vs n→cP h vs.toList ds→RdT h (.ref a) (.tuple ds)
inductive cP (h:Heap):List Value→List PyData→Prop
 | nil:cP h [] []
 | cons {v:Value} {vs:List Value} {d:PyData} {ds:List PyData}:RdT h v d→cP h vs ds→cP h (v::vs) (d::ds)
end
mutual
theorem RdT.reads {h:Heap}:∀ {v:Value} {d:PyData},RdT h v d→∃ as,Reads h v d as
 | _,_,.int i t=>⟨_,.int i t⟩
 | _,_,.str x t=>⟨_,.str x t⟩
 | _,_,.tup h1 h2 h3 r=>by
  obtain ⟨as,q⟩:=cP.reads r
  exact ⟨_,.tuple h1 h2 h3 q⟩
theorem cP.reads {h:Heap}:∀ {v:List Value} {d:List PyData},cP h v d→∃ as,ReadsAll h v d as
 | _,_,.nil=>⟨_,.nil⟩
 | _,_,.cons h r=>by
  obtain ⟨as,q⟩:=RdT.reads h
  obtain ⟨bs,p⟩:=cP.reads r
  exact ⟨_,.cons q p⟩
end
mutual
theorem RdT.inj {h:Heap}:∀ {v:Value} {d e:PyData},RdT h v d→RdT h v e→d=e
 | _,_,_,.int i t,q=>by cases q; rfl
 | _,_,_,.str x t,q=>by cases q; rfl
 | _,_,_,.tup h1 h2 h3 r,q=>by
  cases q with
  | tup k1 k2 k3 r2 =>
   rw [h1] at k1
   cases k1
   rw [h3] at k3
   cases k3
   rw [cP.inj r r2]
theorem cP.inj {h:Heap}:∀ {v:List Value} {d e:List PyData},cP h v d→cP h v e→d=e
 | _,_,_,.nil,q=>by cases q; rfl
 | _,_,_,.cons h r,q=>by
  cases q with
  | cons h' r'=>rw [RdT.inj h h',cP.inj r r']
end
mutual
theorem RdT.keeps {h h':Heap} (k:∀ a o vs n,h.get? a=some o→o.data=.seq vs n→h'.get? a=some o):∀ {v:Value} {d:PyData},RdT h v d→RdT h' v d
 | _,_,.int i t=>.int i t
 | _,_,.str x t=>.str x t
 | _,_,.tup h1 h2 h3 r=>.tup (k _ _ _ _ h1 h3) h2 h3 (cP.keeps k r)
theorem cP.keeps {h h':Heap} (k:∀ a o vs n,h.get? a=some o→o.data=.seq vs n→h'.get? a=some o):∀ {v:List Value} {d:List PyData},cP h v d→cP h' v d
 | _,_,.nil=>.nil
 | _,_,.cons h r=>.cons (RdT.keeps k h) (cP.keeps k r)
end
mutual
theorem eY:∀ {d:PyData},pk d=true→d.canLay0=true
 | .int i,_=>rfl
 | .str x,h=>h
 | .tuple l,h=>by
  simp only [PyData.canLay0]
  exact sh (by simpa only [pk] using h)
 | .none,h=>by cases h
 | .bool _,h=>by cases h
 | .list _,h=>by cases h
 | .dict _,h=>by cases h
theorem sh:∀ {l:List PyData},pks l=true→PyData.canLayAll0 l=true
 | [],_=>rfl
 | d::r,h=>by
  simp only [pks,Bool.and_eq_true] at h
  simp only [PyData.canLayAll0,Bool.and_eq_true]
  exact ⟨eY h.1,sh h.2⟩
end
mutual
theorem uB:∀ {d e:PyData},pk d=true→pk e=true→(PyData.eqv d e=true↔d=e)
 | .int i,e,_,h=>by
  cases e with
  | int j=>simp [PyData.eqv]
  | str y=>simp [PyData.eqv]
  | tuple l=>simp [PyData.eqv]
  | _=>cases h
 | .str x,e,_,h=>by
  cases e with
  | int j=>simp [PyData.eqv]
  | str y=>simp [PyData.eqv]
  | tuple l=>simp [PyData.eqv]
  | _=>cases h
 | .tuple l,e,h1,h=>by
  cases e with
  | int j=>simp [PyData.eqv]
  | str y=>simp [PyData.eqv]
  | tuple m =>
   simp only [PyData.eqv,PyData.tuple.injEq]
   exact rO (by simpa only [pk] using h1) (by simpa only [pk] using h)
  | _=>cases h
 | .none,_,h,_=>by cases h
 | .bool _,_,h,_=>by cases h
 | .list _,_,h,_=>by cases h
 | .dict _,_,h,_=>by cases h
theorem rO:∀ {l m:List PyData},pks l=true→pks m=true→(PyData.eqvAll l m=true↔l=m)
 | [],[],_,_=>by simp [PyData.eqvAll]
 | [],_::_,_,_=>by simp [PyData.eqvAll]
 | _::_,[],_,_=>by simp [PyData.eqvAll]
 | d::r,e::m,h1,h2=>by
  simp only [pks,Bool.and_eq_true] at h1 h2
  simp only [PyData.eqvAll,Bool.and_eq_true,List.cons.injEq]
  rw [uB h1.1 h2.1,rO h1.2 h2.2]
end
noncomputable instance decPD:DecidableEq PyData:=fun a b=>Classical.propDecidable (a=b)
theorem nB {d e:PyData} (h1:pk d=true) (h2:pk e=true):PyData.eqv d e=decide (d=e):=by
 rw [Bool.eq_iff_iff,decide_eq_true_eq]
 exact uB h1 h2
open PySem PySem.Spec PyProof.Rows
section
variable {prog:Program} {w:World}
theorem gm {s:Shared} {a:Addr} {d:PyData} (r:RdT s.heap (.ref a) d):s.TypeIs (.ref a) "tuple":=by
 cases r with
 | tup h1 h2 h3 r=>exact ⟨_,h1,h2⟩
mutual
theorem rq:∀ (d:PyData) {A:Around} {E:Value→Shared→Prop} {s:Shared} {v:Value} {Q:Int→Shared→Prop},RdT s.heap v d→A.units+d.depth<cLine→Q (hsh w d) { s with toks:=s.toks+drw d } →
  wpAny (model prog w) A (pyHash v) Q E s
 | .int i,A,E,s,v,Q,r,hu,h=>by
  cases r
  exact wpAny_pyHash_int (by simpa only [hsh,drw] using h)
 | .str x,A,E,s,v,Q,r,hu,h=>by
  cases r
  exact wpAny_pyHash_str (by simpa only [hsh,drw] using h)
 | .tuple ds,A,E,s,v,Q,r,hu,h=>by
  obtain ⟨a,rfl⟩:∃ a,v=.ref a:=by cases r; exact ⟨_,rfl⟩
  have hT:=gm r
  cases r with
  | @tup _ o items n _ ho _ hd hi =>
   have hu':A.units<cLine:=by omega
   unfold pyHash
   first | unfold pyHashByItsType | skip
   first | refine wpAny_bind (wpAny_cRoomFor_or (.inr hu') ?_) | skip
   refine wpAny_bind (wpAny_specialOf hT F.slot_tuple_hash.lookup ?_)
   show wpAny _ _ (if (some (Value.builtin "tuple.__hash__")==some Value.none)=true then _ else _) Q E s
   rw [if_neg (by rw [beq_builtin_none]; exact Bool.false_ne_true)]
   refine wpAny_bind (wpAny_specialOf hT F.slot_tuple_hash.lookup ?_)
   show wpAny _ _ (callSpecialIfBoundUnlessNone? (.ref a) "__hash__" _ >>= _) Q E s
   refine wpAny_bind (wpAny_callSpecialIfBoundUnlessNone?_slot hT F.slot_tuple_hash (wpAny_call_entry F.slot_tuple_hash hT F.entry_tuple_hash ?_ (F.args_tuple_hash_1 _)))
   show wpAny _ _ (Builtin.Tuple.tupleItemsOf (.ref a) >>= _) _ _ s
   refine wpAny_bind (wpAny_tupleItemsOf ho hd ?_)
   refine wpAny_bind ?_
   rw [← Array.forIn_toList]
   have hin:A.in1.units≤A.units+1:=by simp [Around.in1]
   refine oy ds (b:=#[]) hi (by simp only [PyData.depth] at hu; omega) ?_
   show wpAny _ _ (retInt (Builtin.Tuple.tupleHashOf ((#[]:Array Int)++(jB w ds).toArray).toList)) _ _ _
   rw [show ((#[]:Array Int)++(jB w ds).toArray).toList=jB w ds from by simp]
   refine wpAny_ret_mkInt ?_
   show wpAny _ _ (if (decide (-(2:Int) ^ 63≤Builtin.Tuple.tupleHashOf (jB w ds))&&decide (Builtin.Tuple.tupleHashOf (jB w ds)<2 ^ 63))=true then _ else _) Q E _
   simp only [hsh,drw] at h
   unfold reduceHash at h
   by_cases hr:(decide (-(2:Int) ^ 63≤Builtin.Tuple.tupleHashOf (jB w ds))&&decide (Builtin.Tuple.tupleHashOf (jB w ds)<2 ^ 63))=true
   ·rw [if_pos hr]
    rw [if_pos hr] at h
    exact wpAny_pure (by simpa [Nat.add_assoc] using h)
   ·rw [if_neg hr]
    rw [if_neg hr] at h
    exact wpAny_bind (wpAny_rule (wpAny_pure (by simpa [Nat.add_assoc] using h)))
 | .none,A,E,s,v,Q,r,hu,h=>by cases r
 | .bool _,A,E,s,v,Q,r,hu,h=>by cases r
 | .list _,A,E,s,v,Q,r,hu,h=>by cases r
 | .dict _,A,E,s,v,Q,r,hu,h=>by cases r
theorem oy:∀ (ds:List PyData) {A:Around} {E:Value→Shared→Prop} {s:Shared} {vs:List Value} {b:Array Int} {Q:Array Int→Shared→Prop},cP s.heap vs ds→A.units+PyData.depthAll ds<cLine→Q (b++(jB w ds).toArray) { s with toks:=s.toks+uL ds } →
  wpAny (model prog w) A (forIn vs b fun x hs=>do
   let h ← pyHash x
   pure (ForInStep.yield (hs.push h))) Q E s
 | [],A,E,s,vs,b,Q,r,hu,h=>by
  cases r
  rw [List.forIn_nil]
  exact wpAny_pure (by simpa [jB,uL] using h)
 | d::ds,A,E,s,vs,b,Q,r,hu,h=>by
  cases r with
  | @cons v vs _ _ r1 r2 =>
   rw [List.forIn_cons]
   simp only [PyData.depthAll] at hu
   refine wpAny_bind (wpAny_bind (rq d r1 (by omega) (wpAny_pure ?_)))
   refine oy ds (s:={ s with toks:=s.toks+drw d }) r2 (by omega) ?_
   simpa [jB,uL,Nat.add_assoc] using h
end
mutual
theorem ou:∀ (d:PyData) {A:Around} {E:Value→Shared→Prop} {s:Shared} {v:Value} {n:Nat} {Q:Bool→Shared→Prop},RdT s.heap v d→d.depth≤n→Q true s→wpAny (model prog w) A (eqIsQuiet n v) Q E s
 | .int i,A,E,s,v,n,Q,r,hu,h=>by
  cases r
  rw [eqIsQuiet_byValue _ (by rfl)]
  exact wpAny_pure h
 | .str x,A,E,s,v,n,Q,r,hu,h=>by
  cases r
  rw [eqIsQuiet_byValue _ (by rfl)]
  exact wpAny_pure h
 | .tuple ds,A,E,s,v,n,Q,r,hu,h=>by
  obtain ⟨a,rfl⟩:∃ a,v=.ref a:=by cases r; exact ⟨_,rfl⟩
  have hT:=gm r
  cases n with
  | zero=>simp [PyData.depth] at hu
  | succ m =>
   cases r with
   | @tup _ o items n _ ho _ hd hi =>
    unfold eqIsQuiet
    refine wpAny_bind (wpAny_specialOf hT F.slot_tuple_eq.lookup ?_)
    show wpAny _ _ (isInstance (.ref a) (.type "tuple") >>= _) _ _ s
    refine wpAny_bind (wpAny_isInstance hT isSubtype_tuple_tuple ?_)
    simp only [Bool.not_true,Bool.false_eq_true,if_false]
    refine wpAny_bind (wpAny_seqItems ho hd ?_)
    refine wpAny_bind ?_
    show wpAny _ _ (forIn items _ _) _ _ s
    rw [← Array.forIn_toList]
    refine lX ds (m:=m) hi (by simp only [PyData.depth] at hu; omega) ?_
    exact wpAny_pure h
 | .none,A,E,s,v,n,Q,r,hu,h=>by cases r
 | .bool _,A,E,s,v,n,Q,r,hu,h=>by cases r
 | .list _,A,E,s,v,n,Q,r,hu,h=>by cases r
 | .dict _,A,E,s,v,n,Q,r,hu,h=>by cases r
theorem lX:∀ (ds:List PyData) {A:Around} {E:Value→Shared→Prop} {s:Shared} {vs:List Value} {m:Nat} {Q:Option Bool×Unit→Shared→Prop},cP s.heap vs ds→PyData.depthAll ds≤m→Q (none,()) s →
  wpAny (model prog w) A (forIn vs (none,()) fun y __s=>do
   let __do_lift ← eqIsQuiet m y
   if (!__do_lift)=true then pure (ForInStep.done (some false,())) else pure (ForInStep.yield (none,()))) Q E s
 | [],A,E,s,vs,m,Q,r,hu,h=>by
  cases r
  rw [List.forIn_nil]
  exact wpAny_pure h
 | d::ds,A,E,s,vs,m,Q,r,hu,h=>by
  cases r with
  | @cons v vs _ _ r1 r2 =>
   rw [List.forIn_cons]
   simp only [PyData.depthAll] at hu
   refine wpAny_bind (wpAny_bind (ou d r1 (by omega) ?_))
   simp only [Bool.not_true,Bool.false_eq_true,if_false]
   exact wpAny_pure (lX ds r2 (by omega) h)
end
def AA (h:Heap) (d:PyData) (a:Addr):Prop:=RdT h (.ref a) d∧pk d=true∧d.depth≤8
noncomputable def tP (prog:Program) (w:World):HeapKind prog w PyData where
 is:=AA
 hash:=hsh w
 draws:=drw
 room:=fun A=>A.units+40<cLine
 inj:=fun hx hy=>hx.1.inj hy.1
 keeps:=fun {h h' k a d o es ep} x ho hd hs=>⟨x.1.keeps fun b o' vs n e1 e2=>(hs.2 b (by
  rintro rfl
  rw [ho] at e1
  cases e1
  rw [hd] at e2
  cases e2)).trans e1,x.2⟩
 pyHash:=fun hu hk h=>rq _ hk.1 (by have:=hk.2.2; omega) h
 eqBool:=fun {A E s x y a b Q} hu hx hy h=>by
  obtain ⟨as,r1⟩:=hx.1.reads
  obtain ⟨bs,r2⟩:=hy.1.reads
  have d1:=hx.2.2
  have d2:=hy.2.2
  refine SeqAt.eqAt_reads x y A s _ _ as bs r1 r2 (eY hx.2.1) (eY hy.2.1) (by omega) prog w E Q ?_
  rw [nB hx.2.1 hy.2.1]
  exact h
 quiet:=fun hk h=>ou _ hk.1 hk.2.2 h
end
open PySem PySem.Spec PyProof.Rows
mutual
noncomputable def dlt:PyData→PyData→Bool
 | .int a,.int b=>decide (a<b)
 | .str x,.str y=>decide (x.cps.toList<y.cps.toList)
 | .tuple l,.tuple m=>pV l m
 | _,_=>false
noncomputable def pV:List PyData→List PyData→Bool
 | [],[]=>false
 | [],_::_=>true
 | _::_,[]=>false
 | a::l,b::m=>if a=b then pV l m else dlt a b
end
mutual
inductive Cok:PyData→PyData→Prop
 | int (i j:Int):Cok (.int i) (.int j)
 | str (x y:Str):Cok (.str x) (.str y)
 | tup {l m:List PyData}:jF l m→Cok (.tuple l) (.tuple m)
inductive jF:List PyData→List PyData→Prop
 | nil (m:List PyData):jF [] m
 | nil2 (l:List PyData):jF l []
 | eq {a:PyData} {l m:List PyData}:jF l m→jF (a::l) (a::m)
 | ne {a b:PyData} {l m:List PyData}:a≠b→Cok a b→jF (a::l) (b::m)
end
noncomputable def dif:List PyData→List PyData→Option Bool
 | a::l,b::m=>if a=b then dif l m else some (dlt a b)
 | _,_=>none
theorem kI:∀ l m:List PyData,pV l m=(dif l m).getD (decide (l.length<m.length))
 | [],[]=>by simp [pV,dif]
 | [],_::_=>by simp [pV,dif]
 | _::_,[]=>by simp [pV,dif]
 | a::l,b::m=>by
  simp only [pV,dif]
  by_cases h:a=b
  ·rw [if_pos h,if_pos h,kI l m]
   simp only [List.length_cons,Nat.add_lt_add_iff_right]
  ·rw [if_neg h,if_neg h]
   rfl
theorem gj {h:Heap}:∀ {vs:List Value} {ds:List PyData},cP h vs ds→vs.length=ds.length
 | _,_,.nil=>rfl
 | _,_,.cons _ r=>by rw [List.length_cons,List.length_cons,gj r]
theorem oU (A:Around):A.in1.units≤A.units+1:=by simp [Around.in1]
section
variable {prog:Program} {w:World}
mutual
theorem xN:∀ (d e:PyData) {A:Around} {E:Value→Shared→Prop} {s:Shared} {u v:Value} {Q:Value→Shared→Prop},RdT s.heap u d→RdT s.heap v e→pk d=true→pk e=true→Cok d e→A.units+d.depth+2<cLine→Q (.bool (dlt d e)) s →
  wpAny (model prog w) A (richCompare .Lt u v) Q E s
 | .int i,.int j,A,E,s,u,v,Q,r1,r2,p1,p2,c,hu,h=>by
  cases r1
  cases r2
  exact lt_int (by simpa only [dlt] using h)
 | .str x,.str y,A,E,s,u,v,Q,r1,r2,p1,p2,c,hu,h=>by
  cases r1
  cases r2
  exact lt_str (by simpa only [dlt] using h)
 | .tuple l,.tuple m,A,E,s,u,v,Q,r1,r2,p1,p2,c,hu,h=>by
  obtain ⟨a,rfl⟩:∃ a,u=.ref a:=by cases r1; exact ⟨_,rfl⟩
  obtain ⟨b,rfl⟩:∃ a,v=.ref a:=by cases r2; exact ⟨_,rfl⟩
  have hTa:=gm r1
  have hTb:=gm r2
  cases r1 with
  | @tup _ oa xs na _ hoa _ hda hia =>
   cases r2 with
   | @tup _ ob ys nb _ hob _ hdb hib =>
    have hin:=oU A
    simp only [PyData.depth] at hu
    refine wpAny_richCompare_same_room (op:=.Lt) hTa hTb F.slot_tuple_lt (wpAny_call_entry F.slot_tuple_lt hTa F.entry_tuple_lt ?_ (F.args_tuple_lt_2 _ _)) (by omega)
    show wpAny _ _ (isInstance (.ref b) (.type "tuple") >>= _) _ _ s
    refine wpAny_bind (wpAny_isInstance hTb isSubtype_tuple_tuple ?_)
    simp only [Bool.not_true,Bool.false_eq_true,if_false]
    refine wpAny_bind (wpAny_tupleItemsOf hoa hda ?_)
    refine wpAny_bind (wpAny_tupleItemsOf hob hdb ?_)
    refine wpAny_bind ?_
    have hc:jF l m:=by cases c; assumption
    simp only [dlt,kI] at h
    have e1:=gj hia
    have e2:=gj hib
    refine tH l m hia hib (by simpa only [pk] using p1) (by simpa only [pk] using p2) hc (by omega) (fun z hz=>?_) (fun hz=>?_)
    ·rw [hz] at h
     exact wpAny_pure ⟨_,rfl,(fun e=>nomatch e),h⟩
    ·rw [hz] at h
     refine wpAny_pure ⟨_,rfl,(fun e=>nomatch e),?_⟩
     show Q (.bool (decide (xs.size<ys.size))) s
     rw [← Array.length_toList,← Array.length_toList,e1,e2]
     exact h
 | .none,_,A,E,s,u,v,Q,r1,r2,p1,p2,c,hu,h=>by cases r1
 | .bool _,_,A,E,s,u,v,Q,r1,r2,p1,p2,c,hu,h=>by cases r1
 | .list _,_,A,E,s,u,v,Q,r1,r2,p1,p2,c,hu,h=>by cases r1
 | .dict _,_,A,E,s,u,v,Q,r1,r2,p1,p2,c,hu,h=>by cases r1
 | .int _,.str _,A,E,s,u,v,Q,r1,r2,p1,p2,c,hu,h=>by cases c
 | .int _,.tuple _,A,E,s,u,v,Q,r1,r2,p1,p2,c,hu,h=>by cases c
 | .str _,.int _,A,E,s,u,v,Q,r1,r2,p1,p2,c,hu,h=>by cases c
 | .str _,.tuple _,A,E,s,u,v,Q,r1,r2,p1,p2,c,hu,h=>by cases c
 | .tuple _,.int _,A,E,s,u,v,Q,r1,r2,p1,p2,c,hu,h=>by cases c
 | .tuple _,.str _,A,E,s,u,v,Q,r1,r2,p1,p2,c,hu,h=>by cases c
 | _,.none,A,E,s,u,v,Q,r1,r2,p1,p2,c,hu,h=>by cases r2
 | _,.bool _,A,E,s,u,v,Q,r1,r2,p1,p2,c,hu,h=>by cases r2
 | _,.list _,A,E,s,u,v,Q,r1,r2,p1,p2,c,hu,h=>by cases r2
 | _,.dict _,A,E,s,u,v,Q,r1,r2,p1,p2,c,hu,h=>by cases r2
theorem tH:∀ (l m:List PyData) {A:Around} {E:Value→Shared→Prop} {s:Shared} {us vs:List Value} {R:Option PySem.Fin×Unit→Shared→Prop},cP s.heap us l→cP s.heap vs m→pks l=true→pks m=true→jF l m→A.units+PyData.depthAll l+2<cLine →
  (∀ b,dif l m=some b→R (some (.done (.ret (.bool b))),()) s)→(dif l m=none→R (none,()) s) →
  wpAny (model prog w) A (forIn (us.zip vs) (none,()) fun x __s=>do
   let __do_lift ← eqBool x.fst x.snd
   if (!__do_lift)=true then do
       rule "tuple.compare.by-the-first-pair-that-differs"
       let __do_lift ← richCompare CmpOp.Lt x.fst x.snd
       let __do_lift ← ret __do_lift
       pure (ForInStep.done (some __do_lift,()))
    else pure (ForInStep.yield (none,()))) R E s
 | [],m,A,E,s,us,vs,R,r1,r2,p1,p2,c,hu,h1,h2=>by
  cases r1
  rw [List.zip_nil_left,List.forIn_nil]
  exact wpAny_pure (h2 (by simp [dif]))
 | a::l,[],A,E,s,us,vs,R,r1,r2,p1,p2,c,hu,h1,h2=>by
  cases r2
  rw [List.zip_nil_right,List.forIn_nil]
  exact wpAny_pure (h2 (by simp [dif]))
 | a::l,b::m,A,E,s,us,vs,R,r1,r2,p1,p2,c,hu,h1,h2=>by
  cases r1 with
  | @cons u us _ _ q1 r1 =>
   cases r2 with
   | @cons v vs _ _ q2 r2 =>
    simp only [pks,Bool.and_eq_true] at p1 p2
    simp only [PyData.depthAll] at hu
    rw [List.zip_cons_cons,List.forIn_cons]
    obtain ⟨as,ra⟩:=q1.reads
    obtain ⟨bs,rb⟩:=q2.reads
    refine wpAny_bind (wpAny_bind (SeqAt.eqAt_reads a b A s _ _ as bs ra rb (eY p1.1) (eY p2.1) (by omega) prog w E _ ?_))
    rw [nB p1.1 p2.1]
    by_cases hab:a=b
    ·have hd:dif (a::l) (b::m)=dif l m:=by simp only [dif]; rw [if_pos hab]
     rw [decide_eq_true hab]
     simp only [Bool.not_true,Bool.false_eq_true,if_false]
     rw [hd] at h1 h2
     refine wpAny_pure (tH l m r1 r2 p1.2 p2.2 ?_ (by omega) h1 h2)
     cases c with
     | eq c=>exact c
     | ne n _=>exact absurd hab n
    ·have hd:dif (a::l) (b::m)=some (dlt a b):=by simp only [dif]; rw [if_neg hab]
     rw [decide_eq_false hab]
     simp only [Bool.not_false,if_true]
     refine wpAny_bind (wpAny_rule (wpAny_bind (xN a b q1 q2 p1.1 p2.1 ?_ (by omega) ?_)))
     ·cases c with
      | eq c=>exact absurd rfl hab
      | ne _ c=>exact c
     ·exact wpAny_bind (wpAny_pure (wpAny_pure (wpAny_pure (h1 _ hd))))
end
end
open PySem PySem.W PySem.Spec PyProof.Rows
def cD {α:Type} (n:Nat) (lt:Nat→Nat→Bool) (P:α→Prop):KasT α→Prop
 | .ret a=>P a
 | .ask i j k=>i<n∧j<n∧cD n lt P (k (lt i j))
theorem cD.bind {α β:Type} {n:Nat} {lt:Nat→Nat→Bool} {P:α→Prop} {R:β→Prop} {f:α→KasT β} (hf:∀ a,P a→cD n lt R (f a)):∀ {t:KasT α},cD n lt P t→cD n lt R (t.bind f)
 | .ret a,h=>hf a h
 | .ask i j k,h=>⟨h.1,h.2.1,cD.bind hf (t:=k (lt i j)) h.2.2⟩
theorem cD.imp {α:Type} {n:Nat} {lt:Nat→Nat→Bool} {P R:α→Prop} (hf:∀ a,P a→R a):∀ {t:KasT α},cD n lt P t→cD n lt R t
 | .ret a,h=>hf a h
 | .ask i j k,h=>⟨h.1,h.2.1,cD.imp hf (t:=k (lt i j)) h.2.2⟩
theorem oE {α:Type} {n:Nat} {lt:Nat→Nat→Bool} {P R:α→Prop}:∀ {t:KasT α},cD n lt P t→cD n lt R t→cD n lt (fun a=>P a∧R a) t
 | .ret a,h,k=>⟨h,k⟩
 | .ask i j k,h,q=>⟨h.1,h.2.1,oE (t:=k (lt i j)) h.2.2 q.2.2⟩
theorem cD.wp {α:Type} {n:Nat} {lt:Nat→Nat→Bool} {P:α→Prop} {cmp:Nat→Nat→(Bool→Shared→Prop)→Shared→Prop} {Q:α→Shared→Prop} {J:Shared→Prop}
  (hc:∀ i j (C:Bool→Shared→Prop) s,i<n→j<n→J s→(∀ s',J s'→C (lt i j) s')→cmp i j C s) (hQ:∀ a s,P a→J s→Q a s):∀ {t:KasT α} {s:Shared},cD n lt P t→J s→t.kasWp cmp Q s
 | .ret a,s,h,j=>hQ a s h j
 | .ask i j k,s,h,jj=>hc i j _ s h.1 h.2.1 jj fun s' j'=>cD.wp hc hQ (t:=k (lt i j)) h.2.2 j'
def Gp (n:Nat) (p:Array Nat):Prop:=p.Perm (List.range n).toArray
theorem Gp.size {n:Nat} {p:Array Nat} (h:Gp n p):p.size=n:=by
 have:=h.size_eq
 simpa using this
theorem Gp.get {n:Nat} {p:Array Nat} (h:Gp n p) (hn:0<n) (i:Nat):p.getD i 0<n:=by
 unfold Array.getD
 split
 ·rename_i hi
  have:p[i]∈p:=Array.getElem_mem hi
  have:=h.mem_iff.mp this
  simpa using this
 ·exact hn
theorem Gp.mirror {n:Nat} {p:Array Nat} (h:Gp n p) (i j:Nat):Gp n (kas_rev p i j):=(mirror_perm p i j _).trans h
theorem Gp.bubble {n:Nat} {p:Array Nat} (h:Gp n p) (i j:Nat):Gp n (bubble p i j):=(bubble_perm p i j).trans h
section
variable {n:Nat} {lt:Nat→Nat→Bool} (hn:0<n)
include hn
theorem nc {p:Array Nat} (h:Gp n p):∀ f m:Nat,cD n lt (fun _=>True) (kas_asc p f m)
 | 0,m=>trivial
 | f+1,m=>by
  refine ⟨h.get hn _,h.get hn _,?_⟩
  dsimp only
  split
  ·trivial
  ·exact nc h f (m+1)
theorem iw:∀ (f:Nat) {p:Array Nat} (m q:Nat),Gp n p→cD n lt (fun r=>Gp n r.1) (kas_desc f p m q)
 | 0,p,m,q,h=>h
 | f+1,p,m,q,h=>by
  refine ⟨h.get hn _,h.get hn _,?_⟩
  dsimp only
  split
  ·split
   ·exact iw f _ _ (h.mirror _ _)
   ·exact iw f _ _ h
  ·refine ⟨h.get hn _,h.get hn _,?_⟩
   dsimp only
   split
   ·exact h
   ·exact iw f _ _ h
theorem mF {m nrem:Nat} {p:Array Nat} (h:Gp n p):cD n lt (fun r=>Gp n r.2) (kas_tail3 m nrem p):=by
 unfold kas_tail3
 refine cD.bind (P:=fun _=>True) (fun _ _=>?_) (nc hn (h.mirror 0 m) _ _)
 exact h.mirror 0 m
theorem ic {m nrem:Nat} {p:Array Nat} (h:Gp n p):cD n lt (fun r=>Gp n r.2) (kas_descPart m nrem p):=by
 unfold kas_descPart
 refine cD.bind (fun r hr=>?_) (iw hn _ _ _ h)
 split
 ·exact mF hn (hr.mirror _ _)
 ·exact mF hn hr
theorem sI {nrem:Nat} {p:Array Nat} (h:Gp n p):cD n lt (fun r=>Gp n r.2) (kas_count nrem p):=by
 unfold kas_count
 refine cD.bind (P:=fun _=>True) (fun m _=>?_) (nc hn h _ _)
 split
 ·exact h
 ·split
  ·refine ⟨h.get hn _,h.get hn _,?_⟩
   dsimp only
   split
   ·exact h
   ·exact ic hn (h.mirror _ _)
  ·exact ic hn h
theorem iV {p:Array Nat} (h:Gp n p) (k:Nat):∀ f l r:Nat,cD n lt (fun _=>True) (kas_place p k f l r)
 | 0,l,r=>trivial
 | f+1,l,r=>by
  unfold kas_place
  split
  ·trivial
  ·refine ⟨h.get hn _,h.get hn _,?_⟩
   dsimp only
   split
   ·exact iV h k f _ _
   ·exact iV h k f _ _
theorem rZ:∀ (f:Nat) {p:Array Nat} (k:Nat),Gp n p→cD n lt (Gp n) (kas_bin f p k)
 | 0,p,k,h=>h
 | f+1,p,k,h=>cD.bind (fun l _=>rZ f _ (h.bubble _ _)) (iV hn h k _ _ _)
theorem nT:cD n lt (Gp n) (kas_sort n):=by
 unfold kas_sort
 refine cD.bind (fun r hr=>?_) (sI hn (Array.Perm.refl _))
 split
 ·exact rZ hn _ _ hr
 ·exact hr
end
open PySem PySem.W PySem.Calls PySem.Spec PyProof.Rows
section
variable {prog:Program} {w:World} {A:Around} {E:Value→Shared→Prop} {s:Shared} {a:Addr} {us:List Value} {κ:SortKind} {lt:Nat→Nat→Bool} {R:Array Nat→Prop}
def eV (us:List Value) (p:Array Nat):List Value:=p.toList.map fun i=>us.getD i Value.none
theorem qL (us:List Value):eV us (List.range us.length).toArray=us:=by
 unfold eV
 apply List.ext_getElem?
 intro i
 by_cases h:i<us.length
 ·simp [h,List.getElem?_range]
 ·simp [h,Nat.le_of_not_lt h]
theorem ue {n:Nat} {P:PySem.Fin→Shared→Prop} (ho:s.heap.get? a=some (seqObj "list" us.toArray n)) (h64:us.length<64)
  (hk:2≤us.length→∀ (h':Heap) (Qk:SortKind→Shared→Prop),(∀ b o,b≠a→s.heap.get? b=some o→h'.get? b=some o)→Qk κ { s with heap:=h' }→wpAny (model prog w) A (keyKind' us.toArray) Qk (fun _ _=>False) { s with heap:=h' })
  (hc:∀ (h':Heap) (t i j:Nat) (C:Bool→Shared→Prop),(∀ b o,b≠a→s.heap.get? b=some o→h'.get? b=some o)→i<us.length→j<us.length→(∀ t',C (lt i j) { s with heap:=h',toks:=t' })→kas_ask prog w A κ us i j C { s with heap:=h',toks:=t })
  (hR:2≤us.length→cD us.length lt R (kas_sort us.length))
  (fin:∀ (h':Heap) (t c:Nat) (p:Array Nat),Gp us.length p→(2≤us.length→R p)→(∀ b o,b≠a→s.heap.get? b=some o→h'.get? b=some o)→h'.get? a=some (seqObj "list" (eV us p).toArray c)→P (.done (.ret .none)) { s with heap:=h',toks:=t }) :
  wpAny (model prog w) A (Builtin.«list.sort» ⟨[.ref a],[]⟩) P E s:=by
 have la:a<s.heap.objs.size:=Heap.lt_size ho
 rw [list_sort_plain]
 refine wpAny_bind (listItems_at ho rfl ?_)
 obtain ⟨e1,g1⟩:∃ e1,(s.heap.update a (Obj.mapSeq fun _=>(#[]:Array Value))).get? a=some (seqObj "list" #[] e1):=⟨_,get?_update_seq ho fun _=>#[]⟩
 have k1:∀ b o,b≠a→s.heap.get? b=some o→(s.heap.update a (Obj.mapSeq fun _=>(#[]:Array Value))).get? b=some o:=fun b o ne q=>by rw [Heap.get?_update_ne _ _ _ _ ne]; exact q
 refine wpAny_bind (listUpdate_at ho rfl ?_ (by rw [List.size_toArray,sizeLine_eq]; omega) (Nat.zero_le _))
 generalize (s.heap.update a (Obj.mapSeq fun _=>(#[]:Array Value)))=h1 at g1 k1
 refine wpAny_bind (seqEpoch_at g1 rfl ?_)
 refine wpAny_bind (wpAny_newTuple ?_ (by show us.length≤_; rw [sizeLine_eq]; omega))
 refine wpAny_bind (wpAny_newList ?_ (Nat.zero_le _))
 refine wpAny_holding ?_
 dsimp only
 obtain ⟨h2,eh2⟩:∃ h2,h2=(h1.push (seqObj "tuple" us.toArray 0)).push (seqObj "list" #[] 0):=⟨_,rfl⟩
 have g2:h2.get? a=some (seqObj "list" #[] e1):=by rw [eh2]; exact Heap.get?_push_of_some _ (Heap.get?_push_of_some _ g1)
 have k2:∀ b o,b≠a→s.heap.get? b=some o→h2.get? b=some o:=fun b o ne q=>by rw [eh2]; exact Heap.get?_push_of_some _ (Heap.get?_push_of_some _ (k1 b o ne q))
 show wpAny (model prog w) A _ P E { s with heap:=(h1.push (seqObj "tuple" us.toArray 0)).push (seqObj "list" #[] 0) }
 rw [← eh2]
 have close:∀ (st:SortSt) (p:Array Nat) (t:Nat),Gp us.length p→(2≤us.length→R p)→(arrOf st).map (·.2)=(eV us p).toArray→failedOf st=none →
   wpAny (model prog w) A (do
    let touched:=(← seqEpoch a) != e1
    Builtin.List.listUpdate (.ref a) fun _=>(arrOf st).map (·.2)
    if let some e:=failedOf st then rule "list.sort.comparison-raised"; throw e
    if touched then rule "list.sort.modified"; raiseError "ValueError" "list modified during sort"
    ret .none) P E { s with heap:=h2,toks:=t }:=by
  intro st p t gp rp ha hf
  have hl:(eV us p).length=us.length:=by unfold eV; rw [List.length_map,Array.length_toList,gp.size]
  refine wpAny_bind (seqEpoch_at g2 rfl ?_)
  rw [ha]
  obtain ⟨e3,g3⟩:∃ e3,(h2.update a (Obj.mapSeq fun _=>(eV us p).toArray)).get? a=some (seqObj "list" (eV us p).toArray e3):=⟨_,get?_update_seq g2 fun _=>(eV us p).toArray⟩
  refine wpAny_bind (listUpdate_at g2 rfl ?_ (Nat.zero_le _) (by rw [List.size_toArray,hl,sizeLine_eq]; omega))
  rw [hf]
  simp only [bne_self_eq_false,Bool.false_eq_true,if_false]
  refine wpAny_pure (fin _ t e3 p gp rp (fun b o ne q=>?_) g3)
  rw [Heap.get?_update_ne _ _ _ _ ne]
  exact k2 b o ne q
 by_cases hn:us.length<2
 ·have hn2:us.toArray.size<2:=by rw [List.size_toArray]; exact hn
  rw [if_pos hn2,if_pos hn2]
  refine wpAny_bind (wpAny_pure (wpAny_bind ?_))
  show wpAny (model prog w) A (pure ((),SortSt.mk' general' (us.toArray.zip us.toArray) #[] 7 none)) _ E _
  refine wpAny_pure ?_
  refine close _ (List.range us.length).toArray s.toks (Array.Perm.refl _) (fun z=>by omega) ?_ rfl
  rw [qL]
  show (us.toArray.zip us.toArray).map (·.2)=us.toArray
  apply Array.toList_inj.mp
  simp only [Array.toList_map,Array.toList_zip]
  exact List.map_snd_zip (Nat.le_refl _)
 ·have hn2:¬ us.toArray.size<2:=by rw [List.size_toArray]; exact hn
  rw [if_neg hn2,if_neg hn2]
  refine wpAny_bind (wpAny_mono (hk (by omega) h2 (fun k s'=>k=κ∧s'={ s with heap:=h2 }) k2 ⟨rfl,rfl⟩) (fun k s' hks=>?_) fun _ _ x=>x.elim)
  obtain ⟨rfl,rfl⟩:=hks
  have run:=kat_run (prog:=prog) (w:=w) (A:=A) (E:=E) (s:={ s with heap:=h2 }) (κ:=k) (ks:=us) (vs:=us) (G:=fun p s'=>R p∧Gp us.length p∧∃ t,s'={ s with heap:=h2,toks:=t })
   (Q:=fun st' s'=>∃ p,R p∧Gp us.length p∧(arrOf st').map (·.2)=(eV us p).toArray∧failedOf st'=none∧∃ t,s'={ s with heap:=h2,toks:=t }) rfl (by omega) h64
   (fun p st' s' a1 a2 a3 a4=>⟨p,a4.1,a4.2.1,kat_snds rfl a2,a3,a4.2.2⟩)
   (cD.wp (J:=fun s'=>∃ t,s'={ s with heap:=h2,toks:=t }) (P:=fun p=>R p∧Gp us.length p) (n:=us.length) (lt:=lt) (fun i j C s' hi hj ⟨t,e⟩ hC=>by
    subst e
    exact hc h2 t i j C k2 hi hj fun t'=>hC _ ⟨t',rfl⟩) (fun p s' hp hs=>⟨hp.1,hp.2,hs⟩) (oE (hR (by omega)) (nT (by omega))) ⟨s.toks,rfl⟩)
  refine wpAny_bind (wpAny_mono run ?_ fun _ _ e=>e)
  rintro ⟨⟨⟩,st'⟩ s' ⟨p,rp,gp,ha,hf,t,rfl⟩
  exact close st' p t gp (fun _=>rp) ha hf
end
open PySem PySem.W PySem.Calls PySem.Spec PyProof.Rows
def HX (h h':Heap):Prop:=∀ b o,h.get? b=some o→h'.get? b=some o
section
variable {prog:Program} {w:World} {A:Around} {E:Value→Shared→Prop} {s:Shared}
theorem qA {v:Value} {U:List Value→Prop} {Q:Value→Shared→Prop}
  (hcol:∀ (E':Value→Shared→Prop) (Qc:List Value→Shared→Prop),(∀ (h':Heap) (tk:Nat) (us:List Value),HX s.heap h'→s.heap.objs.size≤h'.objs.size→U us→Qc us { s with heap:=h',toks:=tk })→wpAny (model prog w) A.in1 (collect v) Qc E' s)
  (hu:∀ us,U us→us.length<64∧∃ (κ:SortKind) (lt:Nat→Nat→Bool) (R:Array Nat→Prop),
   (2≤us.length→∀ (h':Heap) (t:Nat) (Qk:SortKind→Shared→Prop),HX s.heap h'→Qk κ { s with heap:=h',toks:=t }→wpAny (model prog w) A.in1.in1 (keyKind' us.toArray) Qk (fun _ _=>False) { s with heap:=h',toks:=t }) ∧
   (∀ (h':Heap) (t i j:Nat) (C:Bool→Shared→Prop),HX s.heap h'→i<us.length→j<us.length→(∀ t',C (lt i j) { s with heap:=h',toks:=t' })→kas_ask prog w A.in1.in1 κ us i j C { s with heap:=h',toks:=t }) ∧
   (2≤us.length→cD us.length lt R (kas_sort us.length)) ∧
   ∀ (h':Heap) (t c D:Nat) (p:Array Nat),Gp us.length p→(2≤us.length→R p)→HX s.heap h'→s.heap.objs.size≤D→h'.get? D=some (seqObj "list" (eV us p).toArray c)→Q (.ref D) { s with heap:=h',toks:=t }) :
  wpAny (model prog w) A (call (.builtin "sorted") [v]) Q E s:=by
 refine Calls.call_function_entry kind_sorted plain_sorted entry_sorted (args_sorted1 _) ?_
 unfold Builtin.«sorted»
 refine wpAny_bind (m:=checkCount "sorted" 1 1 _) (wpAny_pure ?_)
 refine wpAny_bind (hcol _ _ fun h1 t1 us x1 big u1=>?_)
 obtain ⟨l64,κ,lt,R,hk,hc,hR,fin⟩:=hu us u1
 refine wpAny_bind (wpAny_newList ?_ (by rw [sizeLine_eq]; omega))
 have gL:(h1.push (seqObj "list" us.toArray 0)).get? h1.objs.size=some (seqObj "list" us.toArray 0):=Heap.get?_push_size _ rfl
 have x2:HX s.heap (h1.push (seqObj "list" us.toArray 0)):=fun b o e=>Heap.get?_push_of_some _ (x1 b o e)
 have nb:∀ b o,s.heap.get? b=some o→b≠h1.objs.size:=fun b o e=>Nat.ne_of_lt (Heap.lt_size (x1 b o e))
 show wpAny _ _ _ _ _ { s with heap:=h1.push (seqObj "list" us.toArray 0),toks:=t1 }
 refine wpAny_bind (wpAny_holding (wpAny_call_entry slot_list_sort ⟨_,gL,rfl⟩ entry_list_sort ?body (args_list_sort _)))
 case body =>
  refine ue (s:={ s with heap:=h1.push (seqObj "list" us.toArray 0),toks:=t1 }) (κ:=κ) (lt:=lt) (R:=R) gL l64 (fun h2 h' Qk kp q=>hk h2 h' t1 Qk (fun b o e=>kp b o (nb b o e) (x2 b o e)) q) (fun h' t i j C kp hi hj hC=>hc h' t i j C (fun b o e=>kp b o (nb b o e) (x2 b o e)) hi hj hC) hR (fun h' t c p gp rp kp e=>?_)
  exact ⟨_,rfl,wpAny_pure ⟨_,rfl,fin h' t c h1.objs.size p gp rp (fun b o e=>kp b o (nb b o e) (x2 b o e)) big e⟩⟩
end
open PySem PySem.Spec PyProof.Rows
abbrev Key:=Sum Int Str
def rX:Key→Value→Bool
 | .inl k,v=>Value.isInt k v
 | .inr x,v=>Value.isStrOf x v
def Ay (w:World):Key→Int
 | .inl k=>hashInt k
 | .inr x=>hashStr w x
theorem bL:∀ {k:Key} {v:Value},rX k v=true→(∃ i t,k=Sum.inl i∧v=Value.int i t)∨(∃ x t,k=Sum.inr x∧v=Value.str x t)
 | .inl i,v,h=>by
  obtain ⟨t,e⟩:=Value.isInt_shape (k:=i) (v:=v) h
  exact .inl ⟨i,t,rfl,e⟩
 | .inr x,v,h=>by
  obtain ⟨t,e⟩:=Value.isStrOf_shape (x:=x) (v:=v) h
  exact .inr ⟨x,t,rfl,e⟩
theorem sT (x:Str) (t:Tok):rX (.inr x) (.str x t)=true:=by simp [rX,Value.isStrOf]
theorem yB (a b:Int):decide ((Sum.inl a:Key)=Sum.inl b)=(a==b):=by
 by_cases e:a=b
 ·subst e; simp
 ·have h:¬ (Sum.inl a:Key)=Sum.inl b:=fun q=>e (Sum.inl.inj q)
  rw [decide_eq_false h]
  exact (beq_eq_false_iff_ne.mpr e).symm
theorem yt (a b:Str):decide ((Sum.inr a:Key)=Sum.inr b)=decide (a=b):=by
 by_cases e:a=b
 ·subst e; simp
 ·have h:¬ (Sum.inr a:Key)=Sum.inr b:=fun q=>e (Sum.inr.inj q)
  rw [decide_eq_false h,decide_eq_false e]
theorem yr (a:Int) (b:Str):decide ((Sum.inl a:Key)=Sum.inr b)=false:=decide_eq_false (fun q=>nomatch q)
theorem yh (a:Str) (b:Int):decide ((Sum.inr a:Key)=Sum.inl b)=false:=decide_eq_false (fun q=>nomatch q)
def dG (prog:Program) (w:World):PySem.KeyKind prog w Key where
 is:=rX
 hash:=Ay w
 inj:=fun v a b ha hb=>by
  rcases bL ha with ⟨i,t,rfl,rfl⟩ | ⟨x,t,rfl,rfl⟩
  ·rcases bL hb with ⟨j,u,rfl,e⟩ | ⟨y,u,rfl,e⟩
   ·injection e with e1 _; rw [e1]
   ·exact nomatch e
  ·rcases bL hb with ⟨j,u,rfl,e⟩ | ⟨y,u,rfl,e⟩
   ·exact nomatch e
   ·injection e with e1 _; rw [e1]
 byValue:=fun k v h=>by
  rcases bL h with ⟨i,t,rfl,rfl⟩ | ⟨x,t,rfl,rfl⟩<;>rfl
 pyHash:=fun hv h=>by
  rcases bL hv with ⟨i,t,rfl,rfl⟩ | ⟨x,t,rfl,rfl⟩
  ·exact wpAny_pyHash_int h
  ·exact wpAny_pyHash_str h
 eqBool:=fun hu hv h=>by
  rcases bL hu with ⟨i,t,rfl,rfl⟩ | ⟨x,t,rfl,rfl⟩
  ·rcases bL hv with ⟨j,u,rfl,rfl⟩ | ⟨y,u,rfl,rfl⟩
   ·rw [yB] at h; exact wpAny_eqBool_int h
   ·rw [yr] at h; exact SeqAt.EqAt.int_str i t y u _ _ _ _ h
  ·rcases bL hv with ⟨j,u,rfl,rfl⟩ | ⟨y,u,rfl,rfl⟩
   ·rw [yh] at h; exact SeqAt.EqAt.str_int x t j u _ _ _ _ h
   ·rw [yt] at h; exact wpAny_eqBool_str h
 «strs»:=fun k x t v h=>by
  rcases bL h with ⟨i,u,rfl,e⟩ | ⟨y,u,rfl,e⟩
  ·exact nomatch e
  ·injection e with e1 _
   subst e1
   cases v<;>rfl
theorem jm (prog:Program) (w:World) (x:Str) (t:Tok):(dG prog w).is (.inr x) (.str x t)=true:=sT x t
inductive V where
 | non | bl (b:Bool) | int (i:Int) | str (x:Str) | byt (b:Array UInt8) | flt (b:UInt64) | ref (a:Addr) | ty (n:String)
 deriving DecidableEq
def bq:V→Value→Prop
 | .non,u=>u=Value.none
 | .bl b,u=>u=Value.bool b
 | .int i,u=>∃ t,u=Value.int i t
 | .str x,u=>∃ t,u=Value.str x t
 | .byt b,u=>∃ t,u=Value.bytes b t
 | .flt b,u=>∃ t,u=Value.float b t
 | .ref a,u=>u=Value.ref a
 | .ty n,u=>u=Value.type n
abbrev aQ:List V→List Value→Prop:=Paired bq
theorem aQ.length {xs:List V} {us:List Value} (r:aQ xs us):xs.length=us.length:=Paired.length r
theorem aQ.get:∀ {xs:List V} {us:List Value} {i:Nat} {x:V},aQ xs us→xs[i]?=some x→∃ u,us[i]?=some u∧bq x u
 | _,_,_,_,.nil,e=>by simp at e
 | _,_,0,_,.cons r _,e=>by simp at e; subst e; exact ⟨_,rfl,r⟩
 | _,_,i+1,x,.cons _ t,e=>by
  obtain ⟨u,h1,h2⟩:=aQ.get (i:=i) (x:=x) t (by simpa using e)
  exact ⟨u,by simpa using h1,h2⟩
theorem aQ.set {x:V} {u:Value} (r:bq x u):∀ {xs:List V} {us:List Value} (i:Nat),aQ xs us→aQ (xs.set i x) (us.set i u)
 | _,_,_,.nil=>.nil
 | _,_,0,.cons _ t=>.cons r t
 | _,_,i+1,.cons q t=>.cons q (aQ.set r i t)
theorem aQ.append:∀ {xs ys:List V} {us ws:List Value},aQ xs us→aQ ys ws→aQ (xs++ys) (us++ws)
 | _,_,_,_,.nil,s=>s
 | _,_,_,_,.cons r t,s=>.cons r (aQ.append t s)
theorem aQ.take:∀ {xs:List V} {us:List Value} (n:Nat),aQ xs us→aQ (xs.take n) (us.take n)
 | _,_,0,_=>.nil
 | _,_,_+1,.nil=>.nil
 | _,_,n+1,.cons r t=>.cons r (aQ.take n t)
theorem aQ.drop:∀ {xs:List V} {us:List Value} (n:Nat),aQ xs us→aQ (xs.drop n) (us.drop n)
 | _,_,0,r=>r
 | _,_,_+1,.nil=>.nil
 | _,_,n+1,.cons _ t=>aQ.drop n t
def yz:Option V→Option Value→Prop
 | some v,some u=>bq v u
 | none,none=>True
 | _,_=>False
def KV {κ:Type}:List (κ×V)→List (κ×Value)→Prop:=Paired fun (p:κ×V) (q:κ×Value)=>p.1=q.1∧bq p.2 q.2
inductive HO where
 /-- a list -/
 | lst (xs:List V)
 /-- a tuple (never changes) -/
 | tup (xs:List V)
 /-- a dict whose keys are ints and texts; one whose keys are tuples of ints and texts (the empty one is both) -/
 | dK (kvs:List (Key×V)) | dT (kvs:List (PyData×V))
 /-- a set of ints: its members,its size -/
 | set (S:Int→Bool) (n:Nat)
 /-- an instance of the class at C,its dict at dx,its attributes -/
 | ins (C dx:Addr) (fs:List (Str×V))
 /-- the dict of the instance at x -/
 | own (x:Addr)
 /-- the dict of an exception -/
 | xd (fs:List (Str×V))
 /-- a bound method,f of x -/
 | met (f x:Addr)
 /-- a range object lo,lo+1,.. below hi -/
 | rng (lo hi:Int)
 /-- a thing that is known to the object (the script; a dict while a loop walks it): read,never written while it is so -/
 | frz (o:Obj) (u:HO)
 /-- a code object's table -/
 | tbl (ps:Array Value)
 /-- any other thing,by what is true of its one object (a def of one's own: SetO a S n:=HO.ext fun h=>..) -/
 | ext (φ:Heap→Prop)
abbrev Hp:=Addr→Option HO
mutual
inductive KAt (H:Hp):V→PyData→Prop
 | int (i:Int):KAt H (.int i) (.int i)
 | str (x:Str):KAt H (.str x) (.str x)
 | tup {a:Addr} {xs:List V} {ds:List PyData}:H a=some (.tup xs)→bC H xs ds→KAt H (.ref a) (.tuple ds)
inductive bC (H:Hp):List V→List PyData→Prop
 | nil:bC H [] []
 | cons {x:V} {xs:List V} {d:PyData} {ds:List PyData}:KAt H x d→bC H xs ds→bC H (x::xs) (d::ds)
end
mutual
theorem KAt.mono {H H':Hp} (e:∀ b xs,H b=some (.tup xs)→H' b=some (.tup xs)):∀ {v:V} {d:PyData},KAt H v d→KAt H' v d
 | _,_,.int i=>.int i
 | _,_,.str x=>.str x
 | _,_,.tup h r=>.tup (e _ _ h) (bC.mono e r)
theorem bC.mono {H H':Hp} (e:∀ b xs,H b=some (.tup xs)→H' b=some (.tup xs)):∀ {v:List V} {d:List PyData},bC H v d→bC H' v d
 | _,_,.nil=>.nil
 | _,_,.cons h r=>.cons (KAt.mono e h) (bC.mono e r)
end
structure NAt (H:Hp) (a:Addr) (d:PyData):Prop where
 k:KAt H (.ref a) d
 p:pk d=true
 d8:d.depth≤8
theorem NAt.mono {H H':Hp} {a:Addr} {d:PyData} (n:NAt H a d) (e:∀ b xs,H b=some (.tup xs)→H' b=some (.tup xs)):NAt H' a d:=⟨n.k.mono e,n.p,n.d8⟩
def upd (H:Hp) (a:Addr) (o:HO):Hp:=fun b=>if b=a then some o else H b
theorem ad {H:Hp} {a:Addr} {o:HO}:upd H a o a=some o:=by unfold upd; rw [if_pos rfl]
theorem bc {H:Hp} {a b:Addr} {o:HO} (h:b≠a):upd H a o b=H b:=by unfold upd; rw [if_neg h]
theorem wg {H:Hp} {a b:Addr} {o u:HO} (h:H a=some o) (h':H b=some u) (d:o≠u):a≠b:=by
 intro e; subst e; rw [h] at h'; exact d (Option.some.inj h')
theorem aq {H:Hp} {a b:Addr} {o:HO} (h:H a=some o) (h':H b=none):a≠b:=by
 intro e; subst e; rw [h] at h'; cases h'
section
variable (P:Program) (w:World)
def bS (H:Hp) (h:Heap) (a:Addr):HO→Prop
 | .lst xs=>xs.length≤sizeLine∧∃ (its:List Value) (n:Nat),aQ xs its∧h.get? a=some { cls:=.type "list",data:=.seq its.toArray n }
 | .tup xs=>xs.length≤sizeLine∧∃ its:List Value,aQ xs its∧IsTup h a its.toArray∧∃ o,h.get? a=some o∧o.dict=none
 | .dK kvs=>kvs.length≤sizeLine∧(a==sysModules)=false∧∃ vs,KV kvs vs∧h.DictOf (dG P w) a vs
 | .dT kvs=>kvs.length≤sizeLine∧(a==sysModules)=false∧∃ xs:List (PyData×Addr×Value),
   Paired (fun (p:PyData×V) (q:PyData×Addr×Value)=>p.1=q.1∧NAt H q.2.1 p.1∧bq p.2 q.2.2) kvs xs ∧
   ∃ o es ep,h.get? a=some o∧o.ExactDict∧o.data=.dict es ep∧es.toList=xs.map (entryOfKey (tP P w))∧(xs.map (·.1)).Nodup
 | .set S n=>h.SetOf (intKind P w) a S n
 | .ins C dx fs=>H dx=some (.own a)∧fs.length≤1000∧dx≠a∧h.get? a=some (PySem.W.instObj C dx) ∧
   ∃ mA,h.Ns1 dx mA∧(∀ f,yz (fs.lookup f) (mA f))∧PySem.Within mA (fs.map (·.1))
 | .own _=>∃ o,h.get? a=some o
 | .xd fs=>∃ mA,h.Ns1 a mA∧∀ f,yz (fs.lookup f) (mA f)
 | .rng lo hi=>∃ t u v,h.get? a=some { cls:=.type "range",data:=.fields #[.int lo t,.int hi u,.int 1 v] }
 | .frz o u=>h.get? a=some o∧bS H h a u
 | .tbl ps=>h.get? a=some { cls:=.none,data:=.fields ps }
 | .met f x=>h.get? a=some (PySem.W.methodObj (.ref f) (.ref x))
 | .ext φ=>φ h∧(∃ o,h.get? a=some o)∧∀ h1 h2:Heap,φ h1→(∀ o,h1.get? a=some o→h2.get? a=some o)→φ h2
def HOk (H:Hp) (h:Heap):Prop:=∀ a o,H a=some o→bS P w H h a o
end
section
variable {P:Program} {w:World} {H H':Hp} {h h':Heap} {a:Addr} {o:HO}
theorem bS.lt (x:bS P w H h a o):a<h.objs.size:=by
 cases o with
 | lst xs=>obtain ⟨_,_,_,_,e⟩:=x; exact Heap.lt_size e
 | tup xs=>obtain ⟨_,_,_,p,_⟩:=x; exact p.lt
 | dK kvs=>obtain ⟨_,_,_,_,o,_,_,e,_⟩:=x; exact Heap.lt_size e
 | dT kvs=>obtain ⟨_,_,_,_,o,_,_,e,_⟩:=x; exact Heap.lt_size e
 | set S n=>obtain ⟨o,_,_,_,e,_⟩:=x; exact Heap.lt_size e
 | ins C dx fs=>obtain ⟨_,_,_,e,_⟩:=x; exact Heap.lt_size e
 | own y=>obtain ⟨_,e⟩:=x; exact Heap.lt_size e
 | xd fs=>obtain ⟨_,⟨_,_,_,e,_⟩,_⟩:=x; exact Heap.lt_size e
 | rng lo hi=>obtain ⟨_,_,_,e⟩:=x; exact Heap.lt_size e
 | frz ob u=>obtain ⟨e,_⟩:=x; exact Heap.lt_size e
 | tbl ps=>exact Heap.lt_size (show h.get? a=some _ from x)
 | met f y=>exact Heap.lt_size (show h.get? a=some _ from x)
 | ext φ=>obtain ⟨_,⟨_,e⟩,_⟩:=x; exact Heap.lt_size e
theorem Paired.mapP {α β:Type} {F G:α→β→Prop}:∀ {l₁:List α} {l₂:List β},Paired F l₁ l₂→(∀ a b,F a b→G a b)→Paired G l₁ l₂
 | _,_,.nil,_=>.nil
 | _,_,.cons r t,f=>.cons (f _ _ r) (Paired.mapP t f)
theorem bS.stay (x:bS P w H h a o) (k:∀ b u,(b=a∨H b=some (.own a))→h.get? b=some u→h'.get? b=some u)
  (ho:∀ b,H b=some (.own a)→H' b=some (.own a)) (ht:∀ b xs,H b=some (.tup xs)→H' b=some (.tup xs)):bS P w H' h' a o:=by
 induction o with
 | lst xs=>obtain ⟨z,its,n,r,e⟩:=x; exact ⟨z,its,n,r,k _ _ (.inl rfl) e⟩
 | tup xs=>obtain ⟨z,its,r,⟨ob,e,c⟩,o2,e2,d2⟩:=x; exact ⟨z,its,r,⟨ob,k _ _ (.inl rfl) e,c⟩,o2,k _ _ (.inl rfl) e2,d2⟩
 | dK kvs=>obtain ⟨z,y,vs,r,ob,es,ep,e,c⟩:=x; exact ⟨z,y,vs,r,ob,es,ep,k _ _ (.inl rfl) e,c⟩
 | dT kvs =>
  obtain ⟨z,y,xs,r,ob,es,ep,e,c⟩:=x
  exact ⟨z,y,xs,Paired.mapP r fun p q z=>⟨z.1,z.2.1.mono ht,z.2.2⟩,ob,es,ep,k _ _ (.inl rfl) e,c⟩
 | set S n=>obtain ⟨ob,es,ep,t,e,c⟩:=x; exact ⟨ob,es,ep,t,k _ _ (.inl rfl) e,c⟩
 | ins C dx fs =>
  obtain ⟨d,z,ne,e,mA,⟨od,es,ep,e2,c⟩,r⟩:=x
  exact ⟨ho _ d,z,ne,k _ _ (.inl rfl) e,mA,⟨od,es,ep,k _ _ (.inr d) e2,c⟩,r⟩
 | own y=>obtain ⟨ob,e⟩:=x; exact ⟨ob,k _ _ (.inl rfl) e⟩
 | xd fs=>obtain ⟨mA,⟨od,es,ep,e,c⟩,r⟩:=x; exact ⟨mA,⟨od,es,ep,k _ _ (.inl rfl) e,c⟩,r⟩
 | rng lo hi=>obtain ⟨t,u,v,e⟩:=x; exact ⟨t,u,v,k _ _ (.inl rfl) e⟩
 | frz ob u ih=>obtain ⟨e,q⟩:=x; exact ⟨k _ _ (.inl rfl) e,ih q⟩
 | tbl ps =>
  have e:h.get? a=some { cls:=.none,data:=.fields ps }:=x
  show h'.get? a=some { cls:=.none,data:=.fields ps }
  exact k a _ (.inl rfl) e
 | met f y =>
  have e:h.get? a=some (PySem.W.methodObj (.ref f) (.ref y)):=x
  show h'.get? a=some (PySem.W.methodObj (.ref f) (.ref y))
  exact k a _ (.inl rfl) e
 | ext φ=>obtain ⟨p,⟨o,e⟩,st⟩:=x; exact ⟨st _ _ p fun o q=>k _ _ (.inl rfl) q,⟨o,k _ _ (.inl rfl) e⟩,st⟩
theorem HOk.lt (x:HOk P w H h) (e:H a=some o):a<h.objs.size:=(x a o e).lt
theorem HOk.fresh (x:HOk P w H h) (e:h.objs.size≤a):H a=none:=by
 cases q:H a with
 | none=>rfl
 | some u=>exact absurd (Nat.lt_of_lt_of_le (x.lt q) e) (Nat.lt_irrefl _)
theorem HOk.kept (x:HOk P w H h) (k:∀ b u,h.get? b=some u→h'.get? b=some u):HOk P w H h':=fun a o e =>
 (x a o e).stay (fun b u _ q=>k b u q) (fun _ q=>q) fun _ _ q=>q
theorem HOk.laid (x:HOk P w H h) (k:∀ b u,h.get? b=some u→h'.get? b=some u) (hp:h.objs.size≤a) (new:bS P w (upd H a o) h' a o):HOk P w (upd H a o) h':=fun b u e=>by
 have hn:=x.fresh hp
 by_cases hb:b=a
 ·subst hb; rw [ad] at e; cases e; exact new
 ·rw [bc hb] at e
  exact (x b u e).stay (fun c v _ q=>k c v q) (fun c q=>by rw [bc (aq q hn)]; exact q) fun c xs q=>by rw [bc (aq q hn)]; exact q
end
def Rd (H:Hp) (a:Addr) (u:HO):Prop:=H a=some u∨∃ o,H a=some (.frz o u)
theorem Rd.ok {P:Program} {w:World} {H:Hp} {h:Heap} {a:Addr} {u:HO} (r:Rd H a u) (x:HOk P w H h):bS P w H h a u:=by
 rcases r with r | ⟨o,r⟩
 ·exact x a u r
 ·obtain ⟨_,q⟩:=x a _ r
  exact q
def Mut:Option HO→Prop
 | some (.lst _)=>True
 | some (.dK _)=>True
 | some (.dT _)=>True
 | some (.set _ _)=>True
 | some (.ins _ _ _)=>True
 | some (.ext _)=>True
 | _=>False
section
variable {P:Program} {w:World} {H:Hp} {h h':Heap} {x e:Addr} {o':HO}
theorem HOk.write (ok:HOk P w H h) (mu:Mut (H x)) (he:e=x∨H e=some (.own x)) (k:∀ b u,b≠e→h.get? b=some u→h'.get? b=some u) (heo:∃ u,h'.get? e=some u)
  (new:bS P w (upd H x o') h' x o'):HOk P w (upd H x o') h':=fun b u q=>by
 have nown:∀ c y,H c=some (.own y)→c≠x:=fun c y r z=>by subst z; rw [r] at mu; exact mu
 have ntup:∀ c xs,H c=some (.tup xs)→c≠x:=fun c xs r z=>by subst z; rw [r] at mu; exact mu
 by_cases hb:b=x
 ·subst hb; rw [ad] at q; cases q; exact new
 ·rw [bc hb] at q
  by_cases hbe:b=e
  ·have q':H b=some (.own x):=by
    rcases he with z | z
    ·exact absurd (hbe.trans z) hb
    ·rw [hbe]; exact z
   rw [q] at q'; cases q'
   obtain ⟨v,hv⟩:=heo
   exact ⟨v,by rw [hbe]; exact hv⟩
  ·refine (ok b u q).stay (fun c v hc r=>k c v ?_ r) (fun c r=>by rw [bc (nown c b r)]; exact r) fun c xs r=>by rw [bc (ntup c xs r)]; exact r
   rcases hc with rfl | hc
   ·exact hbe
   ·rintro rfl
    rcases he with z | z
    ·exact nown c b hc z
    ·rw [hc] at z; cases z; exact hb rfl
end
structure Un (fs ex:List Addr) (H H':Hp) (h h':Heap):Prop where
 keep:∀ b o,h.get? b=some o→H b=none→b∉fs→b∉ex→h'.get? b=some o
 slot:∀ b o,h.get? b=some o→H b=none→b∈fs→b∉ex→∃ sl,h'.get? b=some { o with slots:=sl }
 free:∀ b o,h.get? b=some o→H b=none→b∉ex→H' b=none
 there:∀ b o,h.get? b=some o→b∉ex→∃ o',h'.get? b=some o'
 tups:∀ b xs,H b=some (.tup xs)→H' b=some (.tup xs)
 frzs:∀ b o u,H b=some (.frz o u)→H' b=some (.frz o u)
 tbls:∀ b ps,H b=some (.tbl ps)→∃ more,H' b=some (.tbl (ps++more))
section
variable {fs fs' ex ex':List Addr} {H H1 H2:Hp} {h h1 h2 h':Heap} {a x e:Addr} {o:HO}
theorem Un.any (u:Un fs ex H H1 h h1) {b:Addr} {ob:Obj} (q:h.get? b=some ob) (n:H b=none) (hx:b∉ex):∃ sl,h1.get? b=some { ob with slots:=sl }:=by
 by_cases hb:b∈fs
 ·exact u.slot b ob q n hb hx
 ·exact ⟨ob.slots,u.keep b ob q n hb hx⟩
theorem Un.kept (k:∀ b u,h.get? b=some u→h'.get? b=some u):Un fs ex H H h h' :=
 ⟨fun b ob q _ _ _=>k b ob q,fun b ob q _ _ _=>⟨ob.slots,k b ob q⟩,fun _ _ _ n _=>n,fun b ob q _=>⟨ob,k b ob q⟩,fun _ _ q=>q,fun _ _ _ q=>q,fun _ ps q=>⟨#[],by rw [q]; simp⟩⟩
theorem Un.refl:Un fs ex H H h h:=Un.kept fun _ _ q=>q
theorem Un.laid (k:∀ b u,h.get? b=some u→h'.get? b=some u) (hp:h.objs.size≤a) (hn:H a=none):Un fs ex H (upd H a o) h h' where
 keep:=fun b u q _ _ _=>k b u q
 slot:=fun b u q _ _ _=>⟨u.slots,k b u q⟩
 free:=fun b u q n _=>by rw [bc (Nat.ne_of_lt (Nat.lt_of_lt_of_le (Heap.lt_size q) hp))]; exact n
 there:=fun b u q _=>⟨u,k b u q⟩
 tups:=fun b xs q=>by rw [bc (aq q hn)]; exact q
 frzs:=fun b u xs q=>by rw [bc (aq q hn)]; exact q
 tbls:=fun b ps q=>⟨#[],by rw [bc (aq q hn),q]; simp⟩
theorem Un.write (mu:Mut (H x)) (he:e=x∨H e=some (.own x)) (k:∀ b u,b≠e→h.get? b=some u→h'.get? b=some u) (heo:∃ u,h'.get? e=some u):Un fs ex H (upd H x o) h h':=by
 have hx:∀ b,H b=none→b≠x:=fun b n z=>by subst z; rw [n] at mu; exact mu
 have hb:∀ b,H b=none→b≠e:=fun b n z=>by
  subst z
  rcases he with r | r
  ·exact hx b n r
  ·rw [n] at r; cases r
 have hm:∀ b u,H b=some u→¬ Mut (some u)→b≠x:=fun b u q nm z=>by subst z; rw [q] at mu; exact nm mu
 refine ⟨fun b u q n _ _=>k b u (hb b n) q,fun b u q n _ _=>⟨u.slots,k b u (hb b n) q⟩,fun b u q n _=>by rw [bc (hx b n)]; exact n,fun b u q _=>?_,
  fun b xs q=>by rw [bc (hm b _ q fun z=>z)]; exact q,fun b u xs q=>by rw [bc (hm b _ q fun z=>z)]; exact q,fun b ps q=>⟨#[],by rw [bc (hm b _ q fun z=>z),q]; simp⟩⟩
 by_cases hbe:b=e
 ·subst hbe; exact heo
 ·exact ⟨u,k b u hbe q⟩
end
def trk (h:Heap) (H:Hp):List Addr:=(List.range h.objs.size).filter fun a=>(H a).isSome
def mR (h:Heap) (H:Hp):Heap:=PySem.W.hideAll h (trk h H)
theorem sS (h:Heap) (H:Hp):(mR h H).objs.size=h.objs.size:=PySem.W.hideAll_size _ _
theorem vp {h:Heap} {H:Hp} {b:Addr} {o:Obj} (e:h.get? b=some o) (n:H b=none):(mR h H).get? b=some o :=
 PySem.W.hideAll_get _ e fun hm=>by
  have q:(H b).isSome=true:=(List.mem_filter.mp hm).2
  rw [n] at q; simp at q
theorem wA {h:Heap} {H:Hp} {b:Addr} {o:Obj} (e:(mR h H).get? b=some o):h.get? b=some o∧H b=none:=by
 have e':h.get? b=some o:=PySem.W.of_hideAll (trk h H) e
 refine ⟨e',?_⟩
 cases q:H b with
 | none=>rfl
 | some x =>
  have hm:b∈trk h H:=List.mem_filter.mpr ⟨List.mem_range.mpr (Heap.lt_size e'),by simp [q]⟩
  have z:(mR h H).get? b=none:=PySem.W.hideAll_none (trk h H) hm
  rw [z] at e; cases e
open PySem PySem.Spec PyProof.Rows
structure Mod (K:Frag) (mg:Str→Option Value) (base:Heap):Prop where
 kin:K.In base
 glob:base.Ns mainGlobals mg
 blt:∃ mb,base.Ns builtinsNs mb∧∀ x:Str,x ≠ "__name__"→mb x=bootBuiltins x
 nolimit:base.NoLimit
structure Cx where
 prog:Program
 w:World
 K:Frag
 mg:Str→Option Value
 base:Heap
 A:Around
 N:List Str
 s₀:Shared
 H₀:Hp
 env:Env
 outer:List Env
 stack:List Env
 ex:List Addr
 fn:Str→Bool
 calm:Bool
 pn:List (Addr×Obj)
 xe:Value→Shared→Prop
def frs (l:List Env):List Addr:=l.filterMap (·.frame)
abbrev Cx.fs (X:Cx):List Addr:=frs X.outer
def Vis (sc:Scope) (x:Str):Prop:=sc.names.lookup x=some .local∨sc.names.lookup x=some .cell∨sc.names.lookup x=some .free
def Loc (sc:Scope) (x:Str):Prop:=sc.names.lookup x=some .local∨sc.names.lookup x=some .cell
def Am (env:Env) (h:Heap) (m:Str→Option Value) (x:Str) (u:Value):Prop :=
 (env.kindOf x=some .local∧m x=some u)∨((env.kindOf x=some .cell∨env.kindOf x=some .free)∧∃ c,env.cells.lookup x=some c∧h.IsCell c (some u))
structure Cx.Ok (X:Cx):Prop where
 mod:Mod X.K X.mg X.base
 kind:X.env.scope.kind=.function
 glob:X.env.globals=mainGlobals
 blt:X.env.builtins=builtinsNs
 above:X.s₀.heap.objs.size≤X.env.locals
 inj:∀ x y c,X.env.cells.lookup x=some c→X.env.cells.lookup y=some c→x=y
 has:∀ x,(X.env.kindOf x=some .cell∨X.env.kindOf x=some .free)→∃ c,X.env.cells.lookup x=some c
 cab:∀ x c,X.fn x=true→X.env.cells.lookup x=some c→X.s₀.heap.objs.size≤c
 hd:X.calm=true→X.A.handled=none
 frames:X.A.frames=some X.stack
 stk:X.stack=X.outer∨(X.stack=X.env::X.outer∧X.env.frame=some X.env.locals)
 exf:∀ b∈X.ex,b≠X.env.locals∧∀ x c,X.env.cells.lookup x=some c→c≠b
 bs:∀ b o,X.base.get? b=some o→X.s₀.heap.get? b=some o∧X.H₀ b=none
 bsz:X.base.objs.size≤X.s₀.heap.objs.size
 noex:∀ b o,X.base.get? b=some o→b∉X.ex
 exfs:∀ b∈X.ex,b∉X.fs
 funs:X.s₀.heap.FunFrames X.base X.outer
 frf:∀ b∈X.fs,X.H₀ b=none
structure Inv (X:Cx) (pins:List (Addr×Obj)) (σ:List (Option V)) (H:Hp) (s:Shared):Prop where
 ok:X.Ok
 os:s.os=X.s₀.os
 bare:AllBare s.gens
 base:Un X.fs X.ex X.H₀ H X.s₀.heap s.heap
 loc:∃ m,s.heap.Ns X.env.locals m∧∀ (i:Nat) (x:Str) (v:V),X.N[i]?=some x→σ[i]?=some (some v)→Vis X.env.scope x→∃ u,bq v u∧Am X.env s.heap m x u
 cell:∀ x c,X.env.cells.lookup x=some c→∃ v,s.heap.IsCell c v
 free:H X.env.locals=none
 freeC:∀ x c,X.env.cells.lookup x=some c→H c=none
 pin:∀ p∈X.pn++pins,s.heap.get? p.1=some p.2∧H p.1=none∧p.1≠X.env.locals∧p.1∉X.fs∧∀ v,p.2.data≠.cell v
 hok:HOk X.prog X.w H s.heap
 len:σ.length=X.N.length
section
variable {X:Cx} {pins:List (Addr×Obj)} {σ:List (Option V)} {H H':Hp} {s:Shared} {h':Heap}
theorem Cx.Ok.nofr (ok:X.Ok) {b:Addr} {o:Obj} (e:X.base.get? b=some o):b∉X.fs:=fun hb=>by
 have:=(ok.funs.mem hb).1
 rw [e] at this; cases this
theorem Inv.bs (I:Inv X pins σ H s):∀ b o,X.base.get? b=some o→s.heap.get? b=some o∧H b=none:=fun b o e =>
 ⟨I.base.keep b o (I.ok.bs b o e).1 (I.ok.bs b o e).2 (I.ok.nofr e) (I.ok.noex b o e),I.base.free b o (I.ok.bs b o e).1 (I.ok.bs b o e).2 (I.ok.noex b o e)⟩
theorem Inv.bk (I:Inv X pins σ H s):∀ b o,X.base.get? b=some o→s.heap.get? b=some o:=fun b o e=>(I.bs b o e).1
theorem Inv.mod (I:Inv X pins σ H s):Mod X.K X.mg X.base:=I.ok.mod
theorem Inv.kIn (I:Inv X pins σ H s):X.K.In s.heap:=I.ok.mod.kin.keeps I.bk
theorem Inv.fr (I:Inv X pins σ H s):∃ m,Fr X.base X.env.locals s.heap m :=
 let ⟨m,hn,_⟩:=I.loc
 ⟨m,hn,I.bk,Nat.le_trans I.ok.bsz I.ok.above⟩
theorem Inv.lt (I:Inv X pins σ H s):X.env.locals<s.heap.objs.size:=let ⟨_,hn,_⟩:=I.loc; hn.lt
theorem Inv.sz (I:Inv X pins σ H s):X.s₀.heap.objs.size≤s.heap.objs.size:=Nat.le_trans I.ok.above (Nat.le_of_lt I.lt)
theorem Inv.nofs (I:Inv X pins σ H s) {a:Addr} (h:s.heap.objs.size≤a):a∉X.fs:=fun hb=>by
 obtain ⟨_,o,ho,_⟩:=I.ok.funs.mem hb
 exact absurd (Nat.lt_of_lt_of_le (Heap.lt_size ho) (Nat.le_trans I.sz h)) (Nat.lt_irrefl _)
theorem Inv.cne (I:Inv X pins σ H s):∀ x c,X.env.cells.lookup x=some c→c≠X.env.locals:=fun x c e z=>by
 obtain ⟨v,o,ho,hd⟩:=I.cell x c e
 obtain ⟨m,⟨o',es,ep,ho',hd',_⟩,_⟩:=I.loc
 rw [z,ho'] at ho; cases ho; rw [hd'] at hd; cases hd
theorem Inv.funs (I:Inv X pins σ H s):s.heap.FunFrames X.base X.outer:=by
 have all:∀ (l:List Env),(∀ b∈frs l,b∈X.fs)→X.s₀.heap.FunFrames X.base l→s.heap.FunFrames X.base l:=by
  intro l
  induction l with
  | nil=>intro _ _; trivial
  | cons env r ih =>
   intro hs hl
   obtain ⟨hk,⟨L,o,hf,hn,ho,hd⟩,hr⟩:=hl
   have hL:L∈X.fs:=hs L (by unfold frs; rw [List.filterMap_cons,hf]; exact List.mem_cons_self)
   obtain ⟨sl,e⟩:=I.base.slot L o ho (I.ok.frf L hL) hL fun z=>I.ok.exfs L z hL
   exact ⟨hk,⟨L,_,hf,hn,e,hd⟩,ih (fun b hb=>hs b (by unfold frs; rw [List.filterMap_cons,hf]; exact List.mem_cons_of_mem _ hb)) hr⟩
 exact all X.outer (fun _ hb=>hb) I.ok.funs
theorem Inv.stack (I:Inv X pins σ H s):s.heap.FunFrames X.base X.stack:=by
 rcases I.ok.stk with e | ⟨e,hf⟩
 ·rw [e]; exact I.funs
 ·rw [e]
  obtain ⟨m,hn,_⟩:=I.loc
  refine .cons (by rw [I.ok.kind]; decide) hf hn ?_ I.funs
  exact Heap.get?_none_of_le (Nat.le_trans I.ok.bsz I.ok.above)
theorem Inv.stkSub (I:Inv X pins σ H s):∀ b∈frs X.stack,b∈X.env.locals::X.fs:=fun b hb=>by
 rcases I.ok.stk with e | ⟨e,hf⟩
 ·rw [e] at hb; exact List.mem_cons_of_mem _ hb
 ·rw [e] at hb
  unfold frs at hb
  rw [List.filterMap_cons,hf] at hb
  exact hb
theorem Inv.stkFree (I:Inv X pins σ H s):∀ b∈frs X.stack,H b=none:=fun b hb=>by
 rcases List.mem_cons.mp (I.stkSub b hb) with e | hb
 ·rw [e]; exact I.free
 ·obtain ⟨_,o,ho,_⟩:=I.ok.funs.mem hb
  exact I.base.free b o ho (I.ok.frf b hb) fun z=>I.ok.exfs b z hb
theorem Inv.step {g':Array GenState} {t':Nat} {d':Drawn} {ch:List Addr} (I:Inv X pins σ H s)
  (hch:∀ b∈ch,(b∈X.ex∨X.s₀.heap.objs.size≤b)∧b≠X.env.locals∧(∀ x c,X.env.cells.lookup x=some c→c≠b)∧∀ p∈X.pn++pins,p.1≠b)
  (keep:∀ b o,b≠X.env.locals→b∉X.fs→b∉ch→s.heap.get? b=some o→H b=none→h'.get? b=some o)
  (slot:∀ b o,b≠X.env.locals→b∈X.fs→b∉ch→s.heap.get? b=some o→H b=none→∃ sl,h'.get? b=some { o with slots:=sl }) (free:∀ b o,b∉ch→s.heap.get? b=some o→H b=none→H' b=none)
  (there:∀ b o,b∉ch→s.heap.get? b=some o→∃ o',h'.get? b=some o')
  (tups:∀ b xs,H b=some (.tup xs)→H' b=some (.tup xs)) (frzs:∀ b o u,H b=some (.frz o u)→H' b=some (.frz o u)) (tbls:∀ b ps,H b=some (.tbl ps)→∃ more,H' b=some (.tbl (ps++more)))
  (ns:∀ m,s.heap.Ns X.env.locals m→h'.Ns X.env.locals m) (hok:HOk X.prog X.w H' h') (hg:AllBare g') :
  Inv X pins σ H' { s with heap:=h',gens:=g',drawn:=d',toks:=t' }:=by
 have neL:∀ b o,X.s₀.heap.get? b=some o→b≠X.env.locals:=fun b o e=>Nat.ne_of_lt (Nat.lt_of_lt_of_le (Heap.lt_size e) I.ok.above)
 have neC:∀ b o,X.s₀.heap.get? b=some o→b∉X.ex→b∉ch:=fun b o e hx hb=>by
  rcases (hch b hb).1 with z | z
  ·exact hx z
  ·exact absurd (Nat.lt_of_lt_of_le (Heap.lt_size e) z) (Nat.lt_irrefl _)
 have cellK:∀ x c,X.env.cells.lookup x=some c→∀ v,s.heap.IsCell c v→h'.IsCell c v:=fun x c e v ⟨o,ho,hd⟩=>by
  have nch:c∉ch:=fun z=>(hch c z).2.2.1 x c e rfl
  by_cases hc:c∈X.fs
  ·obtain ⟨sl,q⟩:=slot c o (I.cne x c e) hc nch ho (I.freeC x c e)
   exact ⟨_,q,hd⟩
  ·exact ⟨o,keep c o (I.cne x c e) hc nch ho (I.freeC x c e),hd⟩
 refine ⟨I.ok,I.os,hg,⟨fun b o e n hb hx=>?_,fun b o e n hb hx=>?_,fun b o e n hx=>?_,fun b o e hx=>?_,fun b xs e=>tups b xs (I.base.tups b xs e),fun b o xs e=>frzs b o xs (I.base.frzs b o xs e),fun b ps e=>?_⟩,?_,fun x c e=>?_,?_,fun x c e=>?_,fun p hp=>?_,hok,I.len⟩
 ·exact keep b o (neL b o e) hb (neC b o e hx) (I.base.keep b o e n hb hx) (I.base.free b o e n hx)
 ·obtain ⟨sl,e1⟩:=I.base.slot b o e n hb hx
  obtain ⟨sl',e2⟩:=slot b _ (neL b o e) hb (neC b o e hx) e1 (I.base.free b o e n hx)
  exact ⟨sl',e2⟩
 ·obtain ⟨o',e1⟩:=I.base.there b o e hx
  exact free b o' (neC b o e hx) e1 (I.base.free b o e n hx)
 ·obtain ⟨o',e1⟩:=I.base.there b o e hx
  exact there b o' (neC b o e hx) e1
 ·obtain ⟨m1,e1⟩:=I.base.tbls b ps e
  obtain ⟨m2,e2⟩:=tbls b _ e1
  exact ⟨m1++m2,by rw [e2,Array.append_assoc]⟩
 ·obtain ⟨m,hn,hl⟩:=I.loc
  refine ⟨m,ns m hn,fun i x v e1 e2 e3=>?_⟩
  obtain ⟨u,r,l⟩:=hl i x v e1 e2 e3
  refine ⟨u,r,?_⟩
  rcases l with l | ⟨k,c,e,z⟩
  ·exact .inl l
  ·exact .inr ⟨k,c,e,cellK x c e _ z⟩
 ·obtain ⟨v,z⟩:=I.cell x c e
  exact ⟨v,cellK x c e v z⟩
 ·obtain ⟨m,⟨o,_,_,ho,_⟩,_⟩:=I.loc
  exact free _ o (fun z=>(hch _ z).2.1 rfl) ho I.free
 ·obtain ⟨v,o,ho,hd⟩:=I.cell x c e
  exact free c o (fun z=>(hch c z).2.2.1 x c e rfl) ho (I.freeC x c e)
 ·obtain ⟨e,n,ne,nf,d⟩:=I.pin p hp
  have nch:p.1∉ch:=fun z=>(hch p.1 z).2.2.2 p hp rfl
  exact ⟨keep p.1 p.2 ne nf nch e n,free p.1 p.2 nch e n,ne,nf,d⟩
theorem Inv.un {t':Nat} (I:Inv X pins σ H s) (u:Un X.fs [] H H' s.heap h') (hok:HOk X.prog X.w H' h'):Inv X pins σ H' { s with heap:=h',toks:=t' }:=by
 obtain ⟨m,⟨o,es,ep,ho,r⟩,_⟩:=id I.loc
 obtain ⟨sl,hL⟩:=u.any ho I.free (by simp)
 exact I.step (g':=s.gens) (d':=s.drawn) (ch:=[]) (fun _ z=>nomatch z) (fun b o _ hb _ e n=>u.keep b o e n hb (by simp)) (fun b o _ hb _ e n=>u.slot b o e n hb (by simp)) (fun b o _ e n=>u.free b o e n (by simp)) (fun b o _ e=>u.there b o e (by simp)) u.tups u.frzs u.tbls (fun m' hm=>by
  obtain ⟨o',es',ep',ho',r'⟩:=hm
  rw [ho] at ho'; cases ho'
  exact ⟨_,es',ep',hL,r'⟩) hok I.bare
theorem Inv.call {g':Array GenState} {t':Nat} {d':Drawn} {ch:List Addr} (I:Inv X pins σ H s) (u:Un (frs X.stack) ch H H' s.heap h') (hok:HOk X.prog X.w H' h') (hg:AllBare g')
  (hch:∀ b∈ch,(b∈X.ex∨X.s₀.heap.objs.size≤b)∧b≠X.env.locals∧(∀ x c,X.env.cells.lookup x=some c→c≠b)∧∀ p∈X.pn++pins,p.1≠b) :
  Inv X pins σ H' { s with heap:=h',gens:=g',drawn:=d',toks:=t' }:=by
 obtain ⟨m,⟨o,es,ep,ho,r⟩,_⟩:=id I.loc
 obtain ⟨sl,hL⟩:=u.any ho I.free fun z=>(hch _ z).2.1 rfl
 exact I.step (ch:=ch) hch (fun b o hL hb hc e n=>u.keep b o e n (fun z=>(List.mem_cons.mp (I.stkSub b z)).elim hL hb) hc) (fun b o _ _ hc e n=>u.any e n hc) (fun b o hc e n=>u.free b o e n hc) (fun b o hc e=>u.there b o e hc) u.tups u.frzs u.tbls (fun m' hm=>by
  obtain ⟨o',es',ep',ho',r'⟩:=hm
  rw [ho] at ho'; cases ho'
  exact ⟨_,es',ep',hL,r'⟩) hok hg
theorem Inv.turned {t':Nat} {it:Addr} (I:Inv X pins σ H s) (k:∀ b o,b≠it→s.heap.get? b=some o→h'.get? b=some o) (hn:H it=none) (hL:it≠X.env.locals)
  (h1:it∈X.ex∨X.s₀.heap.objs.size≤it) (h2:∀ x c,X.env.cells.lookup x=some c→c≠it) (h3:∀ p∈X.pn++pins,p.1≠it):Inv X pins σ H { s with heap:=h',toks:=t' }:=by
 have nit:∀ b u,H b=some u→b≠it:=fun b u e z=>by rw [z,hn] at e; cases e
 refine I.step (g':=s.gens) (d':=s.drawn) (ch:=[it]) (fun b hb=>?_) (fun b o _ _ hc e _=>k b o (fun z=>hc (by simp [z])) e) (fun b o _ _ hc e _=>⟨o.slots,k b o (fun z=>hc (by simp [z])) e⟩) (fun _ _ _ _ n=>n)
  (fun b o hc e=>⟨o,k b o (fun z=>hc (by simp [z])) e⟩) (fun _ _ e=>e) (fun _ _ _ e=>e) (fun b ps e=>⟨#[],by rw [e]; simp⟩) (fun m hm=>?_) (fun b u e=>?_) I.bare
 ·have e:b=it:=by simpa using hb
  subst e
  exact ⟨h1,hL,h2,h3⟩
 ·obtain ⟨o,es,ep,ho,r⟩:=hm
  exact ⟨o,es,ep,k _ o (Ne.symm hL) ho,r⟩
 ·refine (I.hok b u e).stay (fun c v hc q=>k c v ?_ q) (fun _ q=>q) fun _ _ q=>q
  rcases hc with z | z
  ·rw [z]; exact nit b u e
  ·exact nit c _ z
theorem Inv.tok (I:Inv X pins σ H s) (t:Nat):Inv X pins σ H { s with toks:=t }:=I.un (h':=s.heap) (t':=t) Un.refl I.hok
theorem Inv.kept {t':Nat} (I:Inv X pins σ H s) (k:∀ b u,s.heap.get? b=some u→h'.get? b=some u):Inv X pins σ H { s with heap:=h',toks:=t' }:=I.un (Un.kept k) (I.hok.kept k)
theorem Inv.laid {a:Addr} {o:HO} {t':Nat} (I:Inv X pins σ H s) (k:∀ b u,s.heap.get? b=some u→h'.get? b=some u) (hp:s.heap.objs.size≤a) (new:bS X.prog X.w (upd H a o) h' a o) :
  Inv X pins σ (upd H a o) { s with heap:=h',toks:=t' }:=I.un (Un.laid k hp (I.hok.fresh hp)) (I.hok.laid k hp new)
theorem Inv.write {x e:Addr} {o:HO} {t':Nat} (I:Inv X pins σ H s) (mu:Mut (H x)) (he:e=x∨H e=some (.own x)) (k:∀ b u,b≠e→s.heap.get? b=some u→h'.get? b=some u) (heo:∃ u,h'.get? e=some u)
  (new:bS X.prog X.w (upd H x o) h' x o):Inv X pins σ (upd H x o) { s with heap:=h',toks:=t' }:=I.un (Un.write mu he k heo) (I.hok.write mu he k heo new)
theorem Inv.weak {σ':List (Option V)} (I:Inv X pins σ H s) (hl:σ'.length=σ.length) (w:∀ (i:Nat) v,σ'[i]?=some (some v)→σ[i]?=some (some v)):Inv X pins σ' H s :=
 ⟨I.ok,I.os,I.bare,I.base,let ⟨m,hn,hl'⟩:=I.loc; ⟨m,hn,fun i x v e1 e2 e3=>hl' i x v e1 (w i v e2) e3⟩,I.cell,I.free,I.freeC,I.pin,I.hok,hl.trans I.len⟩
theorem Inv.pins_of {pins':List (Addr×Obj)} (I:Inv X pins σ H s) (h:∀ p∈pins',s.heap.get? p.1=some p.2∧H p.1=none∧p.1≠X.env.locals∧p.1∉X.fs∧∀ v,p.2.data≠.cell v):Inv X pins' σ H s :=
 ⟨I.ok,I.os,I.bare,I.base,I.loc,I.cell,I.free,I.freeC,fun p hp=>(List.mem_append.mp hp).elim (fun z=>I.pin p (List.mem_append_left _ z)) (h p),I.hok,I.len⟩
theorem oo {N:List Str} (hN:N.Nodup) {i j:Nat} {x:Str} (a:N[i]?=some x) (b:N[j]?=some x):i=j:=by
 obtain ⟨h1,e1⟩:=List.getElem?_eq_some_iff.mp a
 obtain ⟨h2,e2⟩:=List.getElem?_eq_some_iff.mp b
 exact (List.getElem_inj hN).mp (e1.trans e2.symm)
theorem sF {M:Model} {A:Around} {E:Value→Shared→Prop} {i:Nat} {x:Str} {v:V} {u:Value} {Q:Unit→Shared→Prop} (I:Inv X pins σ H s) (hN:X.N.Nodup) (hi:X.N[i]?=some x) (hx:Loc X.env.scope x) (r:bq v u)
  (h:∀ s',Inv X pins (σ.set i (some v)) H s'→(∃ a,Heap.SameBut a s.heap s'.heap∧(a=X.env.locals∨X.env.cells.lookup x=some a))→Q () s') (hf:X.fn x=true∨X.env.scope.names.lookup x=some .local:=by first | exact .inl rfl | exact .inr rfl | assumption):wpAny M A (storeName X.env x u) Q E s:=by
 obtain ⟨m,hn,hl⟩:=id I.loc
 have hcls:(X.env.scope.kind==.class||(X.env.scope.kind==.module&&X.env.locals != X.env.globals))=false:=by rw [I.ok.kind]; rfl
 have hiσ:i<σ.length:=by rw [I.len]; exact (List.getElem?_eq_some_iff.mp hi).1
 have cne:=I.cne
 have tracked:∀ {a:Addr} {h':Heap},(∃ o,s.heap.get? a=some o∧H a=none)→Heap.SameBut a s.heap h'→HOk X.prog X.w H h':=fun {a h'} ha hs b ob e=>by
  obtain ⟨_,_,hfree⟩:=ha
  refine (I.hok b ob e).stay (fun c w' hc q=>(hs.2 c ?_).trans q) (fun _ q=>q) fun _ _ q=>q
  rintro rfl
  rcases hc with rfl | hc
  ·rw [hfree] at e; cases e
  ·rw [hfree] at hc; cases hc
 rcases hx with hk | hk
 ·refine wpAny_storeName_local hk hn (fun h' hn' hs=>?_) hcls
  obtain ⟨oL,_,_,hoL,_⟩:=id hn
  refine h _ ⟨I.ok,I.os,I.bare,⟨fun b o e n hb hx=>?_,fun b o e n hb hx=>?_,I.base.free,fun b o e hx=>?_,I.base.tups,I.base.frzs,I.base.tbls⟩,⟨_,hn',fun j y v' e1 e2 e3=>?_⟩,fun y c e=>?_,I.free,I.freeC,fun p hp=>?_,tracked ⟨oL,hoL,I.free⟩ hs,by simpa using I.len⟩ ⟨_,hs,.inl rfl⟩
  ·exact (hs.2 b (Nat.ne_of_lt (Nat.lt_of_lt_of_le (Heap.lt_size e) I.ok.above))).trans (I.base.keep b o e n hb hx)
  ·obtain ⟨sl,e1⟩:=I.base.slot b o e n hb hx
   exact ⟨sl,(hs.2 b (Nat.ne_of_lt (Nat.lt_of_lt_of_le (Heap.lt_size e) I.ok.above))).trans e1⟩
  ·obtain ⟨o',e1⟩:=I.base.there b o e hx
   exact ⟨o',(hs.2 b (Nat.ne_of_lt (Nat.lt_of_lt_of_le (Heap.lt_size e) I.ok.above))).trans e1⟩
  ·by_cases hj:j=i
   ·subst hj
    rw [hi] at e1; cases e1
    rw [List.getElem?_set_self hiσ] at e2
    cases e2
    exact ⟨u,r,.inl ⟨hk,by simp⟩⟩
   ·rw [List.getElem?_set_ne (Ne.symm hj)] at e2
    obtain ⟨u',r',q⟩:=hl j y v' e1 e2 e3
    refine ⟨u',r',?_⟩
    rcases q with ⟨k,e⟩ | ⟨k,c,e,z⟩
    ·refine .inl ⟨k,?_⟩
     have:y≠x:=fun e=>hj (oo hN e1 (e ▸ hi))
     simp [this,e]
    ·exact .inr ⟨k,c,e,z.sameBut hs (cne y c e)⟩
  ·obtain ⟨w',z⟩:=I.cell y c e
   exact ⟨w',z.sameBut hs (cne y c e)⟩
  ·obtain ⟨e,n,ne,nf,d⟩:=I.pin p hp
   exact ⟨(hs.2 p.1 ne).trans e,n,ne,nf,d⟩
 ·have hfn:X.fn x=true:=by
   rcases hf with z | z
   ·exact z
   ·rw [z] at hk; cases hk
  obtain ⟨c,hc⟩:=I.ok.has x (.inl hk)
  obtain ⟨w',z⟩:=I.cell x c hc
  refine wpAny_storeName_cell I.ok.kind hk hc z (fun h' hc' hs=>?_)
  obtain ⟨oc,hoc,hocd⟩:=id z
  refine h { s with heap:=h' } ⟨I.ok,I.os,I.bare,⟨fun b o e n hb hx=>?_,fun b o e n hb hx=>?_,I.base.free,fun b o e hx=>?_,I.base.tups,I.base.frzs,I.base.tbls⟩,⟨m,hn.sameBut hs (Ne.symm (cne x c hc)),fun j y v' e1 e2 e3=>?_⟩,fun y c' e=>?_,I.free,I.freeC,fun p hp=>?_,tracked ⟨oc,hoc,I.freeC x c hc⟩ hs,by simpa using I.len⟩ ⟨c,hs,.inr hc⟩
  ·exact (hs.2 b (Nat.ne_of_lt (Nat.lt_of_lt_of_le (Heap.lt_size e) (I.ok.cab x c hfn hc)))).trans (I.base.keep b o e n hb hx)
  ·obtain ⟨sl,e1⟩:=I.base.slot b o e n hb hx
   exact ⟨sl,(hs.2 b (Nat.ne_of_lt (Nat.lt_of_lt_of_le (Heap.lt_size e) (I.ok.cab x c hfn hc)))).trans e1⟩
  ·obtain ⟨o',e1⟩:=I.base.there b o e hx
   exact ⟨o',(hs.2 b (Nat.ne_of_lt (Nat.lt_of_lt_of_le (Heap.lt_size e) (I.ok.cab x c hfn hc)))).trans e1⟩
  ·by_cases hj:j=i
   ·subst hj
    rw [hi] at e1; cases e1
    rw [List.getElem?_set_self hiσ] at e2
    cases e2
    exact ⟨u,r,.inr ⟨.inl hk,c,hc,hc'⟩⟩
   ·rw [List.getElem?_set_ne (Ne.symm hj)] at e2
    obtain ⟨u',r',q⟩:=hl j y v' e1 e2 e3
    refine ⟨u',r',?_⟩
    rcases q with q | ⟨k,c',e,z'⟩
    ·exact .inl q
    ·refine .inr ⟨k,c',e,z'.sameBut hs ?_⟩
     rintro rfl
     exact hj (oo hN e1 (I.ok.inj _ _ _ e hc ▸ hi))
  ·by_cases hcc:c'=c
   ·subst hcc; exact ⟨_,hc'⟩
   ·obtain ⟨w2,z2⟩:=I.cell y c' e
    exact ⟨w2,z2.sameBut hs hcc⟩
  ·obtain ⟨e,n,ne,nf,d⟩:=I.pin p hp
   refine ⟨(hs.2 p.1 ?_).trans e,n,ne,nf,d⟩
   intro q
   rw [q,hoc] at e
   have q':oc=p.2:=Option.some.inj e
   exact d w' (by rw [← q']; exact hocd)
theorem lp {M:Model} {A:Around} {E:Value→Shared→Prop} {i:Nat} {x:Str} {v:V} {u:Value} {Q:Unit→Shared→Prop} (I:Inv X pins σ H s) (hN:X.N.Nodup) (hi:X.N[i]?=some x) (hx:Loc X.env.scope x) (r:bq v u)
  (h:∀ s',Inv X pins (σ.set i (some v)) H s'→Q () s') (hf:X.fn x=true∨X.env.scope.names.lookup x=some .local:=by first | exact .inl rfl | exact .inr rfl | assumption):wpAny M A (storeName X.env x u) Q E s :=
 sF I hN hi hx r (fun s' I' _=>h s' I') hf
theorem Inv.call' {s':Shared} {ch:List Addr} (I:Inv X pins σ H s) (ho:s'.os=s.os) (u:Un (frs X.stack) ch H H' s.heap s'.heap) (hok:HOk X.prog X.w H' s'.heap) (hg:AllBare s'.gens)
  (hch:∀ b∈ch,(b∈X.ex∨X.s₀.heap.objs.size≤b)∧b≠X.env.locals∧(∀ x c,X.env.cells.lookup x=some c→c≠b)∧∀ p∈X.pn++pins,p.1≠b):Inv X pins σ H' s':=by
 obtain ⟨h',g',d',t',o'⟩:=s'
 have e:o'=s.os:=ho
 subst e
 exact I.call (g':=g') (t':=t') (d':=d') u hok hg hch
end
abbrev XK:=Value→Option Addr→Hp→Prop
abbrev St:=List (Option V)
abbrev VK:=V→Hp→Prop
abbrev TE:=St→Hp→VK→Prop
abbrev TT:=St→Hp→(Bool→Hp→Prop)→Prop
abbrev TA:=St→Hp→(List V→Hp→Prop)→Prop
structure lu where
 nx:St→Hp→Prop
 rt:VK
 bk:St→Hp→Prop:=fun _ _=>False
 ct:St→Hp→Prop:=fun _ _=>False
abbrev TS:=lu→St→Hp→Prop
def EP (X:Cx) (pins:List (Addr×Obj)) (σ:St) (Q:VK) (u:Value) (s':Shared):Prop:=∃ v H',Inv X pins σ H' s'∧bq v u∧Q v H'
def TP (X:Cx) (pins:List (Addr×Obj)) (σ:St) (Q:Bool→Hp→Prop) (b:Bool) (s':Shared):Prop:=∃ H',Inv X pins σ H' s'∧Q b H'
def AP (X:Cx) (pins:List (Addr×Obj)) (σ:St) (Q:List V→Hp→Prop) (us:List Value) (s':Shared):Prop:=∃ vs H',Inv X pins σ H' s'∧aQ vs us∧Q vs H'
def SP (X:Cx) (pins:List (Addr×Obj)) (D:lu) (f:Flow) (s':Shared):Prop :=
 match f with
 | .next=>∃ σ' H',Inv X pins σ' H' s'∧D.nx σ' H'
 | .brk=>∃ σ' H',Inv X pins σ' H' s'∧D.bk σ' H'
 | .cont=>∃ σ' H',Inv X pins σ' H' s'∧D.ct σ' H'
 | .ret u=>∃ v σ' H',Inv X pins σ' H' s'∧bq v u∧D.rt v H'
def PE (X:Cx) (e:Expr) (t:TE):Prop :=
 ∀ (pins:List (Addr×Obj)) (s:Shared) (σ:St) (H:Hp) (Q:VK),Inv X pins σ H s→t σ H Q→wpAny (model X.prog X.w) X.A (eval e X.env) (EP X pins σ Q) X.xe s
def PT (X:Cx) (e:Expr) (t:TT):Prop :=
 ∀ (pins:List (Addr×Obj)) (s:Shared) (σ:St) (H:Hp) (Q:Bool→Hp→Prop),Inv X pins σ H s→t σ H Q→wpAny (model X.prog X.w) X.A (isTrue e X.env (eval e X.env)) (TP X pins σ Q) X.xe s
def PW (X:Cx) (e:Expr) (t:TT):Prop :=
 ∀ (whole:Sem Value) (pins:List (Addr×Obj)) (s:Shared) (σ:St) (H:Hp) (Q:Bool→Hp→Prop),Inv X pins σ H s→t σ H Q→wpAny (model X.prog X.w) X.A (isTrue e X.env whole) (TP X pins σ Q) X.xe s
theorem PW.pt {X:Cx} {e:Expr} {t:TT} (h:PW X e t):PT X e t:=h _
def PA (X:Cx) (es:List Expr) (t:TA):Prop :=
 ∀ (pos:Pos) (pins:List (Addr×Obj)) (s:Shared) (σ:St) (H:Hp) (Q:List V→Hp→Prop),Inv X pins σ H s→t σ H Q→wpAny (model X.prog X.w) X.A (spliced (backTo pos (starEach es X.env))) (AP X pins σ Q) X.xe s
def PS (X:Cx) (st:Stmt) (t:TS):Prop :=
 ∀ (pins:List (Addr×Obj)) (s:Shared) (σ:St) (H:Hp) (D:lu),Inv X pins σ H s→t D σ H→wpAny (model X.prog X.w) X.A (exec st X.env) (SP X pins D) X.xe s
def PSs (X:Cx) (st:List Stmt) (t:TS):Prop :=
 ∀ (pins:List (Addr×Obj)) (s:Shared) (σ:St) (H:Hp) (D:lu),Inv X pins σ H s→t D σ H→wpAny (model X.prog X.w) X.A (execs st X.env) (SP X pins D) X.xe s
theorem thn {α:Type} {t:Sem α} {Q Q':α→Shared→Prop} {M:Model} {A:Around} {E:Value→Shared→Prop} {s:Shared} (h:wpAny M A t Q E s) (hQ:∀ a s,Q a s→Q' a s):wpAny M A t Q' E s:=wpAny_mono h hQ fun _ _ x=>x
open PySem PySem.Spec PyProof.Rows
section
variable {X:Cx}
def zF (i:Nat):TE:=fun σ H Q=>∃ v,σ[i]?=some (some v)∧Q v H
def tC (v:V):TE:=fun _ H Q=>Q v H
theorem yE {i:Nat} {x:Str} {pos:Pos} (hN:X.N[i]?=some x) (hv:Vis X.env.scope x) (hd:(x==("__debug__":Str))=false:=by decide) (hcd:(x==("__classdict__":Str))=false:=by decide):PE X (.Name x pos) (zF i):=by
 intro pins s σ H Q I h
 obtain ⟨v,e,h⟩:=h
 obtain ⟨m,hn,hl⟩:=I.loc
 obtain ⟨u,r,l⟩:=hl i x v hN e hv
 have fin:EP X pins σ Q u s:=⟨v,H,I,r,h⟩
 rcases l with ⟨hk,hm⟩ | ⟨hk,c,hc,hcell⟩
 ·exact wpAny_Name (wpAny_loadName_local I.ok.kind hk hn hm fin) hd
 ·rcases hk with hk | hk
  ·exact wpAny_Name (wpAny_loadName_cell I.ok.kind hk hc hcell fin) hd
  ·exact wpAny_Name (wpAny_loadName_free I.ok.kind hk hc hcell fin hcd) hd
theorem ag {i j pos}:PE X (.Constant (.int i) j pos) (tC (.int i)):=fun _ _ _ H _ I h=>wpAny_Constant_int ⟨.int i,H,I.tok _,⟨_,rfl⟩,h⟩
theorem cC {b j pos}:PE X (.Constant (.bool b) j pos) (tC (.bl b)):=fun _ _ _ H _ I h=>Constant_bool ⟨.bl b,H,I,rfl,h⟩
theorem tR {j pos}:PE X (.Constant .none j pos) (tC .non):=fun _ _ _ H _ I h=>Constant_none ⟨.non,H,I,rfl,h⟩
theorem aM {x j pos}:PE X (.Constant (.str x) j pos) (tC (.str x)):=fun _ _ _ H _ I h=>Calls.Constant_str ⟨.str x,H,I.tok _,⟨_,rfl⟩,h⟩
def Gl (X:Cx) (x:Str):Prop:=X.env.kindOf x=some .globalImplicit
theorem rR {E:Value→Shared→Prop} {pins:List (Addr×Obj)} {s:Shared} {σ:St} {H:Hp} {x:Str} {u:Value} {pos:Pos} {Q:Value→Shared→Prop} (I:Inv X pins σ H s) (hg:Gl X x) (hm:X.mg x=some u) (h:Q u s)
  (hd:(x==("__debug__":Str))=false:=by decide):wpAny (model X.prog X.w) X.A (eval (.Name x pos) X.env) Q E s :=
 Calls.Name_function_global I.ok.kind hg (Calls.loadGlobal_global (by rw [I.ok.glob]; exact I.mod.glob.keeps I.bk) hm h) hd
theorem iP {E:Value→Shared→Prop} {pins:List (Addr×Obj)} {s:Shared} {σ:St} {H:Hp} {x:Str} {u:Value} {pos:Pos} {Q:Value→Shared→Prop} (I:Inv X pins σ H s) (hg:Gl X x) (hm:X.mg x=none) (hv:bootBuiltins x=some u) (h:Q u s)
  (hn:x ≠ "__name__":=by decide) (hd:(x==("__debug__":Str))=false:=by decide):wpAny (model X.prog X.w) X.A (eval (.Name x pos) X.env) Q E s:=by
 obtain ⟨mb,h1,h2⟩:=I.mod.blt
 exact Calls.Name_function_global I.ok.kind hg (Calls.loadGlobal_builtin (by rw [I.ok.glob]; exact I.mod.glob.keeps I.bk) hm (by rw [I.ok.blt]; exact h1.keeps I.bk) ((h2 x hn).trans hv) h) hd
theorem rT {x:Str} {v:V} {u:Value} {pos:Pos} (hg:Gl X x) (hm:X.mg x=some u) (r:bq v u) (hd:(x==("__debug__":Str))=false:=by decide):PE X (.Name x pos) (tC v) :=
 fun _ _ _ H _ I h=>rR I hg hm ⟨v,H,I,r,h⟩ hd
theorem bw {x:Str} {v:V} {u:Value} {pos:Pos} (hg:Gl X x) (hm:X.mg x=none) (hv:bootBuiltins x=some u) (r:bq v u) (hn:x ≠ "__name__":=by decide) (hd:(x==("__debug__":Str))=false:=by decide):PE X (.Name x pos) (tC v) :=
 fun _ _ _ H _ I h=>iP I hg hm hv ⟨v,H,I,r,h⟩ hn hd
variable {a b:Expr} {ta tb:TE} {pos:Pos}
def tB (t:TE):TT:=fun σ H Q=>t σ H fun x H1=>∃ c,x=.bl c∧Q c H1
theorem bX {e:Expr} {t:TE} (h:PE X e t) (he:∀ whole,isTrue e X.env whole=(do let v ← whole; standAt e.pos; holding [v] (truthy v)):=by intro _; rfl):PT X e (tB t):=by
 intro pins s σ H Q I hw
 refine isTrue_plain (thn (h pins s σ H _ I hw) fun v s1 ⟨x,H1,I1,r1,q1⟩=>?_) (he _)
 obtain ⟨d,rfl,q⟩:=q1
 cases r1
 exact wpAny_truthy_bool ⟨H1,I1,q⟩
variable {tA tB':TT} {rest:List Expr}
def Ah (t u:TT):TT:=fun σ H Q=>t σ H fun c H1=>if c=true then u σ H1 Q else Q false H1
def tOr (t u:TT):TT:=fun σ H Q=>t σ H fun c H1=>if c=true then Q true H1 else u σ H1 Q
def Ao (t:TT):TT:=fun σ H Q=>t σ H fun c H1=>Q (!c) H1
theorem nA (ha:PT X a tA):PW X (.BoolOp .And [a] pos) tA:=by
 intro wh pins s σ H Q I h
 refine isTrue_and (thn (ha pins s σ H Q I h) fun c s1 e=>?_)
 cases c with
 | true=>exact isTrue_and_nil e
 | false=>exact e
theorem eB (ha:PT X a tA):PW X (.BoolOp .Or [a] pos) tA:=by
 intro wh pins s σ H Q I h
 refine isTrue_or (thn (ha pins s σ H Q I h) fun c s1 e=>?_)
 cases c with
 | false=>exact isTrue_or_nil e
 | true=>exact e
theorem qh (ha:PT X a tA) (hb:PW X (.BoolOp .And (b::rest) pos) tB'):PW X (.BoolOp .And (a::b::rest) pos) (Ah tA tB'):=by
 intro wh pins s σ H Q I h
 refine isTrue_and (thn (ha pins s σ H _ I h) fun c s1 ⟨H1,I1,q1⟩=>?_)
 cases c with
 | true=>exact hb wh pins s1 σ H1 Q I1 q1
 | false=>exact ⟨H1,I1,q1⟩
theorem ft (ha:PT X a tA) (hb:PW X (.BoolOp .Or (b::rest) pos) tB'):PW X (.BoolOp .Or (a::b::rest) pos) (tOr tA tB'):=by
 intro wh pins s σ H Q I h
 refine isTrue_or (thn (ha pins s σ H _ I h) fun c s1 ⟨H1,I1,q1⟩=>?_)
 cases c with
 | true=>exact ⟨H1,I1,q1⟩
 | false=>exact hb wh pins s1 σ H1 Q I1 q1
theorem cI (ha:PT X a tA):PT X (.UnaryOp .Not a pos) (Ao tA):=by
 intro pins s σ H Q I h
 exact isTrue_not (ha pins s σ H (fun c H1=>Q (!c) H1) I h)
def zX (ta tb:TE):TE:=fun σ H Q=>ta σ H fun x H1=>∃ c,x=.bl c∧if c=true then tb σ H1 Q else Q (.bl false) H1
def zC (ta:TE):TE:=fun σ H Q=>ta σ H fun x H1=>∃ c,x=.bl c∧Q (.bl (!c)) H1
theorem dJ {op} {t:TE} (h:PE X a t):PE X (.BoolOp op [a] pos) t:=fun pins s σ H Q I hw=>BoolOp_one (h pins s σ H Q I hw)
theorem dh (ha:PE X a ta) (hb:PE X (.BoolOp .And (b::rest) pos) tb):PE X (.BoolOp .And (a::b::rest) pos) (zX ta tb):=by
 intro pins s σ H Q I h
 refine BoolOp_and (thn (ha pins s σ H _ I h) fun v s1 ⟨x,H1,I1,r1,q1⟩=>?_)
 obtain ⟨c,rfl,q1⟩:=q1
 cases r1
 refine wpAny_truthy_bool ?_
 cases c with
 | true=>exact hb pins s1 σ H1 Q I1 q1
 | false=>exact ⟨.bl false,H1,I1,rfl,q1⟩
theorem ul (ha:PE X a ta):PE X (.UnaryOp .Not a pos) (zC ta):=by
 intro pins s σ H Q I h
 refine UnaryOp_ (thn (ha pins s σ H _ I h) fun v s1 ⟨x,H1,I1,r1,q1⟩=>?_)
 obtain ⟨c,rfl,q1⟩:=q1
 cases r1
 exact not_of (wpAny_truthy_bool ⟨.bl (!c),H1,I1,rfl,q1⟩)
def tIf (t:TT) (ta tb:TE):TE:=fun σ H Q=>t σ H fun c H1=>if c=true then ta σ H1 Q else tb σ H1 Q
theorem iq {c:Expr} (hc:PT X c tA) (ha:PE X a ta) (hb:PE X b tb):PE X (.IfExp c a b pos) (tIf tA ta tb):=by
 intro pins s σ H Q I h
 refine wpAny_IfExp (thn (hc pins s σ H _ I h) fun d s1 ⟨H1,I1,q1⟩=>?_)
 cases d with
 | true=>exact ha pins s1 σ H1 Q I1 q1
 | false=>exact hb pins s1 σ H1 Q I1 q1
end
open PySem PySem.Spec PyProof.Rows
def SqL (K:Frag) (H:Hp) (a:Addr) (xs:List V):Prop :=
 Rd H a (.lst xs) ∨
  ∃ (o:Obj) (its:Array Value) (n:Nat),K.lookup a=some o∧o.cls=.type "list"∧o.dict=none∧o.data=.seq its n∧its.size≤sizeLine∧aQ xs its.toList
def SqT (K:Frag) (H:Hp) (a:Addr) (xs:List V):Prop :=
 Rd H a (.tup xs) ∨
  ∃ (o:Obj) (its:Array Value) (n:Nat),K.lookup a=some o∧o.cls=.type "tuple"∧o.data=.seq its n∧its.size≤sizeLine∧aQ xs its.toList
def Al:Value→Option V
 | .none=>some .non
 | .bool b=>some (.bl b)
 | .int i _=>some (.int i)
 | .str x _=>some (.str x)
 | .bytes b _=>some (.byt b)
 | .float b _=>some (.flt b)
 | .ref a=>some (.ref a)
 | .type n=>some (.ty n)
 | _=>none
theorem bq.abs {x:V} {u:Value} (r:bq x u):Al u=some x:=by
 cases x with
 | non=>cases r; rfl
 | bl _=>cases r; rfl
 | int _=>obtain ⟨t,rfl⟩:=r; rfl
 | str _=>obtain ⟨t,rfl⟩:=r; rfl
 | byt _=>obtain ⟨t,rfl⟩:=r; rfl
 | flt _=>obtain ⟨t,rfl⟩:=r; rfl
 | ref _=>cases r; rfl
 | ty _=>cases r; rfl
theorem bq.inj {x y:V} {u:Value} (r:bq x u) (q:bq y u):x=y:=Option.some.inj (r.abs.symm.trans q.abs)
theorem aQ.inj:∀ {xs ys:List V} {us:List Value},aQ xs us→aQ ys us→xs=ys
 | _,_,_,.nil,.nil=>rfl
 | _,_,_,.cons r t,.cons r' t'=>by rw [r.inj r',aQ.inj t t']
section
variable {X:Cx} {pins:List (Addr×Obj)} {σ:St} {H:Hp} {s:Shared} {a:Addr} {xs ys:List V}
theorem SqL.of {K:Frag} (h:H a=some (.lst xs)):SqL K H a xs:=.inl (.inl h)
theorem SqT.of {K:Frag} (h:H a=some (.tup xs)):SqT K H a xs:=.inl (.inl h)
theorem Inv.list (I:Inv X pins σ H s) (h:SqL X.K H a xs):∃ its:List Value,aQ xs its∧PlainL s.heap a its.toArray∧xs.length≤sizeLine:=by
 rcases h with h | ⟨o,its,n,hk,hc,hd,hs,hz,r⟩
 ·obtain ⟨z,its,n,r,e⟩:=h.ok I.hok
  exact ⟨its,r,⟨_,n,e,rfl,rfl,rfl⟩,z⟩
 ·refine ⟨its.toList,r,⟨o,n,I.kIn a o hk,hc,hd,by simpa using hs⟩,?_⟩
  have e:=r.length
  simp only [Array.length_toList] at e
  omega
theorem Inv.tuple (I:Inv X pins σ H s) (h:SqT X.K H a xs):∃ its:List Value,aQ xs its∧IsTup s.heap a its.toArray∧xs.length≤sizeLine:=by
 rcases h with h | ⟨o,its,n,hk,hc,hs,hz,r⟩
 ·obtain ⟨z,its,r,p,_⟩:=h.ok I.hok
  exact ⟨its,r,p,z⟩
 ·refine ⟨its.toList,r,⟨o,I.kIn a o hk,hc,n,by simpa using hs⟩,?_⟩
  have e:=r.length
  simp only [Array.length_toList] at e
  omega
theorem Inv.list_inj (I:Inv X pins σ H s) (h:SqL X.K H a xs) (h':SqL X.K H a ys):xs=ys:=by
 obtain ⟨its,r,⟨o,n,e,_,_,d⟩,_⟩:=I.list h
 obtain ⟨its',r',⟨o',n',e',_,_,d'⟩,_⟩:=I.list h'
 rw [e] at e'; cases e'
 rw [d] at d'
 injection d' with d1 _
 have:its=its':=by simpa using congrArg Array.toList d1
 subst this
 exact r.inj r'
theorem Inv.tuple_inj (I:Inv X pins σ H s) (h:SqT X.K H a xs) (h':SqT X.K H a ys):xs=ys:=by
 obtain ⟨its,r,⟨o,e,_,n,d⟩,_⟩:=I.tuple h
 obtain ⟨its',r',⟨o',e',_,n',d'⟩,_⟩:=I.tuple h'
 rw [e] at e'; cases e'
 rw [d] at d'
 injection d' with d1 _
 have:its=its':=by simpa using congrArg Array.toList d1
 subst this
 exact r.inj r'
end
abbrev Cx.wish (X:Cx) (E:Value→Shared→Prop):Cx:={ X with xe:=E }
abbrev Cx.nox (X:Cx):Cx:=X.wish fun _ _=>False
theorem Cx.Ok.wish {X:Cx} (ok:X.Ok) (E:Value→Shared→Prop):(X.wish E).Ok :=
 ⟨ok.mod,ok.kind,ok.glob,ok.blt,ok.above,ok.inj,ok.has,ok.cab,ok.hd,ok.frames,ok.stk,ok.exf,ok.bs,ok.bsz,ok.noex,ok.exfs,ok.funs,ok.frf⟩
theorem Cx.Ok.unwish {X:Cx} {E:Value→Shared→Prop} (ok:(X.wish E).Ok):X.Ok :=
 ⟨ok.mod,ok.kind,ok.glob,ok.blt,ok.above,ok.inj,ok.has,ok.cab,ok.hd,ok.frames,ok.stk,ok.exf,ok.bs,ok.bsz,ok.noex,ok.exfs,ok.funs,ok.frf⟩
section
variable {X:Cx} {pins:List (Addr×Obj)} {σ:St} {H:Hp} {s:Shared} {E:Value→Shared→Prop}
theorem Inv.wish (I:Inv X pins σ H s) (E:Value→Shared→Prop):Inv (X.wish E) pins σ H s:=⟨I.ok.wish E,I.os,I.bare,I.base,I.loc,I.cell,I.free,I.freeC,I.pin,I.hok,I.len⟩
theorem Inv.unwish (I:Inv (X.wish E) pins σ H s):Inv X pins σ H s:=⟨I.ok.unwish,I.os,I.bare,I.base,I.loc,I.cell,I.free,I.freeC,I.pin,I.hok,I.len⟩
theorem SP.unwish {D:lu} {f:Flow} {s':Shared} (h:SP (X.wish E) pins D f s'):SP X pins D f s':=by
 cases f with
 | next=>obtain ⟨σ',H',I,q⟩:=h; exact ⟨σ',H',I.unwish,q⟩
 | brk=>obtain ⟨σ',H',I,q⟩:=h; exact ⟨σ',H',I.unwish,q⟩
 | cont=>obtain ⟨σ',H',I,q⟩:=h; exact ⟨σ',H',I.unwish,q⟩
 | ret u=>obtain ⟨v,σ',H',I,r,q⟩:=h; exact ⟨v,σ',H',I.unwish,r,q⟩
theorem PSs.nox {st:List Stmt} {t:TS} (h:PSs X.nox st t):PSs X st t:=fun pins s σ H D I hw =>
 wpAny_mono (h pins s σ H D (I.wish _) hw) (fun _ _ q=>q.unwish) fun _ _ z=>False.elim z
end
def wL:Expr→Bool
 | .Starred _ _=>true
 | _=>false
theorem aa {e:Expr} {es:List Expr} {env:Env} (h:wL e=false):starEach (e::es) env=(false,eval e env)::starEach es env:=by
 cases e<;>first | rfl | cases h
theorem kC {env:Env}:∀ {es:List Expr},es.all (fun e=>!wL e)=true→starEach es env=es.map fun e=>(false,eval e env)
 | [],_=>rfl
 | e::es,h=>by
  rw [List.all_cons,Bool.and_eq_true] at h
  rw [aa (by simpa using h.1),kC h.2]
  rfl
theorem ah {es:List Expr} {env:Env} {pos:Pos} (h:es.all (fun e=>!wL e)=true):(backTo pos (starEach es env)).any (·.1)=false:=by
 rw [kC h]
 unfold backTo
 rw [List.map_map,List.any_map,List.any_eq_false]
 intro x _
 simp
theorem cW {e:Expr} {es:List Expr} {env:Env} {cpos:Pos} (h:(e::es).all (fun e=>!wL e)=true) (h2:decide ((e::es).length<29)=true):((backTo cpos (starEach (e::es) env)).all (fun x=>!x.1)&&(backToKw cpos (keywordEach [] env)).all (fun x=>x.1.isSome)
 &&decide ((e::es).length+([]:List Keyword).length+(if ([]:List Keyword).isEmpty then 0 else 1)<30))=true:=by
 rw [kC h]
 have e1:(backTo cpos ((e::es).map fun e=>(false,eval e env))).all (fun x=>!x.1)=true:=by
  unfold backTo
  rw [List.map_map,List.all_map,List.all_eq_true]
  intro x _
  simp
 have e2:(backToKw cpos (keywordEach [] env)).all (fun x=>x.1.isSome)=true:=rfl
 have e3:=of_decide_eq_true h2
 rw [e1,e2]
 simp at e3 ⊢
 omega
def yF:Expr→Bool
 | .ListComp _ _ _ _ | .SetComp _ _ _ _ | .DictComp _ _ _ _ _=>false
 | _=>true
theorem am {e:Expr} {t:Option Expr} {l:Nat} {env:Env} (h:yF e=true):swapsWith e t l env=pure false:=by
 cases e<;>first | rfl | cases h
section
variable {X:Cx} {st:Stmt} {rest:List Stmt} {t u:TS} {e:Expr} {te:TE} {pos:Pos}
def xh:TS:=fun D σ H=>D.nx σ H
def wB (t u:TS):TS:=fun D σ H=>t { D with nx:=u D } σ H
theorem aL:PSs X [] xh:=fun _ _ σ H _ I h=>wpAny_execs_nil ⟨σ,H,I,h⟩
theorem aj (h1:PS X st t) (h2:PSs X rest u):PSs X (st::rest) (wB t u):=by
 intro pins s σ H D I h
 refine wpAny_execs_cons (thn (h1 pins s σ H { D with nx:=u D } I h) fun f s1 q=>?_)
 cases f with
 | next =>
  obtain ⟨σ',H',I',q⟩:=q
  exact h2 pins s1 σ' H' D I' q
 | ret v=>exact q
 | brk=>exact q
 | cont=>exact q
theorem al (h1:PS X st t):PSs X [st] t:=by
 intro pins s σ H D I h
 refine wpAny_execs_cons (thn (h1 pins s σ H D I h) fun f s1 q=>?_)
 cases f with
 | next=>exact wpAny_execs_nil q
 | ret v=>exact q
 | brk=>exact q
 | cont=>exact q
theorem Inv.quiet {pins:List (Addr×Obj)} {σ:St} {H:Hp} {s:Shared} (I:Inv X pins σ H s):interactive X.env=false:=by simp [interactive,I.ok.kind]
def zD (te:TE):TS:=fun D σ H=>te σ H fun _ H1=>D.nx σ H1
theorem cQ (he:PE X e te) (hs:swapsWith e none pos.line X.env=pure false:=by first | exact am rfl | rfl):PS X (.Expr e pos) (zD te):=by
 intro pins s σ H D I h
 exact wpAny_Expr_any (thn (he pins s σ H _ I h) fun v s1 ⟨x,H1,I1,r1,q1⟩=>⟨σ,H1,I1,q1⟩) I.quiet hs
def Ap (te:TE):TS:=fun D σ H=>te σ H D.rt
theorem ay (he:PE X e te):PS X (.Return (some e) pos) (Ap te):=by
 intro pins s σ H D I h
 exact wpAny_Return_some (thn (he pins s σ H _ I h) fun v s1 ⟨x,H1,I1,r1,q1⟩=>⟨x,σ,H1,I1,r1,q1⟩)
def As (c:TT) (t u:TS):TS:=fun D σ H=>c σ H fun b H1=>if b=true then t D σ H1 else u D σ H1
theorem bj {c:Expr} {a b:List Stmt} {tc:TT} (hc:PT X c tc) (ha:PSs X a t) (hb:PSs X b u):PS X (.If c a b pos) (As tc t u):=by
 intro pins s σ H D I h
 refine wpAny_If (thn (hc pins s σ H _ I h) fun d s1 ⟨H1,I1,q1⟩=>?_)
 cases d with
 | true=>exact ha pins s1 σ H1 D I1 q1
 | false=>exact hb pins s1 σ H1 D I1 q1
end
abbrev TG:=V→St→Hp→(St→Hp→Prop)→Prop
abbrev TGs:=List V→St→Hp→(St→Hp→Prop)→Prop
def PG (X:Cx) (target:Expr) (t:TG):Prop :=
 ∀ (pins:List (Addr×Obj)) (s:Shared) (σ:St) (H:Hp) (v:V) (u:Value) (Q:St→Hp→Prop),Inv X pins σ H s→bq v u→t v σ H Q →
  wpAny (model X.prog X.w) X.A (assign target X.env u) (fun _ s'=>∃ σ' H',Inv X pins σ' H' s'∧Q σ' H') X.xe s
def PGs (X:Cx) (ts:List Expr) (t:TGs):Prop :=
 ∀ (pins:List (Addr×Obj)) (s:Shared) (σ:St) (H:Hp) (vs:List V) (us:List Value) (Q:St→Hp→Prop),Inv X pins σ H s→aQ vs us→t vs σ H Q →
  wpAny (model X.prog X.w) X.A (assignInOrder ((assignEach ts X.env).map (·.2)) us) (fun _ s'=>∃ σ' H',Inv X pins σ' H' s'∧Q σ' H') X.xe s
abbrev yj:=V→V→V→Hp→(Hp→Prop)→Prop
def zn (X:Cx) (t:yj):Prop :=
 ∀ (pins:List (Addr×Obj)) (s:Shared) (σ:St) (H:Hp) (o i v:V) (ov iv u:Value) (Q:Hp→Prop),Inv X pins σ H s→bq o ov→bq i iv→bq v u→t o i v H Q →
  wpAny (model X.prog X.w) X.A (setItem ov iv u) (fun _ s'=>∃ H',Inv X pins σ H' s'∧Q H') X.xe s
section
variable {X:Cx} {pos:Pos}
def my (i:Nat):TG:=fun v σ H Q=>Q (σ.set i (some v)) H
theorem au {i:Nat} {x:Str} (hN:X.N.Nodup) (hi:X.N[i]?=some x) (hx:Loc X.env.scope x) (hf:X.fn x=true∨X.env.scope.names.lookup x=some .local:=by first | exact .inl rfl | exact .inr rfl | assumption):PG X (.Name x pos) (my i):=by
 intro pins s σ H v u Q I r h
 exact wpAny_assign_Name (lp I hN hi hx r (fun s' I'=>⟨_,H,I',h⟩) hf)
def Aj:TGs:=fun vs σ H Q=>vs=[]∧Q σ H
def zH (t:TG) (u:TGs):TGs:=fun vs σ H Q=>∃ v r,vs=v::r∧t v σ H fun σ' H'=>u r σ' H' Q
theorem bJ:PGs X [] Aj:=by
 intro pins s σ H vs us Q I r h
 obtain ⟨e,h⟩:=h
 subst e
 cases r
 exact assignInOrder_nil ⟨σ,H,I,h⟩
theorem aG {e:Expr} {es:List Expr} {t:TG} {u:TGs} (h1:PG X e t) (h2:PGs X es u)
  (hs:(assignEach (e::es) X.env).map (·.2)=assign e X.env::(assignEach es X.env).map (·.2):=by rfl):PGs X (e::es) (zH t u):=by
 intro pins s σ H vs us Q I r h
 obtain ⟨v,vr,e1,h⟩:=h
 subst e1
 cases r with
 | cons r rr =>
  rw [hs]
  refine assignInOrder_cons (thn (h1 pins s σ H _ _ _ I r h) fun _ s1 ⟨σ1,H1,I1,q1⟩=>?_)
  exact h2 pins s1 σ1 H1 _ _ Q I1 rr q1
def zx (K:Frag) (n:Nat) (t:TGs):TG:=fun v σ H Q=>∃ a xs,v=.ref a∧SqT K H a xs∧xs.length=n∧t xs σ H Q
theorem dm {es:List Expr} {k:Nat} {t:TGs} {n:Nat} (hc:X.calm=true) (h:PGs X es t)
  (hn:(assignEach es X.env).length=n:=by rfl) (hst:(assignEach es X.env).findIdx? (·.1)=none:=by rfl):PG X (.Tuple es k pos) (zx X.K n t):=by
 intro pins s σ H v u Q I r hw
 obtain ⟨a,xs,e1,hq,hl,hw⟩:=hw
 subst e1
 cases r
 obtain ⟨its,rv,ht,hz⟩:=I.tuple hq
 refine assign_Tuple_tuple (I.ok.hd hc) ht (by simp [hn,← hl,rv.length]) hst fun h' hx=>?_
 have I1:Inv X pins σ H { s with heap:=h' }:=I.kept (t':=s.toks) fun b o e=>hx b o (Nat.ne_of_lt (Heap.lt_size e)) e
 exact h pins _ σ H xs _ Q I1 (by simpa using rv) hw
def Au (to ti:TE) (t:yj):TG:=fun v σ H Q=>to σ H fun o H1=>ti σ H1 fun i H2=>t o i v H2 fun H3=>Q σ H3
theorem dW {o i:Expr} {to ti:TE} {t:yj} (ho:PE X o to) (hi:PE X i ti) (hs:zn X t)
  (ha:∀ v,assign (.Subscript o i pos) X.env v=(do
   let ov ← holding [v] (eval o X.env)
   let iv ← holding [v,ov] (eval i X.env)
   standAt pos
   holding [v,ov,iv] (setItem ov iv v)
   release [v,ov,iv] []):=by intro _; rfl):PG X (.Subscript o i pos) (Au to ti t):=by
 intro pins s σ H v u Q I r h
 rw [ha]
 refine wpAny_bind (wpAny_holding (thn (ho pins s σ H _ I h) fun ov s1 ⟨x,H1,I1,r1,q1⟩=>?_))
 refine wpAny_bind (wpAny_holding (thn (hi pins s1 σ H1 _ I1 q1) fun iv s2 ⟨y,H2,I2,r2,q2⟩=>?_))
 refine wpAny_bind (wpAny_standAt (wpAny_bind (wpAny_holding (thn (hs pins s2 σ H2 x y v ov iv u _ I2 r1 r2 r q2) fun _ s3 ⟨H3,I3,q3⟩=>?_))))
 exact wpAny_release ⟨σ,H3,I3,q3⟩
def yk (te:TE) (g:TG):TS:=fun D σ H=>te σ H fun x H1=>g x σ H1 D.nx
theorem eE {tg e:Expr} {te:TE} {g:TG} (he:PE X e te) (hg:PG X tg g) (hs:swapsWithSole [tg] e pos.line X.env=pure false:=by rfl) (hw:swappedStores [tg] e X.env=pure none:=by rfl)
  (h1:(assignEach [tg] X.env).map (·.2)=[assign tg X.env]:=by rfl):PS X (.Assign [tg] e pos) (yk te g):=by
 intro pins s σ H D I h
 refine wpAny_Assign_stores (thn (he pins s σ H _ I h) fun v s1 ⟨x,H1,I1,r1,q1⟩=>?_) hs hw
 rw [h1]
 exact thn (hg pins s1 σ H1 x v _ I1 r1 q1) fun _ s2 q=>q
theorem aC {i:Nat} {x:Str} {e:Expr} {te:TE} {pos':Pos} (hN:X.N.Nodup) (hi:X.N[i]?=some x) (hx:Loc X.env.scope x) (he:PE X e te) (hs:swapsWith e (some (.Name x pos')) pos.line X.env=pure false:=by first | exact am rfl | rfl) (hf:X.fn x=true∨X.env.scope.names.lookup x=some .local:=by first | exact .inl rfl | exact .inr rfl | assumption) :
  PS X (.Assign [.Name x pos'] e pos) (yk te (my i)):=by
 intro pins s σ H D I h
 refine wpAny_Assign_Name (thn (he pins s σ H _ I h) fun v s1 ⟨y,H1,I1,r1,q1⟩=>?_) hs
 exact lp I1 hN hi hx r1 (fun s2 I2=>⟨_,H1,I2,q1⟩) hf
def yU (c:TT) (tb:TS):TS:=fun D σ H=>∃ W:Nat→St→Hp→Prop,(∃ m,W m σ H)∧∀ m σ H,W m σ H →
 c σ H fun b H1=>if b=true then ∃ N:St→Hp→Prop,(∀ σ' H',N σ' H'→∃ m',m'<m∧W m' σ' H')∧tb { D with nx:=N,ct:=N,bk:=D.nx } σ H1 else D.nx σ H1
theorem vK {c:Expr} {body:List Stmt} {tc:TT} {tb:TS} (hp:PassesOwn (model X.prog X.w) X.A X.env X.xe) (hc:PT X c tc) (hb:PSs X body tb):PS X (.While c body [] pos) (yU tc tb):=by
 intro pins s σ H D I h
 obtain ⟨W,⟨m0,w0⟩,turn⟩:=h
 refine wpAny_While (codeAny_whileLoop (fun n s'=>∃ σ' H',Inv X pins σ' H' s'∧W n σ' H') ?_ m0 ⟨σ,H,I,w0⟩)
 rintro n s1 ⟨σ1,H1,I1,w1⟩
 refine wpAny_passesOwn hp (thn (hc pins s1 σ1 H1 _ I1 (turn n σ1 H1 w1)) fun b s2 ⟨H2,I2,q2⟩=>?_)
 cases b with
 | true =>
  obtain ⟨N,hN,q2⟩:=q2
  rw [if_pos rfl]
  refine wpAny_passesOwn hp (thn (hb pins s2 σ1 H2 _ I2 q2) fun f s3 q3=>?_)
  cases f with
  | next =>
   obtain ⟨σ3,H3,I3,n3⟩:=q3
   obtain ⟨m',hm,w3⟩:=hN σ3 H3 n3
   exact ⟨m',hm,σ3,H3,I3,w3⟩
  | cont =>
   obtain ⟨σ3,H3,I3,n3⟩:=q3
   obtain ⟨m',hm,w3⟩:=hN σ3 H3 n3
   exact ⟨m',hm,σ3,H3,I3,w3⟩
  | brk=>exact q3
  | ret v=>exact q3
 | false =>
  rw [if_neg Bool.false_ne_true]
  exact wpAny_execs_nil ⟨σ1,H2,I2,q2⟩
end
structure It where
 go:Nat→Hp→Prop
 yld:Nat→Hp→V→Hp→Prop
 stop:Nat→Hp→Prop
def hX (X:Cx) (pins:List (Addr×Obj)) (H:Hp) (b:Addr):Prop :=
 H b=none∧b≠X.env.locals∧b∉X.fs∧(b∈X.ex∨X.s₀.heap.objs.size≤b)∧(∀ x c,X.env.cells.lookup x=some c→c≠b)∧∀ p∈X.pn++pins,p.1≠b
theorem Inv.fpOk {X:Cx} {pins:List (Addr×Obj)} {σ:St} {H H':Hp} {s:Shared} {b:Addr} (I:Inv X pins σ H s) (hb:s.heap.objs.size≤b) (hn:H' b=none):hX X pins H' b:=by
 refine ⟨hn,Nat.ne_of_gt (Nat.lt_of_lt_of_le I.lt hb),I.nofs hb,.inr (Nat.le_trans I.sz hb),fun x c e z=>?_,fun p hp z=>?_⟩
 ·obtain ⟨v,q⟩:=I.cell x c e
  exact absurd (Nat.lt_of_lt_of_le q.lt (by rw [z]; exact hb)) (Nat.lt_irrefl _)
 ·exact absurd (Nat.lt_of_lt_of_le (Heap.lt_size (I.pin p hp).1) (by rw [z]; exact hb)) (Nat.lt_irrefl _)
structure nX (P:Program) (w:World) (K:Frag) (tg:Expr) (J:It) (fp:List Addr) (it:Addr) (tn:Nat→Heap→Prop):Prop where
 mem:it∈fp
 obj:∀ i h,tn i h→∀ b∈fp,∃ o,h.get? b=some o∧∀ v,o.data≠.cell v
 keep:∀ i h h',tn i h→(∀ b∈fp,∀ o,h.get? b=some o→h'.get? b=some o)→tn i h'
 item:∀ (X:Cx),X.prog=P→X.w=w→X.K=K→X.calm=true→∀ (i:Nat) (pins:List (Addr×Obj)) (s:Shared) (σ:St) (H:Hp) (E:Value→Shared→Prop),Inv X pins σ H s→(∀ b∈fp,hX X pins H b)→tn i s.heap→J.go i H →
  wpAny (model P w) X.A (pyNext (.ref it)) (fun r s1=>∃ u,r=some u ∧
   wpAny (model P w) X.A (letOwnedTupleGo tg (.ref it) u) (fun _ s2=>∃ x H',Inv X pins σ H' s2∧bq x u∧J.yld i H x H'∧tn (i+1) s2.heap∧∀ b∈fp,H' b=none) E s1) E s
 done:∀ (X:Cx),X.prog=P→X.w=w→X.K=K→X.calm=true→∀ (i:Nat) (pins:List (Addr×Obj)) (s:Shared) (σ:St) (H:Hp) (E:Value→Shared→Prop),Inv X pins σ H s→(∀ b∈fp,hX X pins H b)→tn i s.heap→J.stop i H →
  wpAny (model P w) X.A (pyNext (.ref it)) (fun r s1=>r=none∧Inv X pins σ H s1) E s
 self:∀ (A:Around) (i:Nat) (s:Shared) (Q:Value→Shared→Prop) (E:Value→Shared→Prop),tn i s.heap→Q (.ref it) s→wpAny (model P w) A (pyIter (.ref it)) Q E s
abbrev TI:=St→Hp→(It→Hp→Prop)→Prop
def PIE (X:Cx) (pins:List (Addr×Obj)) (σ:St) (tg:Expr) (R:It→Hp→Prop) (itv:Value) (s2:Shared):Prop :=
 ∃ (it:Addr) (fp:List Addr) (tn:Nat→Heap→Prop) (J:It) (H':Hp),itv=.ref it∧Inv X pins σ H' s2∧nX X.prog X.w X.K tg J fp it tn∧tn 0 s2.heap∧(∀ b∈fp,hX X pins H' b)∧R J H'
def PI (X:Cx) (tg iter:Expr) (wi:TI):Prop :=
 ∀ (pins:List (Addr×Obj)) (s:Shared) (σ:St) (H:Hp) (R:It→Hp→Prop),Inv X pins σ H s→wi σ H R →
  wpAny (model X.prog X.w) X.A (eval iter X.env) (fun v s1=>wpAny (model X.prog X.w) X.A (pyIter v) (PIE X pins σ tg R) X.xe s1) X.xe s
theorem nL {M:Model} {A:Around} {E:Value→Shared→Prop} {s:Shared} {tg:Expr} {it:Addr} {u:Value} {o:Obj} {n:String} {vs:Array Value} {Q:Unit→Shared→Prop} (ho:s.heap.get? it=some o) (hc:o.cls=.type n) (hd:o.data=.fields vs)
  (hn:["enumerate", "zip", "dict_itemiterator", "dict_reverseitemiterator", "odict_iterator", "itertools.zip_longest", "itertools.pairwise"].contains n=false) (hQ:Q () s):wpAny M A (letOwnedTupleGo tg (.ref it) u) Q E s:=by
 unfold letOwnedTupleGo
 cases tg<;>first
  | exact wpAny_pure hQ
  | (cases u<;>first
    | exact wpAny_pure hQ
    | (refine wpAny_bind (wpAny_load ho ?_)
       rw [hc,hd]
       show wpAny M A (if (["enumerate", "zip", "dict_itemiterator", "dict_reverseitemiterator", "odict_iterator", "itertools.zip_longest", "itertools.pairwise"].contains n&&vs[0]?==some (rawInt _))=true then _ else _) Q E s
       rw [if_neg (by intro h; rw [hn,Bool.false_and] at h; cases h)]
       exact wpAny_pure hQ))
def Itl (K:Frag) (a:Addr):It :=
 ⟨fun i H=>∃ xs x,SqL K H a xs∧xs[i]?=some x,fun i H x H'=>H'=H∧∀ xs,SqL K H a xs→xs[i]?=some x,fun i H=>∃ xs,SqL K H a xs∧xs.length≤i⟩
def Itt (K:Frag) (a:Addr):It :=
 ⟨fun i H=>∃ xs x,SqT K H a xs∧xs[i]?=some x,fun i H x H'=>H'=H∧∀ xs,SqT K H a xs→xs[i]?=some x,fun i H=>∃ xs,SqT K H a xs∧xs.length≤i⟩
def Itr (lo:Int) (n:Nat):It:=⟨fun i _=>i<n,fun i H x H'=>H'=H∧x=.int (lo+i),fun i _=>n≤i⟩
theorem sV {P:Program} {w:World} {K:Frag} {tg:Expr} (a it:Addr):nX P w K tg (Itl K a) [it] it (fun i h=>h.IsListIter it a i) where
 mem:=by simp
 obj:=fun i h st b hb=>by
  have e:b=it:=by simpa using hb
  subst e
  obtain ⟨o,e,c,d⟩:=st
  exact ⟨o,e,fun v z=>by rw [d] at z; cases z⟩
 keep:=fun i h h' st k=>st.at fun o e=>k it (by simp) o e
 item:=by
  intro X hP hw hK hc i pins s σ H E I hf st hg
  subst hP hw hK
  obtain ⟨xs,x,hq,hx⟩:=hg
  obtain ⟨its,rv,p,hz⟩:=I.list hq
  obtain ⟨u,hu,ru⟩:=rv.get hx
  obtain ⟨f0,f1,f2,f3,f4,f5⟩:=hf it (by simp)
  refine wpAny_pyNext_list_item st p.isList (x:=u) (by simpa using hu) fun h' st' sb=>?_
  have I1:Inv X pins σ H { s with heap:=h' }:=I.turned (t':=s.toks) (fun b o hb e=>(sb.2 b hb).trans e) f0 f1 f3 f4 f5
  obtain ⟨o,e,c,d⟩:=id st'
  exact ⟨u,rfl,nL (s:={ s with heap:=h' }) e c d (by decide) ⟨x,H,I1,ru,⟨rfl,fun ys hy=>by rw [I.list_inj hy hq]; exact hx⟩,st',fun b hb=>(hf b hb).1⟩⟩
 done:=by
  intro X hP hw hK hc i pins s σ H E I hf st hg
  subst hP hw hK
  obtain ⟨xs,hq,hx⟩:=hg
  obtain ⟨its,rv,p,hz⟩:=I.list hq
  obtain ⟨f0,f1,f2,f3,f4,f5⟩:=hf it (by simp)
  have hl:=rv.length
  exact wpAny_pyNext_list_end (I.ok.hd hc) st p.isList (by simp; omega) fun h' eb=>⟨rfl,I.turned (t':=s.toks) (fun b o hb e=>eb b o hb e) f0 f1 f3 f4 f5⟩
 self:=fun _ _ _ _ _ st h=>wpAny_pyIter_listiter st h
theorem qQ {P:Program} {w:World} {K:Frag} {tg:Expr} (a it:Addr):nX P w K tg (Itt K a) [it] it (fun i h=>h.IsTupleIter it a i) where
 mem:=by simp
 obj:=fun i h st b hb=>by
  have e:b=it:=by simpa using hb
  subst e
  obtain ⟨o,e,c,d⟩:=st
  exact ⟨o,e,fun v z=>by rw [d] at z; cases z⟩
 keep:=fun i h h' st k=>st.at fun o e=>k it (by simp) o e
 item:=by
  intro X hP hw hK hc i pins s σ H E I hf st hg
  subst hP hw hK
  obtain ⟨xs,x,hq,hx⟩:=hg
  obtain ⟨its,rv,p,hz⟩:=I.tuple hq
  obtain ⟨u,hu,ru⟩:=rv.get hx
  obtain ⟨f0,f1,f2,f3,f4,f5⟩:=hf it (by simp)
  refine wpAny_pyNext_tuple_item st (show s.heap.IsTuple a its.toArray from p) (x:=u) (by simpa using hu) fun h' st' sb=>?_
  have I1:Inv X pins σ H { s with heap:=h' }:=I.turned (t':=s.toks) (fun b o hb e=>(sb.2 b hb).trans e) f0 f1 f3 f4 f5
  obtain ⟨o,e,c,d⟩:=id st'
  exact ⟨u,rfl,nL (s:={ s with heap:=h' }) e c d (by decide) ⟨x,H,I1,ru,⟨rfl,fun ys hy=>by rw [I.tuple_inj hy hq]; exact hx⟩,st',fun b hb=>(hf b hb).1⟩⟩
 done:=by
  intro X hP hw hK hc i pins s σ H E I hf st hg
  subst hP hw hK
  obtain ⟨xs,hq,hx⟩:=hg
  obtain ⟨its,rv,p,hz⟩:=I.tuple hq
  obtain ⟨f0,f1,f2,f3,f4,f5⟩:=hf it (by simp)
  have hl:=rv.length
  exact wpAny_pyNext_tuple_end (I.ok.hd hc) st (show s.heap.IsTuple a its.toArray from p) (by simp; omega) fun h' eb=>⟨rfl,I.turned (t':=s.toks) (fun b o hb e=>eb b o hb e) f0 f1 f3 f4 f5⟩
 self:=fun _ _ _ _ _ st h=>wpAny_pyIter_tupleiter st h
theorem pP {P:Program} {w:World} {K:Frag} {tg:Expr} (it:Addr) (lo:Int) (n:Nat):nX P w K tg (Itr lo n) [it] it (fun i h=>IsRangeIter h it (lo+(i:Nat)*1) ((n:Int) - (i:Nat)) 1) where
 mem:=by simp
 obj:=fun i h st b hb=>by
  have e:b=it:=by simpa using hb
  subst e
  exact ⟨_,st,fun v z=>by
   have z':Data.fields _=Data.cell v:=z
   cases z'⟩
 keep:=fun i h h' st k=>k it (by simp) _ st
 item:=by
  intro X hP hw hK hc i pins s σ H E I hf st hg
  subst hP hw hK
  obtain ⟨f0,f1,f2,f3,f4,f5⟩:=hf it (by simp)
  have W:=Walks.range (prog:=X.prog) (w:=X.w) (I.ok.hd hc) it lo 1 n
  refine W.item i s _ _ hg st fun v h' tk hv st' kk=>?_
  obtain ⟨t,rfl⟩:=hv
  have I1:Inv X pins σ H { s with heap:=h',toks:=tk }:=I.turned (fun b o hb e=>kk b o (by simpa using hb) e) f0 f1 f3 f4 f5
  refine ⟨_,rfl,nL (s:={ s with heap:=h',toks:=tk }) (n := "range_iterator") st' rfl rfl (by decide) ⟨.int (lo+i),H,I1,⟨t,?_⟩,⟨rfl,rfl⟩,st',fun b hb=>(hf b hb).1⟩⟩
  rw [Int.mul_one]
 done:=by
  intro X hP hw hK hc i pins s σ H E I hf st hg
  subst hP hw hK
  obtain ⟨f0,f1,f2,f3,f4,f5⟩:=hf it (by simp)
  exact wpAny_pyNext_range_end (I.ok.hd hc) st (by have:n≤i:=hg; omega) fun h' eb=>⟨rfl,I.turned (t':=s.toks) (fun b o hb e=>eb b o hb e) f0 f1 f3 f4 f5⟩
 self:=fun _ _ _ _ _ st h=>wpAny_pyIter_rangeiter st h
open PySem PySem.Spec PyProof.Rows
section
variable {X:Cx} {tg:Expr}
def zV (K:Frag) (tl:TE):TI:=fun σ H R=>tl σ H fun x H1=>∃ a,x=.ref a∧(∃ xs,SqL K H1 a xs)∧R (Itl K a) H1
def zR (K:Frag) (tl:TE):TI:=fun σ H R=>tl σ H fun x H1=>∃ a,x=.ref a∧(∃ xs,SqT K H1 a xs)∧R (Itt K a) H1
theorem bA {l:Expr} {tl:TE} (hl:PE X l tl):PI X tg l (zV X.K tl):=by
 intro pins s σ H R I h
 refine thn (hl pins s σ H _ I h) fun v s1 ⟨x,H1,I1,r1,q1⟩=>?_
 obtain ⟨a,e,⟨xs,hq⟩,q⟩:=q1
 subst e
 cases r1
 obtain ⟨its,rv,p,hz⟩:=I1.list hq
 refine wpAny_pyIter_list p.isList ?_
 refine ⟨s1.heap.objs.size,[s1.heap.objs.size],_,_,H1,rfl,I1.kept (t':=s1.toks) fun b o e=>Heap.get?_push_of_some _ e,sV a _,⟨_,Heap.get?_push_size _ rfl,rfl,rfl⟩,fun b hb=>?_,q⟩
 have e:b=s1.heap.objs.size:=by simpa using hb
 subst e
 exact I1.fpOk (Nat.le_refl _) (I1.hok.fresh (Nat.le_refl _))
theorem bZ {l:Expr} {tl:TE} (hl:PE X l tl):PI X tg l (zR X.K tl):=by
 intro pins s σ H R I h
 refine thn (hl pins s σ H _ I h) fun v s1 ⟨x,H1,I1,r1,q1⟩=>?_
 obtain ⟨a,e,⟨xs,hq⟩,q⟩:=q1
 subst e
 cases r1
 obtain ⟨its,rv,p,hz⟩:=I1.tuple hq
 refine wpAny_pyIter_tuple (show s1.heap.IsTuple a its.toArray from p) ?_
 refine ⟨s1.heap.objs.size,[s1.heap.objs.size],_,_,H1,rfl,I1.kept (t':=s1.toks) fun b o e=>Heap.get?_push_of_some _ e,qQ a _,⟨_,Heap.get?_push_size _ rfl,rfl,rfl⟩,fun b hb=>?_,q⟩
 have e:b=s1.heap.objs.size:=by simpa using hb
 subst e
 exact I1.fpOk (Nat.le_refl _) (I1.hok.fresh (Nat.le_refl _))
theorem nI {pins:List (Addr×Obj)} {σ:St} {H:Hp} {s:Shared} {R:It→Hp→Prop} {E:Value→Shared→Prop} {lo hi:Int} {t u v:Tok} {tk:Nat} (I:Inv X pins σ H s) (h1:-(2 ^ 62)≤lo) (h2:lo<2 ^ 62) (h3:-(2 ^ 62)≤hi) (h4:hi<2 ^ 62)
  (q:R (Itr lo (hi - lo).toNat) H):wpAny (model X.prog X.w) X.A (pyIter (.ref s.heap.objs.size)) (PIE X pins σ tg R) E { s with heap:=s.heap.push { cls:=.type "range",data:=.fields #[.int lo t,.int hi u,.int 1 v] },toks:=tk }:=by
 refine wpAny_pyIter_range (IsRange.new ..) (small_one h1 h2 h3 h4) ?_
 have I1:Inv X pins σ H { s with heap:=s.heap.push { cls:=.type "range",data:=.fields #[.int lo t,.int hi u,.int 1 v] },toks:=tk }:=I.kept fun b o e=>Heap.get?_push_of_some _ e
 refine ⟨(s.heap.push { cls:=.type "range",data:=.fields #[.int lo t,.int hi u,.int 1 v] }).objs.size,[(s.heap.push { cls:=.type "range",data:=.fields #[.int lo t,.int hi u,.int 1 v] }).objs.size],_,_,H,rfl,
  I1.kept (t':=tk) fun b o e=>Heap.get?_push_of_some _ e,pP _ lo (hi - lo).toNat,?_,fun b hb=>?_,q⟩
 ·have e1:lo+((0:Nat):Int)*1=lo:=by simp
  have e2:(((hi - lo).toNat:Nat):Int) - ((0:Nat):Int)=Builtin.Range.rangeSize lo hi 1:=by rw [rangeSize_one]; split<;>omega
  show IsRangeIter _ _ (lo+((0:Nat):Int)*1) ((((hi - lo).toNat:Nat):Int) - ((0:Nat):Int)) 1
  rw [e1,e2]
  exact Heap.get?_push_size _ rfl
 ·have e:b=(s.heap.push { cls:=.type "range",data:=.fields #[.int lo t,.int hi u,.int 1 v] }).objs.size:=by simpa using hb
  subst e
  exact I1.fpOk (Nat.le_refl _) (I1.hok.fresh (Nat.le_refl _))
def zZ (ta:TA):TI:=fun σ H R=>ta σ H fun vs H1=>∃ j:Int,vs=[.int j]∧-(2 ^ 62)≤j∧j<2 ^ 62∧R (Itr 0 j.toNat) H1
def zh (ta:TA):TI:=fun σ H R=>ta σ H fun vs H1=>∃ i j:Int,vs=[.int i,.int j]∧(-(2 ^ 62)≤i∧i<2 ^ 62∧-(2 ^ 62)≤j∧j<2 ^ 62)∧R (Itr i (j - i).toNat) H1
theorem cT {a:Expr} {ta:TA} {p pos:Pos} (hg:Gl X "range") (hm:X.mg "range"=none) (ha:PA X [a] ta) (hs:starEach [a] X.env=[(false,eval a X.env)]:=by rfl):PI X tg (.Call (.Name "range" p) [a] [] pos) (zZ ta):=by
 intro pins s σ H R I h
 refine Call_ (iP I hg hm boot_range (PyProof.Rows.callWith_type1 (thn (ha pos pins s σ H _ I h) fun us s1 ⟨vs,H1,I1,r1,q1⟩=>?_) hs rfl))
 obtain ⟨j,e,q1,q2,q⟩:=q1
 subst e
 cases r1 with
 | cons r rr =>
  cases rr
  obtain ⟨t,rfl⟩:=r
  exact call_range_1 (nI I1 (by omega) (by omega) q1 q2 (by simpa using q))
theorem sK {a b:Expr} {ta:TA} {p pos:Pos} (hg:Gl X "range") (hm:X.mg "range"=none) (ha:PA X [a,b] ta) (hs:starEach [a,b] X.env=[(false,eval a X.env),(false,eval b X.env)]:=by rfl) (hs2:starEach [b] X.env=[(false,eval b X.env)]:=by rfl) :
  PI X tg (.Call (.Name "range" p) [a,b] [] pos) (zh ta):=by
 intro pins s σ H R I h
 refine Call_ (iP I hg hm boot_range (PyProof.Rows.callWith_type1 (thn (ha pos pins s σ H _ I h) fun us s1 ⟨vs,H1,I1,r1,q1⟩=>?_) (by rw [hs,hs2]) (by rw [hs2]; rfl)))
 obtain ⟨i,j,e,⟨q1,q2,q3,q4⟩,q⟩:=q1
 subst e
 cases r1 with
 | cons r rr =>
  cases rr with
  | cons r' rr =>
   cases rr
   obtain ⟨t,rfl⟩:=r
   obtain ⟨t',rfl⟩:=r'
   exact call_range_2 (nI I1 q1 q2 q3 q4 q)
def At (wi:TI) (g:TG) (tb:TS):TS:=fun D σ H=>wi σ H fun J H1=>∃ W:Nat→Nat→St→Hp→Prop,(∃ m,W 0 m σ H1)∧∀ i m σ H,W i m σ H →
 (J.stop i H∧D.nx σ H)∨(J.go i H∧∃ N:St→Hp→Prop,(∀ σ' H',N σ' H'→∃ m',m'<m∧W (i+1) m' σ' H')∧∀ x H',J.yld i H x H'→g x σ H' fun σ2 H2=>tb { D with nx:=N,ct:=N,bk:=D.nx } σ2 H2)
def iW (fp:List Addr) (h:Heap):List (Addr×Obj):=fp.filterMap fun b=>(h.get? b).map fun o=>(b,o)
theorem dQ {fp:List Addr} {h:Heap} {b:Addr} {o:Obj} (hb:b∈fp) (e:h.get? b=some o):(b,o)∈iW fp h:=List.mem_filterMap.mpr ⟨b,hb,by rw [e]; rfl⟩
theorem sA {fp:List Addr} {h:Heap} {p:Addr×Obj} (hp:p∈iW fp h):p.1∈fp∧h.get? p.1=some p.2:=by
 obtain ⟨b,hb,e⟩:=List.mem_filterMap.mp hp
 cases q:h.get? b with
 | none=>rw [q] at e; cases e
 | some o =>
  rw [q] at e
  have e':(b,o)=p:=Option.some.inj e
  subst e'
  exact ⟨hb,q⟩
theorem Inv.pinned {pins:List (Addr×Obj)} {σ:St} {H:Hp} {s:Shared} {fp:List Addr} (I:Inv X pins σ H s) (hf:∀ b∈fp,hX X pins H b) (ho:∀ b∈fp,∃ o,s.heap.get? b=some o∧∀ v,o.data≠.cell v):Inv X (pins++iW fp s.heap) σ H s :=
 I.pins_of fun p hp=>(List.mem_append.mp hp).elim (fun z=>I.pin p (List.mem_append_right _ z)) fun z=>by
  obtain ⟨hb,e⟩:=sA z
  obtain ⟨f0,f1,f2,_⟩:=hf p.1 hb
  obtain ⟨o,e',d⟩:=ho p.1 hb
  rw [e] at e'; cases e'
  exact ⟨e,f0,f1,f2,d⟩
theorem Inv.unpinned {pins pl:List (Addr×Obj)} {σ:St} {H:Hp} {s:Shared} (I:Inv X (pins++pl) σ H s):Inv X pins σ H s:=I.pins_of fun p hp=>I.pin p (List.mem_append_right _ (List.mem_append_left _ hp))
theorem bF {iter:Expr} {body:List Stmt} {wi:TI} {g:TG} {tb:TS} {pos:Pos} (hp:PassesOwn (model X.prog X.w) X.A X.env X.xe) (hc:X.calm=true) (hi:PI X tg iter wi) (hg:PG X tg g) (hb:PSs X body tb)
  (hs:∀ x,foldedSetIterable iter X.env x=pure x:=by intro _; rfl):PS X (.For tg iter body [] pos) (At wi g tb):=by
 intro pins s σ H D I h
 refine wpAny_For (thn (hi pins s σ H _ I h) fun v s1 h1=>thn h1 fun itv s2 h2=>?_) hs
 obtain ⟨it,fp,tn,J,H2,e,I2,T,st2,f2,W,⟨m0,w0⟩,turn⟩:=h2
 subst e
 -- what stays true of the iterator's objects through the loop
 have stat:∀ {H':Hp},(∀ b∈fp,H' b=none)→∀ b∈fp,hX X pins H' b:=fun hn b hb=>⟨hn b hb,(f2 b hb).2⟩
 refine codeAny_forLoop_any (fun n s'=>∃ i σ' H',Inv X pins σ' H' s'∧tn i s'.heap∧(∀ b∈fp,H' b=none)∧W i n σ' H') ?_ m0 ⟨0,σ,H2,I2,st2,fun b hb=>(f2 b hb).1,w0⟩
 rintro n s3 ⟨i,σ3,H3,I3,st3,fr3,w3⟩
 rcases turn i n σ3 H3 w3 with ⟨stop,qn⟩ | ⟨go,N,hN,step⟩
 ·refine wpAny_passesOwn hp (thn (T.done X rfl rfl rfl hc i pins s3 σ3 H3 X.xe I3 (stat fr3) st3 stop) fun r s4 ⟨hr,I4⟩=>?_)
  subst hr
  exact wpAny_execs_nil ⟨σ3,H3,I4,qn⟩
 ·refine wpAny_passesOwn hp (thn (T.item X rfl rfl rfl hc i pins s3 σ3 H3 X.xe I3 (stat fr3) st3 go) fun r s4 ⟨u,hr,h4⟩=>?_)
  subst hr
  refine wpAny_passesOwn hp (thn h4 fun _ s5 ⟨x,H5,I5,r5,y5,st5,fr5⟩=>?_)
  have I5':=I5.pinned (stat fr5) (T.obj _ _ st5)
  refine wpAny_passesOwn hp (thn (hg _ s5 σ3 H5 x u _ I5' r5 (step x H5 y5)) fun _ s6 ⟨σ6,H6,I6,q6⟩=>?_)
  refine wpAny_passesOwn hp (thn (hb _ s6 σ6 H6 _ I6 q6) fun f s7 q7=>?_)
  have again:∀ {σ7:St} {H7:Hp},Inv X (pins++iW fp s5.heap) σ7 H7 s7→N σ7 H7→∃ m,m<n∧∃ i σ' H',Inv X pins σ' H' s7∧tn i s7.heap∧(∀ b∈fp,H' b=none)∧W i m σ' H':=fun {σ7 H7} I7 n7=>by
   obtain ⟨m',hm,w7⟩:=hN σ7 H7 n7
   refine ⟨m',hm,i+1,σ7,H7,I7.unpinned,T.keep _ _ _ st5 fun b hb o e=>(I7.pin (b,o) (List.mem_append_right _ (List.mem_append_right _ (dQ hb e)))).1,fun b hb=>?_,w7⟩
   obtain ⟨o,e,d⟩:=T.obj _ _ st5 b hb
   exact (I7.pin (b,o) (List.mem_append_right _ (List.mem_append_right _ (dQ hb e)))).2.1
  cases f with
  | next=>obtain ⟨σ7,H7,I7,n7⟩:=q7; exact again I7 n7
  | cont=>obtain ⟨σ7,H7,I7,n7⟩:=q7; exact again I7 n7
  | brk=>obtain ⟨σ7,H7,I7,q7⟩:=q7; exact ⟨σ7,H7,I7.unpinned,q7⟩
  | ret v=>obtain ⟨x7,σ7,H7,I7,r7,q7⟩:=q7; exact ⟨x7,σ7,H7,I7.unpinned,r7,q7⟩
end
theorem cN {K:Frag} {a:Addr} {xs:List V} {g:TG} {tb:TS} {D:lu} {σ:St} {H:Hp} (Pv:Nat→St→Hp→Prop) (h0:Pv 0 σ H) (hl:∀ i σ H,i≤xs.length→Pv i σ H→SqL K H a xs)
  (hs:∀ i x σ H,xs[i]?=some x→Pv i σ H→g x σ H fun σ2 H2=>tb { D with nx:=Pv (i+1),ct:=Pv (i+1),bk:=D.nx } σ2 H2) (hd:∀ σ H,Pv xs.length σ H→D.nx σ H) :
  ∃ W:Nat→Nat→St→Hp→Prop,(∃ m,W 0 m σ H)∧∀ i m σ H,W i m σ H →
   ((Itl K a).stop i H∧D.nx σ H)∨((Itl K a).go i H∧∃ N:St→Hp→Prop,(∀ σ' H',N σ' H'→∃ m',m'<m∧W (i+1) m' σ' H')∧∀ x H',(Itl K a).yld i H x H'→g x σ H' fun σ2 H2=>tb { D with nx:=N,ct:=N,bk:=D.nx } σ2 H2):=by
 refine ⟨fun i m σ H=>m=xs.length - i∧i≤xs.length∧Pv i σ H,⟨xs.length,by simp,Nat.zero_le _,h0⟩,?_⟩
 rintro i m σ H ⟨rfl,hi,p⟩
 have q:=hl i σ H hi p
 by_cases hlt:i<xs.length
 ·refine .inr ⟨⟨xs,xs[i],q,by simp [hlt]⟩,Pv (i+1),fun σ' H' p'=>⟨xs.length - (i+1),by omega,rfl,hlt,p'⟩,fun x H' y=>?_⟩
  obtain ⟨e,y⟩:=y
  subst e
  exact hs i x σ _ (y xs q) p
 ·have e:i=xs.length:=by omega
  subst e
  exact .inl ⟨⟨xs,q,Nat.le_refl _⟩,hd σ H p⟩
theorem fo {K:Frag} {a:Addr} {xs:List V} {g:TG} {tb:TS} {D:lu} {σ:St} {H:Hp} (Pv:Nat→St→Hp→Prop) (h0:Pv 0 σ H) (hl:∀ i σ H,i≤xs.length→Pv i σ H→SqT K H a xs)
  (hs:∀ i x σ H,xs[i]?=some x→Pv i σ H→g x σ H fun σ2 H2=>tb { D with nx:=Pv (i+1),ct:=Pv (i+1),bk:=D.nx } σ2 H2) (hd:∀ σ H,Pv xs.length σ H→D.nx σ H) :
  ∃ W:Nat→Nat→St→Hp→Prop,(∃ m,W 0 m σ H)∧∀ i m σ H,W i m σ H →
   ((Itt K a).stop i H∧D.nx σ H)∨((Itt K a).go i H∧∃ N:St→Hp→Prop,(∀ σ' H',N σ' H'→∃ m',m'<m∧W (i+1) m' σ' H')∧∀ x H',(Itt K a).yld i H x H'→g x σ H' fun σ2 H2=>tb { D with nx:=N,ct:=N,bk:=D.nx } σ2 H2):=by
 refine ⟨fun i m σ H=>m=xs.length - i∧i≤xs.length∧Pv i σ H,⟨xs.length,by simp,Nat.zero_le _,h0⟩,?_⟩
 rintro i m σ H ⟨rfl,hi,p⟩
 have q:=hl i σ H hi p
 by_cases hlt:i<xs.length
 ·refine .inr ⟨⟨xs,xs[i],q,by simp [hlt]⟩,Pv (i+1),fun σ' H' p'=>⟨xs.length - (i+1),by omega,rfl,hlt,p'⟩,fun x H' y=>?_⟩
  obtain ⟨e,y⟩:=y
  subst e
  exact hs i x σ _ (y xs q) p
 ·have e:i=xs.length:=by omega
  subst e
  exact .inl ⟨⟨xs,q,Nat.le_refl _⟩,hd σ H p⟩
theorem eN {lo:Int} {n:Nat} {g:TG} {tb:TS} {D:lu} {σ:St} {H:Hp} (Pv:Nat→St→Hp→Prop) (h0:Pv 0 σ H)
  (hs:∀ i σ H,i<n→Pv i σ H→g (.int (lo+i)) σ H fun σ2 H2=>tb { D with nx:=Pv (i+1),ct:=Pv (i+1),bk:=D.nx } σ2 H2) (hd:∀ σ H,Pv n σ H→D.nx σ H) :
  ∃ W:Nat→Nat→St→Hp→Prop,(∃ m,W 0 m σ H)∧∀ i m σ H,W i m σ H →
   ((Itr lo n).stop i H∧D.nx σ H)∨((Itr lo n).go i H∧∃ N:St→Hp→Prop,(∀ σ' H',N σ' H'→∃ m',m'<m∧W (i+1) m' σ' H')∧∀ x H',(Itr lo n).yld i H x H'→g x σ H' fun σ2 H2=>tb { D with nx:=N,ct:=N,bk:=D.nx } σ2 H2):=by
 refine ⟨fun i m σ H=>m=n - i∧i≤n∧Pv i σ H,⟨n,by simp,Nat.zero_le _,h0⟩,?_⟩
 rintro i m σ H ⟨rfl,hi,p⟩
 by_cases hlt:i<n
 ·refine .inr ⟨hlt,Pv (i+1),fun σ' H' p'=>⟨n - (i+1),by omega,rfl,hlt,p'⟩,fun x H' y=>?_⟩
  obtain ⟨e,y⟩:=y
  subst e y
  exact hs i σ _ hlt p
 ·have e:i=n:=by omega
  subst e
  exact .inl ⟨Nat.le_refl _,hd σ H p⟩
open PySem PySem.Spec PyProof.Rows
abbrev R2:=V→V→Hp→VK→Prop
def OpR (X:Cx) (f:Value→Value→Sem Value) (r:R2):Prop :=
 ∀ (pins:List (Addr×Obj)) (s:Shared) (σ:St) (H:Hp) (x y:V) (v u:Value) (Q:VK),Inv X pins σ H s→bq x v→bq y u→r x y H Q →
  wpAny (model X.prog X.w) X.A (f v u) (EP X pins σ Q) X.xe s
def UnR (X:Cx) (f:Value→Sem Value) (r:V→Hp→VK→Prop):Prop :=
 ∀ (pins:List (Addr×Obj)) (s:Shared) (σ:St) (H:Hp) (x:V) (v:Value) (Q:VK),Inv X pins σ H s→bq x v→r x H Q →
  wpAny (model X.prog X.w) X.A (f v) (EP X pins σ Q) X.xe s
def bE (X:Cx) (f:Value) (r:List V→Hp→VK→Prop):Prop :=
 ∀ (pins:List (Addr×Obj)) (s:Shared) (σ:St) (H:Hp) (xs:List V) (us:List Value) (Q:VK),Inv X pins σ H s→aQ xs us→r xs H Q →
  wpAny (model X.prog X.w) X.A (call f us) (EP X pins σ Q) X.xe s
def tOp (r:R2) (ta tb:TE):TE:=fun σ H Q=>ta σ H fun x H1=>tb σ H1 fun y H2=>r x y H2 Q
def tUn (r:V→Hp→VK→Prop) (ta:TE):TE:=fun σ H Q=>ta σ H fun x H1=>r x H1 Q
def rI (C:Int→Int→Prop) (g:Int→Int→V):R2:=fun x y H Q=>∃ i j,x=.int i∧y=.int j∧C i j∧Q (g i j) H
def rI0 (g:Int→Int→V):R2:=fun x y H Q=>∃ i j,x=.int i∧y=.int j∧Q (g i j) H
def rU (g:Int→V):V→Hp→VK→Prop:=fun x H Q=>∃ i,x=.int i∧Q (g i) H
section
variable {X:Cx} {a b c:Expr} {ta tb tc:TE} {pos:Pos}
theorem yA (ha:PE X a ta) (hb:PE X b tb) {pins:List (Addr×Obj)} {s:Shared} {σ:St} {H:Hp} {R:V→V→Hp→Prop} (I:Inv X pins σ H s)
  (h:ta σ H fun x H1=>tb σ H1 fun y H2=>R x y H2) {Q:Value→Shared→Prop} {f:Value→Value→Sem Value}
  (hf:∀ v u s2 x y H2,Inv X pins σ H2 s2→bq x v→bq y u→R x y H2→wpAny (model X.prog X.w) X.A (f v u) Q X.xe s2) :
  wpAny (model X.prog X.w) X.A (eval a X.env) (fun v s₁=>wpAny (model X.prog X.w) X.A (eval b X.env) (fun u s₂=>wpAny (model X.prog X.w) X.A (f v u) Q X.xe s₂) X.xe s₁) X.xe s:=by
 refine thn (ha pins s σ H _ I h) fun v s1 ⟨x,H1,I1,r1,q1⟩=>?_
 refine thn (hb pins s1 σ H1 _ I1 q1) fun u s2 ⟨y,H2,I2,r2,q2⟩=>?_
 exact hf v u s2 x y H2 I2 r1 r2 q2
theorem aS {op:Operator} {r:R2} (ho:OpR X (binaryOp op) r) (ha:PE X a ta) (hb:PE X b tb):PE X (.BinOp a op b pos) (tOp r ta tb):=by
 intro pins s σ H Q I h
 exact wpAny_BinOp (yA ha hb I h fun v u s2 x y H2 I2 rx ry q=>ho pins s2 σ H2 x y v u Q I2 rx ry q)
theorem lW {op:UnaryOp} {r:V→Hp→VK→Prop} (ho:UnR X (unaryOp op) r) (ha:PE X a ta):PE X (.UnaryOp op a pos) (tUn r ta):=by
 intro pins s σ H Q I h
 exact UnaryOp_ (thn (ha pins s σ H _ I h) fun v s1 ⟨x,H1,I1,r1,q1⟩=>ho pins s1 σ H1 x v Q I1 r1 q1)
theorem opI {f:Value→Value→Sem Value} {C:Int→Int→Prop} {g:Int→Int→Int}
  (rule:∀ (i j:Int) (t u:Tok) (s:Shared) (Q:Value→Shared→Prop) (E:Value→Shared→Prop),C i j→Q (.int (g i j) s.toks) { s with toks:=s.toks+1 }→wpAny (model X.prog X.w) X.A (f (.int i t) (.int j u)) Q E s) :
  OpR X f (rI C fun i j=>.int (g i j)):=by
 intro pins s σ H x y v u Q I rx ry h
 obtain ⟨i,j,rfl,rfl,hc,q⟩:=h
 obtain ⟨t,rfl⟩:=rx
 obtain ⟨t',rfl⟩:=ry
 exact rule i j t t' s _ _ hc ⟨.int (g i j),H,I.tok _,⟨_,rfl⟩,q⟩
theorem yY {f:Value→Value→Sem Value} {g:Int→Int→Int}
  (rule:∀ (i j:Int) (t u:Tok) (s:Shared) (Q:Value→Shared→Prop) (E:Value→Shared→Prop),Q (.int (g i j) s.toks) { s with toks:=s.toks+1 }→wpAny (model X.prog X.w) X.A (f (.int i t) (.int j u)) Q E s) :
  OpR X f (rI0 fun i j=>.int (g i j)):=by
 intro pins s σ H x y v u Q I rx ry h
 obtain ⟨i,j,rfl,rfl,q⟩:=h
 obtain ⟨t,rfl⟩:=rx
 obtain ⟨t',rfl⟩:=ry
 exact rule i j t t' s _ _ ⟨.int (g i j),H,I.tok _,⟨_,rfl⟩,q⟩
theorem xY {f:Value→Value→Sem Value} {g:Int→Int→Bool}
  (rule:∀ (i j:Int) (t u:Tok) (s:Shared) (Q:Value→Shared→Prop) (E:Value→Shared→Prop),Q (.bool (g i j)) s→wpAny (model X.prog X.w) X.A (f (.int i t) (.int j u)) Q E s) :
  OpR X f (rI0 fun i j=>.bl (g i j)):=by
 intro pins s σ H x y v u Q I rx ry h
 obtain ⟨i,j,rfl,rfl,q⟩:=h
 obtain ⟨t,rfl⟩:=rx
 obtain ⟨t',rfl⟩:=ry
 exact rule i j t t' s _ _ ⟨.bl (g i j),H,I,rfl,q⟩
def An (i j:Int):Prop:=0<j∧j<1073741824
def zp (i j:Int):Prop:=0≤j∧j≤1000000∧i.natAbs<2 ^ 64
def ur (i j:Int):Prop:=(-(2 ^ 64)<i∧i<2 ^ 64)∨(-(2 ^ 64)<j∧j<2 ^ 64)
theorem ur.ok {i j:Int} (h:ur i j):IntMulOk i j:=by
 rcases h with ⟨h1,h2⟩ | ⟨h1,h2⟩
 ·exact .of_left (intBits_le_64 h1 h2)
 ·exact .of_right (intBits_le_64 h1 h2)
theorem bQ:OpR X (binaryOp .Add) (rI0 fun i j=>.int (i+j)):=yY fun _ _ _ _ _ _ _ q=>add_int q
theorem lc:OpR X (binaryOp .Sub) (rI0 fun i j=>.int (i - j)):=yY fun _ _ _ _ _ _ _ q=>sub_int q
theorem ia:OpR X (binaryOp .Mult) (rI ur fun i j=>.int (i*j)):=opI fun _ _ _ _ _ _ _ hc q=>mul_int q hc.ok
theorem mQ:OpR X (binaryOp .FloorDiv) (rI An fun i j=>.int (i / j)):=opI fun i j _ _ _ _ _ hc q=>by
 have h1:(0:Int)<j:=hc.1
 have h2:j<1073741824:=hc.2
 exact floordiv_int (by omega) (by rw [Int.fdiv_eq_ediv_of_nonneg i (by omega)]; exact q) (.inl (PyProof.noPylong_small (by omega)))
theorem dU:OpR X (binaryOp .Mod) (rI (fun _ j=>0<j) fun i j=>.int (i % j)):=opI fun i j _ _ _ _ _ hc q=>by
 have h1:(0:Int)<j:=hc
 exact mod_int' (by omega) (by rw [Int.fmod_eq_emod_of_nonneg i (by omega)]; exact q)
theorem yK:OpR X (binaryOp .Pow) (rI zp fun i j=>.int (i ^ j.toNat)):=opI fun _ _ _ _ _ _ _ hc q=>pow_int_small hc.1 hc.2.1 hc.2.2 q
theorem unI {f:Value→Sem Value} {g:Int→Int}
  (rule:∀ (i:Int) (t:Tok) (s:Shared) (Q:Value→Shared→Prop) (E:Value→Shared→Prop),Q (.int (g i) s.toks) { s with toks:=s.toks+1 }→wpAny (model X.prog X.w) X.A (f (.int i t)) Q E s) :
  UnR X f (rU fun i=>.int (g i)):=by
 intro pins s σ H x v Q I rx h
 obtain ⟨i,rfl,q⟩:=h
 obtain ⟨t,rfl⟩:=rx
 exact rule i t s _ _ ⟨.int (g i),H,I.tok _,⟨_,rfl⟩,q⟩
theorem iZ:UnR X (unaryOp .USub) (rU fun i=>.int (-i)):=unI fun _ _ _ _ _ q=>neg_int q
end
def Ae:V→V→Bool
 | .non,.non=>true | .non,.int _=>true | .int _,.non=>true | .non,.bl _=>true | .bl _,.non=>true | .non,.str _=>true | .str _,.non=>true
 | .int _,.int _=>true | .bl _,.bl _=>true | .str _,.str _=>true | .byt _,.byt _=>true
 | .int _,.str _=>true | .str _,.int _=>true | .bl _,.str _=>true | .str _,.bl _=>true
 | _,_=>false
def rEq:R2:=fun x y H Q=>Ae x y=true∧Q (.bl (decide (x=y))) H
def rNe:R2:=fun x y H Q=>Ae x y=true∧Q (.bl (!decide (x=y))) H
theorem rV {i j:Int}:decide (V.int i=V.int j)=(i==j):=by
 rw [Bool.eq_iff_iff]
 simp
theorem uk {i j:Bool}:decide (V.bl i=V.bl j)=(i==j):=by
 rw [Bool.eq_iff_iff]
 simp
theorem qT {i j:Str}:decide (V.str i=V.str j)=(i==j):=by
 rw [Bool.eq_iff_iff]
 simp
theorem qU {i j:Array UInt8}:decide (V.byt i=V.byt j)=(i.toList==j.toList):=by
 rw [Bool.eq_iff_iff]
 cases i
 cases j
 simp
section
variable {X:Cx} {a b c:Expr} {ta tb tc:TE} {pos:Pos}
theorem bh {pins:List (Addr×Obj)} {σ:St} {H:Hp} {s:Shared} {Q:VK} {k k':Bool} (I:Inv X pins σ H s) (q:Q (.bl k) H) (e:k=k'):EP X pins σ Q (.bool k') s:=by
 subst e
 exact ⟨.bl k,H,I,rfl,q⟩
theorem bO:OpR X (compareOp .Eq) rEq:=by
 intro pins s σ H x y v u Q I rx ry h
 obtain ⟨hs,q⟩:=h
 cases x with
 | non =>
  cases rx
  cases y with
  | non=>cases ry; exact PySem.EqNone.eq_none_none (bh I q (by simp))
  | bl j=>cases ry; exact PySem.EqNone.eq_none_bool (bh I q (by simp))
  | int j=>obtain ⟨t',rfl⟩:=ry; exact PySem.EqNone.eq_none_int (bh I q (by simp))
  | str j=>obtain ⟨t',rfl⟩:=ry; exact PySem.EqNone.eq_none_str (bh I q (by simp))
  | _=>exact absurd (show false=true from hs) Bool.false_ne_true
 | bl i =>
  cases rx
  cases y with
  | non=>cases ry; exact PySem.EqNone.eq_bool_none (bh I q (by simp))
  | bl j=>cases ry; exact eq_bool (bh I q uk)
  | str j=>obtain ⟨t',rfl⟩:=ry; exact PySem.EqMixed.eq_bool_str (bh I q (by simp))
  | _=>exact absurd (show false=true from hs) Bool.false_ne_true
 | int i =>
  obtain ⟨t,rfl⟩:=rx
  cases y with
  | non=>cases ry; exact PySem.EqNone.eq_int_none (bh I q (by simp))
  | int j=>obtain ⟨t',rfl⟩:=ry; exact eq_int (bh I q rV)
  | str j=>obtain ⟨t',rfl⟩:=ry; exact PySem.EqMixed.eq_int_str (bh I q (by simp))
  | _=>exact absurd (show false=true from hs) Bool.false_ne_true
 | str i =>
  obtain ⟨t,rfl⟩:=rx
  cases y with
  | non=>cases ry; exact PySem.EqNone.eq_str_none (bh I q (by simp))
  | bl j=>cases ry; exact PySem.EqMixed.eq_str_bool (bh I q (by simp))
  | int j=>obtain ⟨t',rfl⟩:=ry; exact PySem.EqMixed.eq_str_int (bh I q (by simp))
  | str j=>obtain ⟨t',rfl⟩:=ry; exact eq_str (bh I q qT)
  | _=>exact absurd (show false=true from hs) Bool.false_ne_true
 | byt i =>
  obtain ⟨t,rfl⟩:=rx
  cases y with
  | byt j=>obtain ⟨t',rfl⟩:=ry; exact PySem.W.eq_bytes (bh I q qU)
  | _=>exact absurd (show false=true from hs) Bool.false_ne_true
 | _=>cases y<;>exact absurd (show false=true from hs) Bool.false_ne_true
theorem kF:OpR X (compareOp .NotEq) rNe:=by
 intro pins s σ H x y v u Q I rx ry h
 obtain ⟨hs,q⟩:=h
 cases x with
 | non =>
  cases rx
  cases y with
  | non=>cases ry; exact PySem.EqNone.ne_none_none (bh I q (by simp))
  | bl j=>cases ry; exact PySem.EqNone.ne_none_bool (bh I q (by simp))
  | int j=>obtain ⟨t',rfl⟩:=ry; exact PySem.EqNone.ne_none_int (bh I q (by simp))
  | str j=>obtain ⟨t',rfl⟩:=ry; exact PySem.EqNone.ne_none_str (bh I q (by simp))
  | _=>exact absurd (show false=true from hs) Bool.false_ne_true
 | bl i =>
  cases rx
  cases y with
  | non=>cases ry; exact PySem.EqNone.ne_bool_none (bh I q (by simp))
  | bl j=>cases ry; exact ne_bool (bh I q (congrArg not uk))
  | str j=>obtain ⟨t',rfl⟩:=ry; exact PySem.EqMixed.ne_bool_str (bh I q (by simp))
  | _=>exact absurd (show false=true from hs) Bool.false_ne_true
 | int i =>
  obtain ⟨t,rfl⟩:=rx
  cases y with
  | non=>cases ry; exact PySem.EqNone.ne_int_none (bh I q (by simp))
  | int j=>obtain ⟨t',rfl⟩:=ry; exact ne_int (bh I q (congrArg not rV))
  | str j=>obtain ⟨t',rfl⟩:=ry; exact PySem.EqMixed.ne_int_str (bh I q (by simp))
  | _=>exact absurd (show false=true from hs) Bool.false_ne_true
 | str i =>
  obtain ⟨t,rfl⟩:=rx
  cases y with
  | non=>cases ry; exact PySem.EqNone.ne_str_none (bh I q (by simp))
  | bl j=>cases ry; exact PySem.EqMixed.ne_str_bool (bh I q (by simp))
  | int j=>obtain ⟨t',rfl⟩:=ry; exact PySem.EqMixed.ne_str_int (bh I q (by simp))
  | str j=>obtain ⟨t',rfl⟩:=ry; exact ne_str (bh I q (congrArg not qT))
  | _=>exact absurd (show false=true from hs) Bool.false_ne_true
 | byt i =>
  obtain ⟨t,rfl⟩:=rx
  cases y with
  | byt j=>obtain ⟨t',rfl⟩:=ry; exact PySem.W.ne_bytes (bh I q (congrArg not qU))
  | _=>exact absurd (show false=true from hs) Bool.false_ne_true
 | _=>cases y<;>exact absurd (show false=true from hs) Bool.false_ne_true
theorem bY:OpR X (compareOp .LtE) (rI0 fun i j=>.bl (decide (i≤j))):=xY fun _ _ _ _ _ _ _ q=>le_int q
theorem jU:OpR X (compareOp .Gt) (rI0 fun i j=>.bl (decide (j<i))):=xY fun _ _ _ _ _ _ _ q=>gt_int q
theorem zw:OpR X (compareOp .GtE) (rI0 fun i j=>.bl (decide (j≤i))):=xY fun _ _ _ _ _ _ _ q=>ge_int q
theorem OpR.or {f:Value→Value→Sem Value} {r r':R2} (h:OpR X f r) (h':OpR X f r'):OpR X f (fun x y H Q=>r x y H Q∨r' x y H Q):=by
 intro pins s σ H x y v u Q I rx ry q
 rcases q with q | q
 ·exact h pins s σ H x y v u Q I rx ry q
 ·exact h' pins s σ H x y v u Q I rx ry q
theorem aO (b:Expr) {op:CmpOp} (h:op≠.In:=by decide) (h2:op≠.NotIn:=by decide):behindInMarks op b=false:=by
 have e1:(op==CmpOp.In)=false:=by cases op<;>first | rfl | exact absurd rfl h
 have e2:(op==CmpOp.NotIn)=false:=by cases op<;>first | rfl | exact absurd rfl h2
 cases b<;>simp [behindInMarks,e1,e2]
theorem cX {op:CmpOp} {r:R2} (ho:OpR X (compareOp op) r) (ha:PE X a ta) (hb:PE X b tb) (hm:behindInMarks op b=false):PE X (.Compare a [op] [b] pos) (tOp r ta tb):=by
 intro pins s σ H Q I h
 exact wpAny_Compare1 (yA ha hb I h fun v u s2 x y H2 I2 rx ry q=>ho pins s2 σ H2 x y v u Q I2 rx ry q) hm
def uU (t:TE):TT:=fun σ H Q=>t σ H fun x H'=>∃ k,x=.bl k∧Q k H'
theorem aE {op:CmpOp} {r:R2} (ho:OpR X (compareOp op) r) (ha:PE X a ta) (hb:PE X b tb) (hm:behindInMarks op b=false):PT X (.Compare a [op] [b] pos) (uU (tOp r ta tb)):=by
 intro pins s σ H Q I h
 refine wpAny_isTrue_Compare1 (thn (ha pins s σ H _ I h) fun v s1 ⟨x,H1,I1,r1,q1⟩=>thn (hb pins s1 σ H1 _ I1 q1) fun u s2 ⟨y,H2,I2,r2,q2⟩ =>
  thn (ho pins s2 σ H2 x y v u _ I2 r1 r2 q2) fun c s3 ⟨z,H3,I3,r3,k,e,q3⟩=>?_) hm
 subst e
 cases r3
 exact wpAny_truthy_bool ⟨H3,I3,q3⟩
def tG (r r':R2) (ta tb tc:TE):TE:=fun σ H Q=>ta σ H fun x H1=>tb σ H1 fun y H2=>r x y H2 fun z H3=>∃ k,z=.bl k ∧
 (if k=true then tc σ H3 fun w' H4=>r' y w' H4 Q else Q (.bl false) H3)
theorem dM {op op':CmpOp} {r r':R2} (ho:OpR X (compareOp op) r) (ho':OpR X (compareOp op') r') (ha:PE X a ta) (hb:PE X b tb) (hc:PE X c tc)
  (hm:lastMarks [op,op'] [b,c]=false:=by with_unfolding_all rfl):PE X (.Compare a [op,op'] [b,c] pos) (tG r r' ta tb tc):=by
 intro pins s σ H Q I h
 refine Compare_chain (thn (ha pins s σ H _ I h) fun v s1 ⟨x,H1,I1,r1,q1⟩=>chain_link (thn (hb pins s1 σ H1 _ I1 q1) fun u s2 ⟨y,H2,I2,r2,q2⟩ =>
  thn (ho pins s2 σ H2 x y v u _ I2 r1 r2 q2) fun d s3 ⟨z,H3,I3,r3,k,e,q3⟩=>?_)) hm
 subst e
 cases r3
 refine wpAny_truthy_bool ?_
 cases k with
 | false=>exact ite_ff ⟨.bl false,H3,I3,rfl,q3⟩
 | true=>exact ite_tt (chain_last (thn (hc pins s3 σ H3 _ I3 q3) fun w' s4 ⟨z',H4,I4,r4,q4⟩=>ho' pins s4 σ H4 y z' u w' Q I4 r2 r4 q4))
theorem oB {op op':CmpOp} {r r':R2} (ho:OpR X (compareOp op) r) (ho':OpR X (compareOp op') r') (ha:PE X a ta) (hb:PE X b tb) (hc:PE X c tc)
  (hm:lastMarks [op,op'] [b,c]=false:=by with_unfolding_all rfl):PT X (.Compare a [op,op'] [b,c] pos) (uU (tG r r' ta tb tc)):=by
 intro pins s σ H Q I h
 refine isTrue_chain (thn (ha pins s σ H _ I h) fun v s1 ⟨x,H1,I1,r1,q1⟩=>test_link (thn (hb pins s1 σ H1 _ I1 q1) fun u s2 ⟨y,H2,I2,r2,q2⟩ =>
  thn (ho pins s2 σ H2 x y v u _ I2 r1 r2 q2) fun d s3 ⟨z,H3,I3,r3,k,e,q3⟩=>?_)) hm
 subst e
 cases r3
 refine wpAny_truthy_bool ?_
 cases k with
 | false =>
  obtain ⟨k',e',q'⟩:=q3
  cases e'
  exact ite_ff ⟨H3,I3,q'⟩
 | true =>
  refine ite_tt (test_last (thn (hc pins s3 σ H3 _ I3 q3) fun w' s4 ⟨z',H4,I4,r4,q4⟩=>thn (ho' pins s4 σ H4 y z' u w' _ I4 r2 r4 q4) fun d' s5 ⟨z2,H5,I5,r5,k2,e2,q5⟩=>?_))
  subst e2
  cases r5
  exact wpAny_truthy_bool ⟨H5,I5,q5⟩
theorem lg:(sizeLine:Nat)<2 ^ 63:=by rw [sizeLine_eq]; decide
theorem eH {x:V} {us:List Value} (r:aQ [x] us):∃ u,us=[u]∧bq x u:=by
 cases r with
 | cons r1 r2=>cases r2; exact ⟨_,rfl,r1⟩
theorem nU {x y:V} {us:List Value} (r:aQ [x,y] us):∃ u w',us=[u,w']∧bq x u∧bq y w':=by
 cases r with
 | cons r1 r2 =>
  cases r2 with
  | cons r3 r4=>cases r4; exact ⟨_,_,rfl,r1,r3⟩
theorem iB:bE X (.builtin "abs") (fun xs H Q=>∃ i,xs=[.int i]∧Q (.int (if i<0 then -i else i)) H):=by
 intro pins s σ H xs us Q I r h
 obtain ⟨i,rfl,q⟩:=h
 obtain ⟨u,rfl,t,rfl⟩:=eH r
 exact call_abs_int fun u tk=>⟨.int (if i<0 then -i else i),H,I.tok _,⟨_,rfl⟩,q⟩
theorem tj (hc:X.calm=true):bE X (.builtin "min") (fun xs H Q=>∃ i j,xs=[.int i,.int j]∧Q (.int (if j<i then j else i)) H):=by
 intro pins s σ H xs us Q I r h
 obtain ⟨i,j,rfl,q⟩:=h
 obtain ⟨u,w',rfl,⟨t,rfl⟩,⟨t',rfl⟩⟩:=nU r
 refine min_two_ints (I.ok.hd hc) fun h' tk k=>⟨_,H,I.kept k,?_,q⟩
 by_cases hj:j<i
 ·rw [if_pos hj,if_pos hj]; exact ⟨_,rfl⟩
 ·rw [if_neg hj,if_neg hj]; exact ⟨_,rfl⟩
theorem mn:bE X (.type "int") (fun xs H Q=>(∃ i,xs=[.int i]∧Q (.int i) H)∨∃ k,xs=[.bl k]∧Q (.int (if k then 1 else 0)) H):=by
 intro pins s σ H xs us Q I r h
 rcases h with ⟨i,rfl,q⟩ | ⟨k,rfl,q⟩
 ·obtain ⟨u,rfl,t,rfl⟩:=eH r
  exact call_int_int ⟨.int i,H,I,⟨_,rfl⟩,q⟩
 ·obtain ⟨u,rfl,r1⟩:=eH r
  cases r1
  exact call_int_bool ⟨.int (if k then 1 else 0),H,I.tok _,⟨_,rfl⟩,q⟩
theorem ip:bE X (.builtin "ord") (fun xs H Q=>∃ x,xs=[.str x]∧x.length=1∧Q (.int (x.cps.getD 0 0:Nat)) H):=by
 intro pins s σ H xs us Q I r h
 obtain ⟨x,rfl,hz,q⟩:=h
 obtain ⟨u,rfl,t,rfl⟩:=eH r
 exact ord_of_one hz ⟨.int _,H,I.tok _,⟨_,rfl⟩,q⟩
end
open PySem PySem.Spec PyProof.Rows
structure yI (h:Heap) (x dx C:Addr) (mA:Str→Option Value):Prop where
 obj:h.get? x=some (PySem.W.instObj C dx)
 ns:h.Ns1 dx mA
 ne:dx≠x
theorem sN {h:Heap} {dx:Addr} {mA:Str→Option Value} (n:h.Ns1 dx mA):∃ od,h.get? dx=some od∧∀ name,PySem.W.lookIn name od=some (mA name):=by
 obtain ⟨o,es,ep,ho,hd,hk,_,hm⟩:=n
 refine ⟨o,ho,fun name=>?_⟩
 have e:=hm name
 unfold nsFind findBy at e
 rw [← Array.find?_toList] at e
 unfold PySem.W.lookIn
 rw [hd]
 dsimp only
 split
 ·rename_i y q
  rw [q] at e
  exact congrArg some e
 ·rename_i q
  rw [q] at e
  have a:es.toList.any (·.refKey)=false:=by
   rw [List.any_eq_false]
   intro y hy
   obtain ⟨z,t,hkey⟩:=hk y (Array.mem_toList_iff.mp hy)
   simp [DictEntry.refKey,hkey]
  have a':¬ es.toList.any (·.refKey)=true:=by rw [a]; exact Bool.false_ne_true
  rw [if_neg a']
  exact congrArg some e
theorem yI.look {h:Heap} {x dx C:Addr} {mA:Str→Option Value} (I:yI h x dx C mA):∃ od,PySem.W.InstAt h x (PySem.W.instObj C dx) C (some od)∧∀ name,PySem.W.lookIn name od=some (mA name) :=
 let ⟨od,ho,hl⟩:=sN I.ns
 ⟨od,⟨I.obj,rfl,rfl,ho⟩,hl⟩
section
variable {prog:Program} {w:World} {A:Around} {E:Value→Shared→Prop} {s:Shared} {K:Frag} {x dx C f:Addr} {mA:Str→Option Value} {name:Str} {v:Value}
end
section
variable {P:Program} {w:World} {H H':Hp} {h h':Heap} {a C dx:Addr} {fs fs':List (Str×V)}
theorem wO (hok:HOk P w H h) (e:H a=some (.ins C dx fs)):∃ mA,yI h a dx C mA∧(∀ f,yz (fs.lookup f) (mA f))∧PySem.Within mA (fs.map (·.1))∧fs.length≤1000∧H dx=some (.own a):=by
 obtain ⟨d,z,ne,ob,mA,n,r,q⟩:=(show bS P w H h a (.ins C dx fs) from hok a _ e)
 exact ⟨mA,⟨ob,n,ne⟩,r,q,z,d⟩
end
structure Cls (K:Frag) (C:Addr):Prop where
 pg:PySem.W.plainGet K C Str.empty=true
 hd:PySem.W.hasDictIn K C=true
 po:PySem.W.plainOver K C=true
 sa:PySem.W.findIn K (.ref C) "__setattr__"=some (some (.builtin "object.__setattr__"))
theorem Cls.get {K:Frag} {C:Addr} (c:Cls K C) (f:Str):PySem.W.plainGet K C f=true:=c.pg
structure Con (K:Frag) (C:Addr) (f:Str) (v:V) (u:Value):Prop where
 at_:PySem.W.findIn K (.ref C) f=some (some u)
 rel:bq v u
 get:PySem.W.specialIn K u "__get__"=some none
 cp:PySem.W.copiedNames.contains f=false
structure AC (K:Frag) (C:Addr) (m:Str) (f:Addr):Prop where
 at_:PySem.W.findIn K (.ref C) m=some (some (.ref f))
 fn:PySem.W.isFn K (.ref f)=true
 kp:keepIn K (.ref f)=true
section
variable {X:Cx} {pins:List (Addr×Obj)} {σ:St} {H:Hp} {s:Shared} {a C dx:Addr} {fs:List (Str×V)} {f:Str} {v:V} {A:Around} {E:Value→Shared→Prop}
end
section
variable {X:Cx} {o e value:Expr} {f:Str} {pos pos' tpos:Pos} {ta tv:TE}
end
section
variable {X:Cx} {pins:List (Addr×Obj)} {σ:St} {H:Hp} {s:Shared} {A:Around} {E:Value→Shared→Prop} {Q:Value→Shared→Prop} {c:Value} {b:Bool}
inductive iY (K:Frag) (H:Hp):V→Value→Prop where
 | non:iY K H .non (.type "NoneType")
 | bl (x:Bool):iY K H (.bl x) (.type "bool")
 | int (i:Int):iY K H (.int i) (.type "int")
 | str (x:Str):iY K H (.str x) (.type "str")
 | flt (x:UInt64):iY K H (.flt x) (.type "float")
 | lst {a:Addr} {xs:List V} (e:H a=some (.lst xs)):iY K H (.ref a) (.type "list")
 | frz {a:Addr} {o:Obj} {xs:List V} (e:H a=some (.frz o (.lst xs))):iY K H (.ref a) (.type "list")
 | tup {a:Addr} {xs:List V} (e:H a=some (.tup xs)):iY K H (.ref a) (.type "tuple")
 | dK {a:Addr} {kvs:List (Key×V)} (e:H a=some (.dK kvs)):iY K H (.ref a) (.type "dict")
 | dT {a:Addr} {kvs:List (PyData×V)} (e:H a=some (.dT kvs)):iY K H (.ref a) (.type "dict")
 | ins {a C dx:Addr} {fs:List (Str×V)} (e:H a=some (.ins C dx fs)) (cl:Cls K C) (ha:PySem.W.findIn K (.ref C) "__class__"=some (some (.builtin "object.__class__")))
   (hn:PySem.W.specialIn K (.builtin "object.__class__") "__get__"=some (some (.builtin "getset_descriptor.__get__"))) (htk:PySem.W.takesIn K (.builtin "object.__class__")=some true)
   (hm:PySem.W.mroIn K C (.type "object")=some true):iY K H (.ref a) (.ref C)
theorem tw {x:V} {u t:Value} (I:Inv X pins σ H s) (rx:bq x u) (ty:iY X.K H x t) (e:PySem.W.kitOne X.K t c=some b) (h:∀ tk,Q (.bool b) { s with toks:=tk }) :
  wpAny (model X.prog X.w) A (call (.builtin "isinstance") [u,c]) Q E s:=by
 cases ty with
 | non=>cases (show u=Value.none from rx); exact PySem.W.kia_one PySem.W.kitx_none I.kIn True.intro e (fun z=>nomatch z) h
 | bl y=>cases (show u=Value.bool y from rx); exact PySem.W.kia_one PySem.W.kitx_bool I.kIn True.intro e (fun z=>nomatch z) h
 | int i=>obtain ⟨t,q⟩:=(show ∃ t,u=Value.int i t from rx); cases q; exact PySem.W.kia_one PySem.W.kitx_int I.kIn True.intro e (fun z=>nomatch z) h
 | str y=>obtain ⟨t,q⟩:=(show ∃ t,u=Value.str y t from rx); cases q; exact PySem.W.kia_one PySem.W.kitx_str I.kIn True.intro e (fun z=>nomatch z) h
 | flt y=>obtain ⟨t,q⟩:=(show ∃ t,u=Value.float y t from rx); cases q; exact PySem.W.kia_one PySem.W.kitx_float I.kIn True.intro e (fun z=>nomatch z) h
 | @lst a xs ea =>
  cases (show u=Value.ref a from rx)
  obtain ⟨_,_,n,_,h1⟩:=(show bS X.prog X.w H s.heap a (.lst xs) from I.hok a _ ea)
  exact PySem.W.kia_one PySem.W.kitx_list I.kIn ⟨_,h1,rfl⟩ e (fun z=>nomatch z) h
 | @frz a ob xs ea =>
  cases (show u=Value.ref a from rx)
  obtain ⟨_,_,_,n,_,h1⟩:=(show bS X.prog X.w H s.heap a (.frz ob (.lst xs)) from I.hok a _ ea)
  exact PySem.W.kia_one PySem.W.kitx_list I.kIn ⟨_,h1,rfl⟩ e (fun z=>nomatch z) h
 | @tup a xs ea =>
  cases (show u=Value.ref a from rx)
  obtain ⟨_,_,_,p,_⟩:=(show bS X.prog X.w H s.heap a (.tup xs) from I.hok a _ ea)
  obtain ⟨o,h1,h2,_⟩:=p
  exact PySem.W.kia_one PySem.W.kitx_tuple I.kIn ⟨o,h1,h2⟩ e (fun z=>nomatch z) h
 | @dK a kvs ea =>
  cases (show u=Value.ref a from rx)
  obtain ⟨_,_,vs,_,p⟩:=(show bS X.prog X.w H s.heap a (.dK kvs) from I.hok a _ ea)
  obtain ⟨o,es,ep,h1,h2,_⟩:=p
  exact PySem.W.kia_one PySem.W.kitx_dict I.kIn ⟨o,h1,h2.1⟩ e (fun z=>nomatch z) h
 | @dT a kvs ea =>
  cases (show u=Value.ref a from rx)
  obtain ⟨_,_,xs,_,o,es,ep,h1,h2,_⟩:=(show bS X.prog X.w H s.heap a (.dT kvs) from I.hok a _ ea)
  exact PySem.W.kia_one PySem.W.kitx_dict I.kIn ⟨o,h1,h2.1⟩ e (fun z=>nomatch z) h
 | @ins a C dx fs ea cl ha hn htk hm =>
  cases (show u=Value.ref a from rx)
  obtain ⟨mA,O,_⟩:=wO I.hok ea
  obtain ⟨od,J,_⟩:=O.look
  exact PySem.W.kia_one (PySem.W.kitx_own (cl.get _) cl.hd ha hn htk hm) I.kIn J e (fun z=>nomatch z) h
end
open PySem PySem.Spec PyProof.Rows
structure fP (k:Nat) (A:Around):Prop where
 hd:A.handled=none
 dp:A.depth+3*k+5<recursionLimit
 un:A.units+16*k+200<cLine
 gd:A.guards=some []
theorem fP.mono {j k:Nat} {A:Around} (r:fP k A) (h:j≤k):fP j A:=⟨r.hd,by have:=r.dp; omega,by have:=r.un; omega,r.gd⟩
theorem fP.deeper {k:Nat} {A:Around} (r:fP (k+1) A) (env:Env):fP k (A.deeper env) :=
 ⟨r.hd,by have:=r.dp; show A.depth+1+3*k+5<_; omega,by have:=r.un; show A.units+3+16*k+200<_; omega,r.gd⟩
theorem fP.depth {k:Nat} {A:Around} (r:fP k A):A.depth<recursionLimit:=by have:=r.dp; omega
theorem fP.units {k:Nat} {A:Around} (r:fP k A):A.units+64<cLine:=by have:=r.un; omega
def zG:TA:=fun _ H Q=>Q [] H
def xj (ta:TE) (tr:TA):TA:=fun σ H Q=>ta σ H fun x H1=>tr σ H1 fun xs H2=>Q (x::xs) H2
section
variable {X:Cx} {e:Expr} {es:List Expr} {te:TE} {t:TA} {pos:Pos}
theorem af:PA X [] zG:=fun _ _ _ _ H Q I h=>Calls.spliced_nil ⟨[],H,I,.nil,h⟩
theorem ac (ha:PE X e te) (hr:PA X es t) (hs:starEach (e::es) X.env=(false,eval e X.env)::starEach es X.env:=by exact aa rfl):PA X (e::es) (xj te t):=by
 intro pos pins s σ H Q I h
 rw [hs]
 show wpAny _ _ (spliced ((false,eval e X.env)::backTo pos (starEach es X.env))) _ _ s
 refine Calls.spliced_cons (thn (ha pins s σ H _ I h) fun u s1 ⟨x,H1,I1,r1,q1⟩=>?_)
 exact thn (hr pos pins s1 σ H1 _ I1 q1) fun us s2 ⟨xs,H2,I2,r2,q2⟩=>⟨x::xs,H2,I2,.cons r1 r2,q2⟩
def Ak (t:TA):TE:=fun σ H Q=>t σ H fun xs H1=>xs.length≤sizeLine∧∀ p,H1 p=none→Q (.ref p) (upd H1 p (.tup xs))
def Aw (t:TA):TE:=fun σ H Q=>t σ H fun xs H1=>xs.length≤sizeLine∧∀ p,H1 p=none→Q (.ref p) (upd H1 p (.lst xs))
theorem ba {x1} (h:PA X es t):PE X (.Tuple es x1 pos) (Ak t):=by
 intro pins s σ H Q I hq
 refine wpAny_Tuple_spliced (thn (h pos pins s σ H _ I hq) fun us s1 ⟨xs,H1,I1,r,z,q⟩=>⟨by rw [← r.length]; exact z,?_⟩)
 have hf:H1 s1.heap.objs.size=none:=I1.hok.fresh (Nat.le_refl _)
 refine ⟨.ref s1.heap.objs.size,upd H1 s1.heap.objs.size (.tup xs),I1.laid (t':=s1.toks) (fun b u e=>Heap.get?_push_of_some _ e) (Nat.le_refl _) ?_,rfl,q _ hf⟩
 exact ⟨z,us,r,⟨_,Heap.get?_push_size _ rfl,rfl,_,rfl⟩,_,Heap.get?_push_size _ rfl,rfl⟩
theorem aV (h:PA X es t):PE X (.List es pos) (Aw t):=by
 intro pins s σ H Q I hq
 refine wpAny_List_spliced (thn (h pos pins s σ H _ I hq) fun us s1 ⟨xs,H1,I1,r,z,q⟩=>⟨by rw [← r.length]; exact z,?_⟩)
 have hf:H1 s1.heap.objs.size=none:=I1.hok.fresh (Nat.le_refl _)
 refine ⟨.ref s1.heap.objs.size,upd H1 s1.heap.objs.size (.lst xs),I1.laid (t':=s1.toks) (fun b u e=>Heap.get?_push_of_some _ e) (Nat.le_refl _) ?_,rfl,q _ hf⟩
 exact ⟨z,us,0,r,Heap.get?_push_size _ rfl⟩
end
abbrev Sp:=List V→Hp→VK→XK→Prop
abbrev CXT:=List Env→Hp→Shared→XK→Value→Shared→Prop
structure wE (P:Program) (w:World) (K:Frag) (mg:Str→Option Value) (base:Heap) (A:Around) (outer:List Env) (s:Shared) (H:Hp):Prop where
 frames:A.frames=some outer
 mod:Mod K mg base
 bs:∀ b o,base.get? b=some o→s.heap.get? b=some o∧H b=none
 bsz:base.objs.size≤s.heap.objs.size
 funs:s.heap.FunFrames base outer
 frf:∀ b∈frs outer,H b=none
 hok:HOk P w H s.heap
 bare:AllBare s.gens
def CE (outer:List Env) (P:Program) (w:World) (H:Hp) (s:Shared) (Q:VK) (u:Value) (s':Shared):Prop :=
 ∃ v H',s'.os=s.os∧AllBare s'.gens∧Un (frs outer) [] H H' s.heap s'.heap∧HOk P w H' s'.heap∧bq v u∧Q v H'
def CR (CX:CXT) (outer:List Env) (P:Program) (w:World) (H:Hp) (s:Shared) (Q:VK) (E:XK) (r:Result) (s':Shared):Prop :=
 match r with
 | .ok (.ret u)=>CE outer P w H s Q u s'
 | .ok _=>False
 | .error e=>CX outer H s E e s'
structure aU (P:Program) (w:World) (K:Frag) (mg:Str→Option Value) (base:Heap) (CX:CXT) (k:Nat) (f:Addr) (fd:FuncData) (ps:List Str) (sp:Sp):Prop where
 len:∀ vs H Q E,sp vs H Q E→vs.length=ps.length
 run:∀ (A:Around) (outer:List Env) (s:Shared) (H:Hp) (args:Args) (us:List Value) (vs:List V) (Q:VK) (E:XK),fP k A→wE P w K mg base A outer s H→BindsTo s fd args (ps.zip us)→aQ vs us→sp vs H Q E →
  codeAny (model P w) A (.call (.ref f) args) (CR CX outer P w H s Q E) s
theorem aU.mono {P:Program} {w:World} {K:Frag} {mg:Str→Option Value} {base:Heap} {CX:CXT} {j k:Nat} {f:Addr} {fd:FuncData} {ps:List Str} {sp:Sp} (F:aU P w K mg base CX j f fd ps sp) (h:j≤k) :
  aU P w K mg base CX k f fd ps sp:=⟨F.len,fun A outer s H args us vs Q E hr=>F.run A outer s H args us vs Q E (hr.mono h)⟩
section
variable {X:Cx} {pins:List (Addr×Obj)} {σ:St} {H:Hp} {s s':Shared}
theorem Inv.env0 (I:Inv X pins σ H s):wE X.prog X.w X.K X.mg X.base X.A X.stack s H :=
 ⟨I.ok.frames,I.ok.mod,I.bs,Nat.le_trans I.ok.bsz I.sz,I.stack,I.stkFree,I.hok,I.bare⟩
theorem Inv.after {Q:VK} {u:Value} (I:Inv X pins σ H s) (h:CE X.stack X.prog X.w H s Q u s'):EP X pins σ Q u s':=by
 obtain ⟨v,H',os,bare,un,hok,r,q⟩:=h
 obtain ⟨hh,g,d,t,os'⟩:=s'
 obtain rfl:os'=s.os:=os
 exact ⟨v,H',I.call (h':=hh) (g':=g) (d':=d) (t':=t) (ch:=[]) un hok bare (fun b z=>absurd z (by simp)),r,q⟩
end
def zE (sp:Sp) (dvs:List V) (E:XK) (t:TA):TE:=fun σ H Q=>t σ H fun vs H1=>sp (vs++dvs) H1 Q E
def dg (K:Frag) (fd:FuncData) (ps:List Str) (ds:List Value):Prop :=
 ∀ (s:Shared) (us:List Value),K.In s.heap→(us++ds).length=ps.length→BindsTo s fd ⟨us,[]⟩ (ps.zip (us++ds))
theorem dg.all {K:Frag} {fd:FuncData} {ps:List Str} (h:∀ us:List Value,us.length=ps.length→bindArgs fd ⟨us,[]⟩=pure (ps.zip us)):dg K fd ps []:=fun s us _ hl=>by
 rw [List.append_nil] at hl ⊢
 exact .of_eq (h us hl)
def qC (CX:CXT) (X:Cx) (E:XK):Prop:=∀ (pins:List (Addr×Obj)) (σ:St) (H:Hp) (s:Shared) (e:Value) (s':Shared),Inv X pins σ H s→CX X.stack H s E e s'→X.xe e s'
section
variable {X:Cx} {CX:CXT} {k:Nat} {f C:Addr} {fd:FuncData} {ps:List Str} {sp:Sp} {dvs:List V} {ds:List Value} {E:XK} {x m:Str} {p pos apos:Pos} {e o:Expr} {es:List Expr} {ta:TE} {t:TA}
theorem yo {pins:List (Addr×Obj)} {σ:St} {H:Hp} {s:Shared} {Q:VK} {us:List Value} {vs:List V} (F:aU X.prog X.w X.K X.mg X.base CX k f fd ps sp) (hr:fP k X.A) (hb:dg X.K fd ps ds) (hd:aQ dvs ds) (hx:qC CX X E)
  (I:Inv X pins σ H s) (r:aQ vs us) (h:sp (vs++dvs) H Q E):wpAny (model X.prog X.w) X.A (call (.ref f) us) (EP X pins σ Q) X.xe s:=by
 have r2:aQ (vs++dvs) (us++ds):=r.append hd
 have hl:(us++ds).length=ps.length:=by rw [← r2.length]; exact F.len _ _ _ _ h
 refine wpAny_call (codeAny_mono (F.run X.A X.stack s H ⟨us,[]⟩ (us++ds) (vs++dvs) Q E hr I.env0 (hb s us I.kIn hl) r2 h) fun r s' hq=>?_)
 cases r with
 | error e=>exact hx pins σ H s e s' I hq
 | ok fl =>
  cases fl with
  | ret u=>exact I.after hq
  | next=>exact False.elim hq
  | brk=>exact False.elim hq
  | cont=>exact False.elim hq
theorem ao (F:aU X.prog X.w X.K X.mg X.base CX k f fd ps sp) (hr:fP k X.A) (hg:Gl X x) (hm:X.mg x=some (.ref f)) (hk:keepIn X.K (.ref f)=true) (hb:dg X.K fd ps ds) (hd:aQ dvs ds) (hx:qC CX X E)
  (ha:PA X (e::es) t) (hdb:(x==("__debug__":Str))=false:=by decide) (he:starEach (e::es) X.env=(false,eval e X.env)::starEach es X.env:=by exact aa rfl) (hpl:(backTo pos (starEach es X.env)).any (·.1)=false:=by exact ah rfl) :
  PE X (.Call (.Name x p) (e::es) [] pos) (zE sp dvs E t):=by
 intro pins s σ H Q I h
 refine wpAny_Call_Name_kw (rR I hg hm ?_ hdb)
 refine PySem.W.callWith_K (h₀:=X.base) I.ok.mod.kin hk (thn (ha pos pins s σ H _ I h) fun us s1 ⟨vs,H1,I1,r,q⟩=>⟨I1.kIn,?_⟩) he hpl
 exact yo F hr hb hd hx I1 r q
structure Mk (K:Frag) (C f:Addr):Prop where
 makes:PySem.W.makesIn K C=true
 init:PySem.W.findIn K (.ref C) "__init__"=some (some (.ref f))
 fn:PySem.W.isFn K (.ref f)=true
 kp:keepIn K (.ref C)=true
end
section
variable {X:Cx} {CX:CXT} {k:Nat} {f C:Addr} {fd:FuncData} {ps ks:List Str} {sp:Sp} {E:XK} {x m:Str} {p pos apos kpos:Pos} {e o:Expr} {es:List Expr} {kws:List Keyword} {te ta:TE} {t tk:TA} {nm:Option Str}
structure Ax (K:Frag) (fd:FuncData) (ps ks:List Str) (g:List Value→List Value→List Value) (gV:List V→List V→List V):Prop where
 to:∀ (s:Shared) (us ws:List Value),K.In s.heap→(g us ws).length=ps.length→BindsTo s fd ⟨us,ks.zip ws⟩ (ps.zip (g us ws))
 rel:∀ {vs:List V} {us:List Value} {zs:List V} {ws:List Value},aQ vs us→aQ zs ws→aQ (gV vs zs) (g us ws)
variable {g:List Value→List Value→List Value} {gV:List V→List V→List V}
end
structure aK (N P:List Str) (sc:Scope):Prop where
 kind:sc.kind=.function
 co:sc.isCoroutine=false
 gen:sc.isGenerator=false
 nd:N.Nodup
 pre:N.take P.length=P
 par:∀ x∈P,sc.names.lookup x=some .local∨sc.names.lookup x=some .cell
 nofree:∀ y∈sc.names,y.2≠.free
theorem mD {kindOf:Str→Option NameKind} {x:Str}:∀ {binds:List (Str×Value)} {m:Str→Option Value},(∀ v,(x,v)∉binds)→bindL kindOf binds m x=m x
 | [],_,_=>rfl
 | (n,v)::r,m,h=>by
  unfold bindL
  rw [mD fun w hw=>h w (List.mem_cons_of_mem _ hw)]
  split
  ·have:x≠n:=by rintro rfl; exact h v List.mem_cons_self
   simp [this]
  ·rfl
theorem mt {kindOf:Str→Option NameKind} {x:Str}:∀ {binds:List (Str×Value)} {m:Str→Option Value},(∀ v,(x,v)∉binds)→bindC kindOf binds m x=m x
 | [],_,_=>rfl
 | (n,v)::r,m,h=>by
  unfold bindC
  rw [mt fun w hw=>h w (List.mem_cons_of_mem _ hw)]
  split
  ·rfl
  ·have:x≠n:=by rintro rfl; exact h v List.mem_cons_self
   simp [this]
theorem lM {kindOf:Str→Option NameKind} {x:Str} {v:Value}:∀ {P:List Str} {vs:List Value} {i:Nat} {m:Str→Option Value},P.Nodup→P[i]?=some x→vs[i]?=some v→kindOf x=some .local →
  bindL kindOf (P.zip vs) m x=some v
 | [],_,_,_,_,h,_,_=>by simp at h
 | _::_,[],_,_,_,_,h,_=>by simp at h
 | p::P,w::vs,0,m,nd,h1,h2,hk=>by
  simp at h1 h2; subst h1; subst h2
  show bindL kindOf ((p,w)::P.zip vs) m p=_
  unfold bindL
  rw [mD fun v hv=>(List.nodup_cons.mp nd).1 (List.of_mem_zip hv).1,if_pos hk]
  simp
 | p::P,w::vs,i+1,m,nd,h1,h2,hk=>by
  show bindL kindOf ((p,w)::P.zip vs) m x=_
  unfold bindL
  exact lM (i:=i) (List.nodup_cons.mp nd).2 (by simpa using h1) (by simpa using h2) hk
theorem lV {kindOf:Str→Option NameKind} {x:Str} {v:Value}:∀ {P:List Str} {vs:List Value} {i:Nat} {m:Str→Option Value},P.Nodup→P[i]?=some x→vs[i]?=some v→kindOf x≠some .local →
  bindC kindOf (P.zip vs) m x=some v
 | [],_,_,_,_,h,_,_=>by simp at h
 | _::_,[],_,_,_,_,h,_=>by simp at h
 | p::P,w::vs,0,m,nd,h1,h2,hk=>by
  simp at h1 h2; subst h1; subst h2
  show bindC kindOf ((p,w)::P.zip vs) m p=_
  unfold bindC
  rw [mt fun v hv=>(List.nodup_cons.mp nd).1 (List.of_mem_zip hv).1,if_neg hk]
  simp
 | p::P,w::vs,i+1,m,nd,h1,h2,hk=>by
  show bindC kindOf ((p,w)::P.zip vs) m x=_
  unfold bindC
  exact lV (i:=i) (List.nodup_cons.mp nd).2 (by simpa using h1) (by simpa using h2) hk
def jk (N:List Str) (vs:List V):St:=vs.map some++List.replicate (N.length - vs.length) none
def sE (CX:CXT) (P:Program) (w:World) (K:Frag) (mg:Str→Option Value) (base:Heap) (N:List Str) (qual:Str) (scope:Scope) (f:Addr) (cd:Value) (A:Around) (outer:List Env) (s:Shared) (H:Hp) (E:XK):Cx where
 prog:=P
 w:=w
 K:=K
 mg:=mg
 base:=base
 A:=A.deeper (envOfC qual scope s.heap.objs.size f cd)
 N:=N
 s₀:=s
 H₀:=H
 env:=envOfC qual scope s.heap.objs.size f cd
 outer:=outer
 stack:=envOfC qual scope s.heap.objs.size f cd::outer
 ex:=[]
 calm:=true
 fn:=fun _=>true
 pn:=[]
 xe:=fun e s'=>wpAny (model P w) (A.deeper (envOfC qual scope s.heap.objs.size f cd)) (leaving (envOfC qual scope s.heap.objs.size f cd) e) (fun _ s''=>CX outer H s E e s'') (fun e' s''=>CX outer H s E e' s'') s'
theorem nR {sc:Scope} {n:Nat} {x:Str} (h:sc.names.lookup x=some .cell):∃ c,(cellsFrom n sc.names []).lookup x=some c:=by
 have q:=PySem.W.cellsFrom_some sc.names n [] (.inl h)
 exact Option.isSome_iff_exists.mp q
theorem sC {CX:CXT} {P:Program} {w:World} {K:Frag} {mg:Str→Option Value} {base:Heap} {N ps:List Str} {qual:Str} {scope:Scope} {f:Addr} {cd:Value} {A:Around} {outer:List Env} {s s1:Shared} {H:Hp} {E:XK} {us:List Value} {vs:List V}
  (S:aK N ps scope) (hd:A.handled=none) (e0:wE P w K mg base A outer s H) (hl:vs.length=ps.length) (r:aQ vs us)
  (x:InCallC s s.heap.objs.size (bindL (envOfC qual scope s.heap.objs.size f cd).kindOf (ps.zip us) fun _=>none) (cellsFrom (s.heap.objs.size+1) scope.names []) (bindC (envOfC qual scope s.heap.objs.size f cd).kindOf (ps.zip us) fun _=>none) s1) :
  Inv (sE CX P w K mg base N qual scope f cd A outer s H E) [] (jk N vs) H s1:=by
 have hpl:ps.length≤N.length:=by have:=congrArg List.length S.pre; rw [List.length_take] at this; omega
 obtain ⟨h1,tk,rfl,hk⟩:=x.done
 have noA:∀ b:Addr,b∉(sE CX P w K mg base N qual scope f cd A outer s H E).ex:=fun b z=>absurd (show b∈([]:List Addr) from z) (by simp)
 refine ⟨⟨e0.mod,S.kind,rfl,rfl,Nat.le_refl _,fun y z c h1 h2=>?_,fun y hy=>?_,fun y c _ h=>?_,fun _=>hd,Around.frames_deeper e0.frames,.inr ⟨rfl,rfl⟩,fun b z=>absurd z (noA b),e0.bs,e0.bsz,fun b _ _=>noA b,fun b z=>absurd z (noA b),e0.funs,e0.frf⟩,
  rfl,e0.bare,Un.kept hk,⟨_,x.toInCall.ns,fun i y v h1 h2 h3=>?_⟩,fun y c h=>⟨_,x.cell y c h⟩,e0.hok.fresh (Nat.le_refl _),fun y c h=>?_,fun p hp=>absurd (show p∈([]:List (Addr×Obj)) from hp) (by simp),e0.hok.kept hk,?_⟩
 ·exact name_of_addr x.apart (PySem.mem_of_lookup h1) (PySem.mem_of_lookup h2)
 ·have hy:scope.names.lookup y=some .cell∨scope.names.lookup y=some .free:=hy
  rcases hy with hy | hy
  ·exact nR hy
  ·exact absurd rfl (S.nofree _ (PySem.mem_of_lookup hy))
 ·exact Nat.le_of_lt (x.above y c (PySem.mem_of_lookup h))
 ·have hi:i<vs.length:=by
   unfold jk at h2
   by_cases hi:i<vs.length
   ·exact hi
   ·rw [List.getElem?_append_right (by simpa using hi)] at h2
    rw [List.getElem?_replicate] at h2
    split at h2<;>cases h2
  have ha:vs[i]?=some v:=by
   unfold jk at h2
   rw [List.getElem?_append_left (by simpa using hi),List.getElem?_map] at h2
   cases e:vs[i]? with
   | none=>rw [e] at h2; cases h2
   | some a=>rw [e] at h2; cases h2; rfl
  obtain ⟨u,hu,rv⟩:=r.get ha
  have hp:ps[i]?=some y:=by
   rw [← S.pre,List.getElem?_take_of_lt (by omega)]; exact h1
  have ndP:ps.Nodup:=by rw [← S.pre]; exact S.nd.sublist (List.take_sublist _ _)
  refine ⟨u,rv,?_⟩
  rcases S.par y (List.mem_of_getElem? hp) with k | k
  ·exact .inl ⟨k,lM ndP hp hu k⟩
  ·obtain ⟨c,e⟩:=nR (n:=s.heap.objs.size+1) k
   refine .inr ⟨.inl k,c,e,?_⟩
   have q:=x.cell y c e
   rw [lV ndP hp hu (by show scope.names.lookup y≠_; rw [k]; decide)] at q
   exact q
 ·exact e0.hok.fresh (Nat.le_of_lt (x.above y c (PySem.mem_of_lookup h)))
 ·unfold jk
  show _=N.length
  rw [List.length_append,List.length_map,List.length_replicate]
  omega
theorem zo {CX:CXT} {P:Program} {w:World} {K:Frag} {mg:Str→Option Value} {base:Heap} {k:Nat} {f:Addr} {name qual:Str} {params:Arguments} {body:List Stmt} {scope:Scope} {dV kV doc pm cdv ct oc:Value} {an od:Option Addr}
  {osl:Array (Option Value)} {N ps:List Str} {sp:Sp} (lk:K.lookup f=some ⟨oc,od,.func (PySem.W.fnOf name qual params body scope dV kV doc pm an cdv ct),osl⟩) (hcd:PySem.W.codeIn K cdv qual=true) (S:aK N ps scope)
  (len:∀ vs H Q E,sp vs H Q E→vs.length=ps.length)
  (hbody:∀ (A:Around) (outer:List Env) (s:Shared) (H:Hp) (vs:List V) (Q:VK) (E:XK),fP k (A.deeper (envOfC qual scope s.heap.objs.size f cdv))→sp vs H Q E →
   ∃ t,PSs (sE CX P w K mg base N qual scope f cdv A outer s H E) body t∧t { nx:=fun _ H'=>Q .non H',rt:=Q } (jk N vs) H) :
  aU P w K mg base CX (k+1) f (PySem.W.fnOf name qual params body scope dV kV doc pm an cdv ct) ps sp:=by
 refine ⟨len,fun A outer s H args us vs Q E hr e0 hb r hsp=>?_⟩
 have hl:=len _ _ _ _ hsp
 have KX:K.In s.heap:=e0.mod.kin.keeps fun b o e=>(e0.bs b o e).1
 have lim:s.heap.NoLimit:=e0.mod.nolimit.keeps fun b o e=>(e0.bs b o e).1
 have hkind:∀ y∈ps.zip us,scope.names.lookup y.1=some .local∨(scope.names.lookup y.1=some .cell∧((cellsFrom (s.heap.objs.size+1) scope.names []).lookup y.1).isSome=true):=fun ⟨n,v⟩ hy=>by
  rcases S.par n (List.of_mem_zip hy).1 with q | q
  ·exact .inl q
  ·exact .inr ⟨q,PySem.W.cellsFrom_some _ _ _ (.inl q)⟩
 refine codeAny_call_function hr.depth (KX _ _ lk) rfl S.co S.gen rfl (PySem.W.codeRec_of KX hcd) (hb _ _ _ _ ?_)
 refine wpAny_newFunctionEnv_cells S.kind hkind fun env he s1 x=>?_
 subst he
 refine ⟨lim.keeps x.toInCall.keep,codeAny_func ?_⟩
 obtain ⟨t,ht,hq⟩:=hbody A outer s H vs Q E (hr.deeper _) hsp
 have I:Inv (sE CX P w K mg base N qual scope f cdv A outer s H E) [] (jk N vs) H s1:=sC S hr.hd e0 hl r x
 refine wpAny_mono (ht [] s1 (jk N vs) H _ I hq) (fun fl s' hs=>?_) fun e s' hs=>hs
 have fin:∀ {σ':St} {H':Hp} {v:V} {u:Value},Inv (sE CX P w K mg base N qual scope f cdv A outer s H E) [] σ' H' s'→bq v u→Q v H'→CE outer P w H s Q u s' :=
  fun {σ' H' v u} J rv q=>⟨v,H',J.os,J.bare,J.base,J.hok,rv,q⟩
 cases fl with
 | ret u =>
  obtain ⟨v,σ',H',J,rv,q⟩:=hs
  exact fin J rv q
 | next =>
  obtain ⟨σ',H',J,q⟩:=hs
  exact fin (v:=V.non) (u:=Value.none) J rfl q
 | brk =>
  obtain ⟨_,_,_,q⟩:=hs
  exact False.elim q
 | cont =>
  obtain ⟨_,_,_,q⟩:=hs
  exact False.elim q
open PySem PySem.Spec PyProof.Rows
section
variable {X:Cx} {x:Str} {p pos:Pos} {e:Expr} {es:List Expr} {t:TA} {id T:String} {r:List V→Hp→VK→Prop}
def tCB (r:List V→Hp→VK→Prop) (t:TA):TE:=fun σ H Q=>t σ H fun vs H1=>r vs H1 Q
theorem ap (hc:bE X (.builtin id) r) (hg:Gl X x) (hm:X.mg x=none) (hv:bootBuiltins x=some (.builtin id)) (ha:PA X (e::es) t) (hn:x ≠ "__name__":=by decide) (hdb:(x==("__debug__":Str))=false:=by decide)
  (he:starEach (e::es) X.env=(false,eval e X.env)::starEach es X.env:=by exact aa rfl) (hpl:(backTo pos (starEach es X.env)).any (·.1)=false:=by exact ah rfl):PE X (.Call (.Name x p) (e::es) [] pos) (tCB r t):=by
 intro pins s σ H Q I h
 refine wpAny_Call_Name_kw (iP I hg hm hv ?_ hn hdb)
 exact PyProof.Rows.callWith_builtin1 (thn (ha pos pins s σ H _ I h) fun us s1 ⟨vs,H1,I1,r1,q1⟩=>hc pins s1 σ H1 vs us Q I1 r1 q1) he hpl
theorem aZ (hc:bE X (.type T) r) (hg:Gl X x) (hm:X.mg x=none) (hv:bootBuiltins x=some (.type T)) (ha:PA X (e::es) t) (hn:x ≠ "__name__":=by decide) (hdb:(x==("__debug__":Str))=false:=by decide)
  (he:starEach (e::es) X.env=(false,eval e X.env)::starEach es X.env:=by exact aa rfl) (hpl:(backTo pos (starEach es X.env)).any (·.1)=false:=by exact ah rfl):PE X (.Call (.Name x p) (e::es) [] pos) (tCB r t):=by
 intro pins s σ H Q I h
 refine wpAny_Call_Name_kw (iP I hg hm hv ?_ hn hdb)
 exact PyProof.Rows.callWith_type1 (thn (ha pos pins s σ H _ I h) fun us s1 ⟨vs,H1,I1,r1,q1⟩=>hc pins s1 σ H1 vs us Q I1 r1 q1) he hpl
end
end L2
namespace HT
open PySem PyProof.Rows
section
open PySem.SeqAt
open PySem.AutoSeq1 (wpAny_loadPart')
open PySem.MeetsSeq PySem.MeetsSeq2 PySem.MeetsSeq3
end
section
variable {prog:Program} {w:World} {A:Around} {E:Value→Shared→Prop} {s:Shared}
theorem cat_tup {t b:Addr} {vs ws:List Value} {Q:Value→Shared→Prop} (ht:IsTup s.heap t vs.toArray) (hb:IsTup s.heap b ws.toArray) (hv:vs≠[])
  (h1:ws=[]→Q (.ref t) s) (h2:ws≠[]→Q (.ref s.heap.objs.size) { s with heap:=s.heap.push { cls:=.type "tuple",data:=.seq (vs++ws).toArray } })
  (hsz:vs.length+ws.length≤sizeLine):wpAny (model prog w) A (binaryOp .Add (.ref t) (.ref b)) Q E s:=by
 obtain ⟨⟨cls,dd,data,sl⟩,ho,hc,n,hd⟩:=id ht
 obtain ⟨⟨cls2,dd2,data2,sl2⟩,ho2,hc2,n2,hd2⟩:=id hb
 simp only at hc hd hc2 hd2
 subst hc hd hc2 hd2
 have e:vs.toArray++ws.toArray=(vs++ws).toArray:=by simp
 by_cases hw:ws=[]
 ·exact concat_meets ⟨_,ho,rfl⟩ ⟨_,ho2,rfl⟩ noFill_tuple_add seq_tuple_add PySem.F.slot_tuple_add PySem.F.entry_tuple_add (PySem.F.args_tuple_add_2 _ _)
   (tuple_addW1 t b vs.toArray ws.toArray n n2 dd dd2 sl sl2 (by simpa using hv) (by simp [hw])) ⟨ho,ho2,h1 hw⟩
 ·refine concat_meets ⟨_,ho,rfl⟩ ⟨_,ho2,rfl⟩ noFill_tuple_add seq_tuple_add PySem.F.slot_tuple_add PySem.F.entry_tuple_add (PySem.F.args_tuple_add_2 _ _)
   (tuple_addW2 t b vs.toArray ws.toArray n n2 dd dd2 sl sl2 (by simpa using hv) (by simpa using hw) (by rw [List.size_toArray,List.size_toArray]; exact hsz)) ⟨ho,ho2,?_⟩
  rw [e]
  exact h2 hw
def sIx (n d:Nat):Option Int→Nat
 | none=>d
 | some v=>if v<0 then (v+(n:Int)).toNat else min v.toNat n
theorem sIx_none (n d:Nat):sIx n d none=d:=rfl
theorem sIx_nat (n d k:Nat):sIx n d (some (k:Int))=min k n:=by
 show (if (k:Int)<0 then ((k:Int)+(n:Int)).toNat else min (k:Int).toNat n)=min k n
 rw [if_neg (by omega),Int.toNat_natCast]
end
end HT
namespace L2
open PySem PySem.Spec PyProof.Rows
abbrev TO:=St→Hp→(Option Int→Hp→Prop)→Prop
def PO (X:Cx) (e:Option Expr) (t:TO):Prop :=
 ∀ (pins:List (Addr×Obj)) (s:Shared) (σ:St) (H:Hp) (Q:Option Int→Hp→Prop),Inv X pins σ H s→t σ H Q →
  wpAny (model X.prog X.w) X.A (evalPart e X.env) (fun u s'=>∃ o H',Inv X pins σ H' s'∧IsPart u o∧Q o H') X.xe s
def wH:TO:=fun _ H Q=>Q none H
def zI (t:TE):TO:=fun σ H Q=>t σ H fun x H1=>∃ i,x=.int i∧Q (some i) H1
section
variable {X:Cx} {e:Expr} {te:TE} {lo hi:Option Expr} {tl th:TO} {pos p2:Pos}
theorem jM:PO X none wH:=by
 intro pins s σ H Q I h
 rw [evalPart_none]
 exact wpAny_pure ⟨none,H,I,.none,h⟩
theorem jI (h:PE X e te):PO X (some e) (zI te):=by
 intro pins s σ H Q I hw
 rw [evalPart_some]
 refine thn (h pins s σ H _ I hw) fun u s1 ⟨x,H1,I1,r1,q1⟩=>?_
 obtain ⟨i,rfl,q⟩:=q1
 obtain ⟨t,rfl⟩:=r1
 exact ⟨some i,H1,I1,.int i t,q⟩
def SlR (X:Cx) (r:V→Option Int→Option Int→Hp→VK→Prop):Prop :=
 ∀ (pins:List (Addr×Obj)) (s:Shared) (σ:St) (H:Hp) (x:V) (v vl vu:Value) (lo hi:Option Int) (sl:Addr) (Q:VK),Inv X pins σ H s→bq x v→s.heap.IsSliceOf sl vl vu .none→IsPart vl lo→IsPart vu hi→r x lo hi H Q →
  ∃ T id,typeLookup (.type T) "__getitem__"=pure (some (.builtin id))∧s.TypeIs v T∧wpAny (model X.prog X.w) X.A (getItem v (.ref sl)) (EP X pins σ Q) X.xe s
def tSl (r:V→Option Int→Option Int→Hp→VK→Prop) (te:TE) (tl th:TO):TE:=fun σ H Q=>te σ H fun x H1=>tl σ H1 fun l H2=>th σ H2 fun u H3=>r x l u H3 Q
theorem iA {r:V→Option Int→Option Int→Hp→VK→Prop} (hr:SlR X r) (he:PE X e te) (hl:PO X lo tl) (hu:PO X hi th):PE X (.Subscript e (.Slice lo hi none p2) pos) (tSl r te tl th):=by
 intro pins s σ H Q I h
 refine Subscript_ (thn (he pins s σ H _ I h) fun v s1 ⟨x,H1,I1,r1,q1⟩=>?_)
 refine wpAny_Slice (thn (hl pins s1 σ H1 _ I1 q1) fun vl s2 ⟨l,H2,I2,pl,q2⟩=>thn (hu pins s2 σ H2 _ I2 q2) fun vu s3 ⟨u,H3,I3,pu,q3⟩=>?_)
 rw [evalPart_none]
 refine wpAny_pure ?_
 have I4:Inv X pins σ H3 { s3 with heap:=s3.heap.push { cls:=.type "slice",data:=.fields #[vl,vu,.none] } }:=I3.kept (t':=s3.toks) fun b ob q=>Heap.get?_push_of_some _ q
 obtain ⟨T,id,hT,ht,hg⟩:=hr pins { s3 with heap:=s3.heap.push { cls:=.type "slice",data:=.fields #[vl,vu,.none] } } σ H3 x v vl vu l u s3.heap.objs.size Q I4 r1 (Heap.IsSliceOf.new ..) pl pu q3
 show wpAny (model X.prog X.w) X.A (subscriptTail e (.Slice lo hi none p2) v (.ref s3.heap.objs.size)) (EP X pins σ Q) X.xe { s3 with heap:=s3.heap.push { cls:=.type "slice",data:=.fields #[vl,vu,.none] } }
 exact tail_any (ops:=[.ref s3.heap.objs.size,v]) ht hT hg (by with_unfolding_all rfl)
def dP (xs:List V) (lo hi:Option Int):List V:=(xs.drop (HT.sIx xs.length 0 lo)).take (HT.sIx xs.length xs.length hi - HT.sIx xs.length 0 lo)
theorem oA (xs:List V) (lo hi:Option Int):(dP xs lo hi).length≤xs.length:=by
 unfold dP
 rw [List.length_take,List.length_drop]
 omega
def xQ (K:Frag):R2:=fun x y H Q=>∃ a b xs ys,x=.ref a∧y=.ref b∧SqT K H a xs∧SqT K H b ys∧xs≠[]∧xs.length+ys.length≤sizeLine ∧
 (ys=[]→Q (.ref a) H)∧(ys≠[]→∀ p,H p=none→Q (.ref p) (upd H p (.tup (xs++ys))))
theorem aQ.nil_iff {xs:List V} {us:List Value} (r:aQ xs us):us=[]↔xs=[]:=by
 cases r with
 | nil=>simp
 | cons _ _=>simp
theorem nk:OpR X (binaryOp .Add) (xQ X.K):=by
 intro pins s σ H x y v u Q I rx ry h
 obtain ⟨a,b,xs,ys,rfl,rfl,ha,hb,hx,hz,q1,q2⟩:=h
 cases rx
 cases ry
 obtain ⟨its,r1,p1,_⟩:=I.tuple ha
 obtain ⟨its2,r2,p2,_⟩:=I.tuple hb
 refine HT.cat_tup p1 p2 (fun z=>hx (r1.nil_iff.mp z)) (fun z=>⟨.ref a,H,I,rfl,q1 (r2.nil_iff.mp z)⟩) (fun z=>?_) (by rw [← r1.length,← r2.length]; exact hz)
 refine ⟨.ref s.heap.objs.size,_,I.laid (t':=s.toks) (o:=.tup (xs++ys)) (fun b ob q=>Heap.get?_push_of_some _ q) (Nat.le_refl _) ?_,rfl,q2 (fun w=>z (r2.nil_iff.mpr w)) _ (I.hok.fresh (Nat.le_refl _))⟩
 exact ⟨by rw [List.length_append]; exact hz,_,r1.append r2,IsTup.new _ _,_,Heap.get?_push_size _ rfl,rfl⟩
end
open PySem PySem.Spec PyProof.Rows
def ixN (n:Nat) (i:Int):Option Nat:=if 0≤i then (if i<n then some i.toNat else none) else if -(n:Int)≤i then some (i+n).toNat else none
def atI {α:Type} (xs:List α) (i:Int):Option α:=(ixN xs.length i).bind fun j=>xs[j]?
theorem qZ {n:Nat} {i:Int} {j:Nat} (h:ixN n i=some j):seqIndex? i n=some j∧j<n∧-(n:Int)≤i∧i<n:=by
 unfold ixN at h
 by_cases h0:0≤i
 ·rw [if_pos h0] at h
  by_cases h1:i<n
  ·rw [if_pos h1] at h
   have e:i.toNat=j:=Option.some.inj h
   exact ⟨by rw [seqIndex_of h0 h1,e],by omega,by omega,h1⟩
  ·rw [if_neg h1] at h; cases h
 ·rw [if_neg h0] at h
  by_cases h1:-(n:Int)≤i
  ·rw [if_pos h1] at h
   have e:(i+n).toNat=j:=Option.some.inj h
   exact ⟨by rw [seqIndex_neg (by omega) h1,e],by omega,h1,by omega⟩
  ·rw [if_neg h1] at h; cases h
theorem rm {α:Type} {xs:List α} {i:Int} {v:α} (h:atI xs i=some v):∃ j,seqIndex? i xs.length=some j∧xs[j]?=some v∧j<xs.length∧-(xs.length:Int)≤i∧i<xs.length:=by
 unfold atI at h
 cases e:ixN xs.length i with
 | none=>rw [e] at h; cases h
 | some j =>
  rw [e] at h
  obtain ⟨h1,h2,h3,h4⟩:=qZ e
  exact ⟨j,h1,h,h2,h3,h4⟩
theorem rD {α:Type} {xs:List α} {j:Nat} {v:α} (h:xs[j]?=some v):atI xs (j:Int)=some v:=by
 have hj:j<xs.length:=(List.getElem?_eq_some_iff.mp h).1
 have e:ixN xs.length (j:Int)=some j:=by
  unfold ixN
  rw [if_pos (by omega),if_pos (by omega)]; simp
 unfold atI; rw [e]; exact h
def wu (b:Expr):Prop:=∀ o i,subscripted b false o i=operate [o,i] (getItem o i)
def IxR (X:Cx) (r:R2):Prop :=
 ∀ (value slice:Expr) (pins:List (Addr×Obj)) (s:Shared) (σ:St) (H:Hp) (x y:V) (v u:Value) (Q:VK),Inv X pins σ H s→bq x v→bq y u→r x y H Q →
  subscripted slice false v u=operate [v,u] (getItem v u)→wpAny (model X.prog X.w) X.A (subscriptTail value slice v u) (EP X pins σ Q) X.xe s
def MtR (X:Cx) (id:String) (r:V→List V→Hp→VK→Prop):Prop :=
 ∀ (pins:List (Addr×Obj)) (s:Shared) (σ:St) (H:Hp) (x:V) (xs:List V) (v:Value) (us:List Value) (Q:VK),Inv X pins σ H s→bq x v→aQ xs us→r x xs H Q →
  wpAny (model X.prog X.w) X.A (call (.builtin id) (v::us)) (EP X pins σ Q) X.xe s
section
variable {X:Cx} {a b:Expr} {ta tb:TE} {pos:Pos}
theorem av {r:R2} (hr:IxR X r) (ha:PE X a ta) (hb:PE X b tb) (hs:wu b):PE X (.Subscript a b pos) (tOp r ta tb):=by
 intro pins s σ H Q I h
 exact Subscript_ (yA ha hb I h fun v u s2 x y H2 I2 rx ry q=>hr a b pins s2 σ H2 x y v u Q I2 rx ry q (hs _ _))
def zu (K:Frag):R2:=fun x y H Q=>∃ p xs i v,x=.ref p∧y=.int i∧SqL K H p xs∧atI xs i=some v∧Q v H
def zm (K:Frag):R2:=fun x y H Q=>∃ p xs i v,x=.ref p∧y=.int i∧SqT K H p xs∧atI xs i=some v∧Q v H
theorem aF:IxR X (zu X.K):=by
 intro value slice pins s σ H x y v u Q I rx ry h hs
 obtain ⟨p,xs,i,z,rfl,rfl,hq,he,q⟩:=h
 cases rx
 obtain ⟨t,rfl⟩:=ry
 obtain ⟨its,r,pl,hz⟩:=I.list hq
 obtain ⟨j,h1,h2,h3,h4,h5⟩:=rm he
 obtain ⟨w,ew,rw'⟩:=r.get h2
 have hl:=r.length
 have hn:=lg
 have fin:EP X pins σ Q w s:=⟨z,H,I,rw',q⟩
 by_cases h0:0≤i
 ·have hj:i.toNat=j:=by
   rw [seqIndex_of h0 h5] at h1
   exact Option.some.inj h1
  exact item_listR pl.isList h0 (by omega) (by rw [hj]; simpa using ew) fin hs
 ·have hj:(i+(its.toArray.size:Int)).toNat=j:=by
   rw [seqIndex_neg (by omega) h4] at h1
   rw [List.size_toArray,← hl]
   exact Option.some.inj h1
  exact subscriptTail_builtinR (x:=w) pl.isList.typeIs slot_list_getitem.lookup
   (wpAny_getItem_list_neg (Q:=fun r s'=>r=w∧EP X pins σ Q r s') pl.isList (by omega) (by rw [List.size_toArray]<;>omega) (by omega) (by rw [hj]; simpa using ew) ⟨rfl,fin⟩) hs
theorem aH:IxR X (zm X.K):=by
 intro value slice pins s σ H x y v u Q I rx ry h hs
 obtain ⟨p,xs,i,z,rfl,rfl,hq,he,q⟩:=h
 cases rx
 obtain ⟨t,rfl⟩:=ry
 obtain ⟨its,r,pl,hz⟩:=I.tuple hq
 obtain ⟨j,h1,h2,h3,h4,h5⟩:=rm he
 obtain ⟨w,ew,rw'⟩:=r.get h2
 have hl:=r.length
 have hn:=lg
 have fin:EP X pins σ Q w s:=⟨z,H,I,rw',q⟩
 exact subscriptTail_builtinR (x:=w) pl.typeIs slot_tuple_getitem.lookup
  (getItem_tuple (j:=j) (Q:=fun r s'=>r=w∧EP X pins σ Q r s') pl (by omega) (by omega) (by rw [List.size_toArray,← hl]; exact h1) (by simpa using ew) ⟨rfl,fin⟩) hs
theorem qO (its:List Value) (n j:Nat) (u:Value):Obj.mapSeq (·.setIfInBounds j u) { cls:=.type "list",data:=.seq its.toArray n }={ cls:=.type "list",data:=.seq (its.set j u).toArray n }:=by
 simp [Obj.mapSeq]
theorem Inv.lst {pins:List (Addr×Obj)} {σ:St} {H:Hp} {s:Shared} {p:Addr} {xs:List V} (I:Inv X pins σ H s) (h:H p=some (.lst xs)) :
  ∃ (its:List Value) (n:Nat),aQ xs its∧s.heap.get? p=some { cls:=.type "list",data:=.seq its.toArray n }∧xs.length≤sizeLine:=by
 obtain ⟨z,its,n,r,e⟩:=I.hok p _ h
 exact ⟨its,n,r,e,z⟩
theorem Inv.lstUpd {pins:List (Addr×Obj)} {σ:St} {H:Hp} {s:Shared} {p:Addr} {xs ys:List V} {its its':List Value} {n n':Nat} {f:Obj→Obj} (I:Inv X pins σ H s) (h:H p=some (.lst xs))
  (ho:s.heap.get? p=some { cls:=.type "list",data:=.seq its.toArray n }) (hf:f { cls:=.type "list",data:=.seq its.toArray n }={ cls:=.type "list",data:=.seq its'.toArray n' }) (r:aQ ys its') (hz:ys.length≤sizeLine) (t:Nat) :
  Inv X pins σ (upd H p (.lst ys)) { s with heap:=s.heap.update p f,toks:=t }:=by
 have e:(s.heap.update p f).get? p=some { cls:=.type "list",data:=.seq its'.toArray n' }:=by
  rw [Heap.get?_update_self f ho (by rw [hf]<;>rfl),hf]
 refine I.write (x:=p) (e:=p) (by rw [h]; trivial) (.inl rfl) (fun b u hb q=>(Heap.get?_update_other _ _ (Ne.symm hb)).trans q) ⟨_,e⟩ ?_
 exact ⟨hz,its',n',r,e⟩
def Ac:V→V→V→Hp→(Hp→Prop)→Prop:=fun o i v H Q=>∃ p xs k j,o=.ref p∧i=.int k∧H p=some (.lst xs)∧ixN xs.length k=some j∧Q (upd H p (.lst (xs.set j v)))
theorem cv:zn X Ac:=by
 intro pins s σ H o i v ov iv u Q I ro ri rv h
 obtain ⟨p,xs,k,j,rfl,rfl,hp,hj,q⟩:=h
 cases ro
 obtain ⟨t,rfl⟩:=ri
 obtain ⟨its,n,r,ho,hz⟩:=I.lst hp
 obtain ⟨h1,h2,h3,h4⟩:=qZ hj
 have hl:=r.length
 have hn:=lg
 have I':Inv X pins σ (upd H p (.lst (xs.set j v))) { s with heap:=s.heap.update p (Obj.mapSeq (·.setIfInBounds j u)) } :=
  I.lstUpd hp ho (qO its n j u) (r.set rv j) (by rw [List.length_set]; exact hz) s.toks
 by_cases h0:0≤k
 ·have hk:k.toNat=j:=by
   rw [seqIndex_of h0 h4] at h1
   exact Option.some.inj h1
  exact PySem.W.ki_setAt ho h0 (by omega) (by rw [List.size_toArray,← hl]; exact h4) (by rw [hk]; exact ⟨_,I',q⟩)
 ·have hk:(k+(its.toArray.size:Int)).toNat=j:=by
   rw [seqIndex_neg (by omega) h3] at h1
   rw [List.size_toArray,← hl]
   exact Option.some.inj h1
  exact PySem.W.ki_setBack ho (by omega) (by rw [List.size_toArray,← hl]; exact h3) (by omega) (by rw [hk]; exact ⟨_,I',q⟩)
theorem nu (lo hi:Option Int) (n:Nat):(sliceBounds lo hi none n).1=((HT.sIx n 0 lo:Nat):Int)∧(sliceBounds lo hi none n).2.1=((HT.sIx n n hi:Nat):Int)∧(sliceBounds lo hi none n).2.2=1:=by
 refine ⟨?_,?_,rfl⟩
 ·cases lo with
  | none=>simp [sliceBounds,HT.sIx]
  | some i =>
   simp only [sliceBounds,HT.sIx,Option.getD_none,show (1:Int) > 0 by decide,if_true]
   by_cases h:i<0
   ·simp only [h,if_true]<;>omega
   ·simp only [h,if_false]<;>omega
 ·cases hi with
  | none=>simp [sliceBounds,HT.sIx]
  | some i =>
   simp only [sliceBounds,HT.sIx,Option.getD_none,show (1:Int) > 0 by decide,if_true]
   by_cases h:i<0
   ·simp only [h,if_true]<;>omega
   ·simp only [h,if_false]<;>omega
theorem lw (its:List Value) (lo hi:Option Int):slicePick its.toArray lo hi none=((its.drop (HT.sIx its.length 0 lo)).take (HT.sIx its.length its.length hi - HT.sIx its.length 0 lo)).toArray:=by
 obtain ⟨h1,h2,h3⟩:=nu lo hi its.toArray.size
 unfold slicePick
 rw [h1,h2,h3]
 simp only [sliceRange_one,pick_run,List.size_toArray]<;>rfl
def Aq (K:Frag):V→Option Int→Option Int→Hp→VK→Prop:=fun x lo hi H Q=>∃ a xs,x=.ref a∧SqL K H a xs∧∀ p,H p=none→Q (.ref p) (upd H p (.lst (dP xs lo hi)))
theorem jJ:SlR X (Aq X.K):=by
 intro pins s σ H x v vl vu lo hi sl Q I rx hs pl pu h
 obtain ⟨a,xs,rfl,hx,q⟩:=h
 cases rx
 obtain ⟨its,r,ht,hz⟩:=I.list hx
 have hlen:=r.length
 refine ⟨"list",_,slot_list_getitem.lookup,ht.isList.typeIs,?_⟩
 refine wpAny_getItem_list_slice ht.isList hs pl pu .none (by simp) ?_ (by rw [List.size_toArray]<;>omega)
 rw [lw,← hlen]
 refine ⟨.ref s.heap.objs.size,_,I.laid (t':=s.toks) (o:=.lst (dP xs lo hi)) (fun b ob q=>Heap.get?_push_of_some _ q) (Nat.le_refl _) ?_,rfl,q _ (I.hok.fresh (Nat.le_refl _))⟩
 exact ⟨Nat.le_trans (oA xs lo hi) hz,_,0,(r.drop (HT.sIx xs.length 0 lo)).take (HT.sIx xs.length xs.length hi - HT.sIx xs.length 0 lo),Heap.get?_push_size _ rfl⟩
def gO:V→Bool
 | .non=>true
 | .bl _=>true
 | .int _=>true
 | .str _=>true
 | _=>false
def eqV:V→V→Bool
 | .non,.non=>true
 | .bl a,.bl b=>a==b
 | .bl a,.int b=>(if a then 1 else 0)==b
 | .int a,.bl b=>a==(if b then 1 else 0)
 | .int a,.int b=>a==b
 | .str a,.str b=>a==b
 | _,_=>false
theorem xZ {A:Around} {s:Shared} {y x:V} {u v:Value} (ry:bq y u) (rx:bq x v) (fy:gO y=true) (fx:gO x=true):SeqAt.EqAt A s u v (eqV y x):=by
 cases y with
 | non =>
  cases ry
  cases x with
  | non=>cases rx; exact SeqAt.EqAt.same _
  | bl b=>cases rx; exact SeqAt.EqAt.none_bool b
  | int b=>obtain ⟨t,rfl⟩:=rx; exact SeqAt.EqAt.none_int b t
  | str b=>obtain ⟨t,rfl⟩:=rx; exact SeqAt.EqAt.none_str b t
  | _=>exact absurd (show false=true from fx) Bool.false_ne_true
 | bl a =>
  cases ry
  cases x with
  | non=>cases rx; exact SeqAt.EqAt.bool_none a
  | bl b=>cases rx; exact SeqAt.EqAt.bool_bool a b
  | int b=>obtain ⟨t,rfl⟩:=rx; exact SeqAt.EqAt.bool_int a b t
  | str b=>obtain ⟨t,rfl⟩:=rx; exact SeqAt.EqAt.bool_str a b t
  | _=>exact absurd (show false=true from fx) Bool.false_ne_true
 | int a =>
  obtain ⟨t',rfl⟩:=ry
  cases x with
  | non=>cases rx; exact SeqAt.EqAt.int_none a t'
  | bl b=>cases rx; exact SeqAt.EqAt.int_bool a t' b
  | int b=>obtain ⟨t,rfl⟩:=rx; exact SeqAt.EqAt.int_int a t' b t
  | str b=>obtain ⟨t,rfl⟩:=rx; exact SeqAt.EqAt.int_str a t' b t
  | _=>exact absurd (show false=true from fx) Bool.false_ne_true
 | str a =>
  obtain ⟨t',rfl⟩:=ry
  cases x with
  | non=>cases rx; exact SeqAt.EqAt.str_none a t'
  | bl b=>cases rx; exact SeqAt.EqAt.str_bool a t' b
  | int b=>obtain ⟨t,rfl⟩:=rx; exact SeqAt.EqAt.str_int a t' b t
  | str b=>obtain ⟨t,rfl⟩:=rx; exact SeqAt.EqAt.str_str a t' b t
  | _=>exact absurd (show false=true from fx) Bool.false_ne_true
 | _=>exact absurd (show false=true from fy) Bool.false_ne_true
def eqU (x:V) (u:Value):Bool:=match u with
 | .none=>eqV .non x
 | .bool b=>eqV (.bl b) x
 | .int i _=>eqV (.int i) x
 | .str z _=>eqV (.str z) x
 | _=>false
theorem uZ {x y:V} {u:Value} (r:bq y u) (f:gO y=true):eqU x u=eqV y x:=by
 cases y with
 | non=>cases r; rfl
 | bl b=>cases r; rfl
 | int i=>obtain ⟨t,rfl⟩:=r; rfl
 | str z=>obtain ⟨t,rfl⟩:=r; rfl
 | _=>exact absurd (show false=true from f) Bool.false_ne_true
theorem ie {x:V}:∀ {xs:List V} {us:List Value},aQ xs us→xs.all gO=true→us.any (eqU x)=xs.any fun y=>eqV y x
 | _,_,.nil,_=>rfl
 | y::xs,u::us,.cons r t,f=>by
  rw [List.all_cons,Bool.and_eq_true] at f
  rw [List.any_cons,List.any_cons,uZ r f.1,ie t f.2]
theorem fR {A:Around} {s:Shared} {x:V} {v:Value} (rx:bq x v) (fx:gO x=true):∀ {xs:List V} {us:List Value},aQ xs us→xs.all gO=true→∀ u∈us,SeqAt.EqAt A s u v (eqU x u)
 | _,_,.nil,_=>fun u hu=>by cases hu
 | y::xs,u::us,.cons r t,f=>fun u' hu=>by
  rw [List.all_cons,Bool.and_eq_true] at f
  rcases List.mem_cons.mp hu with rfl | hu
  ·rw [uZ r f.1]; exact xZ r rx f.1 fx
  ·exact fR rx fx t f.2 u' hu
def inV (x:V) (xs:List V):Bool:=xs.any fun y=>eqV y x
def rIn (K:Frag) (neg:Bool):R2:=fun x y H Q=>∃ p xs,y=.ref p∧(SqL K H p xs∨SqT K H p xs)∧gO x=true∧xs.all gO=true∧Q (.bl (if neg then !inV x xs else inV x xs)) H
theorem eQ:OpR X (compareOp .In) (rIn X.K false):=by
 intro pins s σ H x y v u Q I rx ry h
 obtain ⟨p,xs,rfl,hq,fx,fs,q⟩:=h
 cases ry
 rcases hq with hq | hq
 ·obtain ⟨its,r,pl,hz⟩:=I.list hq
  refine SeqAt.in_listAt (eqU x) pl.isList (fun w hw=>fR rx fx r fs w (by simpa using hw)) ⟨.bl _,H,I,rfl,?_⟩
  rw [show its.toArray.any (eqU x)=its.any (eqU x) by simp,ie r fs]
  exact q
 ·obtain ⟨its,r,pl,hz⟩:=I.tuple hq
  refine SeqAt.in_tupleAt (eqU x) pl (fun w hw=>fR rx fx r fs w (by simpa using hw)) ⟨.bl _,H,I,rfl,?_⟩
  rw [show its.toArray.any (eqU x)=its.any (eqU x) by simp,ie r fs]
  exact q
theorem dA:OpR X (compareOp .NotIn) (rIn X.K true):=by
 intro pins s σ H x y v u Q I rx ry h
 obtain ⟨p,xs,rfl,hq,fx,fs,q⟩:=h
 cases ry
 rcases hq with hq | hq
 ·obtain ⟨its,r,pl,hz⟩:=I.list hq
  refine SeqAt.notIn_listAt (eqU x) pl.isList (fun w hw=>fR rx fx r fs w (by simpa using hw)) ⟨.bl _,H,I,rfl,?_⟩
  rw [show its.toArray.any (eqU x)=its.any (eqU x) by simp,ie r fs]
  exact q
 ·obtain ⟨its,r,pl,hz⟩:=I.tuple hq
  refine SeqAt.notIn_tupleAt (eqU x) pl (fun w hw=>fR rx fx r fs w (by simpa using hw)) ⟨.bl _,H,I,rfl,?_⟩
  rw [show its.toArray.any (eqU x)=its.any (eqU x) by simp,ie r fs]
  exact q
theorem aA:bE X (.builtin "len") (fun xs H Q=>∃ p ys,xs=[.ref p]∧(SqL X.K H p ys∨SqT X.K H p ys)∧Q (.int ys.length) H):=by
 intro pins s σ H xs us Q I r h
 obtain ⟨p,ys,rfl,hq,q⟩:=h
 obtain ⟨u,rfl,rx⟩:=eH r
 cases rx
 have hn:=lg
 rcases hq with hq | hq
 ·obtain ⟨its,r',pl,hz⟩:=I.list hq
  have hlen:=r'.length
  exact Calls.call_len_list pl.isList (by simp only [List.size_toArray]<;>omega) ⟨.int ys.length,H,I.tok _,⟨s.toks+1,by rw [List.size_toArray,hlen]⟩,q⟩
 ·obtain ⟨its,r',pl,hz⟩:=I.tuple hq
  have hlen:=r'.length
  exact len_tuple pl (by simp only [List.size_toArray]<;>omega) ⟨.int ys.length,H,I.tok _,⟨s.toks+1,by rw [List.size_toArray,hlen]⟩,q⟩
theorem cy:bE X (.builtin "len") (fun xs H Q=>∃ z,xs=[.str z]∧z.length≤sizeLine∧Q (.int z.length) H):=by
 intro pins s σ H xs us Q I r h
 obtain ⟨z,rfl,hz,q⟩:=h
 obtain ⟨u,rfl,t,rfl⟩:=eH r
 have hn:=lg
 exact len_str (by omega) ⟨.int z.length,H,I.tok _,⟨_,rfl⟩,q⟩
theorem bE.or {f:Value} {r r':List V→Hp→VK→Prop} (h:bE X f r) (h':bE X f r'):bE X f (fun xs H Q=>r xs H Q∨r' xs H Q):=by
 intro pins s σ H xs us Q I rs q
 rcases q with q | q
 ·exact h pins s σ H xs us Q I rs q
 ·exact h' pins s σ H xs us Q I rs q
theorem fj:bE X (.type "list") (fun xs H Q=>∃ p ys,xs=[.ref p]∧(SqL X.K H p ys∨SqT X.K H p ys)∧∀ l,H l=none→Q (.ref l) (upd H l (.lst ys))):=by
 intro pins s σ H xs us Q I r h
 obtain ⟨p,ys,rfl,hq,q⟩:=h
 obtain ⟨u,rfl,rx⟩:=eH r
 cases rx
 have fin:∀ (its:List Value),aQ ys its→ys.length≤sizeLine→∀ (h':Heap) (c':Nat),(∀ b o',s.heap.get? b=some o'→h'.get? b=some o') →
   h'.get? s.heap.objs.size=some { cls:=.type "list",dict:=none,data:=.seq its.toArray c',slots:=#[] }→EP X pins σ Q (.ref s.heap.objs.size) { s with heap:=h' }:=fun its r' hz h' c' kp e =>
  ⟨.ref s.heap.objs.size,_,I.laid (t':=s.toks) kp (Nat.le_refl _) (show bS X.prog X.w _ h' _ (.lst ys) from ⟨hz,its,c',r',e⟩),rfl,q _ (I.hok.fresh (Nat.le_refl _))⟩
 rcases hq with hq | hq
 ·obtain ⟨its,r',pl,hz⟩:=I.list hq
  have hlen:=r'.length
  obtain ⟨o,ho,hc,n,hd⟩:=pl.isList
  exact call_list_seq p (.inl rfl) ho hc hd (fun h' c' kp e=>fin its r' hz h' c' kp e) (by simp only [List.size_toArray]<;>omega)
 ·obtain ⟨its,r',pl,hz⟩:=I.tuple hq
  have hlen:=r'.length
  obtain ⟨o,ho,hc,n,hd⟩:=pl
  exact call_list_seq p (.inr rfl) ho hc hd (fun h' c' kp e=>fin its r' hz h' c' kp e) (by simp only [List.size_toArray]<;>omega)
theorem bt:bE X (.type "tuple") (fun xs H Q=>∃ p ys,xs=[.ref p]∧((SqL X.K H p ys∧∀ l,H l=none→Q (.ref l) (upd H l (.tup ys)))∨(SqT X.K H p ys∧Q (.ref p) H))):=by
 intro pins s σ H xs us Q I r h
 obtain ⟨p,ys,rfl,h⟩:=h
 obtain ⟨u,rfl,rx⟩:=eH r
 cases rx
 rcases h with ⟨hq,q⟩ | ⟨hq,q⟩
 ·obtain ⟨its,r',pl,hz⟩:=I.list hq
  have hlen:=r'.length
  refine call_tuple_list pl.isList (fun h' kp=>?_) (by simp only [List.size_toArray]<;>omega)
  have I1:Inv X pins σ H { s with heap:=h' }:=I.kept (t':=s.toks) kp
  have I2:Inv X pins σ (upd H h'.objs.size (.tup ys)) { s with heap:=h'.push { cls:=.type "tuple",data:=.seq its.toArray } } :=
   I1.laid (t':=s.toks) (fun b o e=>Heap.get?_push_of_some _ e) (Nat.le_refl _) (show bS X.prog X.w _ _ _ (.tup ys) from ⟨hz,its,r',IsTup.new _ _,_,Heap.get?_push_size _ rfl,rfl⟩)
  exact ⟨.ref h'.objs.size,_,I2,rfl,q _ (I1.hok.fresh (Nat.le_refl _))⟩
 ·obtain ⟨its,r',pl,hz⟩:=I.tuple hq
  exact call_tuple_same pl ⟨.ref p,H,I,rfl,q⟩
def tyV (K:Frag) (T:String) (x:V) (H:Hp):Prop:=match x with
 | .str _=>T = "str"
 | .int _=>T = "int"
 | .ref p=>(T = "list"∧∃ xs,SqL K H p xs)∨(T = "tuple"∧∃ o,K.lookup p=some o∧o.cls=.type "tuple"∧o.dict=none) ∨
   (T = "dict"∧((∃ kvs,H p=some (.dK kvs))∨∃ kvs,H p=some (.dT kvs)))∨(T = "set"∧∃ S n,H p=some (.set S n))
 | _=>False
theorem ym {pins:List (Addr×Obj)} {σ:St} {H:Hp} {s:Shared} {T:String} {x:V} {v:Value} (I:Inv X pins σ H s) (r:bq x v) (ty:tyV X.K T x H) :
  s.TypeIs v T∧∀ a,v=.ref a→∃ ob,s.heap.get? a=some ob∧ob.dict=none:=by
 cases x with
 | str z =>
  obtain ⟨t,rfl⟩:=r
  cases (show T = "str" from ty)
  exact ⟨typeIs_str s z t,fun _ e=>nomatch e⟩
 | int i =>
  obtain ⟨t,rfl⟩:=r
  cases (show T = "int" from ty)
  exact ⟨typeIs_int s i t,fun _ e=>nomatch e⟩
 | ref p =>
  cases r
  rcases ty with ⟨rfl,xs,hq⟩ | ⟨rfl,o,hk,hc,hd⟩ | ⟨rfl,hk⟩ | ⟨rfl,S,n,hk⟩
  ·obtain ⟨its,_,pl,_⟩:=I.list hq
   refine ⟨pl.isList.typeIs,fun a e=>?_⟩
   cases e
   obtain ⟨o,n,e,c,hd,_⟩:=pl
   exact ⟨o,e,hd⟩
  ·refine ⟨⟨o,I.kIn p o hk,hc⟩,fun a e=>?_⟩
   cases e
   exact ⟨o,I.kIn _ o hk,hd⟩
  ·have z:∃ o,s.heap.get? p=some o∧o.ExactDict:=by
    rcases hk with ⟨kvs,hk⟩ | ⟨kvs,hk⟩
    ·obtain ⟨_,_,_,_,o,_,_,e,ex,_⟩:=I.hok p _ hk
     exact ⟨o,e,ex⟩
    ·obtain ⟨_,_,_,_,o,_,_,e,ex,_⟩:=I.hok p _ hk
     exact ⟨o,e,ex⟩
   obtain ⟨o,e,ex⟩:=z
   refine ⟨⟨o,e,ex.1⟩,fun a e2=>?_⟩
   cases e2
   exact ⟨o,e,ex.2.1⟩
  ·obtain ⟨o,_,_,_,e,ex,_⟩:=I.hok p _ hk
   refine ⟨⟨o,e,ex.1⟩,fun a e2=>?_⟩
   cases e2
   exact ⟨o,e,ex.2.1⟩
 | _=>exact False.elim ty
def tBM (K:Frag) (T:String) (r:V→List V→Hp→VK→Prop) (to:TE) (t:TA):TE:=fun σ H Q=>to σ H fun x H1=>tyV K T x H1∧t σ H1 fun xs H2=>r x xs H2 Q
variable {o e:Expr} {es:List Expr} {to:TE} {t:TA} {name:Str} {apos cpos:Pos} {T id:String} {r:V→List V→Hp→VK→Prop}
theorem eX (pa:PlainAttrs T) (slot:Slot T name id) (hty:typeOf (.builtin id)=pure (.type "method_descriptor")) (hm:MtR X id r) (ho:PE X o to) (ha:PA X (e::es) t)
  (hbase:attributeBase o name X.env (eval o X.env)=eval o X.env:=by rfl)
  (hfew:((backTo cpos (starEach (e::es) X.env)).all (fun x=>!x.1)&&(backToKw cpos (keywordEach [] X.env)).all (fun x=>x.1.isSome)
  &&decide ((e::es).length+([]:List Keyword).length+(if ([]:List Keyword).isEmpty then 0 else 1)<30))=true:=by exact cW rfl rfl)
  (hline:(apos.endLine==cpos.line)=true:=by rfl) (hs:starEach (e::es) X.env=(false,eval e X.env)::starEach es X.env:=by exact aa rfl) (hplain:(backTo cpos (starEach es X.env)).any (·.1)=false:=by exact ah rfl) :
  PE X (.Call (.Attribute o name apos) (e::es) [] cpos) (tBM X.K T r to t):=by
 intro pins s σ H Q I h
 refine wpAny_Call_method_late hbase hfew hline rfl (thn (ho pins s σ H _ I h) fun v s1 ⟨x,H1,I1,r1,ty,q1⟩=>?_)
 obtain ⟨h1,h2⟩:=ym I1 r1 ty
 refine ⟨T,id,pa,slot,hty,h1,h2,?_⟩
 have hA:=ha cpos pins s1 σ H1 _ I1 q1
 rw [hs] at hA ⊢
 refine Calls.callWith_builtin (by show (false||(backTo cpos (starEach es X.env)).any (·.1))=false; rw [hplain]<;>rfl) (Calls.evalArgs_plain ?_)
 exact thn hA fun us s2 ⟨vs,H2,I2,r2,q2⟩=>hm pins s2 σ H2 x vs v us Q I2 r1 r2 q2
end
open PySem PySem.Spec PyProof.Rows
def MtM (X:Cx) (id:String) (r:V→List V→Hp→VK→Prop):Prop :=
 ∀ (pins:List (Addr×Obj)) (s:Shared) (σ:St) (H:Hp) (x:V) (xs:List V) (v:Value) (us:List Value) (Q:VK),Inv X pins σ H s→bq x v→aQ xs us→r x xs H Q →
  wpAny (model X.prog X.w) X.A (call (.builtin id) (v::us)) (EP X pins σ Q) X.xe s
theorem aQ.one:∀ {x:V} {us:List Value},aQ [x] us→∃ u,us=[u]∧bq x u
 | _,_,.cons r .nil=>⟨_,rfl,r⟩
theorem aQ.eraseIdx:∀ {xs:List V} {us:List Value} (i:Nat),aQ xs us→aQ (xs.eraseIdx i) (us.eraseIdx i)
 | _,_,_,.nil=>.nil
 | _,_,0,.cons _ t=>t
 | _,_,i+1,.cons r t=>.cons r (aQ.eraseIdx i t)
theorem aQ.rep {xs:List V} {us:List Value} (h:aQ xs us):∀ k:Nat,aQ (List.replicate k xs).flatten (List.replicate k us).flatten
 | 0=>.nil
 | k+1=>by
  rw [List.replicate_succ,List.replicate_succ,List.flatten_cons,List.flatten_cons]
  exact aQ.append h (aQ.rep h k)
theorem md {α:Type}:∀ (l:List α) (i:Nat),(l.eraseIdx i).length≤l.length
 | [],_=>Nat.le_refl _
 | _::_,0=>Nat.le_succ _
 | _::r,i+1=>Nat.succ_le_succ (md r i)
theorem ms (its:List Value):∀ (k:Nat) (acc:List Value),
  List.foldl (fun x1 x2=>x1++x2) acc.toArray (List.replicate k its.toArray)=(acc++(List.replicate k its).flatten).toArray
 | 0,acc=>by simp
 | k+1,acc=>by
  have e:acc.toArray++its.toArray=(acc++its).toArray:=by simp
  have e2:(acc++its)++(List.replicate k its).flatten=acc++(List.replicate (k+1) its).flatten:=by
   rw [List.replicate_succ,List.flatten_cons,List.append_assoc]
  rw [← e2,← ms its k (acc++its),← e,List.replicate_succ,List.foldl_cons]
section
variable {X:Cx} {pins:List (Addr×Obj)} {σ:St} {H:Hp} {s:Shared} {l b:Addr} {xs ys zs:List V}
theorem Inv.lset {its its':List Value} {n:Nat} {f:Array Value→Array Value} {t':Nat} (I:Inv X pins σ H s) (hH:H l=some (.lst xs))
  (e:s.heap.get? l=some { cls:=.type "list",data:=.seq its.toArray n }) (hf:f its.toArray=its'.toArray) (hv:aQ ys its') (hz:ys.length≤sizeLine) :
  Inv X pins σ (upd H l (.lst ys)) { s with heap:=s.heap.update l (Obj.mapSeq f),toks:=t' }:=by
 have q:=PySem.IsL.update e f
 rw [hf] at q
 refine I.write (x:=l) (e:=l) (by rw [hH]; exact trivial) (.inl rfl) (fun b' u hb hu=>(Heap.get?_update_other s.heap (Obj.mapSeq f) (Ne.symm hb)).trans hu) ⟨_,q⟩ ?_
 exact ⟨hz,its',_,hv,q⟩
theorem Inv.lnew {its:List Value} {t':Nat} (I:Inv X pins σ H s) (hv:aQ ys its) (hz:ys.length≤sizeLine) :
  Inv X pins σ (upd H s.heap.objs.size (.lst ys)) { s with heap:=s.heap.push { cls:=.type "list",data:=.seq its.toArray },toks:=t' } :=
 I.laid (fun _ _ q=>Heap.get?_push_of_some _ q) (Nat.le_refl _) ⟨hz,its,0,hv,Heap.get?_push_size _ rfl⟩
theorem Inv.fresh (I:Inv X pins σ H s):H s.heap.objs.size=none:=I.hok.fresh (Nat.le_refl _)
theorem Inv.lstM (I:Inv X pins σ H s) (hH:H l=some (.lst xs)):xs.length≤sizeLine∧∃ (its:List Value) (n:Nat),aQ xs its∧xs.length=its.length∧s.heap.get? l=some { cls:=.type "list",data:=.seq its.toArray n }:=by
 obtain ⟨z,its,n,r,e⟩:=I.hok l _ hH
 exact ⟨z,its,n,r,r.length,e⟩
theorem kE {n:Nat} (h:n≤sizeLine):Builtin.List.listTooLong n=false:=by
 unfold Builtin.List.listTooLong
 exact decide_eq_false (by omega)
end
section
variable {X:Cx}
def wx:V→List V→Hp→VK→Prop:=fun x vs H Q=>∃ l xs y,x=.ref l∧vs=[y]∧H l=some (.lst xs)∧xs.length<sizeLine∧Q .non (upd H l (.lst (xs++[y])))
theorem eL:MtM X "list.append" wx:=by
 intro pins s σ H x vs v us Q I rx rv h
 obtain ⟨l,xs,y,rfl,rfl,hH,hz,q⟩:=h
 cases rx
 obtain ⟨u,rfl,ru⟩:=rv.one
 obtain ⟨z,its,n,r,hl,e⟩:=I.lstM hH
 refine call_meets F.slot_list_append ⟨_,e,rfl⟩ F.entry_list_append (F.args_list_append_2 _ _) (PySem.list_append l its.toArray n u (by rw [List.size_toArray]; omega)) ⟨e,?_⟩
 refine ⟨.non,_,I.lset (its':=its++[u]) hH e (by simp) (r.append (.cons ru .nil)) ?_,rfl,q⟩
 rw [List.length_append,List.length_singleton]
 omega
def wZ:V→List V→Hp→VK→Prop:=fun x vs H Q=>∃ l b xs zs,x=.ref l∧vs=[.ref b]∧H l=some (.lst xs)∧H b=some (.lst zs)∧xs.length+zs.length≤sizeLine∧Q .non (upd H l (.lst (xs++zs)))
theorem jc:MtM X "list.extend" wZ:=by
 intro pins s σ H x vs v us Q I rx rv h
 obtain ⟨l,b,xs,zs,rfl,rfl,hH,hB,hz,q⟩:=h
 cases rx
 obtain ⟨u,rfl,ru⟩:=rv.one
 cases ru
 obtain ⟨z,its,n,r,hl,e⟩:=I.lstM hH
 obtain ⟨z2,its2,n2,r2,hl2,e2⟩:=I.lstM hB
 have hsz:its.toArray.size+its2.toArray.size≤sizeLine:=by rw [List.size_toArray,List.size_toArray]; omega
 have hlong:¬ (!its.toArray.isEmpty&&Builtin.List.listTooLong (its.toArray.size+its2.toArray.size))=true:=by
  rw [kE hsz,Bool.and_false]
  exact Bool.false_ne_true
 refine call_meets F.slot_list_extend ⟨_,e,rfl⟩ F.entry_list_extend (F.args_list_extend_2 _ _)
  (AutoSeq1.list_extend_list_list_0 l its.toArray n b its2.toArray n2 hlong (by rw [List.size_toArray]; omega) (by omega)) ⟨e,e2,?_⟩
 refine ⟨.non,_,I.lset (its':=its++its2) hH e (by simp) (r.append r2) ?_,rfl,q⟩
 rw [List.length_append]
 omega
def yf:V→List V→Hp→VK→Prop:=fun x vs H Q=>∃ l xs i k y,x=.ref l∧vs=[.int i]∧H l=some (.lst xs)∧-(2 ^ 63)≤i∧i<2 ^ 63∧seqIndex? i xs.length=some k∧xs[k]?=some y∧Q y (upd H l (.lst (xs.eraseIdx k)))
theorem oj:MtM X "list.pop" yf:=by
 intro pins s σ H x vs v us Q I rx rv h
 obtain ⟨l,xs,i,k,y,rfl,rfl,hH,h1,h2,hk,hy,q⟩:=h
 cases rx
 obtain ⟨u,rfl,ru⟩:=rv.one
 obtain ⟨t,rfl⟩:=ru
 obtain ⟨z,its,n,r,hl,e⟩:=I.lstM hH
 obtain ⟨w,hw,rw'⟩:=r.get hy
 refine call_meets F.slot_list_pop ⟨_,e,rfl⟩ F.entry_list_pop (F.args_list_pop_2 _ _)
  (MeetsSeq.list_pop_at l its.toArray n i t k w (fitsIndex_both h1 h2) (by rw [List.size_toArray,← hl]; exact hk) (by rw [← Array.getElem?_toList]; exact hw) (by rw [List.size_toArray]; omega)) ⟨e,?_⟩
 refine ⟨y,_,I.lset (its':=its.eraseIdx k) hH e ?_ (r.eraseIdx k) ?_,rw',q⟩
 ·show its.toArray.eraseIdxIfInBounds k=(its.eraseIdx k).toArray
  rw [List.eraseIdxIfInBounds_toArray]
 ·have:=md xs k
  omega
def Az:R2:=fun x y H Q=>∃ l b xs zs,x=.ref l∧y=.ref b∧H l=some (.lst xs)∧H b=some (.lst zs)∧xs.length+zs.length≤sizeLine∧∀ p,H p=none→Q (.ref p) (upd H p (.lst (xs++zs)))
theorem nr:OpR X (binaryOp .Add) Az:=by
 intro pins s σ H x y v u Q I rx ry h
 obtain ⟨l,b,xs,zs,rfl,rfl,hH,hB,hz,q⟩:=h
 cases rx
 cases ry
 obtain ⟨z,its,n,r,hl,e⟩:=I.lstM hH
 obtain ⟨z2,its2,n2,r2,hl2,e2⟩:=I.lstM hB
 refine PySem.P.add_list e e2 ?_ (by rw [List.size_toArray,List.size_toArray]; omega)
 have ea:its.toArray++its2.toArray=(its++its2).toArray:=by simp
 rw [ea]
 exact ⟨.ref _,_,I.lnew (t':=s.toks) (r.append r2) (by rw [List.length_append]; omega),rfl,q _ I.fresh⟩
def Ar:R2:=fun x y H Q=>∃ l k xs,x=.ref l∧y=.int k∧H l=some (.lst xs)∧-(2 ^ 63)≤k∧k<2 ^ 63∧xs.length*k.toNat≤sizeLine ∧
 ∀ p,H p=none→Q (.ref p) (upd H p (.lst (List.replicate k.toNat xs).flatten))
theorem wq {α:Type} (xs:List α) (k:Nat):(List.replicate k xs).flatten.length=k*xs.length:=by
 induction k with
 | zero=>simp
 | succ k ih=>rw [List.replicate_succ,List.flatten_cons,List.length_append,ih,Nat.succ_mul,Nat.add_comm]
theorem yi:OpR X (binaryOp .Mult) Ar:=by
 intro pins s σ H x y v u Q I rx ry h
 obtain ⟨l,k,xs,rfl,rfl,hH,h1,h2,hz,q⟩:=h
 cases rx
 obtain ⟨t,rfl⟩:=ry
 obtain ⟨z,its,n,r,hl,e⟩:=I.lstM hH
 have hlen:its.toArray.size*k.toNat≤sizeLine:=by rw [List.size_toArray,← hl]; exact hz
 have hcap:¬ its.toArray.size*k.toNat > (2 ^ 63 - 1) / 8:=by
  have:(sizeLine:Nat)≤(2 ^ 63 - 1) / 8:=by decide
  omega
 have hfit:¬ (!Builtin.List.listFitsIndex k)=true:=by
  rw [fitsIndex_both h1 h2]
  exact Bool.false_ne_true
 have hlong:¬ Builtin.List.listTooLong (its.toArray.size*k.toNat)=true:=by
  rw [kE hlen]
  exact Bool.false_ne_true
 have hnew:List.foldl (fun x1 x2=>x1++x2) #[] (List.replicate (if its.toArray.isEmpty=true then 0 else k.toNat) its.toArray)=(List.replicate k.toNat its).flatten.toArray:=by
  have f0:∀ m:Nat,List.foldl (fun x1 x2=>x1++x2) #[] (List.replicate m its.toArray)=(List.replicate m its).flatten.toArray:=fun m=>by
   have:=ms its m []
   rw [List.nil_append] at this
   exact this
  rw [f0]
  cases its with
  | nil=>simp
  | cons a r'=>rw [if_neg (by simp)]
 refine wpAny_binaryOp_repeat_ref (T := "list") (U := "int") (by decide) ⟨_,e,rfl⟩ (fun s'=>typeIs_int s' k t) noFill_list_mul F.fills_int_mul F.slot_int_rmul repeat_list F.slot_int_index.lookup
  (call_meets F.slot_int_rmul (typeIs_int s k t) F.entry_int_rmul (F.args_int_rmul_2 _ _) (int___rmul___int_list k t l its.toArray n)
   ⟨e,rfl,⟨_,e,rfl⟩,call_meets F.slot_list_mul ⟨_,e,rfl⟩ F.entry_list_mul (F.args_list_mul_2 _ _) (AutoListH.list___mul___list_int_3 l its.toArray n k t hfit hcap hlong) ⟨e,?_⟩⟩)
 rw [hnew]
 exact ⟨.ref _,_,I.lnew (t':=s.toks) (r.rep k.toNat) (by rw [wq,Nat.mul_comm]; exact hz),rfl,q _ I.fresh⟩
end
section
variable {prog:Program} {w:World} {A:Around} {E:Value→Shared→Prop} {s:Shared}
end
section
variable {X:Cx}
end
end L2
namespace Att
open PySem PySem.W PySem.Calls PyProof.Rows
theorem jC {P:Params} {h:Heap}:∀ (ns:List Int) (vs:List Value),WellAll P h vs (ns.map WData.int)→IntsAre vs ns:=by
 intro ns
 induction ns with
 | nil =>
  intro vs w
  rw [List.map_nil] at w
  cases w
  exact .nil
 | cons n ns ih =>
  intro vs w
  rw [List.map_cons] at w
  cases w with
  | cons a b =>
   cases a
   exact .cons _ _ (ih _ b)
theorem ss {l:OpenLaw} {n:Nat} (hn:l.most=some n) {P:Params} {h:Heap} {args:List WData} {vals:List Value}
  (hpre:l.row.toRowW.claim.pre args=true) (hwl:WellAll P h vals args) :
  ∃ a vs ns,vals=[Value.ref a]∧args=[WData.list (ns.map WData.int)]∧h.get? a=some { cls:=.type "list",data:=.seq vs.toArray }∧IntsAre vs ns∧ns.length≤n:=by
 have hsh:WShape.hasAll [] args [.list .int]=true:=(pre_splitW hpre).1
 have hc:l.pre.holds [] { args:=args }=true:=(pre_splitW hpre).2
 obtain ⟨d,r,rfl,h1,h2⟩:=hasAllW_cons hsh
 obtain rfl:=hasAllW_nil h2
 obtain ⟨xs,rfl,h3⟩:=hasW_list h1
 obtain ⟨ns,rfl⟩:=items_int h3
 have hlen:ns.length≤n:=by
  unfold OpenLaw.pre at hc
  have h4:(WTm.not (.lt (.lit (.int (n:Int))) (.len (.arg 0)))).holds [] { args:=[.list (ns.map .int)] }=true:=by
   have h4:=(holds_andW hc).1
   rw [hn] at h4
   exact h4
  have h5:=condW_of h4 (w_not (w_lt w_lit (w_len_list (w_arg rfl))))
  rw [List.length_map] at h5
  refine Nat.le_of_not_lt fun q=>?_
  have q':(n:Int)<((ns.length:Nat):Int):=by omega
  first
   | (rw [decide_eq_true q'] at h5; exact absurd h5 (by decide))
   | (simp at h5; omega)
 cases hwl with
 | cons w1 w2 =>
  cases w2
  cases w1 with
  | list ho hall=>exact ⟨_,_,ns,rfl,rfl,ho,jC ns _ hall,hlen⟩
theorem sW (l:OpenLaw) (args:List WData):l.row.toRowW.claim.post args (.bool true) args=true :=
 postW_of (r:=l.row.toRowW) (X:=(true==true))
  (show WShape.has [] (.bool true) .bool=true by first | rfl | decide | simp [WShape.has,WShape.arms,WShape.armsAll])
  (show (WTm.eq .res (.lit (.bool true))).value [] { args:=args,res:=some (.bool true),after:=args }=some (.bool (true==true)) from w_eq_bool (w_res rfl) w_lit) rfl
theorem attach_call {l:OpenLaw} {n:Nat} {q:Program} {loose:List Str} {XP:(Str→Option Value)→Heap→Prop} {YP:World→Heap→Prop} {d:DefRec}
  (hn:l.most=some n) (hdf:d.params.defaults=[])
  (call:∀ (w:World) (s₀ s₁:Shared) (mg mb:Str→Option Value) (fa:Addr) (o:Obj) (pm cd doc:Value) (a:Addr) (vs:List Value) (ns:List Int),
   Ground q loose [] XP w s₀ mg mb s₁.heap→YP w s₁.heap →
   s₁.heap.get? fa=some o→o.data=.func (docDef d.name d.params d.body d.scope pm cd doc)→s₁.heap.CodeRec cd d.name→mg d.name=some (.ref fa) →
   s₁.heap.get? a=some { cls:=.type "list",data:=.seq vs.toArray }→IntsAre vs ns→ns.length≤n→s₁.gens=#[] →
   codeAny (model l.prog w) callerA (.call (.ref fa) ⟨[.ref a],[]⟩) (fun r s'=>r=.ok (.ret (.bool true))∧OldK s₁.heap s'.heap∧s'.os=s₁.os∧AllBare s'.gens) s₁) :
  WalkO q loose XP YP l.row.toRowW d [] (fun f vs=>PySem.call f vs):=by
 intro w s₀ s₁ mg mb G Y fa o pm cd doc dV kV ho hd hcd hD hmg hg args vals as hpre hlay hrd hwl hlo
 obtain rfl:dV=.none:=Dflts.none hD hdf
 obtain rfl:kV=.none:=Dflts.noKw hD
 obtain ⟨a,vs,ns,rfl,rfl,hobj,hints,hlen⟩:=ss hn hpre hwl
 refine enter_call (codeAny_mono (call w s₀ s₁ mg mb fa o pm cd doc a vs ns G Y ho (fd_plain hd) hcd hmg hobj hints hlen hg) fun r s' hq=>?_)
 obtain ⟨rfl,h2,h3,h4⟩:=hq
 exact ⟨.inl ⟨.bool true,.bool true,[],rfl,fun _=>rfl,.bool true,sW l _,fun _=>⟨List.Pairwise.nil,fun _ hm=>(nomatch hm)⟩⟩,h2,h3,h4⟩
section
variable {prog:Program} {w:World} {A:Around} {E:Value→Shared→Prop} {s:Shared} {K:Frag}
end
end Att
namespace L2
open PySem PySem.Spec PyProof.Rows
theorem mz:∀ {vs:List Value} {ns:List Int},IntsAre vs ns→aQ (ns.map V.int) vs
 | _,_,.nil=>.nil
 | _,_,.cons n t h=>.cons ⟨t,rfl⟩ (mz h)
def yx (H:Hp):Prop:=∀ b,H b=none∨∃ o xs,H b=some (.frz o (.lst xs))
theorem ug {P:Program} {w:World} {K:Frag} {mg mb:Str→Option Value} {CX:CXT} {k:Nat} {fa a:Addr} {fd:FuncData} {x:Str} {sp:Sp} {s₁:Shared} {vs:List Value} {ns:List Int}
  (KX:K.In s₁.heap) (hns:s₁.heap.Ns mainGlobals mg) (hb:s₁.heap.Ns builtinsNs mb) (hbb:∀ x:Str,x ≠ "__name__"→mb x=bootBuiltins x) (hlim:s₁.heap.NoLimit) (hg:s₁.gens=#[])
  (ha:s₁.heap.get? a=some { cls:=.type "list",data:=.seq vs.toArray }) (hi:IntsAre vs ns) (hl:ns.length≤sizeLine) (hr:fP k callerA)
  (F:∀ base:Heap,K.In base→base.Ns mainGlobals mg→aU P w K mg base CX k fa fd [x] sp) (hbind:∀ (s:Shared) (u:Value),BindsTo s fd ⟨[u],[]⟩ [(x,u)])
  (hsp:∀ H:Hp,yx H→SqL K H a (ns.map V.int)→sp [.ref a] H (fun v _=>v=.bl true) fun _ _ _=>False)
  (hCX:∀ H e s',CX [] H s₁ (fun _ _ _=>False) e s'→False) :
  codeAny (model P w) callerA (.call (.ref fa) ⟨[.ref a],[]⟩) (fun r s'=>r=.ok (.ret (.bool true))∧OldK s₁.heap s'.heap∧s'.os=s₁.os∧AllBare s'.gens) s₁:=by
 have rv:=mz hi
 have lenV:=hi.length
 -- from an abstract heap in which nothing but the script may be tracked
 have core:∀ H:Hp,yx H→SqL K H a (ns.map V.int)→HOk P w H s₁.heap→(∀ b,H b≠none→b=a)→(H a≠none→K.lookup a=none) →
   codeAny (model P w) callerA (.call (.ref fa) ⟨[.ref a],[]⟩) (fun r s'=>r=.ok (.ret (.bool true))∧OldK s₁.heap s'.heap∧s'.os=s₁.os∧AllBare s'.gens) s₁:=by
  intro H hO hS hok hA hK
  have base_of:∀ {b:Addr} {o:Obj},s₁.heap.get? b=some o→H b=none→(mR s₁.heap H).get? b=some o:=fun e n=>vp e n
  have noA:∀ {b:Addr} {o:Obj} {es:Array DictEntry} {ep:Nat},s₁.heap.get? b=some o→o.data=.dict es ep→H b=none:=fun {b o es ep} e d=>by
   cases q:H b with
   | none=>rfl
   | some u =>
    have e':b=a:=hA b (by rw [q]; simp)
    subst e'
    rw [ha] at e; cases e
    have d':Data.seq vs.toArray _=Data.dict es ep:=d
    cases d'
  have nsK:∀ {b:Addr} {m:Str→Option Value},s₁.heap.Ns b m→(mR s₁.heap H).Ns b m:=fun {b m} ⟨o,es,ep,e,d,r⟩=>⟨o,es,ep,base_of e (noA e d),d,r⟩
  have hKb:K.In (mR s₁.heap H):=fun b o e=>base_of (KX b o e) (by
   cases q:H b with
   | none=>rfl
   | some u =>
    have e':b=a:=hA b (by rw [q]; simp)
    subst e'
    rw [hK (by rw [q]; simp)] at e; cases e)
  have hM:Mod K mg (mR s₁.heap H):=⟨hKb,nsK hns,⟨mb,nsK hb,hbb⟩,let ⟨mc,h1,h2⟩:=hlim; ⟨mc,nsK h1,h2⟩⟩
  have e0:wE P w K mg (mR s₁.heap H) callerA [] s₁ H:=⟨rfl,hM,fun b o e=>wA e,Nat.le_of_eq (sS _ _),trivial,fun b hb=>absurd (show b∈([]:List Addr) from hb) (by simp),hok,.of_eq hg⟩
  refine codeAny_mono ((F _ hKb (nsK hns)).run callerA [] s₁ H ⟨[.ref a],[]⟩ [.ref a] [.ref a] _ _ hr e0 (hbind s₁ (.ref a)) (.cons rfl .nil) (hsp H hO hS)) fun r s' h=>?_
  cases r with
  | error e=>exact (hCX H e s' h).elim
  | ok fl =>
   cases fl with
   | next=>exact False.elim h
   | brk=>exact False.elim h
   | cont=>exact False.elim h
   | ret u =>
    obtain ⟨v,H',os,bare,un,hok',r',q⟩:=h
    have q':v=.bl true:=q
    subst q'
    obtain rfl:u=Value.bool true:=r'
    refine ⟨rfl,OldK.of_keep fun b o e=>?_,os,bare⟩
    cases q:H b with
    | none=>exact un.keep b o e q (by intro z; exact absurd (show b∈([]:List Addr) from z) (by simp)) (by simp)
    | some u =>
     rcases hO b with z | ⟨ob,xs,z⟩
     ·rw [q] at z; cases z
     ·have z2:=un.frzs b ob _ z
      obtain ⟨e1,_⟩:=hok b _ z
      obtain ⟨e2,_⟩:=hok' b _ z2
      rw [e] at e1; cases e1
      exact e2
 cases hk:K.lookup a with
 | some o =>
  -- the script is one of the module's own objects
  have e:=KX a o hk
  rw [ha] at e
  cases e
  refine core (fun _=>none) (fun _=>.inl rfl) (.inr ⟨_,vs.toArray,_,hk,rfl,rfl,rfl,by rw [List.size_toArray,lenV]; exact hl,by simpa using rv⟩) (fun b u z=>by have z':(none:Option HO)=some u:=z; cases z') (fun b z=>absurd rfl z) fun z=>absurd rfl z
 | none =>
  refine core (fun b=>if b=a then some (.frz { cls:=.type "list",data:=.seq vs.toArray } (.lst (ns.map V.int))) else none) (fun b=>?_) (.inl (.inr ⟨{ cls:=.type "list",data:=.seq vs.toArray },if_pos rfl⟩)) (fun b u z=>?_) (fun b z=>?_) fun _=>hk
  ·by_cases hb:b=a
   ·exact .inr ⟨_,_,if_pos hb⟩
   ·exact .inl (if_neg hb)
  ·by_cases hb:b=a
   ·have z':=(if_pos hb).symm.trans z
    cases z'
    subst hb
    exact ⟨ha,by rw [List.length_map]; exact hl,vs,_,rv,ha⟩
   ·have z':=(if_neg hb).symm.trans z
    cases z'
  ·by_cases hb:b=a
   ·exact hb
   ·exact absurd (if_neg hb) z
theorem walk_of {l:PySem.W.OpenLaw} {n k:Nat} {q:Program} {loose:List Str} {XP:(Str→Option Value)→Heap→Prop} {YP:World→Heap→Prop} {d:DefRec} {K:Params→Frag} {CX:World→CXT} {sp:World→Sp} {x:Str}
  (hn:l.most=some n) (hn2:n≤sizeLine) (hdf:d.params.defaults=[]) (hr:fP k callerA)
  (hY:∀ (w:World) (h:Heap),YP w h→(K w.params).In h)
  (F:∀ (w:World) (mg:Str→Option Value) (fa:Addr) (h:Heap),(K w.params).In h→h.Ns mainGlobals mg→mg d.name=some (.ref fa) →
   ∃ fd:FuncData,(∀ (s:Shared) (u:Value),BindsTo s fd ⟨[u],[]⟩ [(x,u)]) ∧
    ∀ base:Heap,(K w.params).In base→base.Ns mainGlobals mg→aU l.prog w (K w.params) mg base (CX w) k fa fd [x] (sp w))
  (hsp:∀ (w:World) (H:Hp) (a:Addr) (ns:List Int),ns.length≤n→yx H→SqL (K w.params) H a (ns.map V.int)→sp w [.ref a] H (fun v _=>v=.bl true) fun _ _ _=>False)
  (hCX:∀ (w:World) (H:Hp) (s:Shared) (e:Value) (s':Shared),CX w [] H s (fun _ _ _=>False) e s'→False) :
  PySem.W.WalkO q loose XP YP l.row.toRowW d [] (fun f vs=>PySem.call f vs):=by
 refine Att.attach_call hn hdf fun w s₀ s₁ mg mb fa o pm cd doc a vs ns G Y ho hd hcd hmg hobj hints hlen hg=>?_
 have KX:=hY w _ Y
 obtain ⟨fd,hb,hF⟩:=F w mg fa _ KX G.T.g hmg
 exact ug KX G.T.g G.T.b G.T.builtins G.T.nolimit hg hobj hints (Nat.le_trans hlen hn2) hr hF hb (fun H hO hS=>hsp w H a ns hlen hO hS) fun H e s'=>hCX w H s₁ e s'
end L2
/- THE LAST THEOREM (shape; LID,My.* are yours):
  My.Adr: a structure of the addresses that your layer names (classes,functions); My.Txt K t: a structure (Prop) of the equations over K;
  My.txt_mk:{K} {implicit addresses ..} (e1:nsIn K mainGlobals "law"=some (some (.ref f))) (e2:K.lookup f=some ⟨oc,od,.func (fnOf "law" "law" params body scope dV kV doc pm an cdv ct),sl⟩) (e3:codeIn K cdv "law"=true) ..:∃ t,My.Txt K t
(the tactic k_is has no namespace: write k_is) -/
namespace L2
open PySem PySem.Spec PyProof.Rows
def defArgs (s:Stmt):Arguments:=match s with
 | .FunctionDef _ a _ _ _ _ _ _ _ _=>a
 | _=>{ posonlyargs:=[],args:=[],vararg:=none,kwonlyargs:=[],kw_defaults:=[],kwarg:=none,defaults:=[] }
def defBody (s:Stmt):List Stmt:=match s with
 | .FunctionDef _ _ b _ _ _ _ _ _ _=>b
 | _=>[]
def defScope (s:Stmt):Scope:=match s with
 | .FunctionDef _ _ _ _ _ _ sc _ _ _=>sc
 | _=>{ kind:=.function,names:=[],isGenerator:=false,isCoroutine:=false }
abbrev CX0:CXT:=fun _ _ _ _ _ _=>False
abbrev E0:XK:=fun _ _ _=>False
theorem aB {X:Cx}:qC CX0 X E0:=fun _ _ _ _ _ _ _ h=>h.elim
structure Fun (K:Frag) (x qual:Str) (st:Stmt) (f:Addr) (fd:FuncData):Prop where
 ex:∃ (oc:Value) (od:Option Addr) (kV doc pm:Value) (an:Option Addr) (cdv ct:Value) (osl:Array (Option Value)),
  fd=PySem.W.fnOf x qual (defArgs st) (defBody st) (defScope st) .none kV doc pm an cdv ct∧K.lookup f=some ⟨oc,od,.func fd,osl⟩∧PySem.W.codeIn K cdv qual=true
 kp:keepIn K (.ref f)=true
section
variable {P:Program} {w:World} {K:Frag} {mg:Str→Option Value} {base:Heap}
theorem Fun.ok {x qual:Str} {st:Stmt} {f:Addr} {fd:FuncData} {N ps:List Str} {k:Nat} {sp:Sp} (F:Fun K x qual st f fd) (S:aK N ps (defScope st)) (len:∀ vs H Q E,sp vs H Q E→vs.length=ps.length)
  (hbody:∀ (cdv:Value) (A:Around) (outer:List Env) (s:Shared) (H:Hp) (vs:List V) (Q:VK) (E:XK),fP k (A.deeper (envOfC qual (defScope st) s.heap.objs.size f cdv))→sp vs H Q E →
   ∃ t,PSs (sE CX0 P w K mg base N qual (defScope st) f cdv A outer s H E).nox (defBody st) t∧t { nx:=fun _ H'=>Q .non H',rt:=Q } (jk N vs) H):aU P w K mg base CX0 (k+1) f fd ps sp:=by
 obtain ⟨oc,od,kV,doc,pm,an,cdv,ct,osl,rfl,lk,hcd⟩:=F.ex
 refine zo lk hcd S len fun A outer s H vs Q E hr hsp=>?_
 obtain ⟨t,h,q⟩:=hbody cdv A outer s H vs Q E hr hsp
 exact ⟨t,h.nox,q⟩
theorem Fun.binds {x qual:Str} {st:Stmt} {f:Addr} {fd:FuncData} {ps:List Str} (F:Fun K x qual st f fd)
  (h:∀ (kV doc pm:Value) (an:Option Addr) (cdv ct:Value) (us:List Value),us.length=ps.length→bindArgs (PySem.W.fnOf x qual (defArgs st) (defBody st) (defScope st) .none kV doc pm an cdv ct) ⟨us,[]⟩=pure (ps.zip us)):dg K fd ps []:=by
 obtain ⟨oc,od,kV,doc,pm,an,cdv,ct,osl,rfl,lk,hcd⟩:=F.ex
 exact .all (h kV doc pm an cdv ct)
theorem yb {x qual:Str} {st:Stmt} {f:Addr} {oc:Value} {od an:Option Addr} {osl:Array (Option Value)} {kV doc pm cdv ct:Value} (l:K.lookup f=some ⟨oc,od,.func (PySem.W.fnOf x qual (defArgs st) (defBody st) (defScope st) .none kV doc pm an cdv ct),osl⟩)
  (c:PySem.W.codeIn K cdv qual=true) (k:keepIn K (.ref f)=true):Fun K x qual st f (PySem.W.fnOf x qual (defArgs st) (defBody st) (defScope st) .none kV doc pm an cdv ct):=⟨⟨oc,od,kV,doc,pm,an,cdv,ct,osl,rfl,l,c⟩,k⟩
end
theorem aI {n:Nat} (h:n≤1000):n<sizeLine:=Nat.lt_of_le_of_lt h (by decide)
section
variable {X:Cx}
theorem pv (i:Nat) {x:Str} {pos:Pos} (hN:X.N[i]?=some x:=by rfl) (hv:Vis X.env.scope x:=by first | exact Or.inl rfl | exact Or.inr (Or.inl rfl) | exact Or.inr (Or.inr rfl)) (hd:(x==("__debug__":Str))=false:=by decide)
  (hcd:(x==("__classdict__":Str))=false:=by decide):PE X (.Name x pos) (zF i):=yE hN hv hd hcd
end
theorem bp {A B:Prop} (h:B):if false=true then A else B:=by
 rw [if_neg Bool.false_ne_true]
 exact h
theorem aN {A B:Prop} (h:A):if true=true then A else B:=by
 rw [if_pos rfl]
 exact h
theorem aX {c A B:Prop} [Decidable c] (h1:c→A) (h2:¬ c→B):if c then A else B:=by
 by_cases h:c
 ·rw [if_pos h]
  exact h1 h
 ·rw [if_neg h]
  exact h2 h
def ar (H H':Hp):Prop:=∀ b o,H b=some o→H' b=some o
theorem ar.refl (H:Hp):ar H H:=fun _ _ h=>h
theorem ar.trans {H H1 H2:Hp} (a:ar H H1) (b:ar H1 H2):ar H H2:=fun c o h=>b c o (a c o h)
theorem ar.free {H H':Hp} (e:ar H H') {l:Addr} (h:H' l=Option.none):H l=Option.none:=by
 cases q:H l with
 | none=>rfl
 | some o =>
  rw [e l o q] at h
  cases h
open PySem PySem.Spec PyProof.Rows
section
variable {prog:Program} {w:World} {A:Around} {R:Result→Shared→Prop} {s:Shared}
theorem nQ {elt target iter:Expr} {ifs:List Expr} {scope:Scope} {pos:Pos} {it acc:Value} {env:Env} (I:Nat→Shared→Prop)
  (turn:∀ n s,I n s→wpAny (model prog w) A (pyNext it) (fun r s₁=>match r with
   | none=>R (.ok .next) s₁
   | some v=>wpAny (model prog w) A (letOwnedTupleGo target it v) (fun _ s₁'=>wpAny (model prog w) A (assign target env v) (fun _ s₂ =>
     wpAny (model prog w) A (forIn ifs true fun c r=>if r=true then do let ok ← isTrue c env (eval c env); pure (ForInStep.yield ok) else pure (ForInStep.yield r)) (fun ok s₃ =>
      if ok=true then wpAny (model prog w) A (eval elt env) (fun x s₄ =>
       wpAny (model prog w) A (call (.builtin "list.append") [acc,x]) (fun _ s₅=>∃ m,m<n∧I m s₅) (fun _ _=>False) s₄) (fun _ _=>False) s₃
      else ∃ m,m<n∧I m s₃) (fun _ _=>False) s₂) (fun _ _=>False) s₁') (fun _ _=>False) s₁) (fun _ _=>False) s)
  (n:Nat) (h:I n s) :
  codeAny (model prog w) A (.compLoop (.ListComp elt [⟨target,iter,ifs,0⟩] scope pos) 0 it acc env) R s:=by
 refine codeAny_loop rfl I (fun n s hI=>?_) n h
 show wpAny _ A ((compTurn (.ListComp elt [⟨target,iter,ifs,0⟩] scope pos) 0 it acc env).onRaise (fun x=>do noteFrame x env; theTreesLotGoes x)) _ _ s
 refine wpAny_noted ?_
 rw [compTurn_list]
 refine wpAny_bind (wpAny_standAt (wpAny_bind (wpAny_mono (turn n s hI) (fun r s₁ h₁=>?_) fun _ _ h'=>h'.elim)))
 cases r with
 | none=>exact wpAny_pure h₁
 | some v =>
  refine wpAny_bind (wpAny_mono h₁ (fun _ s₁' h₁'=>?_) fun _ _ h'=>h'.elim)
  refine wpAny_bind (wpAny_mono h₁' (fun _ s₂ h₂=>wpAny_bind (wpAny_mono h₂ (fun ok s₃ h₃=>?_) fun _ _ h'=>h'.elim)) fun _ _ h'=>h'.elim)
  cases ok with
  | false=>exact wpAny_pure ⟨rfl,h₃⟩
  | true =>
   exact wpAny_bind (wpAny_bind (wpAny_mono h₃ (fun x s₄ h₄=>wpAny_bind (wpAny_mono h₄ (fun _ s₅ h₅=>wpAny_pure (wpAny_pure ⟨rfl,h₅⟩)) fun _ _ h'=>h'.elim)) fun _ _ h'=>h'.elim))
end
def clo (env:Env):List (Str×NameKind)→List (Str×Addr)→List (Str×Addr)
 | [],cs=>cs
 | (n,k)::r,cs=>if k==.free then (match env.cells.lookup n with
  | some c=>clo env r ((n,c)::cs)
  | none=>clo env r cs) else clo env r cs
theorem fX {scope:Scope} {env:Env} (h:∀ x∈scope.names,x.2=.free→∃ c,env.cells.lookup x.1=some c):closureFor scope env=pure (clo env scope.names []):=by
 have go:∀ (l:List (Str×NameKind)) (cs:List (Str×Addr)),(∀ x∈l,x.2=.free→∃ c,env.cells.lookup x.1=some c) →
   (forIn (m:=Sem) l cs fun x r=>if (x.2==NameKind.free)=true then do let c ← cellOf env x.1; pure (ForInStep.yield ((x.1,c)::r)) else pure (ForInStep.yield r))=pure (clo env l cs):=by
  intro l
  induction l with
  | nil=>intro cs _; rfl
  | cons x r ih =>
   intro cs hx
   obtain ⟨n,k⟩:=x
   rw [List.forIn_cons]
   unfold clo
   cases hk:k==NameKind.free with
   | true =>
    obtain ⟨c,hc⟩:=hx (n,k) List.mem_cons_self (by simpa using hk)
    simp only [hk,if_true,cellOf,hc]
    exact ih _ fun y hy=>hx y (List.mem_cons_of_mem _ hy)
   | false =>
    simp only [hk,Bool.false_eq_true,if_false]
    exact ih _ fun y hy=>hx y (List.mem_cons_of_mem _ hy)
 have e:=go scope.names [] h
 unfold closureFor
 exact congrArg (fun t:Sem (List (Str×Addr))=>t >>= fun r=>pure r) e
theorem fh {env:Env}:∀ (l:List (Str×NameKind)) (cs:List (Str×Addr)),(∀ p∈cs,env.cells.lookup p.1=some p.2)→∀ p∈clo env l cs,env.cells.lookup p.1=some p.2
 | [],cs,h,p,hp=>h p hp
 | (n,k)::r,cs,h,p,hp=>by
  unfold clo at hp
  split at hp
  ·split at hp
   ·next c hc =>
    refine fh r _ (fun q hq=>?_) p hp
    rcases List.mem_cons.mp hq with e | hq
    ·subst e; exact hc
    ·exact h q hq
   ·exact fh r cs h p hp
  ·exact fh r cs h p hp
theorem iy {env:Env}:∀ (l:List (Str×NameKind)) (cs:List (Str×Addr)),∀ p∈cs,p∈clo env l cs
 | [],_,_,hp=>hp
 | (n,k)::r,cs,p,hp=>by
  unfold clo
  split
  ·split
   ·exact iy r _ p (List.mem_cons_of_mem _ hp)
   ·exact iy r _ p hp
  ·exact iy r _ p hp
theorem jG {env:Env} {x:Str} {c:Addr} (hc:env.cells.lookup x=some c):∀ (l:List (Str×NameKind)) (cs:List (Str×Addr)),(x,NameKind.free)∈l→(x,c)∈clo env l cs
 | [],_,h=>nomatch h
 | (n,k)::r,cs,h=>by
  unfold clo
  rcases List.mem_cons.mp h with e | h
  ·cases e
   simp only [beq_self_eq_true,if_true,hc]
   exact iy r _ _ List.mem_cons_self
  ·split
   ·split
    ·exact jG hc r _ h
    ·exact jG hc r _ h
   ·exact jG hc r _ h
theorem eA {cs:List (Str×Addr)} {f:Str→Option Addr} (h:∀ p∈cs,f p.1=some p.2) {x:Str} {c:Addr} (e:cs.lookup x=some c):f x=some c:=h _ (PySem.mem_of_lookup e)
theorem ko {x:Str} {c:Addr}:∀ {cs:List (Str×Addr)},(∀ p∈cs,p.1=x→p.2=c)→(x,c)∈cs→cs.lookup x=some c
 | [],_,h=>nomatch h
 | (n,d)::r,ha,h=>by
  rw [List.lookup_cons]
  cases e:x==n with
  | true =>
   have e':x=n:=by simpa using e
   have:=ha (n,d) List.mem_cons_self e'.symm
   simp at this ⊢
   exact this
  | false =>
   rcases List.mem_cons.mp h with z | h
   ·cases z; simp at e
   ·exact ko (fun p hp=>ha p (List.mem_cons_of_mem _ hp)) h
theorem kO {env:Env} {names:List (Str×NameKind)} {x:Str} {c:Addr} (hc:env.cells.lookup x=some c) (h:(x,NameKind.free)∈names):(clo env names []).lookup x=some c :=
 ko (fun p hp e=>by have:=fh names [] (fun _ z=>nomatch z) p hp; rw [e,hc] at this; exact (Option.some.inj this).symm) (jG hc names [] h)
def slots (ρ:List (Option Nat)) (σ:St):St:=ρ.map fun o=>o.bind fun j=>(σ[j]?).join
def blk (X:Cx) (scope:Scope) (N':List Str) (C:Addr) (s₀:Shared) (H₀:Hp) (ex:List Addr):Cx :=
 { X with N:=N',s₀:=s₀,H₀:=H₀,env:=compEnvC scope (clo X.env scope.names []) C X.env,outer:=X.stack,stack:=X.stack,ex:=ex,fn:=fun _=>false,pn:=[],xe:=fun _ _=>False }
structure bo (X:Cx) (scope:Scope) (N':List Str) (ρ:List (Option Nat)) (m:Nat):Prop where
 kind:scope.kind=.function
 nocell:∀ x∈scope.names,x.2≠.cell
 names:∀ x∈scope.names,x.2=.local→scope.names.lookup x.1=some .local
 frees:∀ x∈scope.names,x.2=.free→X.env.kindOf x.1=some .cell∨X.env.kindOf x.1=some .free
 len:ρ.length=N'.length
 own:∀ (i j:Nat),ρ[i]?=some (some j)→m≤i
 slot:∀ (i j:Nat) (x:Str),ρ[i]?=some (some j)→N'[i]?=some x→X.N[j]?=some x∧(x,NameKind.free)∈scope.names
 slotNoLocal:∀ (i j:Nat) (x:Str),ρ[i]?=some (some j)→N'[i]?=some x→(relabel scope X.env).names.lookup x≠some .local
theorem dB {env:Env}:∀ {names:List (Str×NameKind)} {x:Str} {k:NameKind},(names.map fun (n,k)=>if (k==NameKind.free&&env.scope.kind==.function&&env.kindOf n==some .cell) then (n,NameKind.cell) else (n,k)).lookup x=some k→(k=.cell∨k=.free)→(∀ y∈names,y.2≠.cell)→(x,NameKind.free)∈names
 | [],_,_,h,_,_=>by simp at h
 | (n,k0)::r,x,k,h,hk,hn=>by
  rw [List.map_cons] at h
  by_cases hc:(k0==NameKind.free&&env.scope.kind==.function&&env.kindOf n==some .cell)=true
  ·simp only [hc,if_true,List.lookup_cons] at h
   cases e:x==n with
   | true =>
    have e':x=n:=by simpa using e
    have hk0:k0=.free:=by simp [Bool.and_eq_true] at hc; exact hc.1.1
    subst e'; subst hk0
    exact List.mem_cons_self
   | false =>
    rw [e] at h
    exact List.mem_cons_of_mem _ (dB h hk fun y hy=>hn y (List.mem_cons_of_mem _ hy))
  ·simp only [hc,Bool.false_eq_true,if_false,List.lookup_cons] at h
   cases e:x==n with
   | true =>
    rw [e] at h
    have e':x=n:=by simpa using e
    subst e'
    have h':k0=k:=by simpa using h
    subst h'
    rcases hk with z | z
    ·exact absurd z (hn (x,k0) List.mem_cons_self)
    ·subst z; exact List.mem_cons_self
   | false =>
    rw [e] at h
    exact List.mem_cons_of_mem _ (dB h hk fun y hy=>hn y (List.mem_cons_of_mem _ hy))
theorem mr {ρ:List (Option Nat)} {σ:St} {i:Nat} {v:V} (h:(slots ρ σ)[i]?=some (some v)):∃ j,ρ[i]?=some (some j)∧σ[j]?=some (some v):=by
 unfold slots at h
 rw [List.getElem?_map] at h
 cases e:ρ[i]? with
 | none=>rw [e] at h; cases h
 | some o =>
  rw [e] at h
  cases o with
  | none=>simp at h
  | some j =>
   refine ⟨j,rfl,?_⟩
   simp at h
   cases q:σ[j]? with
   | none=>rw [q] at h; simp at h
   | some z=>rw [q] at h; simp at h; rw [h]
section
variable {X:Cx} {pins:List (Addr×Obj)} {σ:St} {H:Hp} {s:Shared} {scope:Scope} {N':List Str} {ρ:List (Option Nat)} {m:Nat}
theorem sQ (I:Inv X pins σ H s) (B:bo X scope N' ρ m) {fp:List Addr} (hfp:∀ b∈fp,hX X pins H b) {C D:Addr} {h1:Heap} {tk:Nat} {oD:Obj} {mC:Str→Option Value} (hC:s.heap.objs.size≤C) (hD:s.heap.objs.size≤D) (hDC:D≠C)
  (hfs:∀ b∈fp,b<s.heap.objs.size) (old:∀ b o,s.heap.get? b=some o→h1.get? b=some o) (hns:h1.Ns C mC) (hoD:h1.get? D=some oD) (hdD:∀ v,oD.data≠.cell v) :
  Inv (blk X scope N' C s H fp) [(D,oD)] (slots ρ σ) H { s with heap:=h1,toks:=tk }:=by
 have hcl:∀ x c,(clo X.env scope.names []).lookup x=some c→X.env.cells.lookup x=some c:=fun x c e=>eA (f:=fun y=>X.env.cells.lookup y) (fh scope.names [] fun _ z=>nomatch z) e
 have nofs:∀ b,s.heap.objs.size≤b→b∉frs X.stack:=fun b hb z=>by
  rcases List.mem_cons.mp (I.stkSub b z) with e | z
  ·exact absurd (Nat.lt_of_lt_of_le I.lt hb) (by rw [e]; exact Nat.lt_irrefl _)
  ·exact I.nofs hb z
 have lk:∀ x,((relabel scope X.env).names.lookup x=some .cell∨(relabel scope X.env).names.lookup x=some .free)→(x,NameKind.free)∈scope.names:=fun x hx=>by
  rcases hx with hx | hx
  ·exact dB hx (.inl rfl) B.nocell
  ·exact dB hx (.inr rfl) B.nocell
 refine ⟨⟨I.ok.mod,B.kind,I.ok.glob,I.ok.blt,hC,fun x y c h1 h2=>I.ok.inj x y c (hcl x c h1) (hcl y c h2),fun x hx=>?_,fun x c hf _=>absurd hf Bool.false_ne_true,I.ok.hd,I.ok.frames,.inl rfl,fun b hb=>⟨Nat.ne_of_lt (Nat.lt_of_lt_of_le (hfs b hb) hC),fun x c e=>(hfp b hb).2.2.2.2.1 x c (hcl x c e)⟩,I.bs,Nat.le_trans I.ok.bsz I.sz,fun b o e hb=>?_,fun b hb z=>?_,I.stack,I.stkFree⟩,
  rfl,I.bare,Un.kept old,⟨mC,hns,fun i x v h1 h2 h3=>?_⟩,fun x c e=>?_,I.hok.fresh hC,fun x c e=>I.freeC x c (hcl x c e),fun p hp=>?_,I.hok.kept old,?_⟩
 ·have hm:=lk x hx
  obtain ⟨c,hc⟩:=I.ok.has x (B.frees _ hm rfl)
  exact ⟨c,kO hc hm⟩
 ·rcases (hfp b hb).2.2.2.1 with z | z
  ·exact I.ok.noex b o e z
  ·exact absurd (Nat.lt_of_lt_of_le (Heap.lt_size (I.ok.bs b o e).1) z) (Nat.lt_irrefl _)
 ·rcases List.mem_cons.mp (I.stkSub b z) with e | z
  ·exact (hfp b hb).2.1 e
  ·exact (hfp b hb).2.2.1 z
 ·obtain ⟨j,hj,hσ⟩:=mr h2
  obtain ⟨hN,hm⟩:=B.slot i j x hj h1
  have hk:=B.frees _ hm rfl
  obtain ⟨m0,hn0,hl⟩:=I.loc
  obtain ⟨u,r,l⟩:=hl j x v hN hσ (hk.elim (fun z=>.inr (.inl z)) fun z=>.inr (.inr z))
  rcases l with ⟨z,_⟩ | ⟨_,c,hc,hcell⟩
  ·rcases hk with q | q
   ·rw [q] at z; cases z
   ·rw [q] at z; cases z
  ·refine ⟨u,r,.inr ⟨?_,c,kO hc hm,?_⟩⟩
   ·rcases h3 with z | z | z
    ·-- a free name is no local of the block
     exfalso
     have q:(relabel scope X.env).names.lookup x=some .local:=z
     exact (B.slotNoLocal i j x hj h1 q)
    ·exact .inl z
    ·exact .inr z
   ·obtain ⟨o,ho,hd⟩:=hcell
    exact ⟨o,old _ _ ho,hd⟩
 ·obtain ⟨v,o,ho,hd⟩:=I.cell x c (hcl x c e)
  exact ⟨v,o,old _ _ ho,hd⟩
 ·have e:p=(D,oD):=by
   have hp':p∈([]:List (Addr×Obj))++[(D,oD)]:=hp
   simpa using hp'
  subst e
  exact ⟨hoD,I.hok.fresh hD,hDC,nofs D hD,hdD⟩
 ·show (slots ρ σ).length=N'.length
  unfold slots
  rw [List.length_map]
  exact B.len
end
def PTs (Y:Cx) (ifs:List Expr) (t:TT):Prop :=
 ∀ (pins:List (Addr×Obj)) (s:Shared) (σ:St) (H:Hp) (Q:Bool→Hp→Prop),Inv Y pins σ H s→t σ H Q →
  wpAny (model Y.prog Y.w) Y.A (forIn ifs true fun c r=>if r=true then do let ok ← isTrue c Y.env (eval c Y.env); pure (ForInStep.yield ok) else pure (ForInStep.yield r)) (TP Y pins σ Q) Y.xe s
def xR:TT:=fun _ H Q=>Q true H
theorem bg {Y:Cx}:PTs Y [] xR:=fun _ _ _ H _ I h=>wpAny_tests_nil ⟨H,I,h⟩
theorem jH {Y:Cx} {c:Expr} {t:TT} (h:PT Y c t):PTs Y [c] t:=fun pins s σ H Q I q=>wpAny_tests_one (h pins s σ H Q I q)
def jf (J:It) (m:Nat) (g:TG) (tt:TT) (te:TE) (σ':St) (Z:List V→Hp→Prop) (H1:Hp):Prop :=
 ∃ W:Nat→Nat→List V→Hp→Prop,(∃ k,W 0 k [] H1)∧∀ i k acc H,W i k acc H→acc.length≤sizeLine ∧
  ((J.stop i H∧Z acc H)∨(J.go i H∧∀ x H',J.yld i H x H'→g x σ' H' fun σ2 H2=>(σ2.drop m=σ'.drop m∧σ2.length=σ'.length) ∧
    tt σ2 H2 fun b H3=>if b=true then te σ2 H3 fun v H4=>acc.length<sizeLine∧∃ k',k'<k∧W (i+1) k' (acc++[v]) H4 else ∃ k',k'<k∧W (i+1) k' acc H3))
def xK (wi:TI) (ρ:List (Option Nat)) (m:Nat) (g:TG) (tt:TT) (te:TE):TE:=fun σ H Q=>wi σ H fun J H1 =>
 jf J m g tt te (slots ρ σ) (fun acc H=>∀ D,H D=none→Q (.ref D) (upd H D (.lst acc))) H1
theorem we {σ σ':St} {m:Nat} (h:σ.drop m=σ'.drop m) {i:Nat} (hi:m≤i):σ[i]?=σ'[i]?:=by
 have e:(σ.drop m)[i - m]?=(σ'.drop m)[i - m]?:=by rw [h]
 rw [List.getElem?_drop,List.getElem?_drop] at e
 rwa [show m+(i - m)=i by omega] at e
section
variable {X:Cx} {pins:List (Addr×Obj)} {σ:St} {H2:Hp} {s2:Shared} {scope:Scope} {N':List Str} {ρ:List (Option Nat)} {m:Nat} {elt tg iter:Expr} {ifs:List Expr} {g:TG} {tt:TT} {te:TE} {pos:Pos}
theorem rK (hc:X.calm=true) (B:bo X scope N' ρ m) (hg:∀ C s₀ H₀ ex,PG (blk X scope N' C s₀ H₀ ex) tg g) (ht:∀ C s₀ H₀ ex,PTs (blk X scope N' C s₀ H₀ ex) ifs tt) (he:∀ C s₀ H₀ ex,PE (blk X scope N' C s₀ H₀ ex) elt te)
  {J:It} {fp:List Addr} {it:Addr} {tn:Nat→Heap→Prop} {Z:List V→Hp→Prop} (I:Inv X pins σ H2 s2) (T:nX X.prog X.w X.K tg J fp it tn) (st:tn 0 s2.heap) (hfp:∀ b∈fp,hX X pins H2 b) (hL:jf J m g tt te (slots ρ σ) Z H2)
  {RR:Value→Addr→Result→Shared→Prop} {E:Value→Shared→Prop}
  (fin:∀ (D C:Addr) (H':Hp) (acc:List V) (s':Shared) (mC:Str→Option Value),s'.heap.Ns C mC→Inv X pins σ (upd H' D (.lst acc)) s'→hX X pins (upd H' D (.lst acc)) C→H' D=none→Z acc H'→RR (.ref D) C (.ok .next) s') :
  wpAny (model X.prog X.w) X.A (newList []) (fun acc s₃=>wpAny (model X.prog X.w) X.A (newFunctionEnv scope X.env.globals (clo X.env scope.names []) [] X.env.qual none .none (some X.env)) (fun cenv s₄ =>
   codeAny (model X.prog X.w) X.A (.compStart (.ListComp elt [⟨tg,iter,ifs,0⟩] scope pos) 0 (.ref it) acc { cenv with scope:=relabel scope X.env }) (RR acc cenv.locals) s₄) E s₃) E s2:=by
 refine wpAny_newObj_type (wpAny_newFunctionEnv B.nocell (by intro y hy; simp at hy) (fun h₁ hns₁ hsb₁=>?_) B.kind)
 dsimp only at hns₁ hsb₁ ⊢
 generalize hHp:s2.heap.push { cls:=.type "list",dict:=none,data:=.seq ([]:List Value).toArray }=Hp2 at hns₁ hsb₁ ⊢
 have hCe:Hp2.objs.size=s2.heap.objs.size+1:=by rw [← hHp,Heap.size_push]
 have hDC:s2.heap.objs.size≠Hp2.objs.size:=by rw [hCe]; exact Nat.ne_of_lt (Nat.lt_succ_self _)
 have hCle:s2.heap.objs.size≤Hp2.objs.size:=by rw [hCe]; exact Nat.le_succ _
 have below:∀ b,b<s2.heap.objs.size→b≠Hp2.objs.size∧b≠s2.heap.objs.size:=fun b hb=>⟨by rw [hCe]; exact Nat.ne_of_lt (Nat.lt_succ_of_lt hb),Nat.ne_of_lt hb⟩
 have old:∀ b o,s2.heap.get? b=some o→h₁.get? b=some o:=fun b o e=>hsb₁.extBut b o (below b (Heap.lt_size e)).1 (Heap.get?_push_of_some _ (hHp ▸ Heap.get?_push_of_some _ e))
 have hfs:∀ b∈fp,b<s2.heap.objs.size:=fun b hb=>let ⟨o,e,_⟩:=T.obj 0 _ st b hb; Heap.lt_size e
 generalize hDn:s2.heap.objs.size=D at *
 generalize hCn:Hp2.objs.size=C at *
 have hacc:h₁.get? D=some { cls:=.type "list",data:=.seq ([]:List Value).toArray }:=hsb₁.extBut _ _ hDC (Heap.get?_push_of_some _ (by rw [← hHp,← hDn]; exact Heap.get?_push_size _ rfl))
 have st₁:tn 0 h₁:=T.keep _ _ _ st fun b _ o e=>old b o e
 obtain ⟨W,⟨k0,w0⟩,turn⟩:=hL
 have cellLt:∀ x c,(clo X.env scope.names []).lookup x=some c→c<s2.heap.objs.size:=fun x c e=>by
  have e':X.env.cells.lookup x=some c:=eA (f:=fun y=>X.env.cells.lookup y) (fh scope.names [] fun _ z=>nomatch z) e
  obtain ⟨v,o,ho,_⟩:=I.cell x c e'
  exact Heap.lt_size ho
 have stat:∀ {H':Hp} {o:Obj},(∀ b∈fp,H' b=none)→∀ b∈fp,hX (blk X scope N' C s2 H2 fp) [(D,o)] H' b:=fun {H' o} hn b hb=>by
  obtain ⟨_,f1,f2,_,f4,_⟩:=hfp b hb
  refine ⟨hn b hb,(below b (hfs b hb)).1,fun z=>?_,.inl hb,fun x c e=>f4 x c (eA (f:=fun y=>X.env.cells.lookup y) (fh scope.names [] fun _ z=>nomatch z) e),fun p hp=>?_⟩
  ·rcases List.mem_cons.mp (I.stkSub b z) with e | z
   ·exact f1 e
   ·exact f2 z
  ·have e:p=(D,o):=by
    have hp':p∈([]:List (Addr×Obj))++[(D,o)]:=hp
    simpa using hp'
   subst e
   exact Ne.symm (below b (hfs b hb)).2
 have loop:∀ s₃:Shared,s₃={ s2 with heap:=h₁,toks:=s2.toks+([]:List (Str×Value)).length } →
   codeAny (model X.prog X.w) X.A (.compLoop (.ListComp elt [⟨tg,iter,ifs,0⟩] scope pos) 0 (.ref it) (.ref D) (compEnvC scope (clo X.env scope.names []) C X.env)) (RR (.ref D) C) s₃:=by
  rintro s₃ rfl
  have I₁:Inv (blk X scope N' C s2 H2 fp) [(D,{ cls:=.type "list",data:=.seq ([]:List Value).toArray })] (slots ρ σ) H2 { s2 with heap:=h₁,toks:=s2.toks+([]:List (Str×Value)).length } :=
   sQ I B hfp (by rw [hDn]; exact hCle) (by rw [hDn]; exact Nat.le_refl _) hDC (fun b hb=>by rw [hDn]; exact hfs b hb) old hns₁ hacc (fun v z=>by cases z)
  refine nQ (fun n s'=>∃ (i:Nat) (acc:List V) (H':Hp) (its:List Value) (kk:Nat),Inv (blk X scope N' C s2 H2 fp) [(D,{ cls:=.type "list",data:=.seq its.toArray kk })] (slots ρ σ) H' s'∧aQ acc its∧tn i s'.heap∧(∀ b∈fp,H' b=none)∧W i n acc H') ?_ k0
   ⟨0,[],H2,[],_,I₁,.nil,st₁,fun b hb=>(hfp b hb).1,w0⟩
  rintro n s3 ⟨i,acc,H3,its,kk,I3,rv,st3,fr3,w3⟩
  obtain ⟨hlen,cs⟩:=turn i n acc H3 w3
  rcases cs with ⟨stop,z⟩ | ⟨go,step⟩
  ·refine thn (T.done (blk X scope N' C s2 H2 fp) rfl rfl rfl hc i _ s3 (slots ρ σ) H3 (fun _ _=>False) I3 (stat fr3) st3 stop) fun r s4 ⟨hr,I4⟩=>?_
   subst hr
   obtain ⟨eD,nD,_,_,_⟩:=I4.pin (D,_) (List.mem_append_right _ (List.mem_singleton.mpr rfl))
   obtain ⟨mC,hnsC,_⟩:=I4.loc
   have hD2:H2 D=none:=I.hok.fresh (by rw [hDn]; exact Nat.le_refl _)
   have u:Un (frs X.stack) fp H2 (upd H3 D (.lst acc)) s2.heap s4.heap :=
    ⟨I4.base.keep,I4.base.slot,fun b o e n hx=>by rw [bc (below b (by rw [← hDn]; exact Heap.lt_size e)).2]; exact I4.base.free b o e n hx,I4.base.there,
     fun b xs e=>by rw [bc (aq e hD2)]; exact I4.base.tups b xs e,fun b o u e=>by rw [bc (aq e hD2)]; exact I4.base.frzs b o u e,
     fun b ps e=>by rw [bc (aq e hD2)]; exact I4.base.tbls b ps e⟩
   have hok:HOk X.prog X.w (upd H3 D (.lst acc)) s4.heap:=fun b o e=>by
    by_cases hb:b=D
    ·subst hb
     rw [ad] at e; cases e
     exact ⟨hlen,its,kk,rv,eD⟩
    ·rw [bc hb] at e
     exact (I4.hok b o e).stay (fun c v _ q=>q) (fun c q=>by rw [bc (aq q nD)]; exact q) fun c xs q=>by rw [bc (aq q nD)]; exact q
   have IX:Inv X pins σ (upd H3 D (.lst acc)) s4:=Inv.call' (ch:=fp) I I4.os u hok I4.bare fun b hb=>⟨(hfp b hb).2.2.2.1,(hfp b hb).2.1,(hfp b hb).2.2.2.2.1,(hfp b hb).2.2.2.2.2⟩
   have nC:(upd H3 D (.lst acc)) C=none:=by rw [bc (Ne.symm hDC)]; exact I4.free
   exact fin D C H3 acc s4 mC hnsC IX (I.fpOk (by rw [hDn]; exact hCle) nC) nD z
  ·refine thn (T.item (blk X scope N' C s2 H2 fp) rfl rfl rfl hc i _ s3 (slots ρ σ) H3 (fun _ _=>False) I3 (stat fr3) st3 go) fun r s4 ⟨u,hr,h4⟩=>?_
   subst hr
   refine thn h4 fun _ s5 ⟨x,H5,I5,r5,y5,st5,fr5⟩=>?_
   have I5':=I5.pinned (stat fr5) (T.obj _ _ st5)
   refine thn (hg C s2 H2 fp _ s5 (slots ρ σ) H5 x u _ I5' r5 (step x H5 y5)) fun _ s6 ⟨σ6,H6,I6,⟨d6,l6⟩,q6⟩=>?_
   refine thn (ht C s2 H2 fp _ s6 σ6 H6 _ I6 q6) fun b s7 ⟨H7,I7,q7⟩=>?_
   have le6:∀ (j:Nat) v,(slots ρ σ)[j]?=some (some v)→σ6[j]?=some (some v):=fun j v e=>by
    obtain ⟨k,hk,_⟩:=mr e
    rw [we d6 (B.own j k hk)]
    exact e
   have kept:∀ {H8:Hp} {s8:Shared},Inv (blk X scope N' C s2 H2 fp) ([(D,{ cls:=.type "list",data:=.seq its.toArray kk })]++iW fp s5.heap) σ6 H8 s8 →
     (∀ b∈fp,∀ o,s5.heap.get? b=some o→s8.heap.get? b=some o)∧∀ b∈fp,H8 b=none:=fun {H8 s8} I8 =>
    ⟨fun b hb o e=>(I8.pin (b,o) (List.mem_append_right _ (List.mem_append_right _ (dQ hb e)))).1,fun b hb=>by
     obtain ⟨o,e,d⟩:=T.obj _ _ st5 b hb
     exact (I8.pin (b,o) (List.mem_append_right _ (List.mem_append_right _ (dQ hb e)))).2.1⟩
   cases b with
   | false =>
    rw [if_neg Bool.false_ne_true] at q7 ⊢
    obtain ⟨k',hk,w7⟩:=q7
    exact ⟨k',hk,i+1,acc,H7,its,kk,I7.unpinned.weak l6.symm le6,rv,T.keep _ _ _ st5 (kept I7).1,(kept I7).2,w7⟩
   | true =>
    rw [if_pos rfl] at q7 ⊢
    refine thn (he C s2 H2 fp _ s7 σ6 H7 _ I7 q7) fun xv s8 ⟨v,H8,I8,r8,q8⟩=>?_
    obtain ⟨hlt,k',hk,w8⟩:=q8
    obtain ⟨eD,nD,neD,nfD,_⟩:=I8.pin (D,_) (List.mem_append_right _ (List.mem_append_left _ (List.mem_singleton.mpr rfl)))
    have hsz:its.toArray.size≤sizeLine:=by rw [List.size_toArray,← rv.length]; exact hlen
    refine wpAny_list_append_plain (hsz:=hsz) ⟨kk,eD⟩ fun h₉ hl₉ hs₉=>?_
    obtain ⟨kk',e9⟩:=hl₉
    have I8':Inv (blk X scope N' C s2 H2 fp) [] σ6 H8 s8:=I8.pins_of fun p hp=>nomatch hp
    have I9:Inv (blk X scope N' C s2 H2 fp) [] σ6 H8 { s8 with heap:=h₉,toks:=s8.toks }:=I8'.turned (it:=D) (fun b o hb e=>hs₉.extBut b o hb e) nD hDC (.inr (Nat.le_of_eq hDn))
     (fun x c e z=>by have q:=cellLt x c e; rw [hDn,z] at q; exact Nat.lt_irrefl _ q) fun p hp=>nomatch (show p∈([]:List (Addr×Obj)) from hp)
    have e9':h₉.get? D=some { cls:=.type "list",data:=.seq (its++[xv]).toArray kk' }:=by rw [e9,List.push_toArray]
    have I9':Inv (blk X scope N' C s2 H2 fp) [(D,{ cls:=.type "list",data:=.seq (its++[xv]).toArray kk' })] (slots ρ σ) H8 { s8 with heap:=h₉,toks:=s8.toks } :=
     (I9.weak l6.symm le6).pins_of fun p hp=>by
      have e:p=(D,_):=List.mem_singleton.mp hp
      subst e
      exact ⟨e9',nD,hDC,nfD,fun v z=>by cases z⟩
    refine ⟨k',hk,i+1,acc++[v],H8,its++[xv],kk',I9',rv.append (.cons r8 .nil),T.keep _ _ _ st5 fun b hb o e=>?_,(kept I8).2,w8⟩
    exact hs₉.extBut b o (below b (hfs b hb)).2 ((kept I8).1 b hb o e)
 exact codeAny_compStart_list (loop _ rfl) (T.self _ 0 _ _ _ st₁ (loop _ rfl))
theorem aW {wi:TI} (B:bo X scope N' ρ m) (hc:X.calm=true) (hi:PI X tg iter wi) (hg:∀ C s₀ H₀ ex,PG (blk X scope N' C s₀ H₀ ex) tg g) (ht:∀ C s₀ H₀ ex,PTs (blk X scope N' C s₀ H₀ ex) ifs tt) (he:∀ C s₀ H₀ ex,PE (blk X scope N' C s₀ H₀ ex) elt te)
  (hs:∀ x,foldedSetIterable iter X.env x=pure x:=by intro _; rfl):PE X (.ListComp elt [⟨tg,iter,ifs,0⟩] scope pos) (xK wi ρ m g tt te):=by
 intro pins s σ H Q I h
 rw [eval_ListComp]
 refine wpAny_comprehension_free (use:=none) rfl hs (fX fun x hx hf=>I.ok.has x.1 (B.frees x hx hf)) B.kind B.names (thn (hi pins s σ H _ I h) fun v s1 h1=>thn h1 fun itv s2 h2=>?_)
 obtain ⟨it,fp,tn,J,H2,e,I2,T,st2,f2,hL⟩:=h2
 subst e
 refine rK (RR:=fun acc C=>compPost (model X.prog X.w) X.A X.xe none (EP X pins σ Q) acc C) hc B hg ht he I2 T st2 f2 hL fun D C H' acc s' mC hns IX fC nD z=>?_
 refine ⟨mC,hns,fun h' hs'=>⟨.ref D,_,IX.turned (t':=s'.toks) (it:=C) (fun b o hb e=>hs'.extBut b o hb e) fC.1 fC.2.1 fC.2.2.2.1 fC.2.2.2.2.1 fC.2.2.2.2.2,rfl,z D nD⟩⟩
theorem rE {wi:TI} {i:Nat} {y:Str} {py spos:Pos} (B:bo X scope N' ρ m) (hN:X.N.Nodup) (hi':X.N[i]?=some y) (hy:Loc X.env.scope y) (hc:X.calm=true) (hi:PI X tg iter wi) (hg:∀ C s₀ H₀ ex,PG (blk X scope N' C s₀ H₀ ex) tg g) (ht:∀ C s₀ H₀ ex,PTs (blk X scope N' C s₀ H₀ ex) ifs tt) (he:∀ C s₀ H₀ ex,PE (blk X scope N' C s₀ H₀ ex) elt te)
  (hsw:swapsWith (.ListComp elt [⟨tg,iter,ifs,0⟩] scope pos) (some (.Name y py)) spos.line X.env=pure true:=by rfl)
  (hs:∀ x,foldedSetIterable iter X.env x=pure x:=by intro _; rfl) (hf:X.fn y=true∨X.env.scope.names.lookup y=some .local:=by first | exact .inl rfl | exact .inr rfl | assumption) :
  PS X (.Assign [.Name y py] (.ListComp elt [⟨tg,iter,ifs,0⟩] scope pos) spos) (yk (xK wi ρ m g tt te) (my i)):=by
 intro pins s σ H D I h
 rw [exec_Assign_Name_used _ _ _ _ hsw]
 refine wpAny_bind (wpAny_standAt (wpAny_bind ?_))
 show wpAny _ X.A (do let _ ← comprehension (.ListComp elt [⟨tg,iter,ifs,0⟩] scope pos) scope X.env _ (newList []) false (eval iter X.env) (some (assign (.Name y py) X.env))) _ _ s
 refine wpAny_bind (wpAny_mono (wpAny_comprehension_free (use:=some (assign (.Name y py) X.env)) (Q:=fun _ s'=>SP X pins D .next s') rfl hs (fX fun x hx hf=>I.ok.has x.1 (B.frees x hx hf)) B.kind B.names
  (thn (hi pins s σ H _ I h) fun v s1 h1=>thn h1 fun itv s2 h2=>?_)) (fun _ s' hq=>wpAny_pure (wpAny_pure hq)) fun _ _ e=>e)
 obtain ⟨it,fp,tn,J,H2,e,I2,T,st2,f2,hL⟩:=h2
 subst e
 refine rK (RR:=fun acc C=>compPost (model X.prog X.w) X.A X.xe (some (assign (.Name y py) X.env)) (fun _ s'=>SP X pins D .next s') acc C) hc B hg ht he I2 T st2 f2 hL fun Dl C H' acc s' mC hns IX fC nD z=>?_
 show wpAny _ X.A (assign (.Name y py) X.env (.ref Dl)) _ _ _
 obtain ⟨oC,es,ep,hoC,hdC,hrC⟩:=id hns
 have IX':Inv X (pins++iW [C] s'.heap) σ (upd H' Dl (.lst acc)) s':=IX.pinned (fp:=[C]) (fun b hb=>by rw [List.mem_singleton.mp hb]; exact fC) fun b hb=>by
  rw [List.mem_singleton.mp hb]
  exact ⟨oC,hoC,fun v q=>by rw [hdC] at q; cases q⟩
 refine wpAny_assign_Name (lp IX' hN hi' hy (v:=.ref Dl) rfl (fun s'' I''=>?_) hf)
 have pC:=I''.pin (C,oC) (List.mem_append_right _ (List.mem_append_right _ (dQ (List.mem_singleton.mpr rfl) hoC)))
 refine ⟨mC,⟨oC,es,ep,pC.1,hdC,hrC⟩,fun h' hs'=>?_⟩
 exact ⟨_,_,I''.unpinned.turned (t':=s''.toks) (it:=C) (fun b o hb e=>hs'.extBut b o hb e) fC.1 fC.2.1 fC.2.2.2.1 fC.2.2.2.2.1 fC.2.2.2.2.2,z Dl nD⟩
end
open PySem PySem.Spec PyProof.Rows
mutual
inductive RdD (K:Frag) (H:Hp):V→PyData→Prop
 | non:RdD K H .non .none
 | bl (b:Bool):RdD K H (.bl b) (.bool b)
 | int (i:Int):RdD K H (.int i) (.int i)
 | str (x:Str):RdD K H (.str x) (.str x)
 | lst {a:Addr} {xs:List V} {ds:List PyData}:SqL K H a xs→eW K H xs ds→RdD K H (.ref a) (.list ds)
 | tup {a:Addr} {xs:List V} {ds:List PyData}:SqT K H a xs→eW K H xs ds→RdD K H (.ref a) (.tuple ds)
inductive eW (K:Frag) (H:Hp):List V→List PyData→Prop
 | nil:eW K H [] []
 | cons {x:V} {xs:List V} {d:PyData} {ds:List PyData}:RdD K H x d→eW K H xs ds→eW K H (x::xs) (d::ds)
end
section
variable {X:Cx} {pins:List (Addr×Obj)} {σ:St} {H:Hp} {s:Shared}
mutual
theorem RdD.reads (I:Inv X pins σ H s):∀ {x:V} {d:PyData} {u:Value},RdD X.K H x d→bq x u→∃ as,Reads s.heap u d as
 | _,_,_,.non,r=>by cases r; exact ⟨_,.none⟩
 | _,_,_,.bl b,r=>by cases r; exact ⟨_,.bool b⟩
 | _,_,_,.int i,r=>by obtain ⟨t,rfl⟩:=r; exact ⟨_,.int i t⟩
 | _,_,_,.str x,r=>by obtain ⟨t,rfl⟩:=r; exact ⟨_,.str x t⟩
 | _,_,_,.lst h q,r=>by
  cases r
  obtain ⟨its,rv,p,_⟩:=I.list h
  obtain ⟨as,ra⟩:=eW.reads I q rv
  obtain ⟨o,ho,hc,n,hd⟩:=p.isList
  exact ⟨_,.list ho hc hd (by simpa using ra)⟩
 | _,_,_,.tup h q,r=>by
  cases r
  obtain ⟨its,rv,p,_⟩:=I.tuple h
  obtain ⟨as,ra⟩:=eW.reads I q rv
  obtain ⟨o,ho,hc,n,hd⟩:=p
  exact ⟨_,.tuple ho hc hd (by simpa using ra)⟩
theorem eW.reads (I:Inv X pins σ H s):∀ {xs:List V} {ds:List PyData} {us:List Value},eW X.K H xs ds→aQ xs us→∃ as,ReadsAll s.heap us ds as
 | _,_,_,.nil,.nil=>⟨_,.nil⟩
 | _,_,_,.cons q r,.cons q' r'=>by
  obtain ⟨as,ra⟩:=RdD.reads I q q'
  obtain ⟨bs,rb⟩:=eW.reads I r r'
  exact ⟨_,.cons ra rb⟩
end
end
section
variable {X:Cx}
def Ai (K:Frag) (neg:Bool):R2:=fun x y H Q=>∃ d e,RdD K H x d∧RdD K H y e∧SeqAt.shaped d=true∧SeqAt.shaped e=true∧Q (.bl (if neg then !PyData.eqv d e else PyData.eqv d e)) H
theorem yQ (hu:X.A.units+64<cLine):OpR X (compareOp .Eq) (Ai X.K false):=by
 intro pins s σ H x y v u Q I rx ry h
 obtain ⟨d,e,hd,he,sd,se,q⟩:=h
 obtain ⟨as,ra⟩:=hd.reads I rx
 obtain ⟨bs,rb⟩:=he.reads I ry
 exact eq_dataH ra rb sd se hu (bh I q rfl)
def tV (K:Frag):R2:=fun x y H Q=>∃ a b ys,x=.ref a∧y=.ref b∧SqT K H a []∧SqT K H b ys∧Q (.ref b) H
theorem vQ:OpR X (binaryOp .Add) (tV X.K):=by
 intro pins s σ H x y v u Q I rx ry h
 obtain ⟨a,b,ys,rfl,rfl,ha,hb,q⟩:=h
 cases rx
 cases ry
 obtain ⟨its,r1,p1,_⟩:=I.tuple ha
 obtain ⟨its2,r2,p2,_⟩:=I.tuple hb
 cases r1
 obtain ⟨⟨cls,dd,data,sl⟩,ho,hc,n,hd⟩:=id p1
 obtain ⟨⟨cls2,dd2,data2,sl2⟩,ho2,hc2,n2,hd2⟩:=id p2
 simp only at hc hd hc2 hd2
 subst hc hd hc2 hd2
 exact concat_meets ⟨_,ho,rfl⟩ ⟨_,ho2,rfl⟩ noFill_tuple_add seq_tuple_add PySem.F.slot_tuple_add PySem.F.entry_tuple_add (PySem.F.args_tuple_add_2 _ _)
  (tuple_addW0 a b _ its2.toArray n n2 dd dd2 sl sl2 rfl) ⟨ho,ho2,⟨.ref b,H,I,rfl,q⟩⟩
def zQ (K:Frag):List V→Hp→VK→Prop:=fun xs H Q=>∃ x T t b,xs=[x,.ty T]∧iY K H x t∧PySem.W.kitOne K t (.type T)=some b∧Q (.bl b) H
theorem bm:bE X (.builtin "isinstance") (zQ X.K):=by
 intro pins s σ H xs us Q I r h
 obtain ⟨x,T,t,b,rfl,ht,hk,q⟩:=h
 obtain ⟨u,c,rfl,ru,rc⟩:=nU r
 cases (show c=Value.type T from rc)
 exact tw I ru ht hk fun tk=>⟨.bl b,H,I.tok tk,rfl,q⟩
end
def Its (z:Str):It:=⟨fun i _=>i<z.cps.size,fun i H x H'=>H'=H∧∃ c,z.cps[i]?=some c∧x=.str ⟨#[c]⟩,fun i _=>z.cps.size≤i⟩
theorem qo {P:Program} {w:World} {K:Frag} {tg:Expr} (it:Addr) (z:Str) (t:Tok):nX P w K tg (Its z) [it] it (fun i h=>h.IsStrIter it "str_ascii_iterator" z t i) where
 mem:=by simp
 obj:=fun i h st b hb=>by
  have e:b=it:=by simpa using hb
  subst e
  obtain ⟨o,e,c,d⟩:=st
  exact ⟨o,e,fun v z=>by rw [d] at z; cases z⟩
 keep:=fun i h h' st k=>let ⟨o,e,r⟩:=st; ⟨o,k it (by simp) o e,r⟩
 item:=by
  intro X hP hw hK hc i pins s σ H E I hf st hg
  subst hP hw hK
  have hi:i<z.cps.size:=hg
  obtain ⟨f0,f1,f2,f3,f4,f5⟩:=hf it (by simp)
  refine wpAny_pyNext_ascii_item st (c:=z.cps[i]) (by simp [hi]) fun h' st' sb=>?_
  have I1:Inv X pins σ H { s with heap:=h',toks:=s.toks+1 }:=I.turned (t':=s.toks+1) (fun b o hb e=>(sb.2 b hb).trans e) f0 f1 f3 f4 f5
  obtain ⟨o,e,c,d⟩:=id st'
  exact ⟨_,rfl,nL (s:={ s with heap:=h',toks:=s.toks+1 }) e c d (by decide) ⟨.str ⟨#[z.cps[i]]⟩,H,I1,⟨_,rfl⟩,⟨rfl,z.cps[i],by simp [hi],rfl⟩,st',fun b hb=>(hf b hb).1⟩⟩
 done:=by
  intro X hP hw hK hc i pins s σ H E I hf st hg
  subst hP hw hK
  have hi:z.cps.size≤i:=hg
  obtain ⟨f0,f1,f2,f3,f4,f5⟩:=hf it (by simp)
  exact wpAny_pyNext_ascii_end (I.ok.hd hc) st (by simp [hi]) fun h' eb=>⟨rfl,I.turned (t':=s.toks) (fun b o hb e=>eb b o hb e) f0 f1 f3 f4 f5⟩
 self:=fun _ _ _ _ _ st h=>wpAny_pyIter_striter_ascii st h
theorem sw {P:Program} {w:World} {K:Frag} {tg:Expr} (it:Addr) (z:Str) (t:Tok):nX P w K tg (Its z) [it] it (fun i h=>h.IsStrIter it "str_iterator" z t i) where
 mem:=by simp
 obj:=fun i h st b hb=>by
  have e:b=it:=by simpa using hb
  subst e
  obtain ⟨o,e,c,d⟩:=st
  exact ⟨o,e,fun v z=>by rw [d] at z; cases z⟩
 keep:=fun i h h' st k=>let ⟨o,e,r⟩:=st; ⟨o,k it (by simp) o e,r⟩
 item:=by
  intro X hP hw hK hc i pins s σ H E I hf st hg
  subst hP hw hK
  have hi:i<z.cps.size:=hg
  obtain ⟨f0,f1,f2,f3,f4,f5⟩:=hf it (by simp)
  refine wpAny_pyNext_wide_item st (c:=z.cps[i]) (by simp [hi]) fun h' st' sb=>?_
  have I1:Inv X pins σ H { s with heap:=h',toks:=s.toks+1 }:=I.turned (t':=s.toks+1) (fun b o hb e=>(sb.2 b hb).trans e) f0 f1 f3 f4 f5
  obtain ⟨o,e,c,d⟩:=id st'
  exact ⟨_,rfl,nL (s:={ s with heap:=h',toks:=s.toks+1 }) e c d (by decide) ⟨.str ⟨#[z.cps[i]]⟩,H,I1,⟨_,rfl⟩,⟨rfl,z.cps[i],by simp [hi],rfl⟩,st',fun b hb=>(hf b hb).1⟩⟩
 done:=by
  intro X hP hw hK hc i pins s σ H E I hf st hg
  subst hP hw hK
  have hi:z.cps.size≤i:=hg
  obtain ⟨f0,f1,f2,f3,f4,f5⟩:=hf it (by simp)
  exact wpAny_pyNext_wide_end (I.ok.hd hc) st (by simp [hi]) fun h' eb=>⟨rfl,I.turned (t':=s.toks) (fun b o hb e=>eb b o hb e) f0 f1 f3 f4 f5⟩
 self:=fun _ _ _ _ _ st h=>wpAny_pyIter_striter_wide st h
section
variable {X:Cx} {tg:Expr}
def AB (tl:TE):TI:=fun σ H R=>tl σ H fun x H1=>∃ z,x=.str z∧R (Its z) H1
theorem kn {l:Expr} {tl:TE} (hl:PE X l tl):PI X tg l (AB tl):=by
 intro pins s σ H R I h
 refine thn (hl pins s σ H _ I h) fun v s1 ⟨x,H1,I1,r1,q1⟩=>?_
 obtain ⟨z,e,q⟩:=q1
 subst e
 obtain ⟨t,rfl⟩:=r1
 have fp:∀ b∈[s1.heap.objs.size],hX X pins H1 b:=fun b hb=>by
  have e:b=s1.heap.objs.size:=by simpa using hb
  subst e
  exact I1.fpOk (Nat.le_refl _) (I1.hok.fresh (Nat.le_refl _))
 cases ha:z.cps.all (·<128)
 ·exact wpAny_pyIter_wide ha ⟨s1.heap.objs.size,[s1.heap.objs.size],_,_,H1,rfl,I1.kept (t':=s1.toks) fun b o e=>Heap.get?_push_of_some _ e,sw _ z t,⟨_,Heap.get?_push_size _ rfl,rfl,rfl⟩,fp,q⟩
 ·exact wpAny_pyIter_ascii ha ⟨s1.heap.objs.size,[s1.heap.objs.size],_,_,H1,rfl,I1.kept (t':=s1.toks) fun b o e=>Heap.get?_push_of_some _ e,qo _ z t,⟨_,Heap.get?_push_size _ rfl,rfl,rfl⟩,fp,q⟩
theorem eS (hc:X.calm=true):bE X (.builtin "all") (fun xs H Q=>∃ p bs,xs=[.ref p]∧SqL X.K H p (List.map V.bl bs)∧Q (.bl (bs.all id)) H):=by
 intro pins s σ H xs us Q I r h
 obtain ⟨p,bs,rfl,hq,q⟩:=h
 obtain ⟨u,rfl,ru⟩:=eH r
 cases ru
 obtain ⟨its,rv,pl,hz⟩:=I.list hq
 have vb:∀ (i:Nat) v,its[i]?=some v→∃ b,bs[i]?=some b∧v=.bool b:=fun i v e=>by
  have hl:=rv.length
  rw [List.length_map] at hl
  have hi:i<its.length:=(List.getElem?_eq_some_iff.mp e).1
  have hb:bs[i]?=some bs[i]:=List.getElem?_eq_getElem (by omega)
  obtain ⟨u',e',r'⟩:=rv.get (i:=i) (x:=.bl bs[i]) (by rw [List.getElem?_map,hb]; rfl)
  rw [e] at e'
  cases e'
  exact ⟨_,hb,r'⟩
 obtain ⟨ol,hol,hol'⟩:=pl.isList
 refine call_all_walk (wpAny_pyIter_list pl.isList ⟨s.heap.objs.size,_,_,_,_,_,(fun i=>(bs[i]?).getD false),rfl,Walks.list (prog:=X.prog) (w:=X.w) (A:=X.A.in1) (I.ok.hd hc) s.heap.objs.size p (Nat.ne_of_lt (Heap.lt_size hol)) its.toArray,⟨⟨_,Heap.get?_push_size _ rfl,rfl,rfl⟩,⟨ol,Heap.get?_push_of_some _ hol,hol'⟩⟩,?_,fun h' tk k=>?_⟩)
 ·intro i v s' Q' E' hP hQ
  obtain ⟨b,hb,rfl⟩:=vb i v (by simpa using hP)
  have hQ':Q' ((bs[i]?).getD false) s':=hQ
  rw [hb] at hQ'
  exact wpAny_pure hQ'
 ·have e:(List.range its.toArray.size).all (fun i=>(bs[i]?).getD false)=bs.all id:=by
   have hl:its.toArray.size=bs.length:=by rw [List.size_toArray,← rv.length,List.length_map]
   rw [hl,Bool.eq_iff_iff,List.all_eq_true,List.all_eq_true]
   constructor
   ·intro a x hx
    obtain ⟨i,hi,rfl⟩:=List.mem_iff_getElem.mp hx
    have:=a i (List.mem_range.mpr hi)
    rw [List.getElem?_eq_getElem hi] at this
    exact this
   ·intro a i hi
    have hi':=List.mem_range.mp hi
    rw [List.getElem?_eq_getElem hi']
    exact a _ (List.getElem_mem hi')
  rw [e]
  refine ⟨.bl (bs.all id),H,I.kept fun b o hb=>k b o (fun z=>?_) (Heap.get?_push_of_some _ hb),rfl,q⟩
  have z':b=s.heap.objs.size:=by simpa using z
  exact absurd (Heap.lt_size hb) (by rw [z']; exact Nat.lt_irrefl _)
end
open PySem PySem.Spec PyProof.Rows
def iH (fs scope:Scope):List (Str×NameKind):=scope.names.map fun (n,k)=>if (k==NameKind.free&&fs.kind==.function&&fs.names.lookup n==some .cell) then (n,NameKind.cell) else (n,k)
def zJ (fs:Scope) (N:List Str) (scope:Scope) (N':List Str) (ρ:List (Option Nat)) (m:Nat):Bool :=
 (scope.kind==.function)&&scope.names.all (fun x=>x.2 != .cell)&&scope.names.all (fun x=>x.2 != .local||scope.names.lookup x.1==some .local)
 &&scope.names.all (fun x=>x.2 != .free||fs.names.lookup x.1==some .cell||fs.names.lookup x.1==some .free)&&(ρ.length==N'.length)
 &&(List.range ρ.length).all fun i=>match ρ[i]?,N'[i]? with
   | some (some j),some x=>decide (m≤i)&&N[j]?==some x&&scope.names.any (fun y=>y.1==x&&y.2==.free)&&(iH fs scope).lookup x != some .local
   | some (some _),none=>false
   | _,_=>true
theorem bo.of {X:Cx} {fs scope:Scope} {N N':List Str} {ρ:List (Option Nat)} {m:Nat} (hs:X.env.scope=fs) (hN:X.N=N) (h:zJ fs N scope N' ρ m=true):bo X scope N' ρ m:=by
 unfold zJ at h
 simp only [Bool.and_eq_true] at h
 obtain ⟨⟨⟨⟨⟨h1,h2⟩,h3⟩,h4⟩,h5⟩,h6⟩:=h
 have at6:∀ (i j:Nat),ρ[i]?=some (some j)→∃ x,N'[i]?=some x∧m≤i∧N[j]?=some x∧(x,NameKind.free)∈scope.names∧(iH fs scope).lookup x≠some .local:=fun i j e=>by
  have hi:i<ρ.length:=(List.getElem?_eq_some_iff.mp e).1
  have q:=List.all_eq_true.mp h6 i (List.mem_range.mpr hi)
  rw [e] at q
  cases e2:N'[i]? with
  | none=>rw [e2] at q; cases q
  | some x =>
   rw [e2] at q
   simp only [Bool.and_eq_true,decide_eq_true_eq,beq_iff_eq,bne_iff_ne,List.any_eq_true] at q
   obtain ⟨⟨⟨q1,q2⟩,⟨y,hy,q3,q4⟩⟩,q5⟩:=q
   refine ⟨x,rfl,q1,q2,?_,q5⟩
   obtain ⟨a,b⟩:=y
   simp only at q3 q4
   subst q3 q4
   exact hy
 refine ⟨by simpa using h1,fun x hx=>by simpa using List.all_eq_true.mp h2 x hx,fun x hx hl=>?_,fun x hx hf=>?_,by simpa using h5,fun i j e=>?_,fun i j x e e2=>?_,fun i j x e e2=>?_⟩
 ·have q:=List.all_eq_true.mp h3 x hx
  simpa [hl] using q
 ·have q:=List.all_eq_true.mp h4 x hx
  show X.env.scope.names.lookup x.1=_∨X.env.scope.names.lookup x.1=_
  rw [hs]
  simpa [hf] using q
 ·obtain ⟨_,_,q,_⟩:=at6 i j e; exact q
 ·obtain ⟨y,q1,_,q2,q3,_⟩:=at6 i j e
  rw [e2] at q1; cases q1
  exact ⟨by rw [hN]; exact q2,q3⟩
 ·obtain ⟨y,q1,_,_,_,q4⟩:=at6 i j e
  rw [e2] at q1; cases q1
  have e3:(relabel scope X.env).names=iH fs scope:=by
   unfold relabel iH Env.kindOf
   rw [hs]
  rw [e3]
  exact q4
section
variable {X:Cx} {K:Frag}
theorem jZ (h:X.K=K):IxR X (zu K):=h ▸ aF
theorem bB (h:X.K=K):IxR X (zm K):=h ▸ aH
theorem kP (h:X.K=K):OpR X (binaryOp .Add) (fun x y H Q=>xQ K x y H Q∨tV K x y H Q):=h ▸ nk.or vQ
theorem fZ {pos:Pos} {es:List Expr} {k:Nat} {t:TGs} {n:Nat} (hK:X.K=K) (hc:X.calm=true) (h:PGs X es t)
  (hn:(assignEach es X.env).length=n:=by rfl) (hst:(assignEach es X.env).findIdx? (·.1)=none:=by rfl):PG X (.Tuple es k pos) (zx K n t):=hK ▸ dm hc h hn hst
end
section
variable {m:Nat} {g:TG} {tt:TT} {te:TE} {σ':St} {Z:List V→Hp→Prop} {H1:Hp} {K:Frag}
def NxT (n:Nat) (Pv:Nat→List V→Hp→Prop) (i:Nat) (acc:List V) (v:V) (H:Hp):Prop:=acc.length<sizeLine∧∃ k',k'<n - i∧(k'=n - (i+1)∧i+1≤n∧(acc++[v]).length≤i+1∧Pv (i+1) (acc++[v]) H)
def NxF (n:Nat) (Pv:Nat→List V→Hp→Prop) (i:Nat) (acc:List V) (H:Hp):Prop:=∃ k',k'<n - i∧(k'=n - (i+1)∧i+1≤n∧acc.length≤i+1∧Pv (i+1) acc H)
theorem nxT {n:Nat} {Pv:Nat→List V→Hp→Prop} {i:Nat} {acc:List V} {v:V} {H:Hp} (hn:n≤1000) (hi:i<n) (hl:acc.length≤i) (p:Pv (i+1) (acc++[v]) H):NxT n Pv i acc v H :=
 ⟨aI (by omega),n - (i+1),by omega,rfl,hi,by rw [List.length_append,List.length_singleton]; omega,p⟩
theorem nxF {n:Nat} {Pv:Nat→List V→Hp→Prop} {i:Nat} {acc:List V} {H:Hp} (hi:i<n) (hl:acc.length≤i) (p:Pv (i+1) acc H):NxF n Pv i acc H :=
 ⟨n - (i+1),by omega,rfl,hi,by omega,p⟩
theorem iF {J:It} (n:Nat) (hn:n≤1000) (Pv:Nat→List V→Hp→Prop) (h0:Pv 0 [] H1)
  (hs:∀ i acc H,i<n→acc.length≤i→Pv i acc H→J.go i H∧∀ x H',J.yld i H x H'→g x σ' H' fun σ2 H2=>(σ2.drop m=σ'.drop m∧σ2.length=σ'.length)∧tt σ2 H2 fun b H3=>if b=true then te σ2 H3 fun v H4=>NxT n Pv i acc v H4 else NxF n Pv i acc H3)
  (hd:∀ acc H,Pv n acc H→acc.length≤n→J.stop n H∧Z acc H):jf J m g tt te σ' Z H1:=by
 refine ⟨fun i k acc H=>k=n - i∧i≤n∧acc.length≤i∧Pv i acc H,⟨n,by simp,Nat.zero_le _,Nat.le_refl _,h0⟩,?_⟩
 rintro i k acc H ⟨rfl,hi,la,p⟩
 refine ⟨Nat.le_of_lt (aI (by omega)),?_⟩
 by_cases hlt:i<n
 ·exact .inr (hs i acc H hlt la p)
 ·have e:i=n:=by omega
  subst e
  exact .inl (hd acc H p la)
theorem hJ {lo:Int} (n:Nat) (hn:n≤1000) (Pv:Nat→List V→Hp→Prop) (h0:Pv 0 [] H1)
  (hs:∀ i acc H,i<n→acc.length≤i→Pv i acc H→g (.int (lo+i)) σ' H fun σ2 H2=>(σ2.drop m=σ'.drop m∧σ2.length=σ'.length)∧tt σ2 H2 fun b H3=>if b=true then te σ2 H3 fun v H4=>NxT n Pv i acc v H4 else NxF n Pv i acc H3)
  (hd:∀ acc H,Pv n acc H→acc.length≤n→Z acc H):jf (Itr lo n) m g tt te σ' Z H1 :=
 iF n hn Pv h0 (fun i acc H hi la p=>⟨hi,fun x H' y=>by obtain ⟨e,y⟩:=y; subst e y; exact hs i acc _ hi la p⟩) fun acc H p la=>⟨Nat.le_refl _,hd acc H p la⟩
theorem fL {z:Str} (n:Nat) (hz:n=z.cps.size) (hn:n≤1000) (Pv:Nat→List V→Hp→Prop) (h0:Pv 0 [] H1)
  (hs:∀ i acc H c,i<n→acc.length≤i→z.cps[i]?=some c→Pv i acc H→g (.str ⟨#[c]⟩) σ' H fun σ2 H2=>(σ2.drop m=σ'.drop m∧σ2.length=σ'.length)∧tt σ2 H2 fun b H3=>if b=true then te σ2 H3 fun v H4=>NxT n Pv i acc v H4 else NxF n Pv i acc H3)
  (hd:∀ acc H,Pv n acc H→acc.length≤n→Z acc H):jf (Its z) m g tt te σ' Z H1 :=
 iF n hn Pv h0 (fun i acc H hi la p=>⟨show i<z.cps.size by omega,fun x H' y=>by obtain ⟨e,c,hc,y⟩:=y; subst e y; exact hs i acc _ c hi la hc p⟩) fun acc H p la=>⟨show z.cps.size≤n by omega,hd acc H p la⟩
theorem cr {a:Addr} {xs:List V} (n:Nat) (hz:n=xs.length) (hn:n≤1000) (Pv:Nat→List V→Hp→Prop) (h0:Pv 0 [] H1) (hq:∀ i acc H,Pv i acc H→SqT K H a xs)
  (hs:∀ i acc H x,i<n→acc.length≤i→xs[i]?=some x→Pv i acc H→g x σ' H fun σ2 H2=>(σ2.drop m=σ'.drop m∧σ2.length=σ'.length)∧tt σ2 H2 fun b H3=>if b=true then te σ2 H3 fun v H4=>NxT n Pv i acc v H4 else NxF n Pv i acc H3)
  (hd:∀ acc H,Pv n acc H→acc.length≤n→Z acc H):jf (Itt K a) m g tt te σ' Z H1 :=
 iF n hn Pv h0 (fun i acc H hi la p=>by
  have hx:xs[i]?=some (xs[i]'(by omega)):=List.getElem?_eq_getElem (by omega)
  exact ⟨⟨xs,_,hq i acc H p,hx⟩,fun x H' y=>by obtain ⟨e,y⟩:=y; subst e; exact hs i acc _ x hi la (y xs (hq i acc _ p)) p⟩) fun acc H p la=>⟨⟨xs,hq n acc H p,by omega⟩,hd acc H p la⟩
end
theorem bf {σ:St} {H:Hp} {A B:Hp→Prop} (h:A H):xR σ H (fun b H3=>if b=true then A H3 else B H3):=by
 show if true=true then A H else B H
 exact aN h
end L2
namespace PySem
open Sem (wp)
section
variable {prog:Program} {w:World} {A:Around} {E:Value→Shared→Prop} {h:Heap} {g:Array GenState} {d:Drawn} {t:Nat} {os:OsState} {a:Addr} {items:Array Value} {n:Nat} {sl:Array (Option Value)}
theorem lE:typeLookup (.type "tuple") "keys"=pure none:=am_miss_of_fast (by decide +kernel)
theorem ja:typeLookup (.type "tuple") "__getattr__"=pure none:=by rw [typeLookup_type,builtinLookup_eq_fast]; kernel_rfl
theorem iT {tk:Tok} {Q:Fin→Shared→Prop} (hx:h.get? a=some ⟨.type "tuple",none,.seq items n,sl⟩) (hA:A.handled=none)
  (hQ:∀ h' tk' e,Heap.NewAttrErr h h' e (.ref a) "keys"→E (.ref e) ⟨h',g,d,tk',os⟩) :
  wpAny (model prog w) A (Builtin.«object.__getattribute__» ⟨[.ref a,.str "keys" tk],[]⟩) Q E ⟨h,g,d,t,os⟩:=by
 have hT:(⟨h,g,d,t,os⟩:Shared).TypeIs (.ref a) "tuple":=⟨_,hx,rfl⟩
 have f4:=lE
 unfold Builtin.«object.__getattribute__»
 repeat (any_goals (first | assumption | wp_step))
 exact wpAny_raiseAttrError (s:=⟨h,g,d,t,os⟩) hA hQ (attrMsg_fits (by decide +kernel) (by decide))
theorem jz {tk:Tok} {R:Result→Shared→Prop} (hx:h.get? a=some ⟨.type "tuple",none,.seq items n,sl⟩) (hA:A.handled=none)
  (hQ:∀ h' tk' e,Heap.NewAttrErr h h' e (.ref a) "keys"→R (.error (.ref e)) ⟨h',g,d,tk',os⟩) :
  codeAny (model prog w) A (.call (.builtin "tuple.__getattribute__") ⟨[.ref a,.str "keys" tk],[]⟩) R ⟨h,g,d,t,os⟩ :=
 codeAny_call_builtin F.slot_tuple_getattribute.plain F.entry_tuple_ga (F.slot_tuple_getattribute.check _ _ _ _ _ _ _ _ (show (⟨h,g,d,t,os⟩:Shared).TypeIs (.ref a) "tuple" from ⟨_,hx,rfl⟩) (F.args_tuple_getattribute_2 _ _) (iT hx hA hQ))
theorem lD {tk:Tok} {Q:Value→Shared→Prop} (hx:h.get? a=some ⟨.type "tuple",none,.seq items n,sl⟩) (hA:A.handled=none)
  (hQ:∀ h' tk' e,Heap.NewAttrErr h h' e (.ref a) "keys"→E (.ref e) ⟨h',g,d,tk',os⟩):wpAny (model prog w) A (getAttrBy (.ref a) (.str "keys" tk) false) Q E ⟨h,g,d,t,os⟩:=by
 have hT:(⟨h,g,d,t,os⟩:Shared).TypeIs (.ref a) "tuple":=⟨_,hx,rfl⟩
 have f1:=sub_AttributeError
 have f2:=F.slot_tuple_getattribute.lookup
 have f3:=F.slot_tuple_getattribute.bind (.ref a)
 have f5:=ja
 unfold getAttrBy
 repeat (any_goals (first | assumption | wp_step))
 refine jz hx hA fun h' tk' e hx'=>?_
 obtain ⟨t',u',he⟩:=hx'.there
 show wpAny _ _ (getattributeRaised _ _ _ _ _ _ _) _ _ _
 unfold getattributeRaised
 repeat (any_goals (first | assumption | wp_step))
 exact hQ _ _ _ hx'
theorem jE {Q:Option Value→Shared→Prop} (hx:h.get? a=some ⟨.type "tuple",none,.seq items n,sl⟩) (hA:A.handled=none)
  (hQ:∀ h' tk',(∀ b o,h.get? b=some o→h'.get? b=some o)→Q none ⟨h',g,d,tk',os⟩):wpAny (model prog w) A (getAttr? (.ref a) "keys") Q E ⟨h,g,d,t,os⟩:=by
 have f1:=sub_AttributeError
 unfold getAttr? getAttrBy?
 refine wpAny_bind (wpAny_mkText (wpAny_bind (wpAny_attempt (lD hx hA fun h' tk' e hx'=>?_))))
 obtain ⟨t',u',he⟩:=hx'.there
 have hT:(⟨h',g,d,tk',os⟩:Shared).TypeIs (.ref e) "AttributeError":=⟨_,he,rfl⟩
 refine wpAny_bind (wpAny_isInstance hT f1 ?_)
 exact wpAny_pure (hQ h' tk' hx'.keeps)
end
end PySem
namespace L2
open PySem PySem.Spec PyProof.Rows
theorem me:entryFor table "dict.update.loop"=some Builtin.«dict.update.loop»:=entryFor_of_tree (by kernel_rfl)
theorem gw:plainId "dict.update.loop"=true:=by decide +kernel
theorem qd {κ:Type} [DecidableEq κ] {kvs:List (κ×Value)} {k:κ} {v:Value} (h:k∉kvs.map (·.1)):stored kvs k v=kvs++[(k,v)]:=by
 unfold stored
 rw [if_neg]
 intro q
 obtain ⟨x,hx,e⟩:=List.any_eq_true.mp q
 exact h (List.mem_map.mpr ⟨x,hx,of_decide_eq_true e⟩)
section
variable {prog:Program} {w:World} {A:Around} {R:Result→Shared→Prop} {dd it tp:Addr} {items:List Value} {ps:List (Str×Value)}
def xX (h:Heap) (it dd:Addr) (v:Value) (p:Str×Value):Prop:=∃ q t,v=.ref q∧q≠it∧q≠dd∧IsTup h q #[.str p.1 t,p.2]
theorem sD (hh:A.handled=none) (hid:it≠dd) (hti:tp≠it) (htd:tp≠dd) (hlen:items.length=ps.length) (hsz:items.length≤1000) (hnd:(ps.map (·.1)).Nodup) :
  ∀ (k i:Nat) (s:Shared),items.length - i=k→i≤items.length→s.heap.IsTupleIter it tp i→s.heap.IsTuple tp items.toArray→s.heap.DictOf (dG prog w) dd ((ps.take i).map fun p=>(Sum.inr p.1,p.2)) →
  (∀ (j:Nat) v p,items[j]?=some v→ps[j]?=some p→xX s.heap it dd v p) →
  (∀ h' tk,h'.DictOf (dG prog w) dd (ps.map fun p=>(Sum.inr p.1,p.2))→(∀ b o,b≠it→b≠dd→s.heap.get? b=some o→h'.get? b=some o)→R (.ok (.ret .none)) { s with heap:=h',toks:=tk }) →
  codeAny (model prog w) A (.builtin "dict.update.loop" ⟨[.ref dd,.ref it,rawInt i,.none],[]⟩) R s:=by
 intro k
 induction k with
 | zero =>
  intro i s hk hi st tpl hd hp hR
  have hin:i=items.length:=by omega
  subst hin
  refine codeAny_builtin me ?_
  rw [Around.under_plainId gw _]
  show wpAny _ A.in1 (pyNext (.ref it) >>= _) _ _ s
  refine wpAny_bind (wpAny_pyNext_tuple_end hh st tpl (by simp) fun h' eb=>?_)
  refine wpAny_bind (wpAny_pure (wpAny_pure ?_))
  refine hR h' s.toks ?_ fun b o hb _ e=>eb b o hb e
  rw [hlen,List.take_length] at hd
  exact hd.extBut (fun b o hb e=>eb b o hb e) (Ne.symm hid)
 | succ k ih =>
  intro i s hk hi st tpl hd hp hR
  have hlt:i<items.length:=by omega
  have hv:items[i]?=some items[i]:=List.getElem?_eq_getElem hlt
  have hq:ps[i]?=some (ps[i]'(by omega)):=List.getElem?_eq_getElem (by omega)
  obtain ⟨q,t,ev,hqi,hqd,tq⟩:=hp i _ _ hv hq
  refine codeAny_builtin me ?_
  rw [Around.under_plainId gw _]
  show wpAny _ A.in1 (pyNext (.ref it) >>= _) _ _ s
  refine wpAny_bind (wpAny_pyNext_tuple_item st tpl (x:=items[i]) (by simpa using hv) fun h1 st1 sb1=>?_)
  rw [ev]
  have tq1:IsTup h1 q #[.str (ps[i]'(by omega)).1 t,(ps[i]'(by omega)).2]:=let ⟨o,e,r⟩:=tq; ⟨o,(sb1.2 q hqi).trans e,r⟩
  obtain ⟨oq,eq,cq,nq,dq⟩:=id tq1
  refine wpAny_bind (wpAny_holding (wpAny_bind (wpAny_tryCatch ?_)))
  unfold Builtin.Dict.pairItems
  refine wpAny_bind (wpAny_typeOf (T := "tuple") ⟨oq,eq,cq⟩ ?_)
  rw [if_pos (by decide)]
  refine wpAny_bind (wpAny_seqItems eq dq (wpAny_pure ?_))
  show wpAny _ _ (holding [_,_] (dictSet dd (.str (ps[i]'(by omega)).1 t) (ps[i]'(by omega)).2)) _ _ _
  have hd1:h1.DictOf (dG prog w) dd ((ps.take i).map fun p=>(Sum.inr p.1,p.2)):=hd.extBut sb1.extBut (Ne.symm hid)
  refine wpAny_holding (wpAny_dictSet_pairs (knd:=dG prog w) (k:=Sum.inr (ps[i]'(by omega)).1) (jm _ _ _ _) hd1 (fun h2 hd2 sb2=>?_) (Nat.le_of_lt (aI (by rw [List.length_map,List.length_take]; omega))))
  have nw:stored ((ps.take i).map fun p=>((Sum.inr p.1:Key),p.2)) (Sum.inr (ps[i]'(by omega)).1) (ps[i]'(by omega)).2=(ps.take (i+1)).map fun p=>(Sum.inr p.1,p.2):=by
   rw [qd,List.take_add_one,hq,List.map_append]
   ·rfl
   ·intro z
    rw [List.map_map] at z
    obtain ⟨p,hp',e⟩:=List.mem_map.mp z
    have e':p.1=(ps[i]'(by omega)).1:=Sum.inr.inj e
    obtain ⟨j,hj,ej⟩:=List.mem_take_iff_getElem.mp hp'
    have hj':j<ps.length:=by omega
    have:(ps.map (·.1))[j]'(by simpa using hj')=(ps.map (·.1))[i]'(by rw [List.length_map]; omega):=by simp only [List.getElem_map]; rw [ej]; exact e'
    have:=(List.getElem_inj hnd).mp this
    omega
  rw [nw] at hd2
  have up:∀ b o,b≠it→b≠dd→s.heap.get? b=some o→h2.get? b=some o:=fun b o hb hb2 e=>(sb2.2 b hb2).trans ((sb1.2 b hb).trans e)
  refine wpAny_pure ⟨plainId_quiet gw _,?_⟩
  have nx:=ih (i+1) { s with heap:=h2,toks:=s.toks+1 } (by omega) hlt (by obtain ⟨o,e,r⟩:=st1; exact ⟨o,(sb2.2 it hid).trans e,r⟩) (by obtain ⟨o,e,r⟩:=tpl; exact ⟨o,up _ _ hti htd e,r⟩) hd2
   (fun j v p ej ep=>by obtain ⟨q,t,e,n1,n2,o,e2,r⟩:=hp j v p ej ep; exact ⟨q,t,e,n1,n2,o,up _ _ n1 n2 e2,r⟩)
   fun h' tk hd' up'=>hR h' tk hd' fun b o hb hb2 e=>up' b o hb hb2 (up b o hb hb2 e)
  exact nx
end
open PySem PySem.Spec PyProof.Rows
section
variable {X:Cx}
def qS (K:Frag) (H:Hp) (y:V) (p:Str×V):Prop:=∃ q,y=.ref q∧SqT K H q [.str p.1,p.2]
theorem kQ {α β:Type} {F:α→β→Prop}:∀ {l:List α} {m:List β},Paired F l m→∀ (j:Nat) a b,l[j]?=some a→m[j]?=some b→F a b
 | _,_,.nil,_,_,_,h,_=>by simp at h
 | _,_,.cons h t,0,_,_,h1,h2=>by simp at h1 h2; subst h1 h2; exact h
 | _,_,.cons h t,j+1,_,_,h1,h2=>kQ t j _ _ (by simpa using h1) (by simpa using h2)
theorem aQ.vals_pairs {I:Unit} {X:Cx} {pins:List (Addr×Obj)} {σ:St} {H:Hp} {s:Shared} (J:Inv X pins σ H s):∀ {ys:List V} {ps:List (Str×V)} {its:List Value},Paired (qS X.K H) ys ps→aQ ys its →
  ∃ qs:List (Str×Value),Paired (fun (p:Str×V) (q:Str×Value)=>p.1=q.1∧bq p.2 q.2) ps qs∧Paired (fun v (p:Str×Value)=>∃ q t,v=.ref q∧q<s.heap.objs.size∧IsTup s.heap q #[.str p.1 t,p.2]) its qs
 | _,_,_,.nil,.nil=>⟨[],.nil,.nil⟩
 | _,_,_,.cons h t,.cons r rr=>by
  obtain ⟨qs,h1,h2⟩:=aQ.vals_pairs (I:=I) J t rr
  obtain ⟨q,e,hq⟩:=h
  subst e
  cases r
  obtain ⟨it2,rv,p,_⟩:=J.tuple hq
  obtain ⟨u1,u2,e2,r1,r2⟩:=nU rv
  subst e2
  obtain ⟨t,e3⟩:=(show ∃ t,u1=Value.str _ t from r1)
  subst e3
  exact ⟨(_,u2)::qs,.cons ⟨rfl,r2⟩ h1,.cons ⟨q,t,rfl,p.lt,p⟩ h2⟩
theorem vV:∀ {ps:List (Str×V)} {qs:List (Str×Value)},Paired (fun (p:Str×V) (q:Str×Value)=>p.1=q.1∧bq p.2 q.2) ps qs→KV (ps.map fun p=>((Sum.inr p.1:Key),p.2)) (qs.map fun p=>(Sum.inr p.1,p.2))
 | _,_,.nil=>.nil
 | _,_,.cons h t=>.cons ⟨by show Sum.inr _=Sum.inr _; rw [h.1],h.2⟩ (vV t)
theorem rB:∀ {ps:List (Str×V)} {qs:List (Str×Value)},Paired (fun (p:Str×V) (q:Str×Value)=>p.1=q.1∧bq p.2 q.2) ps qs→ps.map (·.1)=qs.map (·.1)
 | _,_,.nil=>rfl
 | _,_,.cons h t=>by rw [List.map_cons,List.map_cons,h.1,rB t]
def yV (K:Frag):List V→Hp→VK→Prop:=fun xs H Q=>∃ p ys ps,xs=[.ref p]∧H p=some (.tup ys)∧ys.length≤1000∧(List.map (fun q:Str×V=>q.1) ps).Nodup∧Paired (qS K H) ys ps ∧
 ∀ l,H l=none→Q (.ref l) (upd H l (.dK (ps.map fun p=>(Sum.inr p.1,p.2))))
theorem hU (hc:X.calm=true):bE X (.type "dict") (yV X.K):=by
 intro pins s σ H xs us Q I r h
 obtain ⟨p,ys,ps,rfl,hp,hl,hnd,hpr,q⟩:=h
 obtain ⟨u,rfl,ru⟩:=eH r
 cases ru
 obtain ⟨hz,its,rv,tp,o2,e2,d2⟩:=(show bS X.prog X.w H s.heap p (.tup ys) from I.hok p _ hp)
 obtain ⟨qs,k1,k2⟩:=aQ.vals_pairs (I:=()) I hpr rv
 obtain ⟨⟨cls,dct,data,sl⟩,ho,hcl,n,hdt⟩:=id tp
 rw [ho] at e2
 cases e2
 simp only at hcl hdt d2
 subst hcl hdt d2
 have hlt:p<s.heap.objs.size:=Heap.lt_size ho
 refine callType_codes (Q₁:=fun obj s₁=>obj=.ref s.heap.objs.size∧s₁={ s with heap:=s.heap.push { cls:=.type "dict",data:=.dict #[] } }) F.kt_called_dict (F.kt_typeCall_dict_1 _) F.entry_dict_init (kt_code_dict_new _ ⟨rfl,rfl⟩) ?_
 rintro obj s₁ ⟨rfl,rfl⟩
 have hnew:(s.heap.push { cls:=.type "dict",data:=.dict #[] }).DictOf (dG X.prog X.w) s.heap.objs.size []:=Heap.DictOf.new s.heap
 refine ⟨hnew.typeIs,F.args_dict_init_2 _ _,?_⟩
 unfold Builtin.«dict.__init__»
 refine wpAny_bind ?_
 unfold Builtin.Dict.selfAndRest
 refine wpAny_bind (wpAny_notOrdered_dict hnew.typeIs ?_)
 show wpAny _ _ (pure (s.heap.objs.size,[Value.ref p])) _ _ _
 refine wpAny_pure ?_
 show wpAny _ _ (Builtin.Dict.updateFrom "dict.__init__" s.heap.objs.size (.ref p) [] .none) _ _ _
 unfold Builtin.Dict.updateFrom
 have ho1:(s.heap.push { cls:=.type "dict",data:=.dict #[] }).get? p=some ⟨.type "tuple",none,.seq its.toArray n,sl⟩:=Heap.get?_push_of_some _ ho
 refine wpAny_bind (wpAny_typeOf (T := "tuple") ⟨_,ho1,rfl⟩ ?_)
 rw [if_pos (by decide)]
 refine wpAny_bind (jE (h:=s.heap.push { cls:=.type "dict",data:=.dict #[] }) (g:=s.gens) (d:=s.drawn) (t:=s.toks) (os:=s.os) ho1 (I.ok.hd hc) fun h1 tk1 kp1=>?_)
 rw [if_pos (show (none:Option Value).isNone=true from rfl)]
 refine wpAny_bind (wpAny_rule (wpAny_bind (wpAny_pyIter_tuple (show h1.IsTuple p its.toArray from ⟨_,kp1 _ _ ho1,rfl,n,rfl⟩) ?_)))
 have old:∀ b o,s.heap.get? b=some o→(h1.push { cls:=.type "tuple_iterator",data:=.fields #[.ref p,.int 0 0] }).get? b=some o:=fun b o e=>Heap.get?_push_of_some _ (kp1 b o (Heap.get?_push_of_some _ e))
 have hnew1:h1.DictOf (dG X.prog X.w) s.heap.objs.size []:=by obtain ⟨o,es,ep,e,rr⟩:=hnew; exact ⟨o,es,ep,kp1 _ _ e,rr⟩
 have hdl:s.heap.objs.size<h1.objs.size:=by obtain ⟨o,es,ep,e,rr⟩:=hnew1; exact Heap.lt_size e
 refine wpAny_pure ⟨plainId_quiet gw _,?_⟩
 refine sD (A:=X.A.in1) (prog:=X.prog) (w:=X.w) (dd:=s.heap.objs.size) (it:=h1.objs.size) (tp:=p) (items:=its) (ps:=qs) (I.ok.hd hc) (Nat.ne_of_gt hdl) (Nat.ne_of_lt (Nat.lt_trans hlt hdl)) (Nat.ne_of_lt hlt) (Paired.length k2) (by rw [← rv.length]; exact hl) (by rw [← rB k1]; exact hnd)
  its.length 0 ⟨h1.push { cls:=.type "tuple_iterator",data:=.fields #[.ref p,.int 0 0] },s.gens,s.drawn,tk1,s.os⟩ rfl (Nat.zero_le _) ⟨_,Heap.get?_push_size _ rfl,rfl,rfl⟩ ⟨_,old _ _ ho,rfl,n,rfl⟩ (by exact hnew1.push _) (fun j v pr ej ep=>?_) fun h' tk hd' up=>?_
 ·obtain ⟨q',t,e,hlq,o,e3,r3⟩:=kQ k2 j v pr ej ep
  exact ⟨q',t,e,Nat.ne_of_lt (Nat.lt_trans hlq hdl),Nat.ne_of_lt hlq,o,old _ _ e3,r3⟩
 ·refine ⟨rfl,.ref s.heap.objs.size,upd H s.heap.objs.size (.dK (ps.map fun p=>(Sum.inr p.1,p.2))),?_,rfl,q _ (I.hok.fresh (Nat.le_refl _))⟩
  refine I.laid (h':=h') (t':=tk) (fun b o e=>up b o (Nat.ne_of_lt (Nat.lt_trans (Heap.lt_size e) hdl)) (Nat.ne_of_lt (Heap.lt_size e)) (old b o e)) (Nat.le_refl _) ?_
  refine ⟨?_,?_,_,vV k1,hd'⟩
  ·rw [List.length_map,Paired.length k1,← Paired.length k2,← rv.length]; exact Nat.le_of_lt (aI hl)
  ·have hbig:mainGlobals<s.heap.objs.size:=(I.mod.glob.keeps I.bk).lt
   exact beq_eq_false_iff_ne.mpr (Nat.ne_of_gt (Nat.lt_trans (by decide) hbig))
def Av:R2:=fun x y H Q=>∃ p kvs z v,x=.ref p∧y=.str z∧H p=some (.dK kvs)∧(kvs.find? fun kv=>decide (kv.1=Sum.inr z)).map (·.2)=some v∧Q v H
theorem qX {k:Key} {v:V}:∀ {kvs:List (Key×V)} {vs:List (Key×Value)},KV kvs vs→(kvs.find? fun kv=>decide (kv.1=k)).map (·.2)=some v→∃ u,valueAt vs k=some u∧bq v u
 | _,_,.nil,h=>by simp at h
 | _,_,.cons (a:=a) (b:=b) r t,h=>by
  unfold valueAt
  rw [List.find?_cons] at h ⊢
  by_cases e:a.1=k
  ·have e':b.1=k:=r.1.symm.trans e
   rw [decide_eq_true e] at h
   rw [decide_eq_true e']
   have h':a.2=v:=by simpa using h
   exact ⟨b.2,rfl,h' ▸ r.2⟩
  ·have e':¬ b.1=k:=fun z=>e (r.1.trans z)
   rw [decide_eq_false e] at h
   rw [decide_eq_false e']
   exact qX t h
theorem ni:IxR X Av:=by
 intro value slice pins s σ H x y v u Q I rx ry h hs
 obtain ⟨p,kvs,z,w',rfl,rfl,hp,hv,q⟩:=h
 cases rx
 obtain ⟨t,rfl⟩:=ry
 obtain ⟨_,_,vs,rel,dd⟩:=(show bS X.prog X.w H s.heap p (.dK kvs) from I.hok p _ hp)
 obtain ⟨u',e,ru⟩:=qX rel hv
 have fin:EP X pins σ Q u' { s with toks:=s.toks+1 }:=⟨w',H,I.tok _,ru,q⟩
 exact subscriptTail_builtinR (x:=u') dd.typeIs PySem.F.slot_dict_getitem.lookup (wpAny_getItem_of (Q:=fun r s'=>r=u'∧EP X pins σ Q r s') (knd:=dG X.prog X.w) (k:=Sum.inr z) (jm _ _ _ _) dd.mapOf e ⟨rfl,fin⟩) hs
end
end L2
namespace PySem
open Sem (wp)
section
variable {prog:Program} {w:World} {A:Around} {E:Value→Shared→Prop} {s:Shared}
theorem lr {it t:Addr} {i:Nat} {items:Array Value} {Q:Value→Shared→Prop} (hh:A.handled=none) (hit:s.heap.IsTupleIter it t i) (ht:s.heap.IsTuple t items)
  (hQ:∀ x,items[i]?=some x→∀ h',h'.IsTupleIter it t (i+1)→Heap.SameBut it s.heap h'→Q x { s with heap:=h' })
  (hE:items[i]?=none→∀ h' e,Heap.ExtBut it s.heap h'→(∃ o,h'.get? e=some o∧o.cls=.type "StopIteration")→E (.ref e) { s with heap:=h' }) :
  wpAny (model prog w) A (Builtin.SmallTypes.nextOf (.ref it)) Q E s:=by
 obtain ⟨oi,gi,ci,di⟩:=id hit
 obtain ⟨ot,gt,_,m,dt⟩:=ht
 have sl:=F.slot_tuple_iterator_next
 unfold Builtin.SmallTypes.nextOf
 refine wpAny_bind (wpAny_callSpecial?_slot (name:=Str.ofString "__next__") hit.typeIs sl (wpAny_call_entry sl hit.typeIs F.entry_tuple_iterator_next ?_ (F.args_tuple_iterator_next_1 _)))
 refine wpAny_bind (m:=field (.ref it) 0) (wpAny_field gi di (x:=.ref t) rfl ?_)
 have nn:¬ ((Value.ref t==Value.none)=true):=Bool.false_ne_true
 show wpAny _ _ (if (Value.ref t==Value.none)=true then _ else _) _ _ _
 rw [if_neg nn]
 refine wpAny_bind (m:=field (.ref it) 1) (wpAny_field gi di (x:=.int i 0) rfl (wpAny_bind (m:=seqItems? (.ref t)) (wpAny_seqItems gt dt ?_)))
 cases q:items[i]? with
 | some x =>
  simp only [Int.toNat_natCast,q]
  refine wpAny_bind (wpAny_setField gi di (by simp) (wpAny_pure ⟨x,rfl,wpAny_pure (hQ x q _ ⟨_,Heap.get?_update_self _ gi ?_,?_,?_⟩ (Heap.SameBut.update ..))⟩))
  ·exact Obj.isFreed_of_fields (Obj.data_mapFields di _)
  ·exact (Obj.cls_mapFields ..).trans ci
  ·rw [Obj.data_mapFields di]
   simp [rawInt]
 | none =>
  simp only [Int.toNat_natCast,q]
  refine wpAny_bind (wpAny_rule (wpAny_bind (wpAny_setField gi di (by simp) (wpAny_bind (m:=newExc (.type "StopIteration") []) ?_))))
  simp only [newExc,newTuple]
  refine wpAny_bind (wpAny_newObj_type (wpAny_bind (m:=firstArgMember _ _) (wpAny_of_eq (a:=Value.none) (by first | rfl | (simp only [firstArgMember]; rfl)) (wpAny_newObj_type ?_ (by size_fits)))) (by size_fits))
  simp only [raiseNew]
  refine wpAny_bind (wpAny_handled ?_)
  rw [show A.in1.handled=none from hh]
  exact wpAny_bind (wpAny_pure (wpAny_throw (hE q _ _ (((Heap.SameBut.update ..).extBut.push _).push _) ⟨_,Heap.get?_push_size _ rfl,rfl⟩)))
end
theorem Draws.tup {prog:Program} {w:World} {A:Around} (hh:A.handled=none) (it l:Addr) (hne:l≠it) (items:Array Value) :
  Draws prog w A it [it,l] items.size (fun i v=>items[i]?=some v) (fun i h=>h.IsTupleIter it l i∧h.IsTuple l items) where
 live:=fun _ _ st=>let ⟨o,ho,_⟩:=st.1; ⟨o,ho⟩
 frame:=fun _ _ _ st hk=>⟨st.1.at fun o e=>hk it (by simp) o e,let ⟨o,e,r⟩:=st.2; ⟨o,hk l (by simp) o e,r⟩⟩
 item:=fun i s Q E hi st hQ=>lr hh st.1 st.2 (fun x ex h' st' sb=>hQ x h' s.toks ex ⟨st',st.2.extBut sb.extBut hne⟩ sb) fun e=>by simp at e; omega
 done:=fun s Q E st hE=>lr hh st.1 st.2 (fun x ex=>by simp at ex) fun _=>hE
def ItS (k:Bool) (h:Heap) (it l:Addr) (i:Nat):Prop:=match k with | true=>h.IsTupleIter it l i | false=>h.IsListIter it l i
def SqS (k:Bool) (h:Heap) (l:Addr) (items:Array Value):Prop:=match k with | true=>h.IsTuple l items | false=>h.IsList l items
def lj (k:Bool) (l:Addr):Obj:={ cls:=.type (match k with | true => "tuple_iterator" | false => "list_iterator"),data:=.fields #[.ref l,.int 0 0] }
theorem ItS.new {k:Bool} {h:Heap} {l a:Addr} (e:h.get? a=some (lj k l)):ItS k h a l 0:=by
 cases k with
 | true=>exact ⟨_,e,rfl,rfl⟩
 | false=>exact ⟨_,e,rfl,rfl⟩
theorem ItS.at {k:Bool} {h h':Heap} {a l:Addr} {i:Nat} (x:ItS k h a l i) (e:∀ o,h.get? a=some o→h'.get? a=some o):ItS k h' a l i:=by
 cases k with
 | true=>obtain ⟨o,ho,r⟩:=x; exact ⟨o,e _ ho,r⟩
 | false=>obtain ⟨o,ho,r⟩:=x; exact ⟨o,e _ ho,r⟩
theorem SqS.at {k:Bool} {h h':Heap} {a:Addr} {xs:Array Value} (x:SqS k h a xs) (e:∀ o,h.get? a=some o→h'.get? a=some o):SqS k h' a xs:=by
 cases k with
 | true=>obtain ⟨o,ho,r⟩:=x; exact ⟨o,e _ ho,r⟩
 | false=>obtain ⟨o,ho,r⟩:=x; exact ⟨o,e _ ho,r⟩
theorem ItS.live {k:Bool} {h:Heap} {a l:Addr} {i:Nat} (x:ItS k h a l i):∃ o,h.get? a=some o∧∀ v,o.data≠.cell v:=by
 cases k with
 | true=>obtain ⟨o,ho,c,d⟩:=x; exact ⟨o,ho,fun v z=>by rw [d] at z; cases z⟩
 | false=>obtain ⟨o,ho,c,d⟩:=x; exact ⟨o,ho,fun v z=>by rw [d] at z; cases z⟩
theorem Draws.sq {prog:Program} {w:World} {A:Around} (hh:A.handled=none) (it l:Addr) (hne:l≠it) (items:Array Value) (k:Bool) :
  Draws prog w A it [it,l] items.size (fun i v=>items[i]?=some v) (fun i h=>ItS k h it l i∧SqS k h l items):=by
 cases k with
 | true=>exact Draws.tup hh it l hne items
 | false=>exact Draws.list hh it l hne items
theorem ma {prog:Program} {w:World} {A:Around} {E:Value→Shared→Prop} {s:Shared} {k:Bool} {l:Addr} {items} {Q:Value→Shared→Prop} (ht:SqS k s.heap l items)
  (hQ:Q (.ref s.heap.objs.size) { s with heap:=s.heap.push (lj k l) }):wpAny (model prog w) A (pyIter (.ref l)) Q E s:=by
 cases k with
 | true=>exact wpAny_pyIter_tuple ht hQ
 | false=>exact wpAny_pyIter_list ht hQ
structure ZA (z TI TO i1 i2:Addr) (f1 f2:List Addr):Prop where
 TIz:TI≠z
 TOz:TO≠z
 i1z:i1≠z
 i2z:i2≠z
 TITO:TI≠TO
 TIi1:TI≠i1
 TIi2:TI≠i2
 TOi1:TO≠i1
 TOi2:TO≠i2
 i12:i1≠i2
 z1:z∉f1
 z2:z∉f2
 t1:TO∉f1
 t2:TO∉f2
 m1:i1∉f2
 m2:i2∉f1
section
variable {prog:Program} {w:World} {A:Around} {E:Value→Shared→Prop} {s:Shared} {z TI TO i1 i2:Addr} {f1 f2:List Addr} {n1 n2 k1 k2:Nat} {P1 P2:Nat→Value→Prop} {S1 S2:Nat→Heap→Prop} {a b:Value}
theorem ndI {c d:Addr} {f:List Addr} (h:d∉f) (hc:c∈f):c≠d:=fun q=>h (q ▸ hc)
theorem sm {Q:Value→Shared→Prop} (D1:Draws prog w A i1 f1 n1 P1 S1) (D2:Draws prog w A i2 f2 n2 P2 S2) (D:ZA z TI TO i1 i2 f1 f2)
  (hz:IsZip s.heap z TI TO .none) (hTI:IsPair s.heap TI (.ref i1) (.ref i2)) (hTO:IsPair s.heap TO a b) (h1:S1 k1 s.heap) (h2:S2 k2 s.heap) (b1:k1≤n1) (b2:k2≤n2)
  (hQ:k1<n1→k2<n2→∀ x y h' tk,P1 k1 x→P2 k2 y→IsZip h' z TI TO (rawInt s.heap.objs.size)→IsPair h' TO x y→S1 (k1+1) h'→S2 (k2+1) h'→IsPair h' s.heap.objs.size x y →
   (∀ c o,c≠z→c≠TO→c≠i1→c≠i2→s.heap.get? c=some o→h'.get? c=some o)→Q (.ref s.heap.objs.size) { s with heap:=h',toks:=tk })
  (hE:k1=n1∨k2=n2→∀ h' tk e,(∀ c o,c≠z→c≠TO→c≠i1→c≠i2→s.heap.get? c=some o→h'.get? c=some o)→(∃ o,h'.get? e=some o∧o.cls=.type "StopIteration")→E (.ref e) { s with heap:=h',toks:=tk }) :
  wpAny (model prog w) A (Builtin.«zip.__next__» ⟨[.ref z],[]⟩) (fun fin s'=>∃ v,fin=.done (.ret v)∧Q v s') E s:=by
 refine wpAny_bind (m:=field (.ref z) 2) (wpAny_field hz rfl (x:=.bool false) rfl (wpAny_bind (m:=field (.ref z) 3) (wpAny_field hz rfl (x:=.ref TI) rfl (wpAny_bind (wpAny_seqItems hTI rfl (wpAny_bind (m:=Builtin.SmallTypes.ownedTupleIsFree (.ref z)) ?_))))))
 unfold Builtin.SmallTypes.ownedTupleIsFree
 refine wpAny_bind (wpAny_field hz rfl (x:=.none) rfl (wpAny_pure ?_))
 simp only [if_true]
 refine wpAny_bind (wpAny_rule (wpAny_bind (wpAny_field hz rfl (x:=.ref TO) rfl (wpAny_bind (wpAny_setField_rec hz (by simp) fun ha (za:IsZip ha z TI TO .ellipsis) ea=>wpAny_bind ?_)))))
 simp only [List.zipIdx_cons,List.zipIdx_nil,List.forIn_cons,List.forIn_nil]
 refine wpAny_bind (wpAny_bind (wpAny_onRaise (wpAny_bind (m:=Builtin.SmallTypes.nextOf (.ref i1)) ?_)))
 have fa:S1 k1 ha:=D1.frame _ _ _ h1 fun c hc o e=>ea.extBut _ _ (ndI D.z1 hc) e
 rcases Nat.lt_or_eq_of_le b1 with l1 | e1
 ·refine D1.item k1 _ _ _ l1 fa fun x hb tk hx s1b eb=>wpAny_pure ?_
  have tb:IsPair hb TO a b:=eb.extBut _ _ D.TOi1 (ea.extBut _ _ D.TOz hTO)
  refine wpAny_bind (wpAny_seqItems tb rfl (wpAny_bind (wpAny_updateSeq_pair tb fun hc (tc:IsPair hc TO x b) ec=>wpAny_bind (wpAny_letGo (wpAny_pure ?_)))))
  refine wpAny_bind (wpAny_bind (wpAny_onRaise (wpAny_bind (m:=Builtin.SmallTypes.nextOf (.ref i2)) ?_)))
  have fc:S2 k2 hc:=D2.frame _ _ _ h2 fun c hc o e=>ec.extBut _ _ (ndI D.t2 hc) (eb.extBut _ _ (ndI D.m1 hc) (ea.extBut _ _ (ndI D.z2 hc) e))
  have zc:IsZip hc z TI TO .ellipsis:=ec.extBut _ _ D.TOz.symm (eb.extBut _ _ D.i1z.symm za)
  have kc:∀ c o,c≠z→c≠TO→c≠i1→s.heap.get? c=some o→hc.get? c=some o:=fun c o c1 c2 c3 e=>ec.extBut _ _ c2 (eb.extBut _ _ c3 (ea.extBut _ _ c1 e))
  rcases Nat.lt_or_eq_of_le b2 with l2 | e2
  ·refine D2.item k2 _ _ _ l2 fc fun y hd tk' hy s2d ed=>wpAny_pure ?_
   have td:IsPair hd TO x b:=ed.extBut _ _ D.TOi2 tc
   refine wpAny_bind (wpAny_seqItems td rfl (wpAny_bind (wpAny_updateSeq_pair td fun he (te:IsPair he TO x y) ee=>wpAny_bind (wpAny_letGo (wpAny_pure (wpAny_pure ?_))))))
   refine wpAny_bind (wpAny_seqItems te rfl (wpAny_bind (wpAny_newTuple ?_)))
   have sz:he.objs.size=s.heap.objs.size:=by rw [ee.1,ed.1,ec.1,eb.1,ea.1]
   have ze:IsZip he z TI TO .ellipsis:=ee.extBut _ _ D.TOz.symm (ed.extBut _ _ D.i2z.symm zc)
   have s1e:S1 (k1+1) he:=D1.frame _ _ _ s1b fun c hc o e=>ee.extBut _ _ (ndI D.t1 hc) (ed.extBut _ _ (ndI D.m2 hc) (ec.extBut _ _ (ndI D.t1 hc) e))
   have s2e:S2 (k2+1) he:=D2.frame _ _ _ s2d fun c hc o e=>ee.extBut _ _ (ndI D.t2 hc) e
   refine wpAny_bind (m:=Builtin.SmallTypes.ownedTupleHandOut (.ref z) (.ref he.objs.size)) ?_
   unfold Builtin.SmallTypes.ownedTupleHandOut
   have zf:IsZip (he.push { cls:=.type "tuple",data:=.seq #[x,y] }) z TI TO .ellipsis:=Heap.get?_push_of_some _ ze
   refine wpAny_bind (wpAny_setField_rec zf (by simp) fun hg (zg:IsZip hg z TI TO (rawInt he.objs.size)) eg=>wpAny_setField_rec zg (by simp) fun hi (zi:IsZip hi z TI TO (rawInt he.objs.size)) ei=>wpAny_pure ⟨_,rfl,?_⟩)
   have up:∀ c o,c≠z→(he.push { cls:=.type "tuple",data:=.seq #[x,y] }).get? c=some o→hi.get? c=some o:=fun c o c1 e=>ei.extBut _ _ c1 (eg.extBut _ _ c1 e)
   have up':∀ c o,c≠z→he.get? c=some o→hi.get? c=some o:=fun c o c1 e=>up c o c1 (Heap.get?_push_of_some _ e)
   have pi:IsPair hi he.objs.size x y:=up _ _ (Nat.ne_of_gt (Heap.lt_size ze)) (Heap.get?_push_size _ rfl)
   show Q (.ref he.objs.size) _
   rw [sz] at zi pi ⊢
   exact hQ l1 l2 x y hi tk' hx hy zi (up' _ _ D.TOz te) (D1.frame _ _ _ s1e fun c hc o e=>up' _ o (ndI D.z1 hc) e) (D2.frame _ _ _ s2e fun c hc o e=>up' _ o (ndI D.z2 hc) e) pi
    fun c o c1 c2 c3 c4 e=>up' c o c1 (ee.extBut _ _ c2 (ed.extBut _ _ c4 (kc c o c1 c2 c3 e)))
  ·subst e2
   refine D2.done _ _ _ fc fun hd x ed ⟨oe,ge,ce⟩=>?_
   have zd:IsZip hd z TI TO .ellipsis:=ed _ _ D.i2z.symm zc
   have ne:x≠z:=fun q=>by subst q; rw [zd] at ge; cases ge; simp at ce
   exact wpAny_setField_rec zd (by simp) fun he _ ee=>hE (.inr rfl) he _ x (fun c o c1 c2 c3 c4 q=>ee.extBut _ _ c1 (ed _ _ c4 (kc c o c1 c2 c3 q))) ⟨oe,ee.extBut _ _ ne ge,ce⟩
 ·subst e1
  refine D1.done _ _ _ fa fun hb x eb ⟨oe,ge,ce⟩=>?_
  have zb:IsZip hb z TI TO .ellipsis:=eb _ _ D.i1z.symm za
  have ne:x≠z:=fun q=>by subst q; rw [zb] at ge; cases ge; simp at ce
  exact wpAny_setField_rec zb (by simp) fun he _ ee=>hE (.inl rfl) he _ x (fun c o c1 _ c3 _ q=>ee.extBut _ _ c1 (eb _ _ c3 (ea.extBut _ _ c1 q))) ⟨oe,ee.extBut _ _ ne ge,ce⟩
theorem ju {Q:Option Value→Shared→Prop} (D1:Draws prog w A.in1 i1 f1 n1 P1 S1) (D2:Draws prog w A.in1 i2 f2 n2 P2 S2) (D:ZA z TI TO i1 i2 f1 f2)
  (hz:IsZip s.heap z TI TO .none) (hTI:IsPair s.heap TI (.ref i1) (.ref i2)) (hTO:IsPair s.heap TO a b) (h1:S1 k1 s.heap) (h2:S2 k2 s.heap) (b1:k1≤n1) (b2:k2≤n2)
  (hQ:k1<n1→k2<n2→∀ x y h' tk,P1 k1 x→P2 k2 y→IsZip h' z TI TO (rawInt s.heap.objs.size)→IsPair h' TO x y→S1 (k1+1) h'→S2 (k2+1) h'→IsPair h' s.heap.objs.size x y →
   (∀ c o,c≠z→c≠TO→c≠i1→c≠i2→s.heap.get? c=some o→h'.get? c=some o)→Q (some (.ref s.heap.objs.size)) { s with heap:=h',toks:=tk })
  (hN:k1=n1∨k2=n2→∀ h' tk,(∀ c o,c≠z→c≠TO→c≠i1→c≠i2→s.heap.get? c=some o→h'.get? c=some o)→Q none { s with heap:=h',toks:=tk }) :
  wpAny (model prog w) A (pyNext (.ref z)) Q E s:=by
 have ty:s.TypeIs (.ref z) "zip":=⟨_,hz,rfl⟩
 have sl:=F.slot_zip_next
 unfold pyNext
 refine wpAny_bind (wpAny_attempt (wpAny_callSpecial?_slot (name:=Str.ofString "__next__") ty sl (wpAny_call_entry sl ty F.entry_zip_next ?_ (F.args_zip_next_1 _))))
 refine sm D1 D2 D hz hTI hTO h1 h2 b1 b2 (fun l1 l2 x y h' tk p1 p2 a1 a2 a3 a4 a5 a6=>wpAny_pure (hQ l1 l2 x y h' tk p1 p2 a1 a2 a3 a4 a5 a6)) fun en h' tk e hk ⟨o,ho,hc⟩=>?_
 exact wpAny_bind (wpAny_isInstance (T := "StopIteration") (b:=true) ⟨o,ho,hc⟩ isSubtype_stop (wpAny_pure (hN en _ _ hk)))
end
open Sem (wp)
theorem nF (k1 k2:Bool) (l1 l2:Addr) (xs ys:Array Value) :
  Meets (Builtin.«zip.__new__» ⟨[.type "zip",.ref l1,.ref l2],[]⟩) (fun _ R s=>SqS k1 s.heap l1 xs∧SqS k2 s.heap l2 ys ∧
   R (.ok (.ret (.ref (s.heap.objs.size+4)))) { s with heap:=((((s.heap.push (lj k1 l1)).push (lj k2 l2)).push { cls:=.type "tuple",data:=.seq #[.ref s.heap.objs.size,.ref (s.heap.objs.size+1)] }).push { cls:=.type "tuple",data:=.seq #[.none,.none] }).push { cls:=.type "zip",data:=.fields #[.none,.bool false,.bool false,.ref (s.heap.objs.size+2),.ref (s.heap.objs.size+3)] } }) :=
 .of_wp fun prog w A R s h=>by
  obtain ⟨hp,g,d,tk,os⟩:=s
  obtain ⟨a1,a2,h⟩:=h
  have sub:=sub_zip
  have b1:SqS k1 (Shared.heap ⟨hp,g,d,tk,os⟩) l1 xs:=a1
  have b2:SqS k2 (Shared.heap ⟨hp.push (lj k1 l1),g,d,tk,os⟩) l2 ys:=SqS.at (show SqS k2 hp l2 ys from a2) fun o e=>Heap.get?_push_of_some _ e
  wp_walk using ma b1,ma b2
  refine ⟨_,rfl,?_⟩
  simp only [Heap.size_push] at *
  exact h
end PySem
namespace L2
open PySem PySem.Spec PyProof.Rows
def SqX (k:Bool) (K:Frag) (H:Hp) (a:Addr) (xs:List V):Prop:=match k with | true=>SqT K H a xs | false=>SqL K H a xs
section
variable {X:Cx} {pins:List (Addr×Obj)} {σ:St} {H:Hp} {s:Shared} {a:Addr} {xs ys:List V} {h':Heap}
theorem Inv.sq {k:Bool} (I:Inv X pins σ H s) (h:SqX k X.K H a xs):∃ its:List Value,aQ xs its∧SqS k s.heap a its.toArray∧xs.length≤sizeLine:=by
 cases k with
 | true=>obtain ⟨its,r,p,z⟩:=I.tuple h; exact ⟨its,r,p,z⟩
 | false=>obtain ⟨its,r,p,z⟩:=I.list h; exact ⟨its,r,p.isList,z⟩
theorem Inv.sq_inj {k:Bool} (I:Inv X pins σ H s) (h:SqX k X.K H a xs) (h':SqX k X.K H a ys):xs=ys:=by
 cases k with
 | true=>exact I.tuple_inj h h'
 | false=>exact I.list_inj h h'
theorem Rd.ne {u:HO} {c:Addr} (r:Rd H a u) (h:H c=none):a≠c:=fun e=>by
 subst e
 rcases r with r | ⟨o,r⟩<;>(rw [h] at r; cases r)
theorem zY {o:Obj} {c:Addr} (I:Inv X pins σ H s) (e:X.K.lookup a=some o) (f:hX X pins H c):a≠c:=fun q=>by
 subst q
 have hb:=I.ok.mod.kin a o e
 rcases f.2.2.2.1 with m | m
 ·exact I.ok.noex a o hb m
 ·exact absurd (Nat.lt_of_lt_of_le (Heap.lt_size hb) (Nat.le_trans I.ok.bsz m)) (Nat.lt_irrefl _)
theorem Inv.sq_ne {k:Bool} {c:Addr} (I:Inv X pins σ H s) (h:SqX k X.K H a xs) (f:hX X pins H c):a≠c:=by
 cases k with
 | true=>rcases h with r | ⟨o,_,_,e,_⟩; exact r.ne f.1; exact zY I e f
 | false=>rcases h with r | ⟨o,_,_,e,_⟩; exact r.ne f.1; exact zY I e f
theorem Inv.turnedL {t':Nat} {its:List Addr} (I:Inv X pins σ H s) (k:∀ b o,b∉its→s.heap.get? b=some o→h'.get? b=some o) (hf:∀ b∈its,hX X pins H b) :
  Inv X pins σ H { s with heap:=h',toks:=t' }:=by
 have nit:∀ b u,H b=some u→b∉its:=fun b u e z=>by rw [(hf b z).1] at e; cases e
 refine I.step (g':=s.gens) (d':=s.drawn) (ch:=its) (fun b hb=>⟨(hf b hb).2.2.2.1,(hf b hb).2.1,(hf b hb).2.2.2.2.1,(hf b hb).2.2.2.2.2⟩) (fun b o _ _ hc e _=>k b o hc e) (fun b o _ _ hc e _=>⟨o.slots,k b o hc e⟩) (fun _ _ _ _ n=>n)
  (fun b o hc e=>⟨o,k b o hc e⟩) (fun _ _ e=>e) (fun _ _ _ e=>e) (fun b ps e=>⟨#[],by rw [e]; simp⟩) (fun m hm=>?_) (fun b u e=>?_) I.bare
 ·obtain ⟨o,es,ep,ho,r⟩:=hm
  exact ⟨o,es,ep,k _ o (fun z=>(hf _ z).2.1 rfl) ho,r⟩
 ·refine (I.hok b u e).stay (fun c v hc q=>k c v ?_ q) (fun _ q=>q) fun _ _ q=>q
  rcases hc with z | z
  ·rw [z]; exact nit b u e
  ·exact nit c _ z
end
def Itz (K:Frag) (k1 k2:Bool) (a b:Addr):It :=
 ⟨fun i H=>∃ xs ys x y,SqX k1 K H a xs∧SqX k2 K H b ys∧xs[i]?=some x∧ys[i]?=some y,
  fun i H v H'=>∃ p x y,H p=none∧v=.ref p∧H'=upd H p (.tup [x,y])∧(∀ xs,SqX k1 K H a xs→xs[i]?=some x)∧(∀ ys,SqX k2 K H b ys→ys[i]?=some y),
  fun i H=>∃ xs ys,SqX k1 K H a xs∧SqX k2 K H b ys∧i≤xs.length∧i≤ys.length∧(xs.length=i∨ys.length=i)⟩
structure ZN (z TI TO i1 i2:Addr):Prop where
 TIz:TI≠z
 TOz:TO≠z
 i1z:i1≠z
 i2z:i2≠z
 TITO:TI≠TO
 TIi1:TI≠i1
 TIi2:TI≠i2
 TOi1:TO≠i1
 TOi2:TO≠i2
 i12:i1≠i2
theorem ZN.new (n:Nat):ZN (n+4:Nat) (n+2:Nat) (n+3:Nat) n (n+1:Nat) :=
 ⟨show (n+2:Nat)≠(n+4:Nat) by omega,show (n+3:Nat)≠(n+4:Nat) by omega,show (n:Nat)≠(n+4:Nat) by omega,show (n+1:Nat)≠(n+4:Nat) by omega,show (n+2:Nat)≠(n+3:Nat) by omega,show (n+2:Nat)≠n by omega,show (n+2:Nat)≠(n+1:Nat) by omega,show (n+3:Nat)≠n by omega,show (n+3:Nat)≠(n+1:Nat) by omega,show (n:Nat)≠(n+1:Nat) by omega⟩
theorem ZN.za {z TI TO i1 i2 a b:Addr} (D:ZN z TI TO i1 i2) (az:a≠z) (bz:b≠z) (aT:a≠TO) (bT:b≠TO) (ai:a≠i2) (bi:b≠i1):ZA z TI TO i1 i2 [i1,a] [i2,b] :=
 ⟨D.TIz,D.TOz,D.i1z,D.i2z,D.TITO,D.TIi1,D.TIi2,D.TOi1,D.TOi2,D.i12,by simp [D.i1z.symm,az.symm],by simp [D.i2z.symm,bz.symm],by simp [D.TOi1,aT.symm],by simp [D.TOi2,bT.symm],by simp [D.i12,bi.symm],by simp [D.i12.symm,ai.symm]⟩
theorem vo {P:Program} {w:World} {K:Frag} {elts:List Expr} {x1} {pos:Pos} {z TI TO i1 i2:Addr} (D:ZN z TI TO i1 i2) (k1 k2:Bool) (a b:Addr) :
  nX P w K (.Tuple elts x1 pos) (Itz K k1 k2 a b) [z,TI,TO,i1,i2] z (fun i h=>IsZip h z TI TO .none∧IsPair h TI (.ref i1) (.ref i2)∧(∃ u v,IsPair h TO u v)∧ItS k1 h i1 a i∧ItS k2 h i2 b i) where
 mem:=by simp
 obj:=fun i h st c hc=>by
  obtain ⟨hz,hI,⟨u,v,hO⟩,s1,s2⟩:=st
  simp at hc
  rcases hc with rfl | rfl | rfl | rfl | rfl
  ·exact ⟨_,hz,fun v z=>by have z':Data.fields _=Data.cell v:=z; cases z'⟩
  ·exact ⟨_,hI,fun v z=>by have z':Data.seq _ _=Data.cell v:=z; cases z'⟩
  ·exact ⟨_,hO,fun v z=>by have z':Data.seq _ _=Data.cell v:=z; cases z'⟩
  ·exact s1.live
  ·exact s2.live
 keep:=fun i h h' st k=>by
  obtain ⟨hz,hI,⟨u,v,hO⟩,s1,s2⟩:=st
  exact ⟨k z (by simp) _ hz,k TI (by simp) _ hI,⟨u,v,k TO (by simp) _ hO⟩,s1.at fun o e=>k i1 (by simp) o e,s2.at fun o e=>k i2 (by simp) o e⟩
 item:=by
  intro X hP hw hK hc i pins s σ H E I hf st hg
  subst hP hw hK
  obtain ⟨xs,ys,x,y,q1,q2,ex,ey⟩:=hg
  obtain ⟨hz,hI,⟨u0,v0,hO⟩,s1,s2⟩:=st
  obtain ⟨its1,r1,p1,_⟩:=I.sq q1
  obtain ⟨its2,r2,p2,_⟩:=I.sq q2
  obtain ⟨ux,hux,rx⟩:=r1.get ex
  obtain ⟨uy,huy,ry⟩:=r2.get ey
  have fz:=hf z (by simp); have fO:=hf TO (by simp); have f1:=hf i1 (by simp); have f2:=hf i2 (by simp)
  have hh:X.A.in1.handled=none:=I.ok.hd hc
  have l1:i<its1.toArray.size:=by simpa using (List.getElem?_eq_some_iff.mp hux).1
  have l2:i<its2.toArray.size:=by simpa using (List.getElem?_eq_some_iff.mp huy).1
  refine ju (Draws.sq hh i1 a (I.sq_ne q1 f1) its1.toArray k1) (Draws.sq hh i2 b (I.sq_ne q2 f2) its2.toArray k2) (D.za (I.sq_ne q1 fz) (I.sq_ne q2 fz) (I.sq_ne q1 fO) (I.sq_ne q2 fO) (I.sq_ne q1 f2) (I.sq_ne q2 f1)) hz hI hO ⟨s1,p1⟩ ⟨s2,p2⟩ (Nat.le_of_lt l1) (Nat.le_of_lt l2) (fun _ _ gx gy h' tk px py a1 a2 a3 a4 a5 a6=>?_) (fun en=>by omega)
  have egx:gx=ux:=by
   have px':its1[i]?=some gx:=by simpa using px
   rw [hux] at px'
   exact (Option.some.inj px').symm
  have egy:gy=uy:=by
   have py':its2[i]?=some gy:=by simpa using py
   rw [huy] at py'
   exact (Option.some.inj py').symm
  subst egx egy
  refine ⟨_,rfl,wpAny_letOwnedTupleGo_zip (s:={ s with heap:=h',toks:=tk }) a1 fun h2 b1 b2=>?_⟩
  have lt:∀ {c:Addr} {o:Obj},s.heap.get? c=some o→c≠s.heap.objs.size:=fun e=>Nat.ne_of_lt (Heap.lt_size e)
  have fr:H s.heap.objs.size=none:=I.hok.fresh (Nat.le_refl _)
  have I1:Inv X pins σ (upd H s.heap.objs.size (.tup [x,y])) { s with heap:=s.heap.push { cls:=.type "tuple",data:=.seq #[gx,gy] },toks:=tk }:=by
   refine I.laid (t':=tk) (fun b u e=>Heap.get?_push_of_some _ e) (Nat.le_refl _) ⟨by simp [sizeLine],[gx,gy],.cons rx (.cons ry .nil),⟨_,Heap.get?_push_size _ rfl,rfl,_,rfl⟩,_,Heap.get?_push_size _ rfl,rfl⟩
  have nl:∀ c∈[z,TI,TO,i1,i2],c≠s.heap.objs.size:=fun c hc=>by
   simp at hc
   rcases hc with rfl | rfl | rfl | rfl | rfl
   ·exact lt hz
   ·exact lt hI
   ·exact lt hO
   ·obtain ⟨o,e,_⟩:=s1.live; exact lt e
   ·obtain ⟨o,e,_⟩:=s2.live; exact lt e
  have hf':∀ c∈[z,TI,TO,i1,i2],hX X pins (upd H s.heap.objs.size (.tup [x,y])) c:=fun c hc=>⟨by rw [bc (nl c hc)]; exact (hf c hc).1,(hf c hc).2⟩
  have I2:Inv X pins σ (upd H s.heap.objs.size (.tup [x,y])) { s with heap:=h2,toks:=tk }:=by
   refine Inv.turnedL (s:={ s with heap:=s.heap.push { cls:=.type "tuple",data:=.seq #[gx,gy] },toks:=tk }) (t':=tk) (its:=[z,TI,TO,i1,i2]) I1 (fun c o hc e=>?_) hf'
   simp at hc
   refine b2.extBut _ _ hc.1 ?_
   rcases Heap.get?_push_cases e with ⟨q,q'⟩ | q
   ·rw [q,q']
    exact a5
   ·exact a6 c o hc.1 hc.2.2.1 hc.2.2.2.1 hc.2.2.2.2 q
  refine ⟨.ref s.heap.objs.size,_,I2,rfl,⟨_,x,y,fr,rfl,rfl,fun zs hz'=>by rw [I.sq_inj hz' q1]; exact ex,fun zs hz'=>by rw [I.sq_inj hz' q2]; exact ey⟩,⟨b1,?_,⟨_,_,b2.extBut _ _ D.TOz a2⟩,a3.1.at fun o e=>b2.extBut _ _ D.i1z e,a4.1.at fun o e=>b2.extBut _ _ D.i2z e⟩,fun c hc=>(hf' c hc).1⟩
  exact b2.extBut _ _ D.TIz (a6 _ _ D.TIz D.TITO D.TIi1 D.TIi2 hI)
 done:=by
  intro X hP hw hK hc i pins s σ H E I hf st hg
  subst hP hw hK
  obtain ⟨xs,ys,q1,q2,m1,m2,en⟩:=hg
  obtain ⟨hz,hI,⟨u0,v0,hO⟩,s1,s2⟩:=st
  obtain ⟨its1,r1,p1,_⟩:=I.sq q1
  obtain ⟨its2,r2,p2,_⟩:=I.sq q2
  have e1:=r1.length
  have e2:=r2.length
  have fz:=hf z (by simp); have fO:=hf TO (by simp); have f1:=hf i1 (by simp); have f2:=hf i2 (by simp)
  have hh:X.A.in1.handled=none:=I.ok.hd hc
  refine ju (Draws.sq hh i1 a (I.sq_ne q1 f1) its1.toArray k1) (Draws.sq hh i2 b (I.sq_ne q2 f2) its2.toArray k2) (D.za (I.sq_ne q1 fz) (I.sq_ne q2 fz) (I.sq_ne q1 fO) (I.sq_ne q2 fO) (I.sq_ne q1 f2) (I.sq_ne q2 f1)) hz hI hO ⟨s1,p1⟩ ⟨s2,p2⟩ (by simp; omega) (by simp; omega) (fun l1 l2=>?_) (fun _ h' tk k=>⟨rfl,?_⟩)
  ·simp at l1 l2
   omega
  ·exact I.turnedL (its:=[z,TI,TO,i1,i2]) (fun c o hc e=>by simp at hc; exact k c o hc.1 hc.2.2.1 hc.2.2.2.1 hc.2.2.2.2 e) hf
 self:=fun _ _ _ _ _ st h=>wpAny_pyIter_zip st.1 h
section
variable {X:Cx}
def Af (K:Frag) (k1 k2:Bool) (ta:TA):TI:=fun σ H R=>ta σ H fun vs H1=>∃ a b,vs=[.ref a,.ref b]∧(∃ xs,SqX k1 K H1 a xs)∧(∃ ys,SqX k2 K H1 b ys)∧R (Itz K k1 k2 a b) H1
theorem qt {elts:List Expr} {x1} {tp:Pos} {a b:Expr} {ta:TA} {p pos:Pos} (k1 k2:Bool) (hg:Gl X "zip") (hm:X.mg "zip"=none) (ha:PA X [a,b] ta) (hs:starEach [a,b] X.env=[(false,eval a X.env),(false,eval b X.env)]:=by rfl) (hs2:starEach [b] X.env=[(false,eval b X.env)]:=by rfl) :
  PI X (.Tuple elts x1 tp) (.Call (.Name "zip" p) [a,b] [] pos) (Af X.K k1 k2 ta):=by
 intro pins s σ H R I h
 refine Call_ (iP I hg hm boot_zip (PyProof.Rows.callWith_type1 (thn (ha pos pins s σ H _ I h) fun us s1 ⟨vs,H1,I1,r1,q1⟩=>?_) (by rw [hs,hs2]) (by rw [hs2]; rfl)))
 obtain ⟨l1,l2,e,⟨xs,h1⟩,⟨ys,h2⟩,q⟩:=q1
 subst e
 cases r1 with
 | cons r rr =>
  cases rr with
  | cons r' rr =>
   cases rr
   cases r
   cases r'
   obtain ⟨its1,v1,p1,_⟩:=I1.sq h1
   obtain ⟨its2,v2,p2,_⟩:=I1.sq h2
   refine callType_new F.called_zip (by decide) (F.typeCall_zip_2 _ _) (F.newCall_zip_2 _ _) (fun obj=>F.args_object_init_3 obj _ _) F.entry_zip_new (nF k1 k2 l1 l2 its1.toArray its2.toArray) ⟨p1,p2,?_⟩
   have key:∀ (n:Nat) (o1 o2 o3 o4 o5:Obj) (hp:Heap),o1.isFreed=false→o2.isFreed=false→o3.isFreed=false→o4.isFreed=false→o5.isFreed=false→n=hp.objs.size →
     (((((hp.push o1).push o2).push o3).push o4).push o5).get? n=some o1∧(((((hp.push o1).push o2).push o3).push o4).push o5).get? (n+1)=some o2∧(((((hp.push o1).push o2).push o3).push o4).push o5).get? (n+2)=some o3 ∧
     (((((hp.push o1).push o2).push o3).push o4).push o5).get? (n+3)=some o4∧(((((hp.push o1).push o2).push o3).push o4).push o5).get? (n+4)=some o5:=by
    intro n o1 o2 o3 o4 o5 hp f1 f2 f3 f4 f5 e
    subst e
    have z1:(hp.push o1).objs.size=hp.objs.size+1:=Heap.size_push ..
    have z2:((hp.push o1).push o2).objs.size=hp.objs.size+2:=by rw [Heap.size_push,z1]
    have z3:(((hp.push o1).push o2).push o3).objs.size=hp.objs.size+3:=by rw [Heap.size_push,z2]
    have z4:((((hp.push o1).push o2).push o3).push o4).objs.size=hp.objs.size+4:=by rw [Heap.size_push,z3]
    refine ⟨?_,?_,?_,?_,?_⟩
    ·exact Heap.get?_push_of_some _ (Heap.get?_push_of_some _ (Heap.get?_push_of_some _ (Heap.get?_push_of_some _ (Heap.get?_push_size _ f1))))
    ·rw [← z1]
     exact Heap.get?_push_of_some _ (Heap.get?_push_of_some _ (Heap.get?_push_of_some _ (Heap.get?_push_size _ f2)))
    ·rw [← z2]
     exact Heap.get?_push_of_some _ (Heap.get?_push_of_some _ (Heap.get?_push_size _ f3))
    ·rw [← z3]
     exact Heap.get?_push_of_some _ (Heap.get?_push_size _ f4)
    ·rw [← z4]
     exact Heap.get?_push_size _ f5
   obtain ⟨g1,g2,g3,g4,g5⟩:=key s1.heap.objs.size (lj k1 l1) (lj k2 l2) { cls:=.type "tuple",data:=.seq #[.ref s1.heap.objs.size,.ref (s1.heap.objs.size+1)] } { cls:=.type "tuple",data:=.seq #[.none,.none] } { cls:=.type "zip",data:=.fields #[.none,.bool false,.bool false,.ref (s1.heap.objs.size+2),.ref (s1.heap.objs.size+3)] } s1.heap rfl rfl rfl rfl rfl rfl
   refine ⟨⟨_,g5,rfl⟩,wpAny_pyIter_zip (f0:=.none) g5 ?_⟩
   refine ⟨s1.heap.objs.size+4,[s1.heap.objs.size+4,s1.heap.objs.size+2,s1.heap.objs.size+3,s1.heap.objs.size,s1.heap.objs.size+1],_,_,H1,rfl,I1.kept (t':=s1.toks) fun b o e=>?_,vo (TI:=s1.heap.objs.size+2) (TO:=s1.heap.objs.size+3) (i1:=s1.heap.objs.size) (i2:=s1.heap.objs.size+1) (ZN.new _) k1 k2 l1 l2,⟨g5,g3,⟨_,_,g4⟩,ItS.new g1,ItS.new g2⟩,fun b hb=>?_,q⟩
   ·exact Heap.get?_push_of_some _ (Heap.get?_push_of_some _ (Heap.get?_push_of_some _ (Heap.get?_push_of_some _ (Heap.get?_push_of_some _ e))))
   ·have le:s1.heap.objs.size≤b:=by
     simp only [List.mem_cons,List.not_mem_nil,or_false] at hb
     rcases hb with rfl | rfl | rfl | rfl | rfl
     ·exact Nat.le_add_right _ _
     ·exact Nat.le_add_right _ _
     ·exact Nat.le_add_right _ _
     ·exact Nat.le_refl _
     ·exact Nat.le_add_right _ _
    exact I1.fpOk le (I1.hok.fresh le)
end
open PySem PySem.Spec PyProof.Rows
section
variable {κ:Type} [DecidableEq κ]
end
section
variable {P:Program} {w:World} {H:Hp} {h:Heap} {a:Addr}
mutual
theorem xV (ok:HOk P w H h):∀ {v:V} {u:Value} {d:PyData},KAt H v d→bq v u→RdT h u d
 | _,_,_,.int i,r=>by obtain ⟨t,rfl⟩:=r; exact .int i t
 | _,_,_,.str x,r=>by obtain ⟨t,rfl⟩:=r; exact .str x t
 | _,_,_,.tup e q,r=>by
  cases r
  obtain ⟨_,its,r,⟨o,h1,h2,n,h3⟩,_⟩:=(show bS P w H h _ (.tup _) from ok _ _ e)
  exact .tup h1 h2 h3 (by simpa using nh ok q r)
theorem nh (ok:HOk P w H h):∀ {v:List V} {u:List Value} {d:List PyData},bC H v d→aQ v u→cP h u d
 | _,_,_,.nil,r=>by cases r; exact .nil
 | _,_,_,.cons k q,r=>by
  cases r with
  | cons r1 r2=>exact .cons (xV ok k r1) (nh ok q r2)
end
end
section
variable {X:Cx} {pins:List (Addr×Obj)} {σ:St} {H:Hp} {s:Shared} {a:Addr} {y v:V} {u r:Value} {o:Option V} {A:Around} {E:Value→Shared→Prop}
end
section
variable {X:Cx} {pins:List (Addr×Obj)} {σ:St} {H:Hp} {s:Shared} {a:Addr} {kvs:List (Key×V)} {k:Key} {u:Value} {A:Around} {E:Value→Shared→Prop}
end
section
variable {X:Cx} {o i e value:Expr} {pos pos' tpos:Pos} {td ty tv:TE}
end
section
variable {X:Cx} {pos:Pos}
end
structure M1 (X:Cx) (o:Expr) (m:Str) (apos:Pos) (e:Expr) (cpos:Pos):Prop where
 base:attributeBase o m X.env (eval o X.env)=eval o X.env
 few:((backTo cpos (starEach [e] X.env)).all (fun x=>!x.1)&&(backToKw cpos (keywordEach [] X.env)).all (fun x=>x.1.isSome)
 &&decide (([e]:List Expr).length+([]:List Keyword).length+(if ([]:List Keyword).isEmpty then 0 else 1)<30))=true
 line:(apos.endLine==cpos.line)=true
 trees:backTo cpos (starEach [e] X.env)=[(false,eval e X.env)]
structure M2 (X:Cx) (o:Expr) (m:Str) (apos:Pos) (e f:Expr) (cpos:Pos):Prop where
 base:attributeBase o m X.env (eval o X.env)=eval o X.env
 few:((backTo cpos (starEach [e,f] X.env)).all (fun x=>!x.1)&&(backToKw cpos (keywordEach [] X.env)).all (fun x=>x.1.isSome)
 &&decide (([e,f]:List Expr).length+([]:List Keyword).length+(if ([]:List Keyword).isEmpty then 0 else 1)<30))=true
 line:(apos.endLine==cpos.line)=true
 trees:backTo cpos (starEach [e,f] X.env)=[(false,eval e X.env),(false,eval f X.env)]
section
variable {X:Cx} {pins:List (Addr×Obj)} {σ:St} {H:Hp} {s:Shared} {a:Addr} {y d:V} {u r:Value} {o:Option V} {A:Around} {E:Value→Shared→Prop}
end
section
variable {X:Cx} {o e f:Expr} {apos cpos:Pos} {td ty tx:TE}
end
section
variable {X:Cx} {pins:List (Addr×Obj)} {σ:St} {H:Hp} {s:Shared} {a:Addr} {kvs:List (Key×V)} {A:Around} {E:Value→Shared→Prop}
end
section
variable {X:Cx} {pins:List (Addr×Obj)} {σ:St} {H:Hp} {s:Shared} {a:Addr} {y:V} {u:Value} {A:Around} {E:Value→Shared→Prop}
end
section
variable {X:Cx}
end
section
variable {κ:Type} [DecidableEq κ]
end
open PySem PySem.Spec PyProof.Rows
section
variable {m:Nat} {g:TG} {tt:TT} {te:TE} {σ':St} {Z:List V→Hp→Prop} {H1:Hp} {K:Frag}
theorem cB {a:Addr} {xs:List V} (n:Nat) (hz:n=xs.length) (hn:n≤1000) (Pv:Nat→List V→Hp→Prop) (h0:Pv 0 [] H1) (hq:∀ i acc H,Pv i acc H→SqL K H a xs)
  (hs:∀ i acc H x,i<n→acc.length≤i→xs[i]?=some x→Pv i acc H→g x σ' H fun σ2 H2=>(σ2.drop m=σ'.drop m∧σ2.length=σ'.length)∧tt σ2 H2 fun b H3=>if b=true then te σ2 H3 fun v H4=>NxT n Pv i acc v H4 else NxF n Pv i acc H3)
  (hd:∀ acc H,Pv n acc H→acc.length≤n→Z acc H):jf (Itl K a) m g tt te σ' Z H1 :=
 iF n hn Pv h0 (fun i acc H hi la p=>by
  have hx:xs[i]?=some (xs[i]'(by omega)):=List.getElem?_eq_getElem (by omega)
  exact ⟨⟨xs,_,hq i acc H p,hx⟩,fun x H' y=>by obtain ⟨e,y⟩:=y; subst e; exact hs i acc _ x hi la (y xs (hq i acc _ p)) p⟩) fun acc H p la=>⟨⟨xs,hq n acc H p,by omega⟩,hd acc H p la⟩
theorem nY {a b:Addr} {xs ys:List V} {k1 k2:Bool} (n:Nat) (hz:n=xs.length) (hz2:n=ys.length) (hn:n≤1000) (Pv:Nat→List V→Hp→Prop) (h0:Pv 0 [] H1) (hq:∀ i acc H,Pv i acc H→SqX k1 K H a xs∧SqX k2 K H b ys)
  (hs:∀ i acc H x y p,i<n→acc.length≤i→xs[i]?=some x→ys[i]?=some y→Pv i acc H→H p=none→g (.ref p) σ' (upd H p (.tup [x,y])) fun σ2 H2=>(σ2.drop m=σ'.drop m∧σ2.length=σ'.length)∧tt σ2 H2 fun b H3=>if b=true then te σ2 H3 fun v H4=>NxT n Pv i acc v H4 else NxF n Pv i acc H3)
  (hd:∀ acc H,Pv n acc H→acc.length≤n→Z acc H):jf (Itz K k1 k2 a b) m g tt te σ' Z H1 :=
 iF n hn Pv h0 (fun i acc H hi la p=>by
  have hx:xs[i]?=some (xs[i]'(by omega)):=List.getElem?_eq_getElem (by omega)
  have hy:ys[i]?=some (ys[i]'(by omega)):=List.getElem?_eq_getElem (by omega)
  obtain ⟨q1,q2⟩:=hq i acc H p
  refine ⟨⟨xs,ys,_,_,q1,q2,hx,hy⟩,fun v H' yy=>?_⟩
  obtain ⟨pp,x,y,e1,e2,e3,e4,e5⟩:=yy
  subst e2 e3
  exact hs i acc H x y pp hi la (e4 xs q1) (e5 ys q2) p e1) fun acc H p la=>⟨⟨xs,ys,(hq n acc H p).1,(hq n acc H p).2,by omega,by omega,by omega⟩,hd acc H p la⟩
end
section
variable {X:Cx}
end
theorem im {t u:L2.TS} {D:lu} {σ:St} {H:Hp} (J:St→Hp→Prop) (h1:∀ NX:St→Hp→Prop,(∀ σ H,J σ H→NX σ H)→t { D with nx:=NX } σ H) (h2:∀ σ H,J σ H→u D σ H):wB t u D σ H:=h1 _ h2
open PySem PySem.Spec PyProof.Rows
section
variable {X:Cx}
structure KD (K:Frag) (w:World) (a:Addr) (kvs:List (Str×Str)):Prop where
 ex:∃ es n,K.lookup a=some ⟨.type "dict",none,.dict es n,#[]⟩∧KeysLit w.params es.toList
 at_:∀ p∈kvs,∃ t,PySem.W.nsIn K a p.1=some (some (.str p.2 t))
end
end L2
namespace PySem
open Sem (wp)
namespace F
end F
section
variable {prog:Program} {w:World} {A:Around} {E:Value→Shared→Prop} {s:Shared}
end
open Sem (wp)
namespace F
end F
section
variable {prog:Program} {w:World} {A:Around} {E:Value→Shared→Prop} {s:Shared}
end
section
variable {prog:Program} {w:World} {A:Around} {s:Shared} {R:Result→Shared→Prop}
variable {I:Addr} {fp wr:List Addr} {n:Nat} {P:Nat→Value→Prop} {St:Nat→Heap→Prop}
end
section
variable {prog:Program} {w:World} {A:Around} {E:Value→Shared→Prop} {s:Shared}
variable {I:Addr} {fp wr:List Addr} {n:Nat} {P:Nat→Value→Prop} {St:Nat→Heap→Prop}
end
end PySem
namespace L2
open PySem PySem.Spec PyProof.Rows
section
variable {X:Cx}
end
open PySem PySem.Spec PyProof.Rows
section
variable {X:Cx} {tg:Expr}
end
end L2
namespace PySem
open Sem (wp)
open AutoSeq1 (wpAny_loadPart')
end PySem
namespace L2
open PySem PySem.Spec PyProof.Rows
section
variable {X:Cx}
end
open PySem PySem.Spec PyProof.Rows
section
variable {X:Cx} {tg:Expr}
end
section
variable {m:Nat} {g:TG} {tt:TT} {te:TE} {σ':St} {Z:List V→Hp→Prop} {H1:Hp} {K:Frag}
end
open PySem PySem.W PySem.Calls PySem.Spec PyProof.Rows
section
variable {prog:Program} {w:World}
theorem rG:∀ (l m:List PyData) {A:Around} {s:Shared} {us vs:List Value} {fin:Bool} {i:Nat} {Q:Bool→Shared→Prop},cP s.heap us l→cP s.heap vs m→pks l=true→pks m=true→jF l m→A.units+PyData.depthAll l+2<cLine →
  (∀ b,dif l m=some b→Q b s)→(dif l m=none→Q fin s)→KatLex prog w A false fin Q (us.zip vs) i s
 | [],m,A,s,us,vs,fin,i,Q,r1,r2,p1,p2,c,hu,h1,h2=>by
  cases r1
  rw [List.zip_nil_left]
  exact kat_nil (h2 (by simp [dif]))
 | a::l,[],A,s,us,vs,fin,i,Q,r1,r2,p1,p2,c,hu,h1,h2=>by
  cases r2
  rw [List.zip_nil_right]
  exact kat_nil (h2 (by simp [dif]))
 | a::l,b::m,A,s,us,vs,fin,i,Q,r1,r2,p1,p2,c,hu,h1,h2=>by
  cases r1 with
  | @cons u us _ _ q1 r1 =>
   cases r2 with
   | @cons v vs _ _ q2 r2 =>
    simp only [pks,Bool.and_eq_true] at p1 p2
    simp only [PyData.depthAll] at hu
    rw [List.zip_cons_cons]
    obtain ⟨as,ra⟩:=q1.reads
    obtain ⟨bs,rb⟩:=q2.reads
    refine kat_cons (SeqAt.eqAt_reads a b A s _ _ as bs ra rb (eY p1.1) (eY p2.1) (by omega) prog w _ _ ?_)
    rw [nB p1.1 p2.1]
    by_cases hab:a=b
    ·have hd:dif (a::l) (b::m)=dif l m:=by simp only [dif]; rw [if_pos hab]
     rw [decide_eq_true hab]
     rw [hd] at h1 h2
     refine kat_yes (rG l m r1 r2 p1.2 p2.2 ?_ (by omega) h1 h2)
     cases c with
     | eq c=>exact c
     | ne n _=>exact absurd hab n
    ·have hd:dif (a::l) (b::m)=some (dlt a b):=by simp only [dif]; rw [if_neg hab]
     rw [decide_eq_false hab]
     refine kat_no ?_
     rw [Bool.false_and]
     refine kat_one _ _ (xN a b q1 q2 p1.1 p2.1 ?_ (by omega) (h1 _ hd))
     cases c with
     | eq c=>exact absurd rfl hab
     | ne _ c=>exact c
end
structure SOk (ds:List PyData):Prop where
 len:ds.length<64
 p:∀ d∈ds,pk d=true∧d.depth≤40∧∃ f r,d=.tuple (.tuple f::r)
 c:∀ d∈ds,∀ e∈ds,Cok d e
theorem kb {h:Heap}:∀ {us:List Value} {ds:List PyData},cP h us ds→∀ (i:Nat),i<ds.length→RdT h (us.getD i Value.none) (ds.getD i .none)
 | _,_,.nil,i,hi=>by simp at hi
 | _,_,.cons q r,0,hi=>q
 | _,_,.cons q r,i+1,hi=>by
  simp only [List.length_cons] at hi
  simpa using kb r i (by omega)
section
variable {X:Cx}
theorem sU {vs:List V} {us:List Value} (r:aQ vs us) (p:Array Nat):aQ (p.toList.map fun i=>vs.getD i .non) (eV us p):=by
 unfold eV
 induction p.toList with
 | nil=>exact .nil
 | cons i l ih =>
  refine .cons ?_ ih
  show bq (vs.getD i .non) (us.getD i Value.none)
  by_cases hi:i<vs.length
  ·obtain ⟨u,h1,h2⟩:=aQ.get r (List.getElem?_eq_getElem hi)
   have e1:vs.getD i .non=vs[i]:=by simp [hi]
   have e2:us.getD i Value.none=u:=by simp [h1]
   rw [e1,e2]
   exact h2
  ·have l:=aQ.length r
   have e1:vs.getD i .non=.non:=by simp [Nat.le_of_not_lt hi]
   have e2:us.getD i Value.none=Value.none:=by simp [Nat.le_of_not_lt (l ▸ hi)]
   rw [e1,e2]
   rfl
end
end L2
namespace K6
open PySem L2
def Tk (H H':Hp):Prop:=∀ b xs,H b=some (.tup xs)→H' b=some (.tup xs)
theorem Tk.trans {H H1 H2:Hp} (a:Tk H H1) (b:Tk H1 H2):Tk H H2:=fun c xs h=>b c xs (a c xs h)
theorem ak {H H':Hp} (g:ar H H'):Tk H H':=fun b xs h=>g b _ h
theorem ae {H:Hp} {p:Addr} (h:H p=none) (o:HO):ar H (upd H p o):=fun b u q=>by rw [bc (aq q h)]; exact q
theorem fq {H:Hp} {p:Addr} (h:H p=none) (o:HO):Tk H (upd H p o):=ak (ae h o)
theorem cM {H:Hp} {p:Addr} {xs:List V} (h:H p=some (.lst xs)) (o:HO):Tk H (upd H p o):=fun b ys e=>by rw [bc (wg e h (fun z=>by cases z))]; exact e
def Ext (tp:Addr) (H H':Hp):Prop:=∀ b o,b≠tp→H b=some o→H' b=some o
theorem Ext.refl (tp:Addr) (H:Hp):Ext tp H H:=fun _ _ _ h=>h
theorem Ext.trans {tp:Addr} {H H1 H2:Hp} (a:Ext tp H H1) (b:Ext tp H1 H2):Ext tp H H2:=fun c o n h=>b c o n (a c o n h)
theorem ar.ext {tp:Addr} {H H':Hp} (a:ar H H'):Ext tp H H':=fun c o _ h=>a c o h
theorem Ext.upd {tp:Addr} {H:Hp} {o:HO}:Ext tp H (L2.upd H tp o):=fun b u n h=>by rw [bc n]; exact h
theorem bn {H H':Hp} {t:Addr} {ys:List V} (g:Ext t H H') (h:H t=some (.lst ys)):Tk H H':=fun b xs e=>g b _ (wg e h (fun z=>by cases z)) e
theorem rk {H:Hp} {t p:Addr} (h:H p=none) (o:HO):Ext t H (upd H p o):=ar.ext (ae h o)
def TT (K:Frag) (H:Hp) (a:Addr) (xs:List V):Prop:=H a=some (.tup xs)∨False
theorem TT.mono {K:Frag} {H H':Hp} (t:Tk H H') {a:Addr} {xs:List V} (h:TT K H a xs):TT K H' a xs:=h.imp (t _ _) id
theorem TT.sq {K:Frag} {H:Hp} {a:Addr} {xs:List V} (h:TT K H a xs):SqT K H a xs:=h.elim SqT.of False.elim
theorem TT.hp {K:Frag} {H:Hp} {a:Addr} {xs:List V} (h:TT K H a xs):H a=some (.tup xs):=h.elim id False.elim
mutual
inductive DT (K:Frag) (H:Hp):V→PyData→Prop
 | int (i:Int):DT K H (.int i) (.int i)
 | str (x:Str):DT K H (.str x) (.str x)
 | tup {a:Addr} {xs:List V} {ds:List PyData}:TT K H a xs→DTs K H xs ds→DT K H (.ref a) (.tuple ds)
inductive DTs (K:Frag) (H:Hp):List V→List PyData→Prop
 | nil:DTs K H [] []
 | cons {x:V} {xs:List V} {d:PyData} {ds:List PyData}:DT K H x d→DTs K H xs ds→DTs K H (x::xs) (d::ds)
end
mutual
theorem DT.mono {K:Frag} {H H':Hp} (e:Tk H H'):∀ {v:V} {d:PyData},DT K H v d→DT K H' v d
 | _,_,.int i=>.int i
 | _,_,.str x=>.str x
 | _,_,.tup h r=>.tup (h.mono e) (DTs.mono e r)
theorem DTs.mono {K:Frag} {H H':Hp} (e:Tk H H'):∀ {v:List V} {d:List PyData},DTs K H v d→DTs K H' v d
 | _,_,.nil=>.nil
 | _,_,.cons h r=>.cons (DT.mono e h) (DTs.mono e r)
end
mutual
theorem DT.rd {K:Frag} {H:Hp}:∀ {v:V} {d:PyData},DT K H v d→RdD K H v d
 | _,_,.int i=>.int i
 | _,_,.str x=>.str x
 | _,_,.tup h r=>.tup h.sq (DTs.rd r)
theorem DTs.rd {K:Frag} {H:Hp}:∀ {v:List V} {d:List PyData},DTs K H v d→eW K H v d
 | _,_,.nil=>.nil
 | _,_,.cons h r=>.cons (DT.rd h) (DTs.rd r)
end
theorem DTs.len {K:Frag} {H:Hp}:∀ {v:List V} {d:List PyData},DTs K H v d→v.length=d.length
 | _,_,.nil=>rfl
 | _,_,.cons h r=>by rw [List.length_cons,List.length_cons,DTs.len r]
theorem DTs.append {K:Frag} {H:Hp}:∀ {v v':List V} {ds ds':List PyData},DTs K H v ds→DTs K H v' ds'→DTs K H (v++v') (ds++ds')
 | _,_,_,_,.nil,q=>q
 | _,_,_,_,.cons h r,q=>.cons h (DTs.append r q)
theorem DTs.get {K:Frag} {H:Hp}:∀ {v:List V} {d:List PyData},DTs K H v d→∀ (i:Nat) (x:V),v[i]?=some x→∃ e,d[i]?=some e∧DT K H x e
 | _,_,.nil,i,x,h=>by simp at h
 | _,_,.cons h r,0,x,q=>by simp at q; subst q; exact ⟨_,rfl,h⟩
 | _,_,.cons h r,i+1,x,q=>by
  obtain ⟨e,e1,e2⟩:=DTs.get r i x (by simpa using q)
  exact ⟨e,by simpa using e1,e2⟩
def top (i:Nat):Stmt:=PySem.Challenge.pw_everyfork_k23_rooms.main.body.getD i (.Pass ⟨0,0,0,0⟩)
abbrev dZ:Stmt:=top 2
abbrev dD:Stmt:=top 3
abbrev cU:Stmt:=top 4
abbrev eU:Stmt:=top 5
abbrev fV:Stmt:=top 6
abbrev cZ:Stmt:=top 7
abbrev jK:Stmt:=top 8
abbrev eu:Stmt:=top 10
abbrev cV:Stmt:=top 12
abbrev cz:Stmt:=top 13
abbrev fi:Stmt:=top 14
abbrev mZ:Stmt:=top 15
abbrev gn:Stmt:=top 17
abbrev cY:Stmt:=top 18
abbrev eC:Stmt:=top 19
abbrev cO:Stmt:=top 20
abbrev eM:Stmt:=top 21
abbrev kZ:Stmt:=top 23
abbrev jS:Stmt:=top 24
abbrev cJ:Stmt:=top 25
abbrev eR:Stmt:=top 26
abbrev bP:Stmt:=top 27
abbrev gb:Stmt:=top 28
abbrev dY:Stmt:=top 29
abbrev cS:Stmt:=top 30
abbrev io:Stmt:=top 31
abbrev ld:Stmt:=top 32
abbrev eT:Stmt:=top 33
abbrev dc:Stmt:=top 34
abbrev cK:Stmt:=top 35
abbrev mN:Stmt:=top 36
abbrev fQ:Stmt:=top 37
abbrev dH:Stmt:=top 38
abbrev rh:Stmt:=top 39
theorem cL:bootBuiltins "isinstance"=some (.builtin "isinstance"):=by decide +kernel
theorem jq:bootBuiltins "int"=some (.type "int"):=by decide +kernel
theorem mX:bootBuiltins "bool"=some (.type "bool"):=by decide +kernel
theorem xG:bootBuiltins "str"=some (.type "str"):=by decide +kernel
theorem bI:bootBuiltins "tuple"=some (.type "tuple"):=by decide +kernel
theorem ny:bootBuiltins "list"=some (.type "list"):=by decide +kernel
theorem pK:bootBuiltins "dict"=some (.type "dict"):=by decide +kernel
theorem lS:bootBuiltins "all"=some (.builtin "all"):=by decide +kernel
theorem rA:bootBuiltins "ord"=some (.builtin "ord"):=by decide +kernel
theorem cb:bootBuiltins "len"=some (.builtin "len"):=by decide +kernel
def PL:List Str:=["num", "text", "row"]
structure G0 (mg:Str→Option Value):Prop where
 isi:mg "isinstance"=none
 int:mg "int"=none
 bool:mg "bool"=none
 str:mg "str"=none
 tuple:mg "tuple"=none
 list:mg "list"=none
 dict:mg "dict"=none
 all:mg "all"=none
 ord:mg "ord"=none
 len:mg "len"=none
 repr:mg "repr"=none
 range:mg "range"=none
structure Cal (P:Program) (w:World) (K:Frag) (mg:Str→Option Value) (base:Heap) (k:Nat) (x:Str) (ps:List Str) (sp:Sp):Prop where
 ex:∃ g gd,aU P w K mg base CX0 k g gd ps sp∧dg K gd ps []∧keepIn K (.ref g)=true∧mg x=some (.ref g)
theorem jh {H:Hp} {a b:Addr} {o u:HO} (h:b≠a) (e:H b=some u):upd H a o b=some u:=by rw [bc h]; exact e
theorem xB {α β:Type} {R:α→β→Prop} {a:α} {b:β} (q:R a b):∀ {l:List α} {m:List β},Paired R l m→Paired R (l++[a]) (m++[b])
 | _,_,.nil=>.cons q .nil
 | _,_,.cons h t=>.cons h (xB q t)
theorem oM {α β:Type} {R:α→β→Prop} {l1:List α} {m1:List β} (b:Paired R l1 m1):∀ {l:List α} {m:List β},Paired R l m→Paired R (l++l1) (m++m1)
 | _,_,.nil=>b
 | _,_,.cons h t=>.cons h (oM b t)
theorem eqS {k x:Str} (c:decide (V.str k=V.str x)=true):k=x:=V.str.inj (of_decide_eq_true c)
theorem neS {k x:Str} (c:¬ decide (V.str k=V.str x)=true):¬ k=x:=fun e=>c (decide_eq_true (congrArg V.str e))
open PySem L2
theorem dO {α:Type} {xs:List α} {i:Int} (h0:0≤i) (h1:i<xs.length):∃ v,v∈xs∧xs[i.toNat]?=some v∧atI xs i=some v:=by
 have hi:i.toNat<xs.length:=by omega
 have e:xs[i.toNat]?=some xs[i.toNat]:=List.getElem?_eq_getElem hi
 refine ⟨_,List.getElem_mem hi,e,?_⟩
 have q:=rD e
 rwa [show ((i.toNat:Nat):Int)=i by omega] at q
theorem yN:zp 10 18:=⟨by decide,by decide,by decide⟩
theorem xE {i j:Int} (h1:-(2 ^ 64)<j) (h2:j<2 ^ 64):ur i j:=.inr ⟨h1,h2⟩
theorem vJ {i j:Int} (h1:-(2 ^ 64)<i) (h2:i<2 ^ 64):ur i j:=.inl ⟨h1,h2⟩
theorem iS (a:Int) {b:Int} (h0:0<b) (h1:b<2 ^ 32):-(2 ^ 64)<a % b+1∧a % b+1<2 ^ 64:=by
 have:=Int.emod_nonneg a (show b≠0 by omega)
 have:=Int.emod_lt_of_pos a h0
 omega
def Fd (H:Hp) (fp sc:Addr) (m:Nat):Prop:=∃ ns a b c,H fp=some (.lst [.ref sc,.int a,.int b,.int c])∧H sc=some (.lst (List.map V.int ns))∧0<ns.length∧0≤c∧c≤(m:Int)
section
variable {P:Program} {w:World} {K:Frag} {mg:Str→Option Value} {base:Heap} {f g:Addr} {fd gd:FuncData}
abbrev vT:List Str:=["_law_feed_here", "_law_many_here", "_law_found", "_law_cell", "_law_turn", "_law_mixed"]
theorem dI:aK vT ["_law_feed_here", "_law_many_here"] (defScope jS):=⟨rfl,rfl,rfl,by decide +kernel,rfl,by decide +kernel,by decide +kernel⟩
def oJ:Sp:=fun vs H Q _=>∃ fp many sc m,vs=[.ref fp,.int many]∧Fd H fp sc m∧m≤1000∧0<many∧many≤1000∧∀ (v:Int) (H':Hp),0≤v→v<many→Ext fp H H'→Fd H' fp sc (m+1)→Q (.int v) H'
theorem zO (T:G0 mg) (F:Fun K "_law_draw" "_law_draw" jS f fd):aU P w K mg base CX0 1 f fd ["_law_feed_here", "_law_many_here"] oJ:=by
 refine F.ok dI (fun vs H Q E h=>?_) (fun cdv A outer s H vs Q E hr h=>?_)
 ·obtain ⟨fp,many,sc,m,rfl,_⟩:=h
  rfl
 obtain ⟨fp,many,sc,m,rfl,⟨ns,a,b,c,h1,h2,hn,hc0,hc1⟩,hm,hm0,hm1,q⟩:=h
 have hne:sc≠fp:=wg h2 h1 (fun z=>by injection z with z; cases ns<;>cases z)
 refine ⟨_,(@aj _ _ _ _ _ (@eE _ _ _ _ _ _ (@aS _ _ _ _ _ _ _ _ bQ (@av _ _ _ _ _ _ _ aF (pv 0) ag (fun _ _=>rfl)) ag) (dW (pv 0) ag cv) rfl rfl rfl) (@aj _ _ _ _ _ (@bj _ _ _ _ _ _ _ _ (@aE _ _ _ _ _ _ _ _ jU (@av _ _ _ _ _ _ _ aF (pv 0) ag (fun _ _=>rfl)) ag (aO _)) (@aj _ _ _ _ _ (@aC _ _ 2 _ _ _ _ dI.nd rfl (Or.inl rfl) (@aS _ _ _ _ _ _ _ _ dU (@av _ _ _ _ _ _ _ aF (pv 0) ag (fun _ _=>rfl)) (pv 1)) (am rfl) (.inr rfl)) (@aj _ _ _ _ _ (@eE _ _ _ _ _ _ (@aS _ _ _ _ _ _ _ _ mQ (@av _ _ _ _ _ _ _ aF (pv 0) ag (fun _ _=>rfl)) (pv 1)) (dW (pv 0) ag cv) rfl rfl rfl) (@al _ _ _ (@ay _ _ _ _ (pv 2))))) aL) (@aj _ _ _ _ _ (@aC _ _ 3 _ _ _ _ dI.nd rfl (Or.inl rfl) (@av _ _ _ _ _ _ _ aF (@av _ _ _ _ _ _ _ aF (pv 0) ag (fun _ _=>rfl)) (@aS _ _ _ _ _ _ _ _ dU (@av _ _ _ _ _ _ _ aF (pv 0) ag (fun _ _=>rfl)) (@ap _ _ _ _ _ _ _ _ _ aA rfl T.len cb (@ac _ _ _ _ _ (@av _ _ _ _ _ _ _ aF (pv 0) ag (fun _ _=>rfl)) af (aa rfl)) (by decide) (by decide) (aa rfl) (ah rfl))) (fun _ _=>rfl)) (am rfl) (.inr rfl)) (@aj _ _ _ _ _ (@eE _ _ _ _ _ _ (@aS _ _ _ _ _ _ _ _ bQ (@av _ _ _ _ _ _ _ aF (pv 0) ag (fun _ _=>rfl)) ag) (dW (pv 0) ag cv) rfl rfl rfl) (@aj _ _ _ _ _ (@bj _ _ _ _ _ _ _ _ (@aE _ _ _ _ _ _ _ _ zw (pv 3) (@aS _ _ _ _ _ _ _ _ yK ag ag) (aO _)) (@aj _ _ _ _ _ (@eE _ _ _ _ _ _ (@aS _ _ _ _ _ _ _ _ mQ (pv 3) (pv 1)) (dW (pv 0) ag cv) rfl rfl rfl) (@al _ _ _ (@ay _ _ _ _ (@aS _ _ _ _ _ _ _ _ dU (pv 3) (pv 1))))) aL) (@aj _ _ _ _ _ (@aC _ _ 4 _ _ _ _ dI.nd rfl (Or.inl rfl) (@aS _ _ _ _ _ _ _ _ bQ (@aS _ _ _ _ _ _ _ _ bQ (@aS _ _ _ _ _ _ _ _ ia (@aS _ _ _ _ _ _ _ _ ia ag (@av _ _ _ _ _ _ _ aF (pv 0) ag (fun _ _=>rfl))) (@av _ _ _ _ _ _ _ aF (pv 0) ag (fun _ _=>rfl))) (@aS _ _ _ _ _ _ _ _ ia ag (@av _ _ _ _ _ _ _ aF (pv 0) ag (fun _ _=>rfl)))) ag) (am rfl) (.inr rfl)) (@aj _ _ _ _ _ (@aC _ _ 5 _ _ _ _ dI.nd rfl (Or.inl rfl) (@aS _ _ _ _ _ _ _ _ dU (@aS _ _ _ _ _ _ _ _ ia (@aS _ _ _ _ _ _ _ _ bQ (@aS _ _ _ _ _ _ _ _ dU (pv 3) ag) ag) (pv 4)) ag) (am rfl) (.inr rfl)) (@aj _ _ _ _ _ (@aC _ _ 5 _ _ _ _ dI.nd rfl (Or.inl rfl) (@aS _ _ _ _ _ _ _ _ bQ (@aS _ _ _ _ _ _ _ _ ia (pv 5) (@aS _ _ _ _ _ _ _ _ bQ (@aS _ _ _ _ _ _ _ _ dU (pv 5) ag) ag)) (@av _ _ _ _ _ _ _ aF (pv 0) ag (fun _ _=>rfl))) (am rfl) (.inr rfl)) (@al _ _ _ (@ay _ _ _ _ (@aS _ _ _ _ _ _ _ _ dU (@aS _ _ _ _ _ _ _ _ mQ (@aS _ _ _ _ _ _ _ _ dU (pv 5) ag) ag) (pv 1)))))))))))),?_⟩
 have X1:Ext fp H (upd H fp (.lst [.ref sc,.int a,.int b,.int (c+1)])):=Ext.upd
 have e1:(upd H fp (.lst [.ref sc,.int a,.int b,.int (c+1)])) fp=some (.lst [.ref sc,.int a,.int b,.int (c+1)]):=ad
 have e2:(upd H fp (.lst [.ref sc,.int a,.int b,.int (c+1)])) sc=some (.lst (List.map V.int ns)):=X1 _ _ hne h2
 refine ⟨_,rfl,fp,_,_,_,rfl,rfl,SqL.of h1,rfl,_,_,rfl,rfl,_,rfl,fp,_,_,_,rfl,rfl,h1,rfl,?_⟩
 change wB _ _ _ _ (upd H fp (.lst [.ref sc,.int a,.int b,.int (c+1)]))
 generalize (upd H fp (.lst [.ref sc,.int a,.int b,.int (c+1)]))=H1 at X1 e1 e2
 have fin:∀ {a' b' v:Int} {H':Hp},H' fp=some (.lst [.ref sc,.int a',.int b',.int (c+1)])→Ext fp H H'→0≤v→v<many→Q (.int v) H':=fun {a' b' v H'} ha hb hc hd=>q v H' hc hd hb ⟨ns,a',b',c+1,ha,hb _ _ hne h2,hn,by omega,by omega⟩
 refine ⟨_,rfl,fp,_,_,_,rfl,rfl,SqL.of e1,rfl,_,_,rfl,rfl,_,rfl,?_⟩
 refine aX (fun cc=>?_) (fun cc=>?_)
 ·refine ⟨_,rfl,fp,_,_,_,rfl,rfl,SqL.of e1,rfl,_,rfl,_,_,rfl,rfl,hm0,?_⟩
  refine ⟨_,rfl,fp,_,_,_,rfl,rfl,SqL.of e1,rfl,_,rfl,_,_,rfl,rfl,⟨hm0,by omega⟩,_,rfl,fp,_,_,_,rfl,rfl,e1,rfl,_,rfl,?_⟩
  exact fin ad (X1.trans Ext.upd) (Int.emod_nonneg _ (by omega)) (Int.emod_lt_of_pos _ hm0)
 ·have hb:=Int.emod_lt_of_pos a (show (0:Int)<ns.length by omega)
  have ha:=Int.emod_nonneg a (show (ns.length:Int)≠0 by omega)
  obtain ⟨v,hv,_,hat⟩:=dO (xs:=List.map V.int ns) (i:=a % ((List.map V.int ns).length:Nat)) (by rw [List.length_map]; exact ha) (by rw [List.length_map]; exact hb)
  obtain ⟨cell,_,rfl⟩:=List.mem_map.mp hv
  refine ⟨_,rfl,fp,_,_,_,rfl,rfl,SqL.of e1,rfl,_,rfl,fp,_,_,_,rfl,rfl,SqL.of e1,rfl,_,rfl,fp,_,_,_,rfl,rfl,SqL.of e1,rfl,sc,_,rfl,.inl (SqL.of e2),_,_,rfl,rfl,?_,?_⟩
  ·show (0:Int)<((List.map V.int ns).length:Nat)
   rw [List.length_map]; omega
  refine ⟨sc,_,_,_,rfl,rfl,SqL.of e2,hat,?_⟩
  refine ⟨_,rfl,fp,_,_,_,rfl,rfl,SqL.of e1,rfl,_,_,rfl,rfl,_,rfl,fp,_,_,_,rfl,rfl,e1,rfl,?_⟩
  have X3:Ext fp H (upd H1 fp (.lst [.ref sc,.int (a+1),.int b,.int (c+1)])):=X1.trans Ext.upd
  have e3:(upd H1 fp (.lst [.ref sc,.int (a+1),.int b,.int (c+1)])) fp=some (.lst [.ref sc,.int (a+1),.int b,.int (c+1)]):=ad
  change wB _ _ _ _ (upd H1 fp (.lst [.ref sc,.int (a+1),.int b,.int (c+1)]))
  generalize (upd H1 fp (.lst [.ref sc,.int (a+1),.int b,.int (c+1)]))=H3 at X3 e3
  refine ⟨_,rfl,_,_,rfl,rfl,yN,_,_,rfl,rfl,_,rfl,?_⟩
  refine aX (fun c3=>?_) (fun c3=>?_)
  ·refine ⟨_,rfl,_,rfl,_,_,rfl,rfl,⟨hm0,by omega⟩,_,rfl,fp,_,_,_,rfl,rfl,e3,rfl,_,rfl,_,rfl,_,_,rfl,rfl,hm0,?_⟩
   exact fin ad (X3.trans Ext.upd) (Int.emod_nonneg _ (by omega)) (Int.emod_lt_of_pos _ hm0)
  ·refine ⟨_,rfl,fp,_,_,_,rfl,rfl,SqL.of e3,rfl,_,_,rfl,rfl,vJ (by decide) (by decide),_,rfl,fp,_,_,_,rfl,rfl,SqL.of e3,rfl,_,_,rfl,rfl,xE (by show -(2 ^ 64)<c+1; omega) (by show c+1<2 ^ 64; omega),_,rfl,fp,_,_,_,rfl,rfl,SqL.of e3,rfl,_,_,rfl,rfl,vJ (by decide) (by decide),_,_,rfl,rfl,_,_,rfl,rfl,?_⟩
   refine ⟨_,rfl,_,_,rfl,rfl,(by show (0:Int)<2147483629; decide),_,_,rfl,rfl,_,rfl,_,_,rfl,rfl,vJ (iS cell (by decide) (by decide)).1 (iS cell (by decide) (by decide)).2,_,_,rfl,rfl,(by show (0:Int)<2147483647; decide),?_⟩
   refine ⟨_,rfl,_,rfl,_,_,rfl,rfl,(by show (0:Int)<65521; decide),_,_,rfl,rfl,_,_,rfl,rfl,xE ?_ ?_,_,rfl,fp,_,_,_,rfl,rfl,SqL.of e3,rfl,_,_,rfl,rfl,?_⟩
   ·have:=(iS ((cell % 2147483629+1)*(31*(c+1)*(c+1)+7919*(c+1)+1) % 2147483647) (b:=65521) (by decide) (by decide)).1
    have:=Int.emod_nonneg ((cell % 2147483629+1)*(31*(c+1)*(c+1)+7919*(c+1)+1) % 2147483647) (show (65521:Int)≠0 by decide)
    exact Int.lt_of_lt_of_le (by decide:(-(2 ^ 64):Int)<0+48271) (Int.add_le_add_right this _)
   ·have:=Int.emod_lt_of_pos ((cell % 2147483629+1)*(31*(c+1)*(c+1)+7919*(c+1)+1) % 2147483647) (show (0:Int)<65521 by decide)
    exact Int.lt_trans (Int.add_lt_add_right this 48271) (by decide)
   refine ⟨_,rfl,_,_,rfl,rfl,(by show (0:Int)<2147483629; decide),_,_,rfl,rfl,⟨by decide,by decide⟩,_,rfl,_,_,rfl,rfl,hm0,?_⟩
   exact fin e3 X3 (Int.emod_nonneg _ (by omega)) (Int.emod_lt_of_pos _ hm0)
end
open PySem L2
theorem Fd.same {H H':Hp} {fp sc:Addr} {m:Nat} (g:ar H H') (h:Fd H fp sc m):Fd H' fp sc m:=by
 obtain ⟨ns,a,b,c,h1,h2,h3⟩:=h
 exact ⟨ns,a,b,c,g _ _ h1,g _ _ h2,h3⟩
theorem Fd.lst {H:Hp} {fp sc:Addr} {m:Nat} (h:Fd H fp sc m):∃ xs,H fp=some (.lst xs):=by
 obtain ⟨ns,a,b,c,h1,_⟩:=h
 exact ⟨_,h1⟩
theorem Fd.tk {H H':Hp} {fp sc:Addr} {m:Nat} (x:Ext fp H H') (h:Fd H fp sc m):Tk H H':=by
 obtain ⟨xs,e⟩:=h.lst
 exact bn x e
theorem Fd.ne {H:Hp} {fp sc p:Addr} {m:Nat} (h:Fd H fp sc m) (hp:H p=none):p≠fp∧p≠sc:=by
 obtain ⟨ns,a,b,c,h1,h2,h3⟩:=h
 exact ⟨(aq h1 hp).symm,(aq h2 hp).symm⟩
theorem Fd.upd {H:Hp} {fp sc p:Addr} {m:Nat} {o:HO} (h:Fd H fp sc m) (n:p≠fp∧p≠sc):Fd (L2.upd H p o) fp sc m:=by
 obtain ⟨ns,a,b,c,h1,h2,h3⟩:=h
 exact ⟨ns,a,b,c,by rw [bc n.1.symm]; exact h1,by rw [bc n.2.symm]; exact h2,h3⟩
theorem Fd.le {H:Hp} {fp sc:Addr} {m m':Nat} (h:Fd H fp sc m) (l:m≤m'):Fd H fp sc m':=by
 obtain ⟨ns,a,b,c,h1,h2,h3,h4,h5⟩:=h
 exact ⟨ns,a,b,c,h1,h2,h3,h4,by omega⟩
theorem Ext.put {fp p:Addr} {H H1:Hp} {o:HO} (x:Ext fp H H1) (h:H p=none):Ext fp H (L2.upd H1 p o):=fun b u n e=>by rw [bc (aq e h)]; exact x b u n e
theorem Ext.free {fp p:Addr} {H H1:Hp} (x:Ext fp H H1) (n:p≠fp) (h:H1 p=none):H p=none:=by
 cases e:H p with
 | none=>rfl
 | some o=>rw [x p o n e] at h; cases h
theorem SqL.same {K:Frag} {H H':Hp} (g:ar H H') {a:Addr} {xs:List V} (h:SqL K H a xs):SqL K H' a xs:=by
 rcases h with (h | ⟨o,h⟩) | h
 ·exact .inl (.inl (g _ _ h))
 ·exact .inl (.inr ⟨o,g _ _ h⟩)
 ·exact .inr h
theorem oK:∀ ns:List Int,PyData.canLayAll0 (ns.map PyData.int)=true∧PyData.depthAll (ns.map PyData.int)≤1
 | []=>⟨rfl,by simp [PyData.depthAll]⟩
 | i::r=>by
  have:=oK r
  simp only [List.map_cons,PyData.canLayAll0,PyData.canLay0,PyData.depthAll,PyData.depth,this.1,Bool.and_self,true_and]
  omega
theorem nZ (ns:List Int):SeqAt.shaped (.list (ns.map PyData.int))=true:=by
 have:=oK ns
 unfold SeqAt.shaped
 rw [Bool.and_eq_true,decide_eq_true_eq]
 refine ⟨by simp only [PyData.canLay0]; exact this.1,by simp only [PyData.depth]; omega⟩
theorem rQ {K:Frag} {H:Hp}:∀ ns:List Int,eW K H (ns.map V.int) (ns.map PyData.int)
 | []=>.nil
 | i::r=>.cons (.int i) (rQ r)
section
variable {P:Program} {w:World} {K:Frag} {mg:Str→Option Value} {base:Heap} {f g:Addr} {fd gd:FuncData}
abbrev tW:List Str:=["_law_script"]
theorem tf:aK tW ["_law_script"] (defScope kZ):=⟨rfl,rfl,rfl,by decide +kernel,rfl,by decide +kernel,by decide +kernel⟩
def zW (K:Frag):Sp:=fun vs H Q _=>∃ a ns,vs=[.ref a]∧SqL K H a (List.map V.int ns)∧∀ t sc H',ar H H'→H t=none→Fd H' t sc 0→Q (.ref t) H'
theorem zj (T:G0 mg) (F:Fun K "_law_feed" "_law_feed" kZ f fd):aU P w K mg base CX0 1 f fd ["_law_script"] (zW K):=by
 refine F.ok tf (fun vs H Q E h=>?_) (fun cdv A outer s H vs Q E hr h=>?_)
 ·obtain ⟨a,ns,rfl,_⟩:=h
  rfl
 obtain ⟨a,ns,rfl,hS,q⟩:=h
 refine ⟨_,(@al _ _ _ (@ay _ _ _ _ (@aV _ _ _ _ (@ac _ _ _ _ _ (@aS _ _ _ _ _ _ _ _ nr (@iA _ _ _ _ _ _ _ _ _ _ jJ (pv 0) jM (jI ag)) (@aS _ _ _ _ _ _ _ _ yi (@aV _ _ _ _ (@ac _ _ _ _ _ ag af (aa rfl))) (@aZ _ _ _ _ _ _ _ _ _ mn rfl T.int jq (@ac _ _ _ _ _ (@cX _ _ _ _ _ _ _ _ (yQ hr.units) (pv 0) (@aV _ _ _ _ af) (aO _)) af (aa rfl)) (by decide) (by decide) (aa rfl) (ah rfl)))) (@ac _ _ _ _ _ ag (@ac _ _ _ _ _ ag (@ac _ _ _ _ _ ag af (aa rfl)) (aa rfl)) (aa rfl)) (aa rfl))))),?_⟩
 have em:dP (ns.map V.int) none (some 63)=(ns.take 63).map V.int:=by
  unfold dP
  rw [HT.sIx_none,show (63:Int)=((63:Nat):Int) from rfl,HT.sIx_nat,List.drop_zero,Nat.sub_zero,List.length_map,← List.map_take]
  by_cases h:63≤ns.length
  ·rw [Nat.min_eq_left h]
  ·rw [Nat.min_eq_right (by omega),List.take_length,List.take_of_length_le (by omega)]
 refine ⟨_,rfl,_,rfl,a,_,rfl,hS,fun p hp=>?_⟩
 have gp:=ae hp (.lst (dP (ns.map V.int) none (some 63)))
 refine ⟨(by show 1≤sizeLine; decide),fun l0 hl0=>?_⟩
 have g0:=gp.trans (ae hl0 (.lst [.int 0]))
 refine ⟨_,rfl,(by show 0≤sizeLine; decide),fun l1 hl1=>?_⟩
 have g1:=g0.trans (ae hl1 (.lst []))
 refine ⟨.list (ns.map PyData.int),.list [],.lst (SqL.same g1 hS) (rQ ns),.lst (SqL.of ad) .nil,nZ ns,rfl,.inr ⟨_,rfl,?_⟩⟩
 rw [em] at hl0 hl1 gp g0 g1 ⊢
 have hp1:(upd (upd (upd H p (.lst ((ns.take 63).map V.int))) l0 (.lst [.int 0])) l1 (.lst [])) p=some (.lst ((ns.take 63).map V.int)):=jh (aq (jh (aq ad hl0) ad) hl1) (jh (aq ad hl0) ad)
 have hl01:(upd (upd (upd H p (.lst ((ns.take 63).map V.int))) l0 (.lst [.int 0])) l1 (.lst [])) l0=some (.lst [.int 0]):=jh (aq ad hl1) ad
 generalize (upd (upd (upd H p (.lst ((ns.take 63).map V.int))) l0 (.lst [.int 0])) l1 (.lst []))=H1 at g1 hp1 hl01
 have lt:(ns.take 63).length≤63:=by rw [List.length_take]; omega
 cases ns with
 | nil =>
  refine ⟨l0,1,[.int 0],rfl,rfl,hl01,by decide,by decide,by decide,fun p2 hp2=>?_⟩
  refine ⟨p,p2,_,_,rfl,rfl,jh (aq hp1 hp2) hp1,ad,by decide,fun p3 hp3=>?_⟩
  refine ⟨(by show 4≤sizeLine; decide),fun fp hfp=>?_⟩
  refine q fp _ _ (((g1.trans (ae hp2 _)).trans (ae hp3 _)).trans (ae hfp _)) (((g1.trans (ae hp2 _)).trans (ae hp3 _)).free hfp) ⟨[0],0,0,0,ad,jh (aq ad hfp) ad,by decide,by decide,by decide⟩
 | cons n r =>
  refine ⟨l0,0,[.int 0],rfl,rfl,hl01,by decide,by decide,by decide,fun p2 hp2=>?_⟩
  refine ⟨p,p2,_,_,rfl,rfl,jh (aq hp1 hp2) hp1,ad,by rw [List.length_map,sizeLine_eq]; simp only [Int.toNat_zero,List.replicate_zero,List.flatten_nil,List.length_nil]; omega,fun p3 hp3=>?_⟩
  refine ⟨(by show 4≤sizeLine; decide),fun fp hfp=>?_⟩
  refine q fp _ _ (((g1.trans (ae hp2 _)).trans (ae hp3 _)).trans (ae hfp _)) (((g1.trans (ae hp2 _)).trans (ae hp3 _)).free hfp) ⟨(n::r).take 63,0,0,0,ad,?_,by simp,by decide,by decide⟩
  refine jh (aq ad hfp) ?_
  rw [ad]
  simp
end
open PySem L2
def GPk (K:Frag) (mg:Str→Option Value):Prop:=∃ a,mg "PLAIN_KINDS"=some (.ref a)∧∀ H,SqT K H a (PL.map V.str)
abbrev Fld:=Str×Str
abbrev Rec:=Str×List Fld
def lQ (H:Hp) (v:V) (p:Fld):Prop:=∃ a,v=.ref a∧H a=some (.tup [.str p.1,.str p.2])
def dS (H:Hp) (v:V) (fs:List Fld):Prop:=∃ a xs,v=.ref a∧H a=some (.tup xs)∧Paired (lQ H) xs fs
def jw (H:Hp) (v:V) (r:Rec):Prop:=∃ a y,v=.ref a∧H a=some (.tup [.str r.1,y])∧dS H y r.2
def fm (H:Hp) (v:V) (R:List Rec):Prop:=∃ a xs,v=.ref a∧H a=some (.tup xs)∧Paired (jw H) xs R
def dR (H:Hp) (v:V) (R:List Rec):Prop:=∃ a y z,v=.ref a∧H a=some (.tup [y,z])∧fm H y R
theorem lQ.mono {H H':Hp} (t:Tk H H') {v:V} {p:Fld} (h:lQ H v p):lQ H' v p:=let ⟨a,e,q⟩:=h; ⟨a,e,t _ _ q⟩
theorem dS.mono {H H':Hp} (t:Tk H H') {v:V} {p:List Fld} (h:dS H v p):dS H' v p:=let ⟨a,xs,e,q,r⟩:=h; ⟨a,xs,e,t _ _ q,Paired.mapP r fun _ _ z=>z.mono t⟩
theorem jw.mono {H H':Hp} (t:Tk H H') {v:V} {p:Rec} (h:jw H v p):jw H' v p:=let ⟨a,y,e,q,r⟩:=h; ⟨a,y,e,t _ _ q,r.mono t⟩
theorem fm.mono {H H':Hp} (t:Tk H H') {v:V} {p:List Rec} (h:fm H v p):fm H' v p:=let ⟨a,xs,e,q,r⟩:=h; ⟨a,xs,e,t _ _ q,Paired.mapP r fun _ _ z=>z.mono t⟩
theorem dR.mono {H H':Hp} (t:Tk H H') {v:V} {p:List Rec} (h:dR H v p):dR H' v p:=let ⟨a,y,z,e,q,r⟩:=h; ⟨a,y,z,e,t _ _ q,r.mono t⟩
theorem aJ {α β:Type} {F:α→β→Prop}:∀ {l:List α} {m:List β},Paired F l m→∀ (j:Nat) a,l[j]?=some a→∃ b,m[j]?=some b∧F a b
 | _,_,.nil,_,_,h=>by simp at h
 | _,_,.cons h t,0,_,h1=>by simp at h1; subst h1; exact ⟨_,rfl,h⟩
 | _,_,.cons h t,j+1,_,h1=>by
  obtain ⟨b,e,q⟩:=aJ t j _ (by simpa using h1)
  exact ⟨b,by simpa using e,q⟩
def look (R:List Rec) (k:Str):List Fld:=((R.find? fun r=>decide (r.1=k)).map (·.2)).getD []
theorem sG {R:List Rec} {i:Nat} {r:Rec} {k:Str} (h:R[i]?=some r):look (R.drop i) k=if r.1=k then r.2 else look (R.drop (i+1)) k:=by
 obtain ⟨hi,e⟩:=List.getElem?_eq_some_iff.mp h
 rw [List.drop_eq_getElem_cons hi,e]
 unfold look
 rw [List.find?_cons]
 by_cases q:r.1=k
 ·rw [if_pos q,decide_eq_true q]; rfl
 ·rw [if_neg q,decide_eq_false q]
def hV (H:Hp) (v:V) (p:List Str):Prop:=∃ a,v=.ref a∧H a=some (.tup (p.map V.str))
theorem hV.mono {H H':Hp} (t:Tk H H') {v:V} {p:List Str} (h:hV H v p):hV H' v p:=let ⟨a,e,q⟩:=h; ⟨a,e,t _ _ q⟩
abbrev cA:=List Str×Str
def mH (R:List Rec) (h:Str→List cA) (k:Str):List cA:=(look R k).flatMap fun p=>(h p.2).map fun q=>(p.1::q.1,q.2)
def ax (R:List Rec):Nat→Str→List cA
 | 0,_=>[]
 | n+1,k=>if k∈PL then [([],k)] else mH R (ax R n) k
def cu (R:List Rec):Nat→Str→Prop
 | 0,_=>False
 | n+1,k=>(k∈PL)∨(k∉PL∧k∈R.map (·.1)∧(1≤(look R k).length∧(look R k).length≤3)∧∀ p∈look R k,cu R n p.2)
theorem cj {α β:Type} {g:α→List β} {b:Nat}:∀ {l:List α},(∀ x∈l,(g x).length≤b)→(l.flatMap g).length≤l.length*b
 | [],_=>by simp
 | x::r,h=>by
  rw [List.flatMap_cons,List.length_append,List.length_cons,Nat.succ_mul]
  have h1:=h x List.mem_cons_self
  have h2:=cj (l:=r) fun y hy=>h y (List.mem_cons_of_mem _ hy)
  omega
theorem bU {R:List Rec}:∀ (n:Nat) {k:Str},cu R n k→(ax R n k).length≤3 ^ n
 | 0,_,h=>h.elim
 | n+1,k,h=>by
  unfold ax
  rcases h with h | ⟨h,_,⟨_,hl⟩,hd⟩
  ·rw [if_pos h]
   show 1≤3 ^ (n+1)
   exact Nat.pos_of_ne_zero (by simp)
  ·rw [if_neg h]
   unfold mH
   have q:=cj (l:=look R k) (g:=fun p=>(ax R n p.2).map fun q=>(p.1::q.1,q.2)) (b:=3 ^ n) fun p hp=>by
    rw [List.length_map]
    exact bU n (hd p hp)
   have q2:(look R k).length*3 ^ n≤3*3 ^ n:=Nat.mul_le_mul_right _ hl
   rw [Nat.pow_succ]
   omega
theorem eh {R:List Rec}:∀ (n:Nat) {k:Str} {q:cA},q∈ax R n k→q.1.length≤n
 | 0,_,_,h=>nomatch h
 | n+1,k,q,h=>by
  unfold ax at h
  split at h
  ·rw [List.mem_singleton.mp h]; simp
  ·unfold mH at h
   obtain ⟨p,_,hq⟩:=List.mem_flatMap.mp h
   obtain ⟨q',hq',rfl⟩:=List.mem_map.mp hq
   have:=eh n hq'
   simp
   omega
theorem dE (k:Str):∀ l:List Str,inV (.str k) (l.map V.str)=decide (k∈l)
 | []=>rfl
 | a::r=>by
  have ih:=dE k r
  unfold inV at ih ⊢
  rw [List.map_cons,List.any_cons,ih]
  show ((a==k)||_)=_
  by_cases h:a=k
  ·subst h; simp
  ·have h':¬ k=a:=fun z=>h z.symm
   simp [h,h']
def cm (H:Hp) (v:V) (q:cA):Prop:=∃ a y,v=.ref a∧H a=some (.tup [y,.str q.2])∧hV H y q.1
theorem cm.mono {H H':Hp} (t:Tk H H') {v:V} {q:cA} (h:cm H v q):cm H' v q:=let ⟨a,y,e,r,s⟩:=h; ⟨a,y,e,t _ _ r,s.mono t⟩
theorem cH {H H':Hp} (t:Tk H H') {xs:List V} {ps:List cA} (h:Paired (cm H) xs ps):Paired (cm H') xs ps:=Paired.mapP h fun _ _ z=>z.mono t
theorem uz:(PL.map V.str).all gO=true:=by decide
section
variable {P:Program} {w:World} {K:Frag} {mg:Str→Option Value} {base:Heap} {f g:Addr} {fd gd:FuncData}
def ig:Sp:=fun vs H Q _=>∃ v k R,vs=[v,.str k]∧dR H v R∧∀ y H',ar H H'→dS H' y (look R k)→Q y H'
theorem nN:aK ["program", "kind", "record"] ["program", "kind"] (defScope fV):=⟨rfl,rfl,rfl,by decide +kernel,rfl,by decide +kernel,by decide +kernel⟩
theorem sY (F:Fun K "fields_of" "fields_of" fV f fd):aU P w K mg base CX0 1 f fd ["program", "kind"] ig:=by
 refine F.ok nN (fun vs H Q E h=>?_) (fun cdv A outer s H vs Q E hr h=>?_)
 ·obtain ⟨v,k,R,rfl,_⟩:=h
  rfl
 obtain ⟨v,k,R,rfl,hp,q⟩:=h
 obtain ⟨a,y,z,rfl,ha,b,xs,rfl,hb,rs⟩:=hp
 refine ⟨_,aj (bF PassesOwn.never rfl (bZ (av aH (pv 0) ag (fun _ _=>rfl))) (au (i:=2) nN.nd rfl (Or.inl rfl))
   (al (bj (aE bO (av aH (pv 2) ag (fun _ _=>rfl)) (pv 1) (aO _)) (al (ay (av aH (pv 2) ag (fun _ _=>rfl)))) aL)))
  (al (ay (ba af))),?_⟩
 refine ⟨_,rfl,a,_,_,_,rfl,rfl,SqT.of ha,rfl,b,rfl,⟨xs,SqT.of hb⟩,fo (xs:=xs) (fun i σ H'=>∃ m,σ=[some (.ref a),some (.str k),m]∧H'=H∧look R k=look (R.drop i) k) ⟨none,rfl,rfl,rfl⟩ (fun i σ H' _ p=>?_) (fun i x σ H' hx p=>?_) (fun σ H' p=>?_)⟩
 ·obtain ⟨_,_,rfl,_⟩:=p
  exact SqT.of hb
 ·obtain ⟨m,rfl,rfl,e⟩:=p
  obtain ⟨r,hr',c,y',rfl,hc,hf⟩:=aJ rs i x hx
  refine ⟨_,rfl,c,_,_,_,rfl,rfl,SqT.of hc,rfl,_,rfl,rfl,_,rfl,?_⟩
  rw [sG hr'] at e
  refine aX (fun cc=>?_) (fun cc=>?_)
  ·have ck:r.1=k:=V.str.inj (of_decide_eq_true cc)
   rw [if_pos ck] at e
   exact ⟨_,rfl,c,_,_,_,rfl,rfl,SqT.of hc,rfl,q _ _ (ar.refl _) (e ▸ hf)⟩
  ·have ck:¬ r.1=k:=fun z=>cc (decide_eq_true (congrArg V.str z))
   rw [if_neg ck] at e
   exact ⟨_,rfl,rfl,e⟩
 ·obtain ⟨m,rfl,rfl,e⟩:=p
  refine ⟨(by show 0≤sizeLine; decide),fun t ht=>q _ _ (ae ht _) ⟨t,[],rfl,ad,?_⟩⟩
  rw [e,Paired.length rs,List.drop_length]
  exact .nil
def gv:Sp:=fun vs H Q _=>∃ v k R,vs=[v,.str k]∧dR H v R∧(look R k).length≤3∧∀ r H',ar H H'→H r=none→H' r=some (.lst ((look R k).map fun p=>V.str p.2))→Q (.ref r) H'
theorem wF:aK ["program", "kind"] ["program", "kind"] (defScope cZ):=⟨rfl,rfl,rfl,by decide +kernel,rfl,by decide +kernel,by decide +kernel⟩
theorem wa (F:Fun K "field_kinds" "field_kinds" cZ f fd) (D:Cal P w K mg base 1 "fields_of" ["program", "kind"] ig):aU P w K mg base CX0 2 f fd ["program", "kind"] gv:=by
 obtain ⟨g,gd,Gd,bG,kG,mG⟩:=D.ex
 refine F.ok wF (fun vs H Q E h=>?_) (fun cdv A outer s H vs Q E hr h=>?_)
 ·obtain ⟨v,k,R,rfl,_⟩:=h
  rfl
 obtain ⟨v,k,R,rfl,hp,hl,q⟩:=h
 refine ⟨_,al (ay (aW (N':=["field"]) (ρ:=[none]) (m:=1) (bo.of (fs:=defScope cZ) (N:=["program", "kind"]) rfl rfl (by decide +kernel)) rfl (bZ (ao Gd hr rfl mG kG bG .nil aB (ac (pv 0) (ac (pv 1) af))))
    (fun _ _ _ _=>au (i:=0) (show List.Nodup (["field"]:List Str) by decide +kernel) rfl (Or.inl rfl)) (fun _ _ _ _=>bg) (fun _ _ _ _=>av (bB (K:=K) rfl) (pv 0) ag (fun _ _=>rfl)))),?_⟩
 refine ⟨_,rfl,_,rfl,v,k,R,rfl,hp,fun y H1 g1 hy=>?_⟩
 obtain ⟨b,xs,rfl,hb,rs⟩:=hy
 have lx:xs.length≤1000:=by rw [Paired.length rs]; omega
 refine ⟨b,rfl,⟨xs,SqT.of hb⟩,cr (xs:=xs) xs.length rfl lx (fun i acc H'=>H'=H1∧acc=((look R k).take i).map fun p=>V.str p.2) ⟨rfl,rfl⟩ (fun i acc H' p=>by rw [p.1]; exact SqT.of hb) (fun i acc H' x hi la hx p=>?_) (fun acc H' p la D hD=>?_)⟩
 ·obtain ⟨rfl,rfl⟩:=p
  obtain ⟨fl,hfl,c,rfl,hc⟩:=aJ rs i x hx
  refine ⟨⟨rfl,rfl⟩,bf ?_⟩
  refine ⟨_,rfl,c,_,_,_,rfl,rfl,SqT.of hc,rfl,nxT lx hi la ⟨rfl,?_⟩⟩
  rw [List.take_add_one,hfl,List.map_append]
  rfl
 ·obtain ⟨rfl,rfl⟩:=p
  refine q D _ (g1.trans (ae hD _)) (g1.free hD) ?_
  rw [ad,Paired.length rs,List.take_length]
def gF (n:Nat):Sp:=fun vs H Q _=>∃ v k R,vs=[v,.str k]∧dR H v R∧n≤4∧cu R n k∧∀ r ys H',ar H H'→H r=none→H' r=some (.lst ys)→Paired (cm H') ys (ax R n k)→Q (.ref r) H'
theorem gh:aK ["program", "kind", "told", "field", "inner", "path", "sort"] ["program", "kind"] (defScope jK):=⟨rfl,rfl,rfl,by decide +kernel,rfl,by decide +kernel,by decide +kernel⟩
theorem uT {n:Nat} (TP:GPk K mg) (F:Fun K "parts" "parts" jK f fd) (D:Cal P w K mg base 1 "fields_of" ["program", "kind"] ig) (D2:Cal P w K mg base (n+1) "parts" ["program", "kind"] (gF n)) :
  aU P w K mg base CX0 (n+2) f fd ["program", "kind"] (gF (n+1)):=by
 obtain ⟨g,gd,Gd,bG,kG,mG⟩:=D.ex
 obtain ⟨g2,gd2,Gd2,bG2,kG2,mG2⟩:=D2.ex
 obtain ⟨aP,mP,sP⟩:=TP
 refine F.ok gh (fun vs H Q E h=>?_) (fun cdv A outer s H vs Q E hr h=>?_)
 ·obtain ⟨v,k,R,rfl,_⟩:=h
  rfl
 obtain ⟨v,k,R,rfl,hp,hn,hd,q⟩:=h
 refine ⟨_,aj (bj (aE eQ (pv 1) (rT (v:=.ref aP) rfl mP rfl) rfl) (al (ay (aV (ac (ba (ac (ba af) (ac (pv 1) af))) af)))) aL)
  (aj (aC (i:=2) gh.nd rfl (Or.inl rfl) (aV af))
  (aj (bF PassesOwn.never rfl (bZ (ao Gd (hr.mono (by omega)) rfl mG kG bG .nil aB (ac (pv 0) (ac (pv 1) af)))) (dm rfl (aG (au (i:=3) gh.nd rfl (Or.inl rfl)) (aG (au (i:=4) gh.nd rfl (Or.inl rfl)) bJ)))
   (al (bF PassesOwn.never rfl (bA (ao Gd2 hr rfl mG2 kG2 bG2 .nil aB (ac (pv 0) (ac (pv 4) af)))) (dm rfl (aG (au (i:=5) gh.nd rfl (Or.inl rfl)) (aG (au (i:=6) gh.nd rfl (Or.inl rfl)) bJ)))
    (al (cQ (eX PySem.F.plainAttrs_list PySem.F.slot_list_append PySem.F.type_list_append eL (pv 2) (ac (ba (ac (aS nk (ba (ac (pv 3) af)) (pv 5)) (ac (pv 6) af))) af)))))))
  (al (ay (pv 2))))),?_⟩
 refine ⟨_,rfl,aP,_,rfl,.inr (sP _),rfl,uz,_,rfl,?_⟩
 refine aX (fun c=>?_) (fun c=>?_)
 ·have ck:k∈PL:=of_decide_eq_true ((dE k PL).symm.trans c)
  refine ⟨(by show 0≤sizeLine; decide),fun p1 h1=>⟨_,rfl,(by show 2≤sizeLine; decide),fun p2 h2=>⟨(by show 1≤sizeLine; decide),fun r h3=>?_⟩⟩⟩
  have t1:=fq h2 (.tup [.ref p1,.str k])
  have t2:=fq h3 (.lst [.ref p2])
  refine q r _ _ (((ae h1 _).trans (ae h2 _)).trans (ae h3 _)) ?_ ad ?_
  ·exact (ae h1 _).free ((ae h2 _).free h3)
  ·unfold ax
   rw [if_pos ck]
   exact .cons ⟨p2,.ref p1,rfl,t2 _ _ ad,p1,rfl,t2 _ _ (t1 _ _ ad)⟩ .nil
 ·have ck:k∉PL:=fun z=>c (((dE k PL).trans (decide_eq_true z)))
  rcases hd with z | ⟨_,_,⟨_,hl⟩,hd⟩
  ·exact absurd z ck
  refine ⟨(by show 0≤sizeLine; decide),fun t ht=>?_⟩
  have g0:=ae ht (.lst [])
  refine ⟨_,rfl,_,rfl,v,k,R,rfl,hp.mono (ak g0),fun y H1 g1 hy=>?_⟩
  obtain ⟨b,xs,rfl,hb,rs⟩:=hy
  have ht1:H1 t=some (.lst []):=g1 _ _ ad
  have hlen:∀ i,((look R k).take i).length≤3:=fun i=>by rw [List.length_take]; omega
  refine ⟨b,rfl,⟨xs,SqT.of hb⟩,fo (xs:=xs) (fun i σ H'=>∃ m3 m4 m5 m6 ys,σ=[some v,some (.str k),some (.ref t),m3,m4,m5,m6]∧Ext t H1 H'∧H' t=some (.lst ys) ∧
    Paired (cm H') ys (((look R k).take i).flatMap fun p=>(ax R n p.2).map fun q=>(p.1::q.1,q.2))) ⟨none,none,none,none,[],rfl,Ext.refl _ _,ht1,.nil⟩ (fun i σ H' _ p=>?_) (fun i u σ H' hx p=>?_) (fun σ H' p=>?_)⟩
  ·obtain ⟨_,_,_,_,_,_,x1,_⟩:=p
   exact SqT.of (bn x1 ht1 _ _ hb)
  ·obtain ⟨m3,m4,m5,m6,ys,rfl,x1,hty,py⟩:=p
   obtain ⟨fl,hfl,a,rfl,ha⟩:=aJ rs i u hx
   have k1:=bn x1 ht1
   have dp:=hd fl (List.mem_of_getElem? hfl)
   refine ⟨a,_,rfl,SqT.of (k1 _ _ ha),rfl,_,_,rfl,_,_,rfl,rfl,?_⟩
   refine ⟨_,rfl,_,rfl,v,fl.2,R,rfl,(hp.mono ((ak g0).trans (ak g1))).mono k1,by omega,dp,fun r zs H2 g2 hr0 hrz pz=>?_⟩
   have hty2:=g2 _ _ hty
   have hrt:r≠t:=(aq hty hr0).symm
   have el:=bU n dp
   have e3:(3:Nat) ^ n≤81:=by
    have:n≤4:=by omega
    calc 3 ^ n≤3 ^ 4:=Nat.pow_le_pow_right (by decide) this
     _=81:=by decide
   have len1:ys.length≤243:=by
    rw [Paired.length py]
    have:=cj (l:=(look R k).take i) (g:=fun p=>(ax R n p.2).map fun q=>(p.1::q.1,q.2)) (b:=81) fun p hp'=>by
     rw [List.length_map]
     have:=bU n (hd p (List.mem_of_mem_take hp'))
     omega
    have h3:=hlen i
    have:((look R k).take i).length*81≤3*81:=Nat.mul_le_mul_right _ h3
    omega
   refine ⟨r,rfl,⟨zs,SqL.of hrz⟩,cN (xs:=zs) (fun j σ H'=>∃ n5 n6 ws,σ=[some v,some (.str k),some (.ref t),some (.str fl.1),some (.str fl.2),n5,n6]∧Ext t H2 H'∧H' t=some (.lst ws) ∧
    Paired (cm H') ws ((((look R k).take i).flatMap fun p=>(ax R n p.2).map fun q=>(p.1::q.1,q.2))++((ax R n fl.2).take j).map fun q=>(fl.1::q.1,q.2))) ⟨_,_,ys,rfl,Ext.refl _ _,hty2,by simpa using cH (ak g2) py⟩ (fun j σ H' _ p=>?_) (fun j u σ H' hx2 p=>?_) (fun σ H' p=>?_)⟩
   ·obtain ⟨_,_,_,_,x2,_⟩:=p
    exact SqL.of (x2 _ _ hrt hrz)
   ·obtain ⟨n5,n6,ws,rfl,x2,htw,pw⟩:=p
    have k2:=bn x2 hty2
    obtain ⟨qq,hqq,hpa⟩:=aJ pz j u hx2
    obtain ⟨a2,y2,rfl,ha2,a3,rfl,ha3⟩:=hpa.mono k2
    have hm:qq∈ax R n fl.2:=List.mem_of_getElem? hqq
    have pl:=eh n hm
    have wl:ws.length≤900:=by
     rw [Paired.length pw,List.length_append,← Paired.length py,List.length_map,List.length_take]
     omega
    have fin:∀ (u:V) (H5:Hp),ar H' H5→hV H5 u (fl.1::qq.1)→∀ p2,H5 p2=none→(upd H5 p2 (.tup [u,.str qq.2])) t=some (.lst ws)∧∃ n5 n6 ws',([some v,some (.str k),some (.ref t),some (.str fl.1),some (.str fl.2),some (.ref a3),some (.str qq.2)]:St)=[some v,some (.str k),some (.ref t),some (.str fl.1),some (.str fl.2),n5,n6] ∧
      Ext t H2 (upd (upd H5 p2 (.tup [u,.str qq.2])) t (.lst (ws++[.ref p2])))∧(upd (upd H5 p2 (.tup [u,.str qq.2])) t (.lst (ws++[.ref p2]))) t=some (.lst ws') ∧
      Paired (cm (upd (upd H5 p2 (.tup [u,.str qq.2])) t (.lst (ws++[.ref p2])))) ws' ((((look R k).take i).flatMap fun p=>(ax R n p.2).map fun q=>(p.1::q.1,q.2))++((ax R n fl.2).take (j+1)).map fun q=>(fl.1::q.1,q.2)):=by
     intro u H5 g5 hu p2 hp2
     have e5:(upd H5 p2 (.tup [u,.str qq.2])) t=some (.lst ws):=ae hp2 _ _ _ (g5 _ _ htw)
     have k5:Tk H' (upd (upd H5 p2 (.tup [u,.str qq.2])) t (.lst (ws++[.ref p2]))):=((ak g5).trans (fq hp2 _)).trans (cM e5 _)
     refine ⟨e5,_,_,_,rfl,((x2.trans (ar.ext g5)).trans (rk hp2 _)).trans Ext.upd,ad,?_⟩
     rw [List.take_add_one,hqq,List.map_append,← List.append_assoc]
     exact Paired.snoc (cH k5 pw) ⟨p2,u,rfl,cM e5 _ _ _ ad,hu.mono ((fq hp2 _).trans (cM e5 _))⟩
    refine ⟨a2,_,rfl,SqT.of ha2,rfl,_,_,rfl,_,_,rfl,rfl,?_⟩
    refine ⟨_,rfl,.inl ⟨rfl,_,SqL.of htw⟩,_,rfl,(by show 1≤sizeLine; decide),fun p1 hp1=>?_⟩
    have g5:=ae hp1 (.tup [.str fl.1])
    refine ⟨_,rfl,p1,a3,_,_,rfl,rfl,SqT.of ad,SqT.of (g5 _ _ ha3),(by simp),?_,fun z=>?_,fun z p3 hp3=>?_⟩
    ·rw [List.length_map]
     exact Nat.le_of_lt (aI (by simp; omega))
    ·have ep:qq.1=[]:=by simpa using z
     refine ⟨_,rfl,(by show 2≤sizeLine; decide),fun p2 hp2=>?_⟩
     obtain ⟨e5,fn⟩:=fin (.ref p1) _ g5 ⟨p1,rfl,by rw [ep]; exact ad⟩ p2 hp2
     exact ⟨t,ws,_,rfl,rfl,e5,aI (by omega),fn⟩
    ·refine ⟨_,rfl,(by show 2≤sizeLine; decide),fun p2 hp2=>?_⟩
     obtain ⟨e5,fn⟩:=fin (.ref p3) _ (g5.trans (ae hp3 _)) ⟨p3,rfl,ad⟩ p2 hp2
     exact ⟨t,ws,_,rfl,rfl,e5,aI (by omega),fn⟩
   ·obtain ⟨n5,n6,ws,rfl,x2,htw,pw⟩:=p
    refine ⟨_,_,_,_,ws,rfl,(x1.trans (ar.ext g2)).trans x2,htw,?_⟩
    rw [Paired.length pz,List.take_length] at pw
    rw [List.take_add_one,hfl,List.flatMap_append]
    simpa using pw
  ·obtain ⟨m3,m4,m5,m6,ys,rfl,x1,hty,py⟩:=p
   refine ⟨_,rfl,q t ys H' (fun b o e=>?_) ht hty ?_⟩
   ·exact x1 _ _ (aq e ht) (g1 _ _ (g0 _ _ e))
   ·unfold ax
    rw [if_neg ck]
    rw [Paired.length rs,List.take_length] at py
    exact py
theorem vd:aU P w K mg base CX0 1 f fd ["program", "kind"] (gF 0):=by
 have no:∀ vs H Q E,¬ gF 0 vs H Q E:=fun vs H Q E h=>by
  obtain ⟨v,k,R,_,_,_,h1,_⟩:=h
  exact h1
 exact ⟨fun vs H Q E h=>absurd h (no vs H Q E),fun A outer s H args us vs Q E _ _ _ _ h=>absurd h (no vs H Q E)⟩
theorem lP (TP:GPk K mg) (F:Fun K "parts" "parts" jK f fd) (b:dg K fd ["program", "kind"] []) (m:mg "parts"=some (.ref f)) (D:Cal P w K mg base 1 "fields_of" ["program", "kind"] ig) :
  ∀ n:Nat,aU P w K mg base CX0 (n+1) f fd ["program", "kind"] (gF n)
 | 0=>vd
 | n+1=>uT TP F D ⟨f,fd,lP TP F b m D n,b,F.kp,m⟩
end
end K6
namespace L2
open PySem PySem.Spec PyProof.Rows
theorem Ag (l:Addr) (xs:Array Value) (n:Nat) (b:Addr) (ys:Array Value) (n2:Nat) (dd:Option Addr) (sl:Array (Option Value)) (h0:¬ (!xs.isEmpty&&Builtin.List.listTooLong (xs.size+ys.size))=true) (h1:xs.size≤sizeLine) (h2:xs.size+ys.size≤sizeLine+1) :
  Meets (Builtin.«list.extend» ⟨[.ref l,.ref b],[]⟩) (fun _ R s=>s.heap.get? l=some { cls:=.type "list",dict:=none,data:=.seq xs n,slots:=#[] } ∧
   s.heap.get? b=some ⟨.type "tuple",dd,.seq ys n2,sl⟩∧R (.ok (.ret Value.none)) { s with heap:=s.heap.update l (Obj.mapSeq fun x=>x++ys),toks:=s.toks }) :=
 .of_wp fun prog w A R s h=>by
  obtain ⟨hp,g,d,tk,os⟩:=s
  obtain ⟨hl,hb,h⟩:=h
  have f1:=AutoSeq1.idx_int
  have f2:=AutoSeq1.sub_tuple_tuple
  have f3:=AutoSeq1.sub_list_list
  have f4:=AutoSeq1.sub_tuple_list
  have f5:=AutoSeq1.sub_list_tuple
  have hz:(xs++ys).size≤sizeLine+1:=by rw [Array.size_append]; exact h2
  wp_walk using (wpAny_updateSeq hl rfl (hz:=h1) (_hz':=hz)),AutoSeq1.wpAny_loadPart' hl,AutoSeq1.wpAny_loadPart' hb
  exact ⟨_,rfl,h⟩
section
variable {X:Cx}
def tM:V→List V→Hp→VK→Prop:=fun x vs H Q=>∃ l b xs zs,x=.ref l∧vs=[.ref b]∧H l=some (.lst xs)∧H b=some (.tup zs)∧xs.length+zs.length≤sizeLine∧Q .non (upd H l (.lst (xs++zs)))
theorem pe:MtM X "list.extend" tM:=by
 intro pins s σ H x vs v us Q I rx rv h
 obtain ⟨l,b,xs,zs,rfl,rfl,hH,hB,hz,q⟩:=h
 cases rx
 obtain ⟨u,rfl,ru⟩:=rv.one
 cases ru
 obtain ⟨z,its,n,r,hl,e⟩:=I.lstM hH
 obtain ⟨z2,its2,r2,⟨o2,e2,ec,n2,ed⟩,_⟩:=(show bS X.prog X.w H s.heap b (.tup zs) from I.hok b _ hB)
 have hl2:=r2.length
 have e2':s.heap.get? b=some ⟨.type "tuple",o2.dict,.seq its2.toArray n2,o2.slots⟩:=by
  rw [e2,← ec,← ed]
 have hsz:its.toArray.size+its2.toArray.size≤sizeLine:=by rw [List.size_toArray,List.size_toArray]; omega
 have hlong:¬ (!its.toArray.isEmpty&&Builtin.List.listTooLong (its.toArray.size+its2.toArray.size))=true:=by
  rw [kE hsz,Bool.and_false]
  exact Bool.false_ne_true
 refine call_meets F.slot_list_extend ⟨_,e,rfl⟩ F.entry_list_extend (F.args_list_extend_2 _ _)
  (Ag l its.toArray n b its2.toArray n2 _ _ hlong (by rw [List.size_toArray]; omega) (by omega)) ⟨e,e2',?_⟩
 refine ⟨.non,_,I.lset (its':=its++its2) hH e (by simp) (r.append r2) ?_,rfl,q⟩
 rw [List.length_append]
 omega
end
theorem xb {K:Frag} {a b:Addr} {xs ys:List V} {k1 k2:Bool} {g:TG} {tb:TS} {D:lu} {σ:St} {H:Hp} (n:Nat) (e1:n=xs.length) (e2:n=ys.length) (Pv:Nat→St→Hp→Prop) (h0:Pv 0 σ H)
  (hl:∀ i σ H,i≤n→Pv i σ H→SqX k1 K H a xs∧SqX k2 K H b ys)
  (hs:∀ i x y p σ H,xs[i]?=some x→ys[i]?=some y→Pv i σ H→H p=none→g (.ref p) σ (upd H p (.tup [x,y])) fun σ2 H2=>tb { D with nx:=Pv (i+1),ct:=Pv (i+1),bk:=D.nx } σ2 H2) (hd:∀ σ H,Pv n σ H→D.nx σ H) :
  ∃ W:Nat→Nat→St→Hp→Prop,(∃ m,W 0 m σ H)∧∀ i m σ H,W i m σ H →
   ((Itz K k1 k2 a b).stop i H∧D.nx σ H)∨((Itz K k1 k2 a b).go i H∧∃ N:St→Hp→Prop,(∀ σ' H',N σ' H'→∃ m',m'<m∧W (i+1) m' σ' H')∧∀ x H',(Itz K k1 k2 a b).yld i H x H'→g x σ H' fun σ2 H2=>tb { D with nx:=N,ct:=N,bk:=D.nx } σ2 H2):=by
 refine ⟨fun i m σ H=>m=n - i∧i≤n∧Pv i σ H,⟨n,by simp,Nat.zero_le _,h0⟩,?_⟩
 rintro i m σ H ⟨rfl,hi,p⟩
 obtain ⟨q1,q2⟩:=hl i σ H hi p
 by_cases hlt:i<n
 ·have hx:xs[i]?=some (xs[i]'(by omega)):=List.getElem?_eq_getElem (by omega)
  have hy:ys[i]?=some (ys[i]'(by omega)):=List.getElem?_eq_getElem (by omega)
  refine .inr ⟨⟨xs,ys,_,_,q1,q2,hx,hy⟩,Pv (i+1),fun σ' H' p'=>⟨n - (i+1),by omega,rfl,hlt,p'⟩,fun x H' yy=>?_⟩
  obtain ⟨pp,x',y',f1,f2,f3,f4,f5⟩:=yy
  subst f2 f3
  exact hs i x' y' pp σ H (f4 xs q1) (f5 ys q2) p f1
 ·have e:i=n:=by omega
  subst e
  exact .inl ⟨⟨xs,ys,q1,q2,by omega,by omega,by omega⟩,hd σ H p⟩
end L2
namespace K6
open PySem L2
def Val (R:List Rec):Nat→Str→PyData→Prop
 | 0,_,_=>False
 | n+1,k,d=>k∈PL∨(k∉PL∧∃ ds,d=.tuple ds∧Paired (fun (p:Fld) e=>Val R n p.2 e) (look R k) ds)
def fH (f:Str→PyData→List PyData) (ks:List Str) (ds:List PyData):List PyData:=(ks.zip ds).flatMap fun p=>f p.1 p.2
def cw (R:List Rec):Nat→Str→PyData→List PyData
 | 0,_,_=>[]
 | n+1,k,d=>if k∈PL then [d] else match d with
  | .tuple ds=>fH (cw R n) ((look R k).map (·.2)) ds
  | _=>[]
def ib (R:List Rec):Nat→Str→List Str
 | 0,_=>[]
 | n+1,k=>if k∈PL then [k] else (look R k).flatMap fun p=>ib R n p.2
theorem eG {R:List Rec} {n:Nat} {k:Str} {d:PyData} (h:k∈PL):cw R (n+1) k d=[d]:=by unfold cw; rw [if_pos h]
theorem gf {R:List Rec} {n:Nat} {k:Str} {ds:List PyData} (h:k∉PL):cw R (n+1) k (.tuple ds)=fH (cw R n) ((look R k).map (·.2)) ds:=by
 conv=>lhs; unfold cw
 rw [if_neg h]
theorem pZ (f:Str→PyData→List PyData) (k:Str) (ks:List Str) (d:PyData) (ds:List PyData):fH f (k::ks) (d::ds)=f k d++fH f ks ds:=rfl
theorem jt {R:List Rec}:∀ (n:Nat) (k:Str),(ax R n k).length=(ib R n k).length
 | 0,_=>rfl
 | n+1,k=>by
  unfold ax ib
  split
  ·rfl
  ·unfold mH
   induction look R k with
   | nil=>rfl
   | cons p r ih=>rw [List.flatMap_cons,List.flatMap_cons,List.length_append,List.length_append,ih,List.length_map,jt n p.2]
theorem kD {R:List Rec}:∀ (n:Nat) {k:Str} {d:PyData},Val R n k d→(cw R n k d).length=(ib R n k).length
 | 0,_,_,h=>h.elim
 | n+1,k,d,h=>by
  rcases h with h | ⟨h,ds,rfl,pr⟩
  ·rw [eG h]; unfold ib; rw [if_pos h]; rfl
  ·rw [gf h]
   unfold ib
   rw [if_neg h]
   generalize look R k=fs at pr
   induction pr with
   | nil=>rfl
   | cons p r ih=>rw [List.map_cons,pZ,List.flatMap_cons,List.length_append,List.length_append,ih,kD n p]
theorem sv {R:List Rec} {n:Nat} {k:Str} (h:cu R n k):(ib R n k).length≤3 ^ n:=by rw [← jt]; exact bU n h
theorem yL {n:Nat} (h:n≤4):3 ^ n≤81:=by
 calc 3 ^ n≤3 ^ 4:=Nat.pow_le_pow_right (by decide) h
  _=81:=by decide
theorem hZ {α β:Type} {F:α→β→Prop}:∀ {l:List α} {m:List β},Paired F l m→∀ p∈l.zip m,F p.1 p.2
 | _,_,.nil,p,h=>nomatch h
 | _,_,.cons q t,p,h=>by
  rw [List.zip_cons_cons] at h
  rcases List.mem_cons.mp h with rfl | h
  ·exact q
  ·exact hZ t p h
theorem kg {α β γ:Type} {F:α→β→Prop} {g:γ→α}:∀ {l:List γ} {m:List β},Paired (fun c b=>F (g c) b) l m→Paired F (l.map g) m
 | _,_,.nil=>.nil
 | _,_,.cons q t=>.cons q (kg t)
theorem rC {R:List Rec} {n:Nat} {k:Str} {d:PyData} (hn:n≤4) (hd:cu R n k) (hv:Val R n k d):(cw R n k d).length≤81:=by
 rw [kD n hv]
 have:=sv hd
 have:=yL hn
 omega
section
variable {P:Program} {w:World} {K:Frag} {mg:Str→Option Value} {base:Heap} {f g:Addr} {fd gd:FuncData}
def pJ (K:Frag) (n:Nat):Sp:=fun vs H Q _=>∃ v k u d R,vs=[v,.str k,u]∧dR H v R∧n≤4∧cu R n k∧DT K H u d∧Val R n k d∧∀ t xs H',ar H H'→H' t=some (.tup xs)→DTs K H' xs (cw R n k d)→Q (.ref t) H'
def gq (K:Frag) (n:Nat):Sp:=fun vs H Q _=>∃ v r ks u ds R,vs=[v,.ref r,u]∧dR H v R∧n≤4∧H r=some (.lst (ks.map V.str))∧ks.length≤3∧(∀ k∈ks,cu R n k)∧DT K H u (.tuple ds)∧Paired (fun k e=>Val R n k e) ks ds ∧
 ∀ t xs H',ar H H'→H' t=some (.tup xs)→DTs K H' xs (fH (cw R n) ks ds)→Q (.ref t) H'
abbrev qm:List Str:=["program", "kinds", "values", "told", "kind", "value"]
theorem er:aK qm ["program", "kinds", "values"] (defScope fi):=⟨rfl,rfl,rfl,by decide +kernel,rfl,by decide +kernel,by decide +kernel⟩
theorem jp {n:Nat} (T:G0 mg) (TZ:mg "zip"=none) (TP:GPk K mg) (F:Fun K "flat_all" "flat_all" fi f fd) (D_flat:Cal P w K mg base (2*n+1) "flat" ["program", "kind", "value"] (pJ K n)) :
  aU P w K mg base CX0 (2*n+2) f fd ["program", "kinds", "values"] (gq K n):=by
 obtain ⟨g_flat,gd_flat,G_flat,b_flat,k_flat,m_flat⟩:=D_flat.ex
 refine F.ok er (fun vs H Q E h=>?_) (fun cdv A outer s H vs Q E hr h=>?_)
 ·obtain ⟨v,r,ks,u,ds,R,rfl,_⟩:=h
  rfl
 obtain ⟨v,r,ks,u,ds,R,rfl,hp,hn,hr',hl,hk,hd,pr,q⟩:=h
 refine ⟨_,(@aj _ _ _ _ _ (@aC _ _ 3 _ _ _ _ er.nd rfl (Or.inl rfl) (@aV _ _ _ _ af) (am rfl) (.inr rfl)) (@aj _ _ _ _ _ (@bF _ _ _ _ _ _ _ _ PassesOwn.never rfl (qt false true rfl TZ (@ac _ _ _ _ _ (pv 1) (@ac _ _ _ _ _ (pv 2) af (aa rfl)) (aa rfl))) (dm rfl (aG (au (i:=4) er.nd rfl (Or.inl rfl)) (aG (au (i:=5) er.nd rfl (Or.inl rfl)) bJ))) (@al _ _ _ (@cQ _ _ _ _ (@eX _ _ _ _ _ _ _ _ _ _ _ _ PySem.F.plainAttrs_list PySem.F.slot_list_extend PySem.F.type_list_extend pe (pv 3) (@ac _ _ _ _ _ (@ao _ _ _ _ _ _ _ _ _ _ _ _ _ _ _ _ G_flat (hr.mono (by omega)) rfl m_flat k_flat b_flat .nil aB (@ac _ _ _ _ _ (pv 0) (@ac _ _ _ _ _ (pv 4) (@ac _ _ _ _ _ (pv 5) af (aa rfl)) (aa rfl)) (aa rfl)) (by decide) (aa rfl) (ah rfl)) af (aa rfl)) rfl (cW rfl rfl) rfl (aa rfl) (ah rfl)) (am rfl))) (fun _=>rfl)) (@al _ _ _ (@ay _ _ _ _ (@aZ _ _ _ _ _ _ _ _ _ bt rfl T.tuple bI (@ac _ _ _ _ _ (pv 3) af (aa rfl)) (by decide) (by decide) (aa rfl) (ah rfl)))))),?_⟩
 cases hd with
 | @tup a xs _ ha dx =>
 have lds:ks.length=ds.length:=Paired.length pr
 have lxs:ks.length=xs.length:=by rw [lds,dx.len]
 have lz:(ks.zip ds).length=ks.length:=by rw [List.length_zip]; omega
 refine ⟨(by show 0≤sizeLine; decide),fun t ht=>?_⟩
 have g0:=ae ht (.lst [])
 have hrt:r≠t:=aq hr' ht
 have ht0:(upd H t (.lst [])) t=some (.lst []):=ad
 have hr0:=g0 _ _ hr'
 refine ⟨_,rfl,_,rfl,r,a,rfl,⟨_,SqL.of hr0⟩,⟨_,(ha.mono (ak g0)).sq⟩,xb (xs:=ks.map V.str) (ys:=xs) ks.length (by rw [List.length_map]) lxs (fun i σ H'=>∃ m4 m5 ys,σ=[some v,some (.ref r),some (.ref a),some (.ref t),m4,m5]∧Ext t (upd H t (.lst [])) H'∧H' t=some (.lst ys)∧DTs K H' ys (((ks.zip ds).take i).flatMap fun p=>cw R n p.1 p.2))
  ⟨none,none,[],rfl,Ext.refl _ _,ht0,.nil⟩ (fun i σ H' _ p=>?_) (fun i x y p0 σ H' hx hy p hp0=>?_) (fun σ H' p=>?_)⟩
 ·obtain ⟨_,_,_,_,x1,_⟩:=p
  exact ⟨SqL.of (x1 _ _ hrt hr0),((ha.mono (ak g0)).mono (bn x1 ht0)).sq⟩
 ·obtain ⟨m4,m5,ys,rfl,x1,hty,dy⟩:=p
  have k1:=(ak g0).trans (bn x1 ht0)
  rw [List.getElem?_map] at hx
  obtain ⟨k,hk',rfl⟩:=Option.map_eq_some_iff.mp hx
  obtain ⟨e,he,hde⟩:=dx.get i y hy
  have ez:(ks.zip ds)[i]?=some (k,e):=by
   rw [List.getElem?_zip_eq_some]
   exact ⟨hk',he⟩
  have hve:Val R n k e:=hZ pr _ (List.mem_of_getElem? ez)
  have hdk:=hk k (List.mem_of_getElem? hk')
  have g1:=ae hp0 (.tup [.str k,y])
  have hty1:=g1 _ _ hty
  have k2:=k1.trans (ak g1)
  refine ⟨p0,_,rfl,SqT.of ad,rfl,_,_,rfl,_,_,rfl,rfl,?_⟩
  refine ⟨_,rfl,.inl ⟨rfl,_,SqL.of hty1⟩,_,rfl,_,rfl,_,rfl,v,k,y,e,R,rfl,hp.mono k2,hn,hdk,hde.mono k2,hve,fun b zs H3 g3 hb dz=>?_⟩
  have hty3:=g3 _ _ hty1
  have zl:zs.length≤81:=by rw [dz.len]; exact rC hn hdk hve
  have yl:ys.length≤243:=by
   rw [dy.len]
   have:=cj (l:=(ks.zip ds).take i) (g:=fun p=>cw R n p.1 p.2) (b:=81) fun p hp'=>rC hn (hk p.1 (List.of_mem_zip (List.mem_of_mem_take hp')).1) (hZ pr p (List.mem_of_mem_take hp'))
   have h3:((ks.zip ds).take i).length≤3:=by rw [List.length_take]; omega
   have:((ks.zip ds).take i).length*81≤3*81:=Nat.mul_le_mul_right _ h3
   omega
  have kL:=cM hty3 (.lst (ys++zs))
  refine ⟨t,b,ys,zs,rfl,rfl,hty3,hb,Nat.le_of_lt (aI (by omega)),_,_,_,rfl,((x1.trans (ar.ext g1)).trans (ar.ext g3)).trans Ext.upd,ad,?_⟩
  rw [List.take_add_one,ez,List.flatMap_append]
  refine DTs.append (dy.mono ((ak (g1.trans g3)).trans kL)) ?_
  show DTs K _ zs ([(k,e)].flatMap _)
  rw [List.flatMap_cons,List.flatMap_nil,List.append_nil]
  exact dz.mono kL
 ·obtain ⟨m4,m5,ys,rfl,x1,hty,dy⟩:=p
  refine ⟨_,rfl,t,ys,rfl,.inl ⟨SqL.of hty,fun l hl2=>?_⟩⟩
  have g3:=ae hl2 (.tup ys)
  refine q l ys _ (fun b o e=>g3 _ _ (x1 _ _ (aq e ht) (g0 _ _ e))) ad ?_
  rw [← lz,List.take_length] at dy
  exact dy.mono (ak g3)
abbrev yX:List Str:=["program", "kind", "value"]
theorem wS:aK yX ["program", "kind", "value"] (defScope mZ):=⟨rfl,rfl,rfl,by decide +kernel,rfl,by decide +kernel,by decide +kernel⟩
theorem wo {n:Nat} (T:G0 mg) (TZ:mg "zip"=none) (TP:GPk K mg) (F:Fun K "flat" "flat" mZ f fd) (D_field_kinds:Cal P w K mg base 2 "field_kinds" ["program", "kind"] gv) (D_flat_all:Cal P w K mg base (2*n+2) "flat_all" ["program", "kinds", "values"] (gq K n)) :
  aU P w K mg base CX0 (2*(n+1)+1) f fd ["program", "kind", "value"] (pJ K (n+1)):=by
 obtain ⟨g_field_kinds,gd_field_kinds,G_field_kinds,b_field_kinds,k_field_kinds,m_field_kinds⟩:=D_field_kinds.ex
 obtain ⟨g_flat_all,gd_flat_all,G_flat_all,b_flat_all,k_flat_all,m_flat_all⟩:=D_flat_all.ex
 obtain ⟨aP,mP,sP⟩:=TP
 refine F.ok wS (fun vs H Q E h=>?_) (fun cdv A outer s H vs Q E hr h=>?_)
 ·obtain ⟨v,k,u,d,R,rfl,_⟩:=h
  rfl
 obtain ⟨v,k,u,d,R,rfl,hp,hn,hd,hu,hv,q⟩:=h
 refine ⟨_,(@aj _ _ _ _ _ (@bj _ _ _ _ _ _ _ _ (@aE _ _ _ _ _ _ _ _ eQ (pv 1) (rT (v:=.ref aP) rfl mP rfl) rfl) (@al _ _ _ (@ay _ _ _ _ (@ba _ _ _ _ _ (@ac _ _ _ _ _ (pv 2) af (aa rfl))))) aL) (@al _ _ _ (@ay _ _ _ _ (@ao _ _ _ _ _ _ _ _ _ _ _ _ _ _ _ _ G_flat_all (hr.mono (by omega)) rfl m_flat_all k_flat_all b_flat_all .nil aB (@ac _ _ _ _ _ (pv 0) (@ac _ _ _ _ _ (@ao _ _ _ _ _ _ _ _ _ _ _ _ _ _ _ _ G_field_kinds (hr.mono (by omega)) rfl m_field_kinds k_field_kinds b_field_kinds .nil aB (@ac _ _ _ _ _ (pv 0) (@ac _ _ _ _ _ (pv 1) af (aa rfl)) (aa rfl)) (by decide) (aa rfl) (ah rfl)) (@ac _ _ _ _ _ (pv 2) af (aa rfl)) (aa rfl)) (aa rfl)) (by decide) (aa rfl) (ah rfl))))),?_⟩
 refine ⟨_,rfl,aP,_,rfl,.inr (sP _),rfl,uz,_,rfl,?_⟩
 refine aX (fun c=>?_) (fun c=>?_)
 ·have ck:k∈PL:=of_decide_eq_true ((dE k PL).symm.trans c)
  refine ⟨_,rfl,(by show 1≤sizeLine; decide),fun p1 h1=>q p1 _ _ (ae h1 _) ad ?_⟩
  rw [eG ck]
  exact .cons (hu.mono (fq h1 _)) .nil
 ·have ck:k∉PL:=fun z=>c (((dE k PL).trans (decide_eq_true z)))
  rcases hd with z | ⟨_,_,⟨_,hl⟩,hd⟩
  ·exact absurd z ck
  rcases hv with z | ⟨_,ds,rfl,pr⟩
  ·exact absurd z ck
  refine ⟨_,rfl,_,rfl,_,rfl,v,k,R,rfl,hp,hl,fun r H1 g1 hr0 hr1=>?_⟩
  refine ⟨_,rfl,v,r,(look R k).map (·.2),u,ds,R,rfl,hp.mono (ak g1),by omega,by rw [hr1,List.map_map]; rfl,by rw [List.length_map]; exact hl,fun k' hk'=>?_,hu.mono (ak g1),kg pr,fun t xs H2 g2 ht dt=>?_⟩
  ·obtain ⟨p,hp',rfl⟩:=List.mem_map.mp hk'
   exact hd p hp'
  ·refine q t xs _ (g1.trans g2) ht ?_
   rw [gf ck]
   exact dt
end
open PySem L2
mutual
inductive DA (tp:Addr) (H:Hp):V→PyData→Prop
 | non:DA tp H .non .none
 | bl (b:Bool):DA tp H (.bl b) (.bool b)
 | int (i:Int):DA tp H (.int i) (.int i)
 | str (x:Str):x.length≤1000→DA tp H (.str x) (.str x)
 | lst {a:Addr} {xs:List V} {ds:List PyData}:a≠tp∧xs.length≤1000→H a=some (.lst xs)→DAs tp H xs ds→DA tp H (.ref a) (.list ds)
 | tup {a:Addr} {xs:List V} {ds:List PyData}:a≠tp∧xs.length≤1000→H a=some (.tup xs)→DAs tp H xs ds→DA tp H (.ref a) (.tuple ds)
inductive DAs (tp:Addr) (H:Hp):List V→List PyData→Prop
 | nil:DAs tp H [] []
 | cons {x:V} {xs:List V} {d:PyData} {ds:List PyData}:DA tp H x d→DAs tp H xs ds→DAs tp H (x::xs) (d::ds)
end
mutual
theorem DA.mono {tp:Addr} {H H':Hp} (e:Ext tp H H'):∀ {v:V} {d:PyData},DA tp H v d→DA tp H' v d
 | _,_,.non=>.non
 | _,_,.bl b=>.bl b
 | _,_,.int i=>.int i
 | _,_,.str x l=>.str x l
 | _,_,.lst n h r=>.lst n (e _ _ n.1 h) (DAs.mono e r)
 | _,_,.tup n h r=>.tup n (e _ _ n.1 h) (DAs.mono e r)
theorem DAs.mono {tp:Addr} {H H':Hp} (e:Ext tp H H'):∀ {v:List V} {d:List PyData},DAs tp H v d→DAs tp H' v d
 | _,_,.nil=>.nil
 | _,_,.cons h r=>.cons (DA.mono e h) (DAs.mono e r)
end
mutual
theorem DA.rd {K:Frag} {tp:Addr} {H:Hp}:∀ {v:V} {d:PyData},DA tp H v d→RdD K H v d
 | _,_,.non=>.non
 | _,_,.bl b=>.bl b
 | _,_,.int i=>.int i
 | _,_,.str x _=>.str x
 | _,_,.lst n h r=>.lst (SqL.of h) (DAs.rd r)
 | _,_,.tup n h r=>.tup (SqT.of h) (DAs.rd r)
theorem DAs.rd {K:Frag} {tp:Addr} {H:Hp}:∀ {v:List V} {d:List PyData},DAs tp H v d→eW K H v d
 | _,_,.nil=>.nil
 | _,_,.cons h r=>.cons (DA.rd h) (DAs.rd r)
end
theorem DAs.len {tp:Addr} {H:Hp}:∀ {v:List V} {d:List PyData},DAs tp H v d→v.length=d.length
 | _,_,.nil=>rfl
 | _,_,.cons h r=>by rw [List.length_cons,List.length_cons,DAs.len r]
theorem DAs.get {tp:Addr} {H:Hp}:∀ {v:List V} {d:List PyData},DAs tp H v d→∀ (i:Nat) (x:V),v[i]?=some x→∃ e,d[i]?=some e∧DA tp H x e
 | _,_,.nil,i,x,h=>by simp at h
 | _,_,.cons h r,0,x,q=>by simp at q; subst q; exact ⟨_,rfl,h⟩
 | _,_,.cons h r,i+1,x,q=>by
  obtain ⟨e,e1,e2⟩:=DAs.get r i x (by simpa using q)
  exact ⟨e,by simpa using e1,e2⟩
def bM:PyData→Bool
 | .int _=>true
 | _=>false
def du (i:Int):Bool:=decide (32≤i)&&decide (i≤126)&&decide (i≠37)
def jd:PyData→Bool
 | .str z=>z.cps.toList.all fun c=>du (c:Nat)
 | _=>false
section
variable {P:Program} {w:World} {K:Frag} {mg:Str→Option Value} {base:Heap} {f g:Addr} {fd gd:FuncData}
def dC (tp:Addr):Sp:=fun vs H Q _=>∃ v d,vs=[v]∧DA tp H v d∧Q (.bl (bM d)) H
theorem wW:aK ["thing"] ["thing"] (defScope dZ):=⟨rfl,rfl,rfl,by decide +kernel,rfl,by decide +kernel,by decide +kernel⟩
theorem nM (tp:Addr) (T:G0 mg) (F:Fun K "is_whole" "is_whole" dZ f fd):aU P w K mg base CX0 1 f fd ["thing"] (dC tp):=by
 refine F.ok wW (fun vs H Q E h=>?_) (fun cdv A outer s H vs Q E hr h=>?_)
 ·obtain ⟨v,d,rfl,_⟩:=h
  rfl
 obtain ⟨v,d,rfl,hd,q⟩:=h
 refine ⟨_,al (ay (dh (ap bm rfl T.isi cL (ac (pv 0) (ac (bw (v:=.ty "int") rfl T.int jq rfl) af)))
  (dJ (ul (ap bm rfl T.isi cL (ac (pv 0) (ac (bw (v:=.ty "bool") rfl T.bool mX rfl) af))))))),?_⟩
 cases hd with
 | non=>exact ⟨_,rfl,_,_,_,false,rfl,.non,rfl,_,rfl,bp q⟩
 | bl b=>exact ⟨_,rfl,_,_,_,true,rfl,.bl b,rfl,_,rfl,aN ⟨_,rfl,_,_,_,true,rfl,.bl b,rfl,_,rfl,q⟩⟩
 | int i=>exact ⟨_,rfl,_,_,_,true,rfl,.int i,rfl,_,rfl,aN ⟨_,rfl,_,_,_,false,rfl,.int i,rfl,_,rfl,q⟩⟩
 | str x l=>exact ⟨_,rfl,_,_,_,false,rfl,.str x,rfl,_,rfl,bp q⟩
 | lst n h r=>exact ⟨_,rfl,_,_,_,false,rfl,.lst h,rfl,_,rfl,bp q⟩
 | tup n h r=>exact ⟨_,rfl,_,_,_,false,rfl,.tup h,rfl,_,rfl,bp q⟩
def ph:Sp:=fun vs H Q _=>∃ i,vs=[.int i]∧Q (.bl (du i)) H
theorem ye:aK ["number"] ["number"] (defScope cU):=⟨rfl,rfl,rfl,by decide +kernel,rfl,by decide +kernel,by decide +kernel⟩
theorem wz (F:Fun K "is_sign_number" "is_sign_number" cU f fd):aU P w K mg base CX0 1 f fd ["number"] ph:=by
 refine F.ok ye (fun vs H Q E h=>?_) (fun cdv A outer s H vs Q E hr h=>?_)
 ·obtain ⟨i,rfl,_⟩:=h
  rfl
 obtain ⟨i,rfl,q⟩:=h
 refine ⟨_,al (ay (dh (dM bY bY ag (pv 0) ag) (dJ (cX kF (pv 0) ag (aO _))))),?_⟩
 refine ⟨_,rfl,_,_,rfl,rfl,_,rfl,?_⟩
 refine aX (fun c1=>?_) (fun c1=>?_)
 ·refine ⟨_,_,rfl,rfl,_,rfl,?_⟩
  refine aX (fun c2=>?_) (fun c2=>?_)
  ·refine ⟨_,rfl,rfl,?_⟩
   have e:du i=(!decide (V.int i=V.int 37)):=by
    unfold du
    rw [c1,c2]
    simp
   rw [e] at q
   exact q
  ·have e:du i=false:=by
    unfold du
    rw [Bool.eq_false_iff.mpr c2]
    simp
   rw [e] at q
   exact q
 ·refine ⟨_,rfl,bp ?_⟩
  have e:du i=false:=by
   unfold du
   rw [Bool.eq_false_iff.mpr c1]
   simp
  rw [e] at q
  exact q
def mJ (tp:Addr):Sp:=fun vs H Q _=>∃ v d,vs=[v]∧DA tp H v d∧∀ H',ar H H'→Q (.bl (jd d)) H'
theorem yO:aK ["thing"] ["thing"] (defScope eU):=⟨rfl,rfl,rfl,by decide +kernel,rfl,by decide +kernel,by decide +kernel⟩
theorem sB (z:Str) (i:Nat) (c:Nat) (h:z.cps[i]?=some c):(z.cps.toList.take (i+1)).map (fun c:Nat=>du (c:Int))=(z.cps.toList.take i).map (fun c:Nat=>du (c:Int))++[du (c:Int)]:=by
 rw [List.take_add_one,List.map_append]
 have:z.cps.toList[i]?=some c:=by simpa using h
 rw [this]; rfl
theorem wv (tp:Addr) (T:G0 mg) (F:Fun K "is_text" "is_text" eU f fd) (D:Cal P w K mg base 1 "is_sign_number" ["number"] ph):aU P w K mg base CX0 2 f fd ["thing"] (mJ tp):=by
 obtain ⟨g,gd,Gd,bG,kG,mG⟩:=D.ex
 refine F.ok yO (fun vs H Q E h=>?_) (fun cdv A outer s H vs Q E hr h=>?_)
 ·obtain ⟨v,d,rfl,_⟩:=h
  rfl
 obtain ⟨v,d,rfl,hd,q⟩:=h
 refine ⟨_,al (ay (dh (ap bm rfl T.isi cL (ac (pv 0) (ac (bw (v:=.ty "str") rfl T.str xG rfl) af)))
  (dJ (ap (eS rfl) rfl T.all lS (ac (aW (N':=["sign"]) (ρ:=[none]) (m:=1) (bo.of (fs:=defScope eU) (N:=["thing"]) rfl rfl (by decide +kernel)) rfl (kn (pv 0))
    (fun _ _ _ _=>au (i:=0) (show List.Nodup (["sign"]:List Str) by decide +kernel) rfl (Or.inl rfl)) (fun _ _ _ _=>bg) (fun _ _ _ _=>ao Gd hr rfl mG kG bG .nil aB (ac (ap ip rfl T.ord rA (ac (pv 0) af)) af))) af))))),?_⟩
 cases hd with
 | non=>exact ⟨_,rfl,_,_,_,false,rfl,.non,rfl,_,rfl,bp (q _ (ar.refl _))⟩
 | bl b=>exact ⟨_,rfl,_,_,_,false,rfl,.bl b,rfl,_,rfl,bp (q _ (ar.refl _))⟩
 | int i=>exact ⟨_,rfl,_,_,_,false,rfl,.int i,rfl,_,rfl,bp (q _ (ar.refl _))⟩
 | lst n h r=>exact ⟨_,rfl,_,_,_,false,rfl,.lst h,rfl,_,rfl,bp (q _ (ar.refl _))⟩
 | tup n h r=>exact ⟨_,rfl,_,_,_,false,rfl,.tup h,rfl,_,rfl,bp (q _ (ar.refl _))⟩
 | str z ht =>
  refine ⟨_,rfl,_,_,_,true,rfl,.str z,rfl,_,rfl,aN ?_⟩
  refine ⟨_,rfl,z,rfl,fL z.cps.size rfl ht (fun i acc H'=>H'=H∧acc=((z.cps.toList.take i).map (fun c:Nat=>du (c:Int))).map V.bl) ⟨rfl,rfl⟩ (fun i acc H' c hi la hc p=>?_) (fun acc H' p la D hD=>?_)⟩
  ·obtain ⟨rfl,rfl⟩:=p
   refine ⟨⟨rfl,rfl⟩,bf ?_⟩
   refine ⟨_,rfl,_,rfl,rfl,_,rfl,nxT ht hi la ⟨rfl,?_⟩⟩
   rw [sB z i c hc,List.map_append]
   rfl
  ·obtain ⟨rfl,rfl⟩:=p
   refine ⟨D,_,rfl,SqL.of ad,?_⟩
   have e:jd (.str z)=(List.map (fun c:Nat=>du (c:Int)) (z.cps.toList.take z.cps.size)).all id:=by
    rw [← Array.length_toList,List.take_length,List.all_map]
    rfl
   rw [← e]
   exact q _ (ae hD _)
end
def ut:PyData→Bool
 | .tuple ds=>ds.all bM
 | _=>false
def jA (h:Str→PyData→Bool) (ks:List Str):PyData→Bool
 | .tuple ds=>decide (ds.length=ks.length)&&(ks.zip ds).all fun p=>h p.1 p.2
 | _=>false
def isV (R:List Rec):Nat→Str→PyData→Bool
 | 0,_,_=>false
 | n+1,k,d=>if k=Str.ofString "num" then bM d else if k=Str.ofString "text" then jd d else if k=Str.ofString "row" then ut d else jA (isV R n) ((look R k).map (·.2)) d
theorem DAs.same {tp:Addr} {H H':Hp} (e:ar H H') {v:List V} {d:List PyData} (h:DAs tp H v d):DAs tp H' v d:=h.mono fun b o _ q=>e b o q
theorem DA.same {tp:Addr} {H H':Hp} (e:ar H H') {v:V} {d:PyData} (h:DA tp H v d):DA tp H' v d:=h.mono fun b o _ q=>e b o q
section
variable {P:Program} {w:World} {K:Frag} {mg:Str→Option Value} {base:Heap} {f g:Addr} {fd gd:FuncData}
abbrev nVs:List Str:=["program", "kinds", "thing"]
abbrev nVb:List Str:=["kind", "value", "program"]
def jP (tp:Addr) (n:Nat):Sp:=fun vs H Q _=>∃ v k u d R,vs=[v,.str k,u]∧dR H v R∧cu R n k∧DA tp H u d∧∀ H',ar H H'→Q (.bl (isV R n k d)) H'
def iM (tp:Addr) (n:Nat):Sp:=fun vs H Q _=>∃ v r ks u d R,vs=[v,.ref r,u]∧dR H v R∧H r=some (.lst (ks.map V.str))∧ks.length≤3∧(∀ k∈ks,cu R n k)∧DA tp H u d∧∀ H',ar H H'→Q (.bl (jA (isV R n) ks d)) H'
theorem uw:aK nVs nVs (defScope cz):=⟨rfl,rfl,rfl,by decide +kernel,rfl,by decide +kernel,by decide +kernel⟩
theorem zT:nVb.Nodup:=by decide +kernel
theorem mq {n:Nat} (tp:Addr) (T:G0 mg) (TZ:mg "zip"=none) (F:Fun K "are_values" "are_values" cz f fd) (D:Cal P w K mg base (2*n+1) "is_value" ["program", "kind", "thing"] (jP tp n)):aU P w K mg base CX0 (2*n+2) f fd nVs (iM tp n):=by
 obtain ⟨g,gd,Gd,bG,kG,mG⟩:=D.ex
 refine F.ok uw (fun vs H Q E h=>?_) (fun cdv A outer s H vs Q E hr h=>?_)
 ·obtain ⟨v,r,ks,u,d,R,rfl,_⟩:=h
  rfl
 obtain ⟨v,r,ks,u,d,R,rfl,hp,hr',hl,hk,hd,q⟩:=h
 refine ⟨_,aj (bj (PW.pt (ft (cI (bX (ap bm rfl T.isi cL (ac (pv 2) (ac (bw (v:=.ty "tuple") rfl T.tuple bI rfl) af)))))
   (eB (aE kF (ap aA rfl T.len cb (ac (pv 2) af)) (ap aA rfl T.len cb (ac (pv 1) af)) (aO _))))) (al (ay cC)) aL)
  (al (ay (ap (eS rfl) rfl T.all lS (ac (aW (N':=nVb) (ρ:=[none,none,some 0]) (m:=2) (bo.of (fs:=defScope cz) (N:=nVs) rfl rfl (by decide +kernel)) rfl (qt false true rfl TZ (ac (pv 1) (ac (pv 2) af)))
    (fun _ _ _ _=>fZ (K:=K) (n:=2) rfl rfl (aG (au (i:=0) zT rfl (Or.inl rfl)) (aG (au (i:=1) zT rfl (Or.inl rfl)) bJ))) (fun _ _ _ _=>bg) (fun _ _ _ _=>ao Gd hr rfl mG kG bG .nil aB (ac (pv 2) (ac (pv 0) (ac (pv 1) af))))) af)))),?_⟩
 cases hd with
 | non=>exact ⟨_,rfl,_,_,_,false,rfl,.non,rfl,_,rfl,aN (aN (q _ (ar.refl _)))⟩
 | bl b=>exact ⟨_,rfl,_,_,_,false,rfl,.bl b,rfl,_,rfl,aN (aN (q _ (ar.refl _)))⟩
 | int i=>exact ⟨_,rfl,_,_,_,false,rfl,.int i,rfl,_,rfl,aN (aN (q _ (ar.refl _)))⟩
 | str z l=>exact ⟨_,rfl,_,_,_,false,rfl,.str z,rfl,_,rfl,aN (aN (q _ (ar.refl _)))⟩
 | lst nn h rr=>exact ⟨_,rfl,_,_,_,false,rfl,.lst h,rfl,_,rfl,aN (aN (q _ (ar.refl _)))⟩
 | @tup a xs ds nn h rr =>
  refine ⟨_,rfl,_,_,_,true,rfl,.tup h,rfl,_,rfl,bp ?_⟩
  refine ⟨_,rfl,a,xs,rfl,.inr (SqT.of h),_,rfl,r,_,rfl,.inl (SqL.of hr'),rfl,_,rfl,?_⟩
  have lxd:=rr.len
  refine aX (fun c=>?_) (fun c=>?_)
  ·have ne:ds.length≠ks.length:=fun e=>by
    have c':(!decide (V.int (xs.length:Int)=V.int ((ks.map V.str).length:Int)))=true:=c
    rw [List.length_map,lxd,e] at c'
    simp at c'
   have q':=q _ (ar.refl _)
   have e:jA (isV R n) ks (.tuple ds)=false:=by
    show (decide (ds.length=ks.length)&&(ks.zip ds).all fun p=>isV R n p.1 p.2)=false
    rw [decide_eq_false ne]
    rfl
   rw [e] at q'
   exact q'
  ·have e0:ds.length=ks.length:=by
    have c':¬ (!decide (V.int (xs.length:Int)=V.int ((ks.map V.str).length:Int)))=true:=c
    rw [List.length_map,lxd] at c'
    have:((ds.length:Nat):Int)=(ks.length:Nat):=by
     by_cases z:V.int (ds.length:Int)=V.int (ks.length:Int)
     ·exact V.int.inj z
     ·exact absurd (by simp [z]) c'
    omega
   have ezip:(ks.zip ds).length=ks.length:=by rw [List.length_zip]; omega
   refine ⟨_,rfl,_,rfl,r,a,rfl,⟨_,SqL.of hr'⟩,⟨_,SqT.of h⟩,nY (xs:=ks.map V.str) (ys:=xs) ks.length (by rw [List.length_map]) (by omega) (by omega) (fun i acc H'=>ar H H'∧acc=(((ks.zip ds).take i).map fun p=>isV R n p.1 p.2).map V.bl) ⟨ar.refl _,rfl⟩ (fun i acc H' p=>⟨SqL.of (p.1 _ _ hr'),SqT.of (p.1 _ _ h)⟩) (fun i acc H' x y pp hi la hx hy p hpp=>?_) (fun acc H' p la D hD=>?_)⟩
   ·obtain ⟨g1,rfl⟩:=p
    rw [List.getElem?_map] at hx
    obtain ⟨k,hk',rfl⟩:=Option.map_eq_some_iff.mp hx
    obtain ⟨e,he,hde⟩:=rr.get i y hy
    have g2:=g1.trans (ae hpp (.tup [.str k,y]))
    refine ⟨pp,_,rfl,SqT.of ad,rfl,_,_,rfl,_,_,rfl,rfl,⟨rfl,rfl⟩,bf ?_⟩
    refine ⟨_,rfl,_,rfl,_,rfl,v,k,y,e,R,rfl,hp.mono (ak g2),hk k (List.mem_of_getElem? hk'),hde.same g2,fun H3 g3=>nxT (by omega) hi la ⟨g2.trans g3,?_⟩⟩
    have ez:(ks.zip ds)[i]?=some (k,e):=by
     rw [List.getElem?_zip_eq_some]
     exact ⟨hk',he⟩
    rw [List.take_add_one,ez,List.map_append,List.map_append]
    rfl
   ·obtain ⟨g1,rfl⟩:=p
    refine ⟨D,_,rfl,SqL.of ad,?_⟩
    have e:jA (isV R n) ks (.tuple ds)=(List.map (fun p=>isV R n p.1 p.2) ((ks.zip ds).take ks.length)).all id:=by
     rw [← ezip,List.take_length,List.all_map]
     show (decide (ds.length=ks.length)&&(ks.zip ds).all fun p=>isV R n p.1 p.2)=_
     rw [decide_eq_true e0]
     rfl
    rw [← e]
    exact q _ (g1.trans (ae hD _))
end
theorem DAs.whole_take {tp:Addr} {H:Hp} {ds:List PyData} {i:Nat} {e:PyData} (h:ds[i]?=some e):(ds.take (i+1)).map bM=(ds.take i).map bM++[bM e]:=by
 rw [List.take_add_one,List.map_append,h]; rfl
section
variable {P:Program} {w:World} {K:Frag} {mg:Str→Option Value} {base:Heap} {f g:Addr} {fd gd:FuncData}
abbrev nV:List Str:=["program", "kind", "thing"]
theorem xc:aK nV nV (defScope cV):=⟨rfl,rfl,rfl,by decide +kernel,rfl,by decide +kernel,by decide +kernel⟩
theorem vq {n:Nat} (tp:Addr) (T:G0 mg) (F:Fun K "is_value" "is_value" cV f fd) (DW:Cal P w K mg base 1 "is_whole" ["thing"] (dC tp)) (DT:Cal P w K mg base 2 "is_text" ["thing"] (mJ tp))
  (DK:Cal P w K mg base 2 "field_kinds" ["program", "kind"] gv) (DV:Cal P w K mg base (2*n+2) "are_values" nVs (iM tp n)):aU P w K mg base CX0 (2*(n+1)+1) f fd nV (jP tp (n+1)):=by
 obtain ⟨g1,gd1,GW,bW,kW,mW⟩:=DW.ex
 obtain ⟨g2,gd2,GT,bT,kT,mT⟩:=DT.ex
 obtain ⟨g3,gd3,GK,bK,kK,mK⟩:=DK.ex
 obtain ⟨g4,gd4,GV,bV,kV,mV⟩:=DV.ex
 refine F.ok xc (fun vs H Q E h=>?_) (fun cdv A outer s H vs Q E hr h=>?_)
 ·obtain ⟨v,k,u,d,R,rfl,_⟩:=h
  rfl
 obtain ⟨v,k,u,d,R,rfl,hp,hk,hd,q⟩:=h
 refine ⟨_,aj (bj (aE bO (pv 1) aM (aO _)) (al (ay (ao GW (hr.mono (by omega)) rfl mW kW bW .nil aB (ac (pv 2) af)))) aL)
  (aj (bj (aE bO (pv 1) aM (aO _)) (al (ay (ao GT (hr.mono (by omega)) rfl mT kT bT .nil aB (ac (pv 2) af)))) aL)
  (aj (bj (aE bO (pv 1) aM (aO _)) (al (ay (dh (ap bm rfl T.isi cL (ac (pv 2) (ac (bw (v:=.ty "tuple") rfl T.tuple bI rfl) af)))
    (dJ (ap (eS rfl) rfl T.all lS (ac (aW (N':=["number"]) (ρ:=[none]) (m:=1) (bo.of (fs:=defScope cV) (N:=nV) rfl rfl (by decide +kernel)) rfl (bZ (pv 2))
     (fun _ _ _ _=>au (i:=0) (show List.Nodup (["number"]:List Str) by decide +kernel) rfl (Or.inl rfl)) (fun _ _ _ _=>bg) (fun _ _ _ _=>ao GW (hr.mono (by omega)) rfl mW kW bW .nil aB (ac (pv 0) af))) af)))))) aL)
  (al (ay (ao GV (hr.mono (by omega)) rfl mV kV bV .nil aB (ac (pv 0) (ac (ao GK (hr.mono (by omega)) rfl mK kK bK .nil aB (ac (pv 0) (ac (pv 1) af))) (ac (pv 2) af)))))))),?_⟩
 refine ⟨_,rfl,rfl,_,rfl,?_⟩
 refine aX (fun c1=>?_) (fun c1=>?_)
 ·refine ⟨_,rfl,u,d,rfl,hd,?_⟩
  have q':=q _ (ar.refl _)
  unfold isV at q'
  rw [if_pos (eqS c1)] at q'
  exact q'
 have n1:=neS c1
 refine ⟨_,rfl,rfl,_,rfl,?_⟩
 refine aX (fun c2=>?_) (fun c2=>?_)
 ·refine ⟨_,rfl,u,d,rfl,hd,fun H' g=>?_⟩
  have q':=q _ g
  unfold isV at q'
  rw [if_neg n1,if_pos (eqS c2)] at q'
  exact q'
 have n2:=neS c2
 refine ⟨_,rfl,rfl,_,rfl,?_⟩
 refine aX (fun c3=>?_) (fun c3=>?_)
 ·have qr:∀ H',ar H H'→Q (.bl (ut d)) H':=fun H' g=>by
   have q':=q _ g
   unfold isV at q'
   rw [if_neg n1,if_neg n2,if_pos (eqS c3)] at q'
   exact q'
  cases hd with
  | non=>exact ⟨_,rfl,_,_,_,false,rfl,.non,rfl,_,rfl,bp (qr _ (ar.refl _))⟩
  | bl b=>exact ⟨_,rfl,_,_,_,false,rfl,.bl b,rfl,_,rfl,bp (qr _ (ar.refl _))⟩
  | int i=>exact ⟨_,rfl,_,_,_,false,rfl,.int i,rfl,_,rfl,bp (qr _ (ar.refl _))⟩
  | str z l=>exact ⟨_,rfl,_,_,_,false,rfl,.str z,rfl,_,rfl,bp (qr _ (ar.refl _))⟩
  | lst nn h rr=>exact ⟨_,rfl,_,_,_,false,rfl,.lst h,rfl,_,rfl,bp (qr _ (ar.refl _))⟩
  | @tup a xs ds nn h rr =>
   refine ⟨_,rfl,_,_,_,true,rfl,.tup h,rfl,_,rfl,aN ?_⟩
   refine ⟨_,rfl,a,rfl,⟨xs,SqT.of h⟩,cr (xs:=xs) xs.length rfl nn.2 (fun i acc H'=>H'=H∧acc=((ds.take i).map bM).map V.bl) ⟨rfl,rfl⟩ (fun i acc H' p=>by rw [p.1]; exact SqT.of h) (fun i acc H' x hi la hx p=>?_) (fun acc H' p la D hD=>?_)⟩
   ·obtain ⟨rfl,rfl⟩:=p
    obtain ⟨e,he,hde⟩:=rr.get i x hx
    refine ⟨⟨rfl,rfl⟩,bf ?_⟩
    refine ⟨_,rfl,x,e,rfl,hde,nxT nn.2 hi la ⟨rfl,?_⟩⟩
    rw [DAs.whole_take (tp:=tp) (H:=H') he,List.map_append]
    rfl
   ·obtain ⟨rfl,rfl⟩:=p
    refine ⟨D,_,rfl,SqL.of ad,?_⟩
    have e:ut (.tuple ds)=(List.map bM (ds.take xs.length)).all id:=by
     rw [rr.len,List.take_length,List.all_map]
     rfl
    rw [← e]
    exact qr _ (ae hD _)
 have n3:=neS c3
 rcases hk with hk | ⟨_,_,⟨_,hl⟩,hk⟩
 ·rcases List.mem_cons.mp hk with e | hk
  ·exact absurd e n1
  rcases List.mem_cons.mp hk with e | hk
  ·exact absurd e n2
  ·exact absurd (List.mem_singleton.mp hk) n3
 refine ⟨_,rfl,_,rfl,_,rfl,v,k,R,rfl,hp,hl,fun r H1 e1 hr0 hr1=>?_⟩
 refine ⟨_,rfl,v,r,(look R k).map (·.2),u,d,R,rfl,hp.mono (ak e1),?_,by rw [List.length_map]; exact hl,fun k' hk'=>?_,hd.same e1,fun H2 e2=>?_⟩
 ·rw [hr1,List.map_map]
  rfl
 ·obtain ⟨p,hp',rfl⟩:=List.mem_map.mp hk'
  exact hk p hp'
 ·have q':=q _ (e1.trans e2)
  unfold isV at q'
  rw [if_neg n1,if_neg n2,if_neg n3] at q'
  exact q'
end
end K6
namespace L2
open PySem PySem.Spec PyProof.Rows
section
variable {X:Cx} {a b c d:Expr} {ta tb tc td:TE} {pos:Pos}
def sk (r r' r'':R2) (ta tb tc td:TE):TE:=fun σ H Q=>ta σ H fun x H1=>tb σ H1 fun y H2=>r x y H2 fun z H3=>∃ k,z=.bl k ∧
 (if k=true then tc σ H3 fun w' H4=>r' y w' H4 fun z2 H5=>∃ k2,z2=.bl k2∧(if k2=true then td σ H5 fun w3 H6=>r'' w' w3 H6 Q else Q (.bl false) H5) else Q (.bl false) H3)
theorem sy {op op' op'':CmpOp} {r r' r'':R2} (ho:OpR X (compareOp op) r) (ho':OpR X (compareOp op') r') (ho'':OpR X (compareOp op'') r'') (ha:PE X a ta) (hb:PE X b tb) (hc:PE X c tc) (hd:PE X d td)
  (hm:lastMarks [op,op',op''] [b,c,d]=false:=by with_unfolding_all rfl):PE X (.Compare a [op,op',op''] [b,c,d] pos) (sk r r' r'' ta tb tc td):=by
 intro pins s σ H Q I h
 refine Compare_chain (thn (ha pins s σ H _ I h) fun v s1 ⟨x,H1,I1,r1,q1⟩=>chain_link (thn (hb pins s1 σ H1 _ I1 q1) fun u s2 ⟨y,H2,I2,r2,q2⟩ =>
  thn (ho pins s2 σ H2 x y v u _ I2 r1 r2 q2) fun d s3 ⟨z,H3,I3,r3,k,e,q3⟩=>?_)) hm
 subst e
 cases r3
 refine wpAny_truthy_bool ?_
 cases k with
 | false=>exact ite_ff ⟨.bl false,H3,I3,rfl,q3⟩
 | true =>
  refine ite_tt (chain_link (thn (hc pins s3 σ H3 _ I3 q3) fun w' s4 ⟨z',H4,I4,r4,q4⟩=>thn (ho' pins s4 σ H4 y z' u w' _ I4 r2 r4 q4) fun d2 s5 ⟨z2,H5,I5,r5,k2,e2,q5⟩=>?_))
  subst e2
  cases r5
  refine wpAny_truthy_bool ?_
  cases k2 with
  | false=>exact ite_ff ⟨.bl false,H5,I5,rfl,q5⟩
  | true=>exact ite_tt (chain_last (thn (hd pins s5 σ H5 _ I5 q5) fun w3 s6 ⟨z3,H6,I6,r6,q6⟩=>ho'' pins s6 σ H6 z' z3 w' w3 Q I6 r4 r6 q6))
theorem tD {op op' op'':CmpOp} {r r' r'':R2} (ho:OpR X (compareOp op) r) (ho':OpR X (compareOp op') r') (ho'':OpR X (compareOp op'') r'') (ha:PE X a ta) (hb:PE X b tb) (hc:PE X c tc) (hd:PE X d td)
  (hm:lastMarks [op,op',op''] [b,c,d]=false:=by with_unfolding_all rfl):PT X (.Compare a [op,op',op''] [b,c,d] pos) (uU (sk r r' r'' ta tb tc td)):=by
 intro pins s σ H Q I h
 refine isTrue_chain (thn (ha pins s σ H _ I h) fun v s1 ⟨x,H1,I1,r1,q1⟩=>test_link (thn (hb pins s1 σ H1 _ I1 q1) fun u s2 ⟨y,H2,I2,r2,q2⟩ =>
  thn (ho pins s2 σ H2 x y v u _ I2 r1 r2 q2) fun d s3 ⟨z,H3,I3,r3,k,e,q3⟩=>?_)) hm
 subst e
 cases r3
 refine wpAny_truthy_bool ?_
 cases k with
 | false =>
  obtain ⟨k',e',q'⟩:=q3
  cases e'
  exact ite_ff ⟨H3,I3,q'⟩
 | true =>
  refine ite_tt (test_link (thn (hc pins s3 σ H3 _ I3 q3) fun w' s4 ⟨z',H4,I4,r4,q4⟩=>thn (ho' pins s4 σ H4 y z' u w' _ I4 r2 r4 q4) fun d2 s5 ⟨z2,H5,I5,r5,k2,e2,q5⟩=>?_))
  subst e2
  cases r5
  refine wpAny_truthy_bool ?_
  cases k2 with
  | false =>
   obtain ⟨k',e',q'⟩:=q5
   cases e'
   exact ite_ff ⟨H5,I5,q'⟩
  | true =>
   refine ite_tt (test_last (thn (hd pins s5 σ H5 _ I5 q5) fun w3 s6 ⟨z3,H6,I6,r6,q6⟩=>thn (ho'' pins s6 σ H6 z' z3 w' w3 _ I6 r4 r6 q6) fun d3 s7 ⟨z4,H7,I7,r7,k3,e3,q7⟩=>?_))
   subst e3
   cases r7
   exact wpAny_truthy_bool ⟨H7,I7,q7⟩
end
end L2
namespace K6
open PySem L2
def btw (d:PyData) (lo hi:Int):Bool:=match d with | .int i=>decide (lo≤i)&&decide (i≤hi) | _=>false
theorem jL {d:PyData} {lo hi:Int} (h:btw d lo hi=true):∃ i,d=.int i∧lo≤i∧i≤hi:=by
 cases d<;>simp [btw] at h
 exact ⟨_,rfl,h⟩
def bR:PyData→Bool
 | .tuple [.int a,.int b,.int c,.int e,.int g]=>decide (-9≤a)&&decide (a≤b)&&decide (b≤9)&&decide (0≤c)&&decide (c≤3)&&decide (32≤e)&&decide (e≤g)&&decide (g≤126)
 | _=>false
theorem tm {ds:List PyData} (h:ds.length=5) (hn:ds.any (fun d=>!bM d)=true):bR (.tuple ds)=false:=by
 match ds,h with
 | [a,b,c,e,g],_ =>
  cases a<;>try rfl
  cases b<;>try rfl
  cases c<;>try rfl
  cases e<;>try rfl
  cases g<;>first | rfl | (simp [bM] at hn)
theorem nH {ds:List PyData} (h:ds.length≠5):bR (.tuple ds)=false:=by
 unfold bR
 split
 ·rename_i e
  cases e
  simp at h
 ·rfl
section
variable {P:Program} {w:World} {K:Frag} {mg:Str→Option Value} {base:Heap} {f g:Addr} {fd gd:FuncData}
abbrev mY:List Str:=["thing", "least", "most"]
theorem lA:aK mY ["thing", "least", "most"] (defScope dD):=⟨rfl,rfl,rfl,by decide +kernel,rfl,by decide +kernel,by decide +kernel⟩
def xp (tp:Addr):Sp:=fun vs H Q _=>∃ v d lo hi,vs=[v,.int lo,.int hi]∧DA tp H v d∧Q (.bl (btw d lo hi)) H
theorem pX (tp:Addr) (F:Fun K "is_between" "is_between" dD f fd) (D_is_whole:Cal P w K mg base 1 "is_whole" ["thing"] (dC tp)):aU P w K mg base CX0 2 f fd ["thing", "least", "most"] (xp tp):=by
 obtain ⟨g_is_whole,gd_is_whole,G_is_whole,b_is_whole,k_is_whole,m_is_whole⟩:=D_is_whole.ex
 refine F.ok lA (fun vs H Q E h=>?_) (fun cdv A outer s H vs Q E hr h=>?_)
 ·obtain ⟨v,d,lo,hi,rfl,_⟩:=h
  rfl
 obtain ⟨v,d,lo,hi,rfl,hd,q⟩:=h
 refine ⟨_,(@al _ _ _ (@ay _ _ _ _ (dh (@ao _ _ _ _ _ _ _ _ _ _ _ _ _ _ _ _ G_is_whole (hr.mono (by omega)) rfl m_is_whole k_is_whole b_is_whole .nil aB (@ac _ _ _ _ _ (pv 0) af (aa rfl)) (by decide) (aa rfl) (ah rfl)) (dJ (dM bY bY (pv 1) (pv 0) (pv 2)))))),?_⟩
 refine ⟨_,rfl,v,d,rfl,hd,_,rfl,?_⟩
 cases hd with
 | int i =>
  refine aN ⟨_,rfl,_,rfl,_,_,rfl,rfl,_,rfl,?_⟩
  refine aX (fun c=>?_) (fun c=>?_)
  ·refine ⟨_,rfl,_,_,rfl,rfl,?_⟩
   have e:btw (.int i) lo hi=decide (i≤hi):=by simp only [btw]; rw [c]; rfl
   rw [e] at q
   exact q
  ·have e:btw (.int i) lo hi=false:=by simp only [btw]; rw [Bool.eq_false_iff.mpr c]; rfl
   rw [e] at q
   exact q
 | _=>exact bp q
abbrev sR:List Str:=["_law_thing"]
theorem oY:aK sR ["_law_thing"] (defScope eT):=⟨rfl,rfl,rfl,by decide +kernel,rfl,by decide +kernel,by decide +kernel⟩
theorem lO (tp:Addr) (T:G0 mg) (F:Fun K "_law_whole" "_law_whole" eT f fd):aU P w K mg base CX0 1 f fd ["_law_thing"] (dC tp):=by
 refine F.ok oY (fun vs H Q E h=>?_) (fun cdv A outer s H vs Q E hr h=>?_)
 ·obtain ⟨v,d,rfl,_⟩:=h
  rfl
 obtain ⟨v,d,rfl,hd,q⟩:=h
 refine ⟨_,(@al _ _ _ (@ay _ _ _ _ (dh (@ap _ _ _ _ _ _ _ _ _ bm rfl T.isi cL (@ac _ _ _ _ _ (pv 0) (@ac _ _ _ _ _ (bw (v:=.ty "int") rfl T.int jq rfl) af (aa rfl)) (aa rfl)) (by decide) (by decide) (aa rfl) (ah rfl)) (dJ (ul (@ap _ _ _ _ _ _ _ _ _ bm rfl T.isi cL (@ac _ _ _ _ _ (pv 0) (@ac _ _ _ _ _ (bw (v:=.ty "bool") rfl T.bool mX rfl) af (aa rfl)) (aa rfl)) (by decide) (by decide) (aa rfl) (ah rfl))))))),?_⟩
 cases hd with
 | non=>exact ⟨_,rfl,_,_,_,false,rfl,.non,rfl,_,rfl,bp q⟩
 | bl b=>exact ⟨_,rfl,_,_,_,true,rfl,.bl b,rfl,_,rfl,aN ⟨_,rfl,_,_,_,true,rfl,.bl b,rfl,_,rfl,q⟩⟩
 | int i=>exact ⟨_,rfl,_,_,_,true,rfl,.int i,rfl,_,rfl,aN ⟨_,rfl,_,_,_,false,rfl,.int i,rfl,_,rfl,q⟩⟩
 | str x l=>exact ⟨_,rfl,_,_,_,false,rfl,.str x,rfl,_,rfl,bp q⟩
 | lst n h r=>exact ⟨_,rfl,_,_,_,false,rfl,.lst h,rfl,_,rfl,bp q⟩
 | tup n h r=>exact ⟨_,rfl,_,_,_,false,rfl,.tup h,rfl,_,rfl,bp q⟩
def mS (tp:Addr):Sp:=fun vs H Q _=>∃ v d,vs=[v]∧DA tp H v d∧∀ H',ar H H'→Q (.bl (bR d)) H'
abbrev sJ:List Str:=["thing"]
theorem qa:aK sJ ["thing"] (defScope gn):=⟨rfl,rfl,rfl,by decide +kernel,rfl,by decide +kernel,by decide +kernel⟩
theorem sO (tp:Addr) (T:G0 mg) (F:Fun K "is_room" "is_room" gn f fd) (D_is_between:Cal P w K mg base 2 "is_between" ["thing", "least", "most"] (xp tp)):aU P w K mg base CX0 3 f fd ["thing"] (mS tp):=by
 obtain ⟨g_is_between,gd_is_between,G_is_between,b_is_between,k_is_between,m_is_between⟩:=D_is_between.ex
 refine F.ok qa (fun vs H Q E h=>?_) (fun cdv A outer s H vs Q E hr h=>?_)
 ·obtain ⟨v,d,rfl,_⟩:=h
  rfl
 obtain ⟨v,d,rfl,hd,q⟩:=h
 refine ⟨_,(@aj _ _ _ _ _ (@bj _ _ _ _ _ _ _ _ (PW.pt (ft (cI (bX (@ap _ _ _ _ _ _ _ _ _ bm rfl T.isi cL (@ac _ _ _ _ _ (pv 0) (@ac _ _ _ _ _ (bw (v:=.ty "tuple") rfl T.tuple bI rfl) af (aa rfl)) (aa rfl)) (by decide) (by decide) (aa rfl) (ah rfl)))) (eB (@aE _ _ _ _ _ _ _ _ kF (@ap _ _ _ _ _ _ _ _ _ aA rfl T.len cb (@ac _ _ _ _ _ (pv 0) af (aa rfl)) (by decide) (by decide) (aa rfl) (ah rfl)) ag (aO _))))) (@al _ _ _ (@ay _ _ _ _ cC)) aL) (@aj _ _ _ _ _ (@bj _ _ _ _ _ _ _ _ (PW.pt (ft (cI (bX (@ao _ _ _ _ _ _ _ _ _ _ _ _ _ _ _ _ G_is_between (hr.mono (by omega)) rfl m_is_between k_is_between b_is_between .nil aB (@ac _ _ _ _ _ (@av _ _ _ _ _ _ _ aH (pv 0) ag (fun _ _=>rfl)) (@ac _ _ _ _ _ (@lW _ _ _ _ _ _ iZ ag) (@ac _ _ _ _ _ ag af (aa rfl)) (aa rfl)) (aa rfl)) (by decide) (aa rfl) (ah rfl)))) (eB (cI (bX (@ao _ _ _ _ _ _ _ _ _ _ _ _ _ _ _ _ G_is_between (hr.mono (by omega)) rfl m_is_between k_is_between b_is_between .nil aB (@ac _ _ _ _ _ (@av _ _ _ _ _ _ _ aH (pv 0) ag (fun _ _=>rfl)) (@ac _ _ _ _ _ (@av _ _ _ _ _ _ _ aH (pv 0) ag (fun _ _=>rfl)) (@ac _ _ _ _ _ ag af (aa rfl)) (aa rfl)) (aa rfl)) (by decide) (aa rfl) (ah rfl))))))) (@al _ _ _ (@ay _ _ _ _ cC)) aL) (@al _ _ _ (@ay _ _ _ _ (dh (@ao _ _ _ _ _ _ _ _ _ _ _ _ _ _ _ _ G_is_between (hr.mono (by omega)) rfl m_is_between k_is_between b_is_between .nil aB (@ac _ _ _ _ _ (@av _ _ _ _ _ _ _ aH (pv 0) ag (fun _ _=>rfl)) (@ac _ _ _ _ _ ag (@ac _ _ _ _ _ ag af (aa rfl)) (aa rfl)) (aa rfl)) (by decide) (aa rfl) (ah rfl)) (dh (@ao _ _ _ _ _ _ _ _ _ _ _ _ _ _ _ _ G_is_between (hr.mono (by omega)) rfl m_is_between k_is_between b_is_between .nil aB (@ac _ _ _ _ _ (@av _ _ _ _ _ _ _ aH (pv 0) ag (fun _ _=>rfl)) (@ac _ _ _ _ _ ag (@ac _ _ _ _ _ ag af (aa rfl)) (aa rfl)) (aa rfl)) (by decide) (aa rfl) (ah rfl)) (dJ (@ao _ _ _ _ _ _ _ _ _ _ _ _ _ _ _ _ G_is_between (hr.mono (by omega)) rfl m_is_between k_is_between b_is_between .nil aB (@ac _ _ _ _ _ (@av _ _ _ _ _ _ _ aH (pv 0) ag (fun _ _=>rfl)) (@ac _ _ _ _ _ (@av _ _ _ _ _ _ _ aH (pv 0) ag (fun _ _=>rfl)) (@ac _ _ _ _ _ ag af (aa rfl)) (aa rfl)) (aa rfl)) (by decide) (aa rfl) (ah rfl))))))))),?_⟩
 cases hd with
 | non=>exact ⟨_,rfl,_,_,_,false,rfl,.non,rfl,_,rfl,aN (aN (q _ (ar.refl _)))⟩
 | bl b=>exact ⟨_,rfl,_,_,_,false,rfl,.bl b,rfl,_,rfl,aN (aN (q _ (ar.refl _)))⟩
 | int i=>exact ⟨_,rfl,_,_,_,false,rfl,.int i,rfl,_,rfl,aN (aN (q _ (ar.refl _)))⟩
 | str z l=>exact ⟨_,rfl,_,_,_,false,rfl,.str z,rfl,_,rfl,aN (aN (q _ (ar.refl _)))⟩
 | lst nn h rr=>exact ⟨_,rfl,_,_,_,false,rfl,.lst h,rfl,_,rfl,aN (aN (q _ (ar.refl _)))⟩
 | @tup a xs ds nn h rr =>
  have lx:=rr.len
  refine ⟨_,rfl,_,_,_,true,rfl,.tup h,rfl,_,rfl,bp ?_⟩
  refine ⟨_,rfl,a,xs,rfl,.inr (SqT.of h),rfl,_,rfl,?_⟩
  have q0:=q _ (ar.refl _)
  refine aX (fun c=>?_) (fun c=>?_)
  ·rw [nH (fun z=>by rw [lx,z] at c; simp at c)] at q0
   exact q0
  have l5:ds.length=5:=by
   by_cases z:ds.length=5
   ·exact z
   ·exfalso
    apply c
    rw [lx]
    simp
    omega
  match ds,l5,rr,q0 with
  | [d0,d1,d2,d3,d4],_,rr,q0 =>
   obtain ⟨x0,x1,x2,x3,x4,rfl,r0,r1,r2,r3,r4⟩:∃ x0 x1 x2 x3 x4,xs=[x0,x1,x2,x3,x4]∧DA tp H x0 d0∧DA tp H x1 d1∧DA tp H x2 d2∧DA tp H x3 d3∧DA tp H x4 d4:=by
    cases rr with
    | cons r0 rr=>cases rr with
     | cons r1 rr=>cases rr with
      | cons r2 rr=>cases rr with
       | cons r3 rr=>cases rr with
        | cons r4 rr=>cases rr; exact ⟨_,_,_,_,_,rfl,r0,r1,r2,r3,r4⟩
   have no:∀ {b:Bool},(b=true→bR (.tuple [d0,d1,d2,d3,d4])=true→False)→b=true→Q (.bl false) H:=fun hb e=>by
    have:bR (.tuple [d0,d1,d2,d3,d4])=false:=Bool.eq_false_iff.mpr (hb e)
    rw [this] at q0
    exact q0
   refine ⟨_,rfl,a,_,_,_,rfl,rfl,SqT.of h,rfl,_,rfl,x0,d0,_,_,rfl,r0,_,rfl,?_⟩
   cases e0:btw d0 (-9) 9 with
   | false =>
    refine aN (aN ?_)
    have:bR (.tuple [d0,d1,d2,d3,d4])=false:=by
     cases d0<;>try rfl
     cases d1<;>try rfl
     cases d2<;>try rfl
     cases d3<;>try rfl
     cases d4<;>try rfl
     simp only [btw,Bool.and_eq_false_iff,decide_eq_false_iff_not] at e0
     simp only [bR,Bool.and_eq_false_iff,decide_eq_false_iff_not]
     omega
    rw [this] at q0
    exact q0
   | true =>
    obtain ⟨i0,rfl,b0,b0'⟩:=jL e0
    cases r0
    refine bp ⟨_,rfl,a,_,_,_,rfl,rfl,SqT.of h,rfl,_,rfl,a,_,_,_,rfl,rfl,SqT.of h,rfl,x1,d1,_,_,rfl,r1,_,rfl,?_⟩
    cases e1:btw d1 i0 9 with
    | false =>
     refine aN ?_
     have:bR (.tuple [.int i0,d1,d2,d3,d4])=false:=by
      cases d1<;>try rfl
      cases d2<;>try rfl
      cases d3<;>try rfl
      cases d4<;>try rfl
      simp only [btw,Bool.and_eq_false_iff,decide_eq_false_iff_not] at e1
      simp only [bR,Bool.and_eq_false_iff,decide_eq_false_iff_not]
      omega
     rw [this] at q0
     exact q0
    | true =>
     obtain ⟨i1,rfl,b1,b1'⟩:=jL e1
     refine bp ?_
     refine ⟨_,rfl,a,_,_,_,rfl,rfl,SqT.of h,rfl,x2,d2,_,_,rfl,r2,_,rfl,?_⟩
     cases e2:btw d2 0 3 with
     | false =>
      refine bp ?_
      have:bR (.tuple [.int i0,.int i1,d2,d3,d4])=false:=by
       cases d2<;>try rfl
       cases d3<;>try rfl
       cases d4<;>try rfl
       simp only [btw,Bool.and_eq_false_iff,decide_eq_false_iff_not] at e2
       simp only [bR,Bool.and_eq_false_iff,decide_eq_false_iff_not]
       omega
      rw [this] at q0
      exact q0
     | true =>
      obtain ⟨i2,rfl,b2,b2'⟩:=jL e2
      refine aN ⟨_,rfl,a,_,_,_,rfl,rfl,SqT.of h,rfl,x3,d3,_,_,rfl,r3,_,rfl,?_⟩
      cases e3:btw d3 32 126 with
      | false =>
       refine bp ?_
       have:bR (.tuple [.int i0,.int i1,.int i2,d3,d4])=false:=by
        cases d3<;>try rfl
        cases d4<;>try rfl
        simp only [btw,Bool.and_eq_false_iff,decide_eq_false_iff_not] at e3
        simp only [bR,Bool.and_eq_false_iff,decide_eq_false_iff_not]
        omega
       rw [this] at q0
       exact q0
      | true =>
       obtain ⟨i3,rfl,b3,b3'⟩:=jL e3
       cases r3
       refine aN ⟨_,rfl,a,_,_,_,rfl,rfl,SqT.of h,rfl,_,rfl,a,_,_,_,rfl,rfl,SqT.of h,rfl,x4,d4,_,_,rfl,r4,?_⟩
       have:bR (.tuple [.int i0,.int i1,.int i2,.int i3,d4])=btw d4 i3 126:=by
        cases d4<;>try rfl
        simp only [bR,btw]
        rw [decide_eq_true (show (-9:Int)≤i0 by omega),decide_eq_true b1,decide_eq_true b1',decide_eq_true b2,decide_eq_true b2',decide_eq_true b3]
        rfl
       rw [this] at q0
       exact q0
end
open PySem L2
theorem kM:∀ l:List Bool,inV (.bl false) (l.map V.bl)=l.any fun b=>!b
 | []=>rfl
 | b::r=>by
  have ih:=kM r
  unfold inV at ih ⊢
  rw [List.map_cons,List.any_cons,List.any_cons,ih]
  cases b<;>rfl
theorem eK:∀ l:List Bool,(l.map V.bl).all gO=true
 | []=>rfl
 | b::r=>by rw [List.map_cons,List.all_cons,eK r]; rfl
section
variable {P:Program} {w:World} {K:Frag} {mg:Str→Option Value} {base:Heap} {f g:Addr} {fd gd:FuncData}
abbrev jg:List Str:=["_law_thing"]
abbrev fW:List Str:=["_law_one"]
theorem jD:fW.Nodup:=by decide +kernel
theorem nE:aK jg ["_law_thing"] (defScope dc):=⟨rfl,rfl,rfl,by decide +kernel,rfl,by decide +kernel,by decide +kernel⟩
theorem oP (tp:Addr) (T:G0 mg) (F:Fun K "_law_is_room" "_law_is_room" dc f fd) (D_l_whole:Cal P w K mg base 1 "_law_whole" ["_law_thing"] (dC tp)):aU P w K mg base CX0 2 f fd ["_law_thing"] (mS tp):=by
 obtain ⟨g_l_whole,gd_l_whole,G_l_whole,b_l_whole,k_l_whole,m_l_whole⟩:=D_l_whole.ex
 refine F.ok nE (fun vs H Q E h=>?_) (fun cdv A outer s H vs Q E hr h=>?_)
 ·obtain ⟨v,d,rfl,_⟩:=h
  rfl
 obtain ⟨v,d,rfl,hd,q⟩:=h
 refine ⟨_,(@aj _ _ _ _ _ (@bj _ _ _ _ _ _ _ _ (PW.pt (ft (cI (bX (@ap _ _ _ _ _ _ _ _ _ bm rfl T.isi cL (@ac _ _ _ _ _ (pv 0) (@ac _ _ _ _ _ (bw (v:=.ty "tuple") rfl T.tuple bI rfl) af (aa rfl)) (aa rfl)) (by decide) (by decide) (aa rfl) (ah rfl)))) (ft (@aE _ _ _ _ _ _ _ _ kF (@ap _ _ _ _ _ _ _ _ _ aA rfl T.len cb (@ac _ _ _ _ _ (pv 0) af (aa rfl)) (by decide) (by decide) (aa rfl) (ah rfl)) ag (aO _)) (eB (@aE _ _ _ _ _ _ _ _ eQ cC (aW (N':=fW) (ρ:=[none]) (m:=1) (bo.of (fs:=defScope dc) (N:=jg) rfl rfl (by decide +kernel)) rfl (bZ (pv 0)) (fun _ _ _ _=>(au (i:=0) jD rfl (Or.inl rfl))) (fun _ _ _ _=>bg) (fun _ _ _ _=>(ao G_l_whole (hr.mono (by omega)) rfl m_l_whole k_l_whole b_l_whole .nil aB (ac (pv 0) af)))) rfl))))) (@al _ _ _ (@ay _ _ _ _ cC)) aL) (@aj _ _ _ _ _ (@bj _ _ _ _ _ _ _ _ (PW.pt (ft (cI (tD bY bY bY (@lW _ _ _ _ _ _ iZ ag) (@av _ _ _ _ _ _ _ aH (pv 0) ag (fun _ _=>rfl)) (@av _ _ _ _ _ _ _ aH (pv 0) ag (fun _ _=>rfl)) ag)) (eB (cI (oB bY bY ag (@av _ _ _ _ _ _ _ aH (pv 0) ag (fun _ _=>rfl)) ag))))) (@al _ _ _ (@ay _ _ _ _ cC)) aL) (@al _ _ _ (@ay _ _ _ _ (sy bY bY bY ag (@av _ _ _ _ _ _ _ aH (pv 0) ag (fun _ _=>rfl)) (@av _ _ _ _ _ _ _ aH (pv 0) ag (fun _ _=>rfl)) ag))))),?_⟩
 cases hd with
 | non=>exact ⟨_,rfl,_,_,_,false,rfl,.non,rfl,_,rfl,aN (aN (q _ (ar.refl _)))⟩
 | bl b=>exact ⟨_,rfl,_,_,_,false,rfl,.bl b,rfl,_,rfl,aN (aN (q _ (ar.refl _)))⟩
 | int i=>exact ⟨_,rfl,_,_,_,false,rfl,.int i,rfl,_,rfl,aN (aN (q _ (ar.refl _)))⟩
 | str z l=>exact ⟨_,rfl,_,_,_,false,rfl,.str z,rfl,_,rfl,aN (aN (q _ (ar.refl _)))⟩
 | lst nn h rr=>exact ⟨_,rfl,_,_,_,false,rfl,.lst h,rfl,_,rfl,aN (aN (q _ (ar.refl _)))⟩
 | @tup a xs ds nn h rr =>
  have lx:=rr.len
  refine ⟨_,rfl,_,_,_,true,rfl,.tup h,rfl,_,rfl,bp ?_⟩
  refine ⟨_,rfl,a,xs,rfl,.inr (SqT.of h),rfl,_,rfl,?_⟩
  refine aX (fun c=>?_) (fun c=>?_)
  ·have q0:=q _ (ar.refl _)
   rw [nH (fun z=>by rw [lx,z] at c; simp at c)] at q0
   exact aN q0
  have l5:ds.length=5:=by
   by_cases z:ds.length=5
   ·exact z
   ·exfalso
    apply c
    rw [lx]
    simp
    omega
  refine ⟨_,rfl,a,rfl,⟨xs,SqT.of h⟩,cr (xs:=xs) xs.length rfl nn.2 (fun i acc H'=>H'=H∧acc=((ds.take i).map bM).map V.bl) ⟨rfl,rfl⟩ (fun i acc H' p=>by rw [p.1]; exact SqT.of h) (fun i acc H' x hi la hx p=>?_) (fun acc H' p la D hD=>?_)⟩
  ·obtain ⟨rfl,rfl⟩:=p
   obtain ⟨e,he,hde⟩:=rr.get i x hx
   refine ⟨⟨rfl,rfl⟩,bf ?_⟩
   refine ⟨_,rfl,x,e,rfl,hde,nxT nn.2 hi la ⟨rfl,?_⟩⟩
   rw [DAs.whole_take (tp:=tp) (H:=H') he,List.map_append]
   rfl
  obtain ⟨rfl,rfl⟩:=p
  have gD:=ae hD (.lst (((ds.take xs.length).map bM).map V.bl))
  refine ⟨D,_,rfl,.inl (SqL.of ad),rfl,eK _,_,rfl,?_⟩
  have q0:=q _ gD
  rw [lx,List.take_length]
  have ea:(if false=true then !inV (.bl false) ((ds.map bM).map V.bl) else inV (.bl false) ((ds.map bM).map V.bl))=ds.any fun d=>!bM d:=by
   rw [if_neg (by decide),kM,List.any_map]
   rfl
  rw [lx,List.take_length] at q0
  cases ew:ds.any fun d=>!bM d with
  | true =>
   rw [tm l5 ew] at q0
   refine aX (fun c=>?_) (fun c=>absurd (ea.trans ew) c)
   exact q0
  | false =>
   refine aX (fun c=>absurd (c.symm.trans (ea.trans ew)) (by decide)) (fun c=>?_)
   have h2:=gD _ _ h
   match ds,l5,rr,q0,ew with
   | [d0,d1,d2,d3,d4],_,rr,q0,ew =>
    simp only [List.any_cons,List.any_nil,Bool.or_false,Bool.or_eq_false_iff,Bool.not_eq_false'] at ew
    obtain ⟨w0,w1,w2,w3,w4⟩:=ew
    have wi:∀ {d:PyData},bM d=true→∃ i,d=.int i:=fun {d} hd=>by cases d<;>first | exact ⟨_,rfl⟩ | cases hd
    obtain ⟨i0,rfl⟩:=wi w0
    obtain ⟨i1,rfl⟩:=wi w1
    obtain ⟨i2,rfl⟩:=wi w2
    obtain ⟨i3,rfl⟩:=wi w3
    obtain ⟨i4,rfl⟩:=wi w4
    obtain rfl:xs=[.int i0,.int i1,.int i2,.int i3,.int i4]:=by
     cases rr with
     | cons r0 rr=>cases rr with
      | cons r1 rr=>cases rr with
       | cons r2 rr=>cases rr with
        | cons r3 rr=>cases rr with
         | cons r4 rr=>cases rr; cases r0; cases r1; cases r2; cases r3; cases r4; rfl
    have fin:∀ {b:Bool},bR (.tuple [.int i0,.int i1,.int i2,.int i3,.int i4])=b→Q (.bl b) _:=fun {b} e=>e ▸ q0
    have dF:∀ {p:Prop} [Decidable p],¬ decide p=true→decide p=false:=fun h=>Bool.eq_false_iff.mpr h
    refine ⟨_,rfl,_,rfl,a,_,_,_,rfl,rfl,SqT.of h2,rfl,_,_,rfl,rfl,_,rfl,?_⟩
    refine aX (fun c1=>?_) (fun c1=>?_)
    case refine_2 =>
     refine ⟨_,rfl,aN (aN (fin ?_))⟩
     simp only [bR]
     rw [dF c1]
     rfl
    refine ⟨_,rfl,a,_,_,_,rfl,rfl,SqT.of h2,rfl,_,_,rfl,rfl,_,rfl,?_⟩
    refine aX (fun c2=>?_) (fun c2=>?_)
    case refine_2 =>
     refine ⟨_,rfl,aN (aN (fin ?_))⟩
     simp only [bR]
     rw [c1,dF c2]
     rfl
    refine ⟨_,_,rfl,rfl,_,rfl,?_⟩
    refine aX (fun c3=>?_) (fun c3=>?_)
    case refine_1 =>
     refine aN (fin ?_)
     simp only [bR]
     rw [c1,c2,show decide (i1≤9)=false by simpa using c3]
     rfl
    have c3':decide (i1≤9)=true:=by simpa using c3
    refine ⟨_,rfl,a,_,_,_,rfl,rfl,SqT.of h2,rfl,_,_,rfl,rfl,_,rfl,?_⟩
    refine aX (fun c4=>?_) (fun c4=>?_)
    case refine_2 =>
     refine ⟨_,rfl,aN (fin ?_)⟩
     simp only [bR]
     rw [c1,c2,c3',dF c4]
     rfl
    refine ⟨_,_,rfl,rfl,_,rfl,?_⟩
    refine aX (fun c5=>?_) (fun c5=>?_)
    case refine_1 =>
     refine fin ?_
     simp only [bR]
     rw [c1,c2,c3',c4,show decide (i2≤3)=false by simpa using c5]
     rfl
    have c5':decide (i2≤3)=true:=by simpa using c5
    refine ⟨_,rfl,a,_,_,_,rfl,rfl,SqT.of h2,rfl,_,_,rfl,rfl,_,rfl,?_⟩
    refine aX (fun c6=>?_) (fun c6=>?_)
    case refine_2 =>
     refine fin ?_
     simp only [bR]
     rw [c1,c2,c3',c4,c5',dF c6]
     rfl
    refine ⟨_,rfl,a,_,_,_,rfl,rfl,SqT.of h2,rfl,_,_,rfl,rfl,_,rfl,?_⟩
    refine aX (fun c7=>?_) (fun c7=>?_)
    case refine_2 =>
     refine fin ?_
     simp only [bR]
     rw [c1,c2,c3',c4,c5',c6,dF c7]
     rfl
    refine ⟨_,_,rfl,rfl,fin ?_⟩
    simp only [bR]
    rw [c1,c2,c3',c4,c5',c6,c7]
    rfl
end
open PySem L2
abbrev lB:=Str×List Fld
def iE (H:Hp) (v:V) (F:lB):Prop:=∃ a y l b,v=.ref a∧H a=some (.tup [.str F.1,y,l,.str "num",b])∧dS H y F.2
def ij (H:Hp) (v:V) (R:List Rec) (FS:List lB):Prop:=∃ a y b xs,v=.ref a∧H a=some (.tup [y,.ref b])∧fm H y R∧H b=some (.tup xs)∧Paired (iE H) xs FS
theorem iE.mono {H H':Hp} (t:Tk H H') {v:V} {p:lB} (h:iE H v p):iE H' v p:=let ⟨a,y,l,b,e,q,r⟩:=h; ⟨a,y,l,b,e,t _ _ q,r.mono t⟩
theorem ij.mono {H H':Hp} (t:Tk H H') {v:V} {R:List Rec} {FS:List lB} (h:ij H v R FS):ij H' v R FS:=let ⟨a,y,b,xs,e,q,r,s,u⟩:=h; ⟨a,y,b,xs,e,t _ _ q,r.mono t,t _ _ s,Paired.mapP u fun _ _ z=>z.mono t⟩
theorem ij.prog {H:Hp} {v:V} {R:List Rec} {FS:List lB} (h:ij H v R FS):dR H v R:=let ⟨a,y,b,xs,e,q,r,s,u⟩:=h; ⟨a,y,.ref b,e,q,r⟩
section
variable {P:Program} {w:World} {K:Frag} {mg:Str→Option Value} {base:Heap} {f g:Addr} {fd gd:FuncData}
abbrev lH:List Str:=["program", "f", "function"]
theorem fJ:aK lH ["program", "f"] (defScope eu):=⟨rfl,rfl,rfl,by decide +kernel,rfl,by decide +kernel,by decide +kernel⟩
def iK (FS:List lB) (z:Str):Option lB:=FS.find? fun F=>decide (F.1=z)
def yc:Sp:=fun vs H Q _=>∃ v z R FS F,vs=[v,.str z]∧ij H v R FS∧iK FS z=some F∧∀ u,iE H u F→Q u H
theorem zt (F:Fun K "function_of" "function_of" eu f fd):aU P w K mg base CX0 1 f fd ["program", "f"] yc:=by
 refine F.ok fJ (fun vs H Q E h=>?_) (fun cdv A outer s H vs Q E hr h=>?_)
 ·obtain ⟨v,z,R,FS,F,rfl,_⟩:=h
  rfl
 obtain ⟨v,z,R,FS,FF,rfl,hp,hF,q⟩:=h
 obtain ⟨a,y,b,xs,rfl,ha,_,hb,rs⟩:=hp
 refine ⟨_,(@aj _ _ _ _ _ (@bF _ _ _ _ _ _ _ _ PassesOwn.never rfl (bZ (@av _ _ _ _ _ _ _ aH (pv 0) ag (fun _ _=>rfl))) (au (i:=2) fJ.nd rfl (Or.inl rfl)) (@al _ _ _ (@bj _ _ _ _ _ _ _ _ (@aE _ _ _ _ _ _ _ _ bO (@av _ _ _ _ _ _ _ aH (pv 2) ag (fun _ _=>rfl)) (pv 1) (aO _)) (@al _ _ _ (@ay _ _ _ _ (pv 2))) aL)) (fun _=>rfl)) (@al _ _ _ (@ay _ _ _ _ tR))),?_⟩
 refine ⟨_,rfl,a,_,_,_,rfl,rfl,SqT.of ha,rfl,b,rfl,⟨xs,SqT.of hb⟩,fo (xs:=xs) (fun i σ H'=>∃ m,σ=[some (.ref a),some (.str z),m]∧H'=H∧iK (FS.drop i) z=some FF) ⟨none,rfl,rfl,hF⟩ (fun i σ H' _ p=>?_) (fun i x σ H' hx p=>?_) (fun σ H' p=>?_)⟩
 ·obtain ⟨_,_,rfl,_⟩:=p
  exact SqT.of hb
 ·obtain ⟨m,rfl,rfl,e⟩:=p
  obtain ⟨r,hr',hf⟩:=aJ rs i x hx
  obtain ⟨c,y',l,b',rfl,hc,hfl⟩:=id hf
  obtain ⟨hi,ei⟩:=List.getElem?_eq_some_iff.mp hr'
  rw [List.drop_eq_getElem_cons hi,ei] at e
  unfold iK at e
  rw [List.find?_cons] at e
  refine ⟨_,rfl,c,_,_,_,rfl,rfl,SqT.of hc,rfl,_,rfl,rfl,_,rfl,?_⟩
  refine aX (fun cc=>?_) (fun cc=>?_)
  ·rw [decide_eq_true (eqS cc)] at e
   cases e
   exact ⟨_,rfl,q _ hf⟩
  ·rw [decide_eq_false (neS cc)] at e
   exact ⟨_,rfl,rfl,e⟩
 ·obtain ⟨m,rfl,rfl,e⟩:=p
  rw [Paired.length rs,List.drop_length] at e
  cases e
abbrev gU:List Str:=["program", "f"]
abbrev eP:List Str:=["param"]
theorem iz:eP.Nodup:=by decide +kernel
theorem jR:aK gU ["program", "f"] (defScope cY):=⟨rfl,rfl,rfl,by decide +kernel,rfl,by decide +kernel,by decide +kernel⟩
def yD:Sp:=fun vs H Q _=>∃ v z R FS F,vs=[v,.str z]∧ij H v R FS∧iK FS z=some F∧F.2.length≤3∧∀ r H',ar H H'→H r=none→H' r=some (.lst (F.2.map fun p=>V.str p.2))→Q (.ref r) H'
theorem zA (F:Fun K "param_kinds" "param_kinds" cY f fd) (D_function_of:Cal P w K mg base 1 "function_of" ["program", "f"] yc):aU P w K mg base CX0 2 f fd ["program", "f"] yD:=by
 obtain ⟨g_function_of,gd_function_of,G_function_of,b_function_of,k_function_of,m_function_of⟩:=D_function_of.ex
 refine F.ok jR (fun vs H Q E h=>?_) (fun cdv A outer s H vs Q E hr h=>?_)
 ·obtain ⟨v,z,R,FS,F,rfl,_⟩:=h
  rfl
 obtain ⟨v,z,R,FS,FF,rfl,hp,hF,hl,q⟩:=h
 refine ⟨_,(@al _ _ _ (@ay _ _ _ _ (aW (N':=eP) (ρ:=[none]) (m:=1) (bo.of (fs:=defScope cY) (N:=gU) rfl rfl (by decide +kernel)) rfl (bZ (av aH (ao G_function_of (hr.mono (by omega)) rfl m_function_of k_function_of b_function_of .nil aB (ac (pv 0) (ac (pv 1) af))) ag (fun _ _=>rfl))) (fun _ _ _ _=>(au (i:=0) iz rfl (Or.inl rfl))) (fun _ _ _ _=>bg) (fun _ _ _ _=>(av (bB (K:=K) rfl) (pv 0) ag (fun _ _=>rfl)))))),?_⟩
 refine ⟨_,rfl,_,rfl,v,z,R,FS,FF,rfl,hp,hF,fun u hu=>?_⟩
 obtain ⟨c,y,l,b',rfl,hc,b,xs,rfl,hb,rs⟩:=hu
 have lx:xs.length≤1000:=by rw [Paired.length rs]; omega
 refine ⟨c,_,_,_,rfl,rfl,SqT.of hc,rfl,?_⟩
 refine ⟨b,rfl,⟨xs,SqT.of hb⟩,cr (xs:=xs) xs.length rfl lx (fun i acc H'=>H'=H∧acc=(FF.2.take i).map fun p=>V.str p.2) ⟨rfl,rfl⟩ (fun i acc H' p=>by rw [p.1]; exact SqT.of hb) (fun i acc H' x hi la hx p=>?_) (fun acc H' p la D hD=>?_)⟩
 ·obtain ⟨rfl,rfl⟩:=p
  obtain ⟨fl,hfl,c,rfl,hc⟩:=aJ rs i x hx
  refine ⟨⟨rfl,rfl⟩,bf ?_⟩
  refine ⟨_,rfl,c,_,_,_,rfl,rfl,SqT.of hc,rfl,nxT lx hi la ⟨rfl,?_⟩⟩
  rw [List.take_add_one,hfl,List.map_append]
  rfl
 ·obtain ⟨rfl,rfl⟩:=p
  refine q D _ (ae hD _) hD ?_
  rw [ad,Paired.length rs,List.take_length]
abbrev lG:List Str:=["program", "f", "told", "param", "path", "sort"]
theorem cf:aK lG ["program", "f"] (defScope eC):=⟨rfl,rfl,rfl,by decide +kernel,rfl,by decide +kernel,by decide +kernel⟩
def ppM (R:List Rec) (n:Nat) (l:List Fld):List cA:=l.flatMap fun p=>(ax R n p.2).map fun q=>(p.1::q.1,q.2)
def yM (n:Nat):Sp:=fun vs H Q _=>∃ v z R FS F,vs=[v,.str z]∧ij H v R FS∧iK FS z=some F∧F.2.length≤3∧n≤4∧(∀ p∈F.2,cu R n p.2)∧∀ r ys H',ar H H'→H' r=some (.lst ys)→Paired (cm H') ys (ppM R n F.2)→Q (.ref r) H'
theorem uX (R:List Rec) (n:Nat) (l:List Fld) (p:Fld):ppM R n (l++[p])=ppM R n l++(ax R n p.2).map fun q=>(p.1::q.1,q.2):=by
 unfold ppM
 rw [List.flatMap_append]
 simp
theorem re {R:List Rec} {n:Nat} (hn:n≤4) {l:List Fld} (hl:l.length≤3) (hd:∀ p∈l,cu R n p.2):(ppM R n l).length≤243:=by
 have:=cj (l:=l) (g:=fun p=>(ax R n p.2).map fun q=>(p.1::q.1,q.2)) (b:=81) fun p hp'=>by
  rw [List.length_map]
  have:=bU n (hd p hp')
  have:=yL hn
  omega
 have:l.length*81≤3*81:=Nat.mul_le_mul_right _ hl
 unfold ppM
 omega
theorem Aa {n:Nat} (F:Fun K "param_parts" "param_parts" eC f fd) (D_function_of:Cal P w K mg base 1 "function_of" ["program", "f"] yc) (D_parts:Cal P w K mg base (n+1) "parts" ["program", "kind"] (gF n)):aU P w K mg base CX0 (n+2) f fd ["program", "f"] (yM n):=by
 obtain ⟨g_function_of,gd_function_of,G_function_of,b_function_of,k_function_of,m_function_of⟩:=D_function_of.ex
 obtain ⟨g_parts,gd_parts,G_parts,b_parts,k_parts,m_parts⟩:=D_parts.ex
 refine F.ok cf (fun vs H Q E h=>?_) (fun cdv A outer s H vs Q E hr h=>?_)
 ·obtain ⟨v,z,R,FS,F,rfl,_⟩:=h
  rfl
 obtain ⟨v,z,R,FS,FF,rfl,hp,hF,hl,hn,hd,q⟩:=h
 refine ⟨_,(@aj _ _ _ _ _ (@aC _ _ 2 _ _ _ _ cf.nd rfl (Or.inl rfl) (@aV _ _ _ _ af) (am rfl) (.inr rfl)) (@aj _ _ _ _ _ (@bF _ _ _ _ _ _ _ _ PassesOwn.never rfl (bZ (@av _ _ _ _ _ _ _ aH (@ao _ _ _ _ _ _ _ _ _ _ _ _ _ _ _ _ G_function_of (hr.mono (by omega)) rfl m_function_of k_function_of b_function_of .nil aB (@ac _ _ _ _ _ (pv 0) (@ac _ _ _ _ _ (pv 1) af (aa rfl)) (aa rfl)) (by decide) (aa rfl) (ah rfl)) ag (fun _ _=>rfl))) (au (i:=3) cf.nd rfl (Or.inl rfl)) (@al _ _ _ (@bF _ _ _ _ _ _ _ _ PassesOwn.never rfl (bA (@ao _ _ _ _ _ _ _ _ _ _ _ _ _ _ _ _ G_parts (hr.mono (by omega)) rfl m_parts k_parts b_parts .nil aB (@ac _ _ _ _ _ (pv 0) (@ac _ _ _ _ _ (@av _ _ _ _ _ _ _ aH (pv 3) ag (fun _ _=>rfl)) af (aa rfl)) (aa rfl)) (by decide) (aa rfl) (ah rfl))) (dm rfl (aG (au (i:=4) cf.nd rfl (Or.inl rfl)) (aG (au (i:=5) cf.nd rfl (Or.inl rfl)) bJ))) (@al _ _ _ (@cQ _ _ _ _ (@eX _ _ _ _ _ _ _ _ _ _ _ _ PySem.F.plainAttrs_list PySem.F.slot_list_append PySem.F.type_list_append eL (pv 2) (@ac _ _ _ _ _ (@ba _ _ _ _ _ (@ac _ _ _ _ _ (@aS _ _ _ _ _ _ _ _ nk (@ba _ _ _ _ _ (@ac _ _ _ _ _ (@av _ _ _ _ _ _ _ aH (pv 3) ag (fun _ _=>rfl)) af (aa rfl))) (pv 4)) (@ac _ _ _ _ _ (pv 5) af (aa rfl)) (aa rfl))) af (aa rfl)) rfl (cW rfl rfl) rfl (aa rfl) (ah rfl)) (am rfl))) (fun _=>rfl))) (fun _=>rfl)) (@al _ _ _ (@ay _ _ _ _ (pv 2))))),?_⟩
 refine ⟨(by show 0≤sizeLine; decide),fun t ht=>?_⟩
 have g0:=ae ht (.lst [])
 have hp0:=hp.mono (ak g0)
 refine ⟨_,rfl,_,rfl,v,z,R,FS,FF,rfl,hp0,hF,fun u hu=>?_⟩
 obtain ⟨c,y,l,b',rfl,hc,b,xs,rfl,hb,rs⟩:=hu
 have ht1:(upd H t (.lst [])) t=some (.lst []):=ad
 refine ⟨c,_,_,_,rfl,rfl,SqT.of hc,rfl,?_⟩
 generalize (upd H t (.lst []))=H1 at g0 hp0 hc hb rs ht1
 refine ⟨b,rfl,⟨xs,SqT.of hb⟩,fo (xs:=xs) (fun i σ H'=>∃ m3 m4 m5 ys,σ=[some v,some (.str z),some (.ref t),m3,m4,m5]∧Ext t H1 H'∧H' t=some (.lst ys)∧Paired (cm H') ys (ppM R n (FF.2.take i))) ⟨none,none,none,[],rfl,Ext.refl _ _,ht1,.nil⟩ (fun i σ H' _ p=>?_) (fun i u σ H' hx p=>?_) (fun σ H' p=>?_)⟩
 ·obtain ⟨_,_,_,_,_,x1,_⟩:=p
  exact SqT.of (bn x1 ht1 _ _ hb)
 ·obtain ⟨m3,m4,m5,ys,rfl,x1,hty,py⟩:=p
  obtain ⟨fl,hfl,a,rfl,ha⟩:=aJ rs i u hx
  have k1:=bn x1 ht1
  have ha1:=k1 _ _ ha
  have dp:=hd fl (List.mem_of_getElem? hfl)
  refine ⟨_,rfl,_,rfl,a,_,_,_,rfl,rfl,SqT.of ha1,rfl,v,fl.2,R,rfl,(hp0.mono k1).prog,by omega,dp,fun r zs H2 g2 hr0 hrz pz=>?_⟩
  have hty2:=g2 _ _ hty
  have hrt:r≠t:=(aq hty hr0).symm
  have el:=bU n dp
  have p3:=yL hn
  have yl:ys.length≤243:=by
   rw [Paired.length py]
   exact re hn (by rw [List.length_take]; omega) fun p hp'=>hd p (List.mem_of_mem_take hp')
  refine ⟨r,rfl,⟨zs,SqL.of hrz⟩,cN (xs:=zs) (fun j σ H'=>∃ n5 n6 ws,σ=[some v,some (.str z),some (.ref t),some (.ref a),n5,n6]∧Ext t H2 H'∧H' t=some (.lst ws) ∧
   Paired (cm H') ws (ppM R n (FF.2.take i)++((ax R n fl.2).take j).map fun q=>(fl.1::q.1,q.2))) ⟨_,_,ys,rfl,Ext.refl _ _,hty2,by simpa using cH (ak g2) py⟩ (fun j σ H' _ p=>?_) (fun j u σ H' hx2 p=>?_) (fun σ H' p=>?_)⟩
  ·obtain ⟨_,_,_,_,x2,_⟩:=p
   exact SqL.of (x2 _ _ hrt hrz)
  ·obtain ⟨n5,n6,ws,rfl,x2,htw,pw⟩:=p
   have k2:=bn x2 hty2
   have haH:=k2 _ _ (g2 _ _ ha1)
   obtain ⟨qq,hqq,hpa⟩:=aJ pz j u hx2
   obtain ⟨a2,y2,rfl,ha2,a3,rfl,ha3⟩:=hpa.mono k2
   have hm:qq∈ax R n fl.2:=List.mem_of_getElem? hqq
   have pl:=eh n hm
   have wl:ws.length≤900:=by
    rw [Paired.length pw,List.length_append,← Paired.length py,List.length_map,List.length_take]
    omega
   have fin:∀ (u:V) (H5:Hp),ar H' H5→hV H5 u (fl.1::qq.1)→∀ p2,H5 p2=none→(upd H5 p2 (.tup [u,.str qq.2])) t=some (.lst ws)∧∃ n5 n6 ws',([some v,some (.str z),some (.ref t),some (.ref a),some (.ref a3),some (.str qq.2)]:St)=[some v,some (.str z),some (.ref t),some (.ref a),n5,n6] ∧
     Ext t H2 (upd (upd H5 p2 (.tup [u,.str qq.2])) t (.lst (ws++[.ref p2])))∧(upd (upd H5 p2 (.tup [u,.str qq.2])) t (.lst (ws++[.ref p2]))) t=some (.lst ws') ∧
     Paired (cm (upd (upd H5 p2 (.tup [u,.str qq.2])) t (.lst (ws++[.ref p2])))) ws' (ppM R n (FF.2.take i)++((ax R n fl.2).take (j+1)).map fun q=>(fl.1::q.1,q.2)):=by
    intro u H5 g5 hu p2 hp2
    have e5:(upd H5 p2 (.tup [u,.str qq.2])) t=some (.lst ws):=ae hp2 _ _ _ (g5 _ _ htw)
    have k5:Tk H' (upd (upd H5 p2 (.tup [u,.str qq.2])) t (.lst (ws++[.ref p2]))):=((ak g5).trans (fq hp2 _)).trans (cM e5 _)
    refine ⟨e5,_,_,_,rfl,((x2.trans (ar.ext g5)).trans (rk hp2 _)).trans Ext.upd,ad,?_⟩
    rw [List.take_add_one,hqq,List.map_append,← List.append_assoc]
    exact Paired.snoc (cH k5 pw) ⟨p2,u,rfl,cM e5 _ _ _ ad,hu.mono ((fq hp2 _).trans (cM e5 _))⟩
   refine ⟨a2,_,rfl,SqT.of ha2,rfl,_,_,rfl,_,_,rfl,rfl,?_⟩
   refine ⟨_,rfl,.inl ⟨rfl,_,SqL.of htw⟩,_,rfl,a,_,_,_,rfl,rfl,SqT.of haH,rfl,(by show 1≤sizeLine; decide),fun p1 hp1=>?_⟩
   have g5:=ae hp1 (.tup [.str fl.1])
   refine ⟨_,rfl,p1,a3,_,_,rfl,rfl,SqT.of ad,SqT.of (g5 _ _ ha3),(by simp),?_,fun z=>?_,fun z p3 hp3=>?_⟩
   ·rw [List.length_map]
    exact Nat.le_of_lt (aI (by simp; omega))
   ·have ep:qq.1=[]:=by simpa using z
    refine ⟨_,rfl,(by show 2≤sizeLine; decide),fun p2 hp2=>?_⟩
    obtain ⟨e5,fn⟩:=fin (.ref p1) _ g5 ⟨p1,rfl,by rw [ep]; exact ad⟩ p2 hp2
    exact ⟨t,ws,_,rfl,rfl,e5,aI (by omega),fn⟩
   ·refine ⟨_,rfl,(by show 2≤sizeLine; decide),fun p2 hp2=>?_⟩
    obtain ⟨e5,fn⟩:=fin (.ref p3) _ (g5.trans (ae hp3 _)) ⟨p3,rfl,ad⟩ p2 hp2
    exact ⟨t,ws,_,rfl,rfl,e5,aI (by omega),fn⟩
  ·obtain ⟨n5,n6,ws,rfl,x2,htw,pw⟩:=p
   refine ⟨_,_,_,ws,rfl,(x1.trans (ar.ext g2)).trans x2,htw,?_⟩
   rw [Paired.length pz,List.take_length] at pw
   rw [List.take_add_one,hfl]
   show Paired _ ws (ppM R n (FF.2.take i++[fl]))
   rw [uX]
   exact pw
 ·obtain ⟨m3,m4,m5,ys,rfl,x1,hty,py⟩:=p
  refine ⟨_,rfl,q t ys H' (fun b o e=>x1 _ _ (aq e ht) (g0 _ _ e)) hty ?_⟩
  rw [Paired.length rs,List.take_length] at py
  exact py
end
open PySem L2
structure Rm where
 a:Int
 b:Int
 c:Int
 d:Int
 e:Int
def Rm.vs (r:Rm):List V:=[.int r.a,.int r.b,.int r.c,.int r.d,.int r.e]
def jy (H:Hp) (v:V) (r:Rm):Prop:=∃ p,v=.ref p∧H p=some (.tup r.vs)
theorem jy.mono {H H':Hp} (t:Tk H H') {v:V} {r:Rm} (h:jy H v r):jy H' v r:=let ⟨a,e,q⟩:=h; ⟨a,e,t _ _ q⟩
def PV (sort:Str) (d:PyData):Prop:=(sort = "num"∧∃ i,d=.int i)∨(sort = "text"∧∃ z:Str,z.length≤1000∧d=.str z)∨(sort = "row"∧∃ is:List Int,is.length≤1000∧d=.tuple (is.map PyData.int))
def cG (lo hi i:Int):Bool:=decide (lo≤i)&&decide (i≤hi)
def br (r:Rm):PyData→Bool
 | .int i=>cG r.a r.b i
 | .tuple ds=>decide ((ds.length:Int)≤r.c)&&ds.all fun d=>btw d r.a r.b
 | .str z=>decide ((z.length:Int)≤r.c)&&z.cps.toList.all fun c=>cG r.d r.e (c:Nat)
 | _=>false
theorem DTs.int_map {K:Frag} {H:Hp}:∀ {xs:List V} {is:List Int},DTs K H xs (is.map PyData.int)→xs=is.map V.int
 | _,[],h=>by cases h; rfl
 | _,i::r,h=>by
  cases h with
  | cons h1 h2=>cases h1; rw [DTs.int_map h2]; rfl
section
variable {P:Program} {w:World} {K:Frag} {mg:Str→Option Value} {base:Heap} {f g:Addr} {fd gd:FuncData}
abbrev fk:List Str:=["room", "sort", "part"]
abbrev fI:List Str:=["sign", "room"]
theorem iR:fI.Nodup:=by decide +kernel
abbrev fG:List Str:=["number", "room"]
theorem iQ:fG.Nodup:=by decide +kernel
theorem lC:aK fk ["room", "sort", "part"] (defScope cO):=⟨rfl,rfl,rfl,by decide +kernel,rfl,by decide +kernel,by decide +kernel⟩
def yH (K:Frag):Sp:=fun vs H Q _=>∃ rv r sort u d,vs=[rv,.str sort,u]∧jy H rv r∧DT K H u d∧PV sort d∧∀ H',ar H H'→Q (.bl (br r d)) H'
theorem zU (T:G0 mg) (F:Fun K "is_part_in" "is_part_in" cO f fd):aU P w K mg base CX0 1 f fd ["room", "sort", "part"] (yH K):=by
 refine F.ok lC (fun vs H Q E h=>?_) (fun cdv A outer s H vs Q E hr h=>?_)
 ·obtain ⟨rv,r,sort,u,d,rfl,_⟩:=h
  rfl
 obtain ⟨rv,r,sort,u,d,rfl,⟨p,rfl,hp⟩,hd,hpv,q⟩:=h
 refine ⟨_,(@aj _ _ _ _ _ (@bj _ _ _ _ _ _ _ _ (@aE _ _ _ _ _ _ _ _ bO (pv 1) aM (aO _)) (@al _ _ _ (@ay _ _ _ _ (dM bY bY (@av _ _ _ _ _ _ _ aH (pv 0) ag (fun _ _=>rfl)) (pv 2) (@av _ _ _ _ _ _ _ aH (pv 0) ag (fun _ _=>rfl))))) aL) (@aj _ _ _ _ _ (@bj _ _ _ _ _ _ _ _ (@aE _ _ _ _ _ _ _ _ jU (@ap _ _ _ _ _ _ _ _ _ (bE.or aA cy) rfl T.len cb (@ac _ _ _ _ _ (pv 2) af (aa rfl)) (by decide) (by decide) (aa rfl) (ah rfl)) (@av _ _ _ _ _ _ _ aH (pv 0) ag (fun _ _=>rfl)) (aO _)) (@al _ _ _ (@ay _ _ _ _ cC)) aL) (@aj _ _ _ _ _ (@bj _ _ _ _ _ _ _ _ (@aE _ _ _ _ _ _ _ _ bO (pv 1) aM (aO _)) (@al _ _ _ (@ay _ _ _ _ (@ap _ _ _ _ _ _ _ _ _ (eS rfl) rfl T.all lS (@ac _ _ _ _ _ (aW (N':=fG) (ρ:=[none,some 0]) (m:=1) (bo.of (fs:=defScope cO) (N:=fk) rfl rfl (by decide +kernel)) rfl (bZ (pv 2)) (fun _ _ _ _=>(au (i:=0) iQ rfl (Or.inl rfl))) (fun _ _ _ _=>bg) (fun _ _ _ _=>(dM bY bY (av (bB (K:=K) rfl) (pv 1) ag (fun _ _=>rfl)) (pv 0) (av (bB (K:=K) rfl) (pv 1) ag (fun _ _=>rfl))))) af (aa rfl)) (by decide) (by decide) (aa rfl) (ah rfl)))) aL) (@al _ _ _ (@ay _ _ _ _ (@ap _ _ _ _ _ _ _ _ _ (eS rfl) rfl T.all lS (@ac _ _ _ _ _ (aW (N':=fI) (ρ:=[none,some 0]) (m:=1) (bo.of (fs:=defScope cO) (N:=fk) rfl rfl (by decide +kernel)) rfl (kn (pv 2)) (fun _ _ _ _=>(au (i:=0) iR rfl (Or.inl rfl))) (fun _ _ _ _=>bg) (fun _ _ _ _=>(dM bY bY (av (bB (K:=K) rfl) (pv 1) ag (fun _ _=>rfl)) (ap ip rfl T.ord rA (ac (pv 0) af)) (av (bB (K:=K) rfl) (pv 1) ag (fun _ _=>rfl))))) af (aa rfl)) (by decide) (by decide) (aa rfl) (ah rfl))))))),?_⟩
 rcases hpv with ⟨rfl,i,rfl⟩ | ⟨rfl,z,hz,rfl⟩ | ⟨rfl,is,hl,rfl⟩
 ·cases hd
  refine ⟨_,rfl,rfl,_,rfl,aN ?_⟩
  refine ⟨_,rfl,p,_,_,_,rfl,rfl,SqT.of hp,rfl,_,rfl,_,_,rfl,rfl,_,rfl,?_⟩
  have q0:=q _ (ar.refl _)
  simp only [br,cG] at q0
  refine aX (fun c=>?_) (fun c=>?_)
  ·refine ⟨_,rfl,p,_,_,_,rfl,rfl,SqT.of hp,rfl,_,_,rfl,rfl,?_⟩
   rw [c] at q0
   exact q0
  ·rw [Bool.eq_false_iff.mpr c] at q0
   exact q0
 ·cases hd
  refine ⟨_,rfl,rfl,_,rfl,aX (fun c=>absurd c (by decide +kernel)) (fun c=>?_)⟩
  refine ⟨_,rfl,.inr ⟨z,rfl,Nat.le_of_lt (aI hz),_,rfl,p,_,_,_,rfl,rfl,SqT.of hp,rfl,_,_,rfl,rfl,_,rfl,?_⟩⟩
  refine aX (fun c2=>?_) (fun c2=>?_)
  ·have q0:=q _ (ar.refl _)
   have c2':decide (r.c<(z.length:Int))=true:=c2
   have e:br r (.str z)=false:=by
    have:=of_decide_eq_true c2'
    simp only [br]
    rw [decide_eq_false (by omega)]
    rfl
   rw [e] at q0
   exact q0
  have c2':(z.length:Int)≤r.c:=by
   have c3:¬ decide (r.c<(z.length:Int))=true:=c2
   have:=of_decide_eq_false (Bool.eq_false_iff.mpr c3)
   omega
  refine ⟨_,rfl,rfl,_,rfl,aX (fun c=>absurd c (by decide +kernel)) (fun c=>?_)⟩
  refine ⟨_,rfl,z,rfl,fL z.cps.size rfl hz (fun i acc H'=>H'=H∧acc=((z.cps.toList.take i).map (fun c:Nat=>cG r.d r.e (c:Int))).map V.bl) ⟨rfl,rfl⟩ (fun i acc H' c hi la hc p=>?_) (fun acc H' p la D hD=>?_)⟩
  ·obtain ⟨rfl,rfl⟩:=p
   refine ⟨⟨rfl,rfl⟩,bf ?_⟩
   have step:((z.cps.toList.take (i+1)).map (fun c:Nat=>cG r.d r.e (c:Int))).map V.bl=((z.cps.toList.take i).map (fun c:Nat=>cG r.d r.e (c:Int))).map V.bl++[V.bl (cG r.d r.e ((c:Nat):Int))]:=by
    rw [List.take_add_one,show z.cps.toList[i]?=some c by simpa using hc,List.map_append,List.map_append]
    rfl
   refine ⟨_,rfl,_,_,_,_,rfl,rfl,SqT.of hp,rfl,_,rfl,_,rfl,rfl,_,_,rfl,rfl,_,rfl,?_⟩
   refine aX (fun c1=>?_) (fun c1=>?_)
   ·have c1':decide (r.d≤((c:Nat):Int))=true:=c1
    refine ⟨_,rfl,_,_,_,_,rfl,rfl,SqT.of hp,rfl,_,_,rfl,rfl,nxT hz hi la ⟨rfl,?_⟩⟩
    rw [step,show cG r.d r.e ((c:Nat):Int)=decide (((c:Nat):Int)≤r.e) from by unfold cG; rw [c1']; rfl]
    rfl
   ·have c1':decide (r.d≤((c:Nat):Int))=false:=Bool.eq_false_iff.mpr c1
    refine nxT hz hi la ⟨rfl,?_⟩
    rw [step,show cG r.d r.e ((c:Nat):Int)=false from by unfold cG; rw [c1']; rfl]
  ·obtain ⟨rfl,rfl⟩:=p
   refine ⟨D,_,rfl,SqL.of ad,?_⟩
   have e:br r (.str z)=(List.map (fun c:Nat=>cG r.d r.e (c:Int)) (z.cps.toList.take z.cps.size)).all id:=by
    rw [← Array.length_toList,List.take_length,List.all_map]
    simp only [br]
    rw [decide_eq_true c2']
    rfl
   rw [← e]
   exact q _ (ae hD _)
 ·cases hd with
  | @tup a xs _ ha dx =>
  obtain rfl:=DTs.int_map dx
  have ha':=ha.hp
  refine ⟨_,rfl,rfl,_,rfl,aX (fun c=>absurd c (by decide +kernel)) (fun c=>?_)⟩
  refine ⟨_,rfl,.inl ⟨a,_,rfl,.inr (SqT.of ha'),_,rfl,p,_,_,_,rfl,rfl,SqT.of hp,rfl,_,_,rfl,rfl,_,rfl,?_⟩⟩
  refine aX (fun c2=>?_) (fun c2=>?_)
  ·have q0:=q _ (ar.refl _)
   have c2':decide (r.c<((is.map V.int).length:Int))=true:=c2
   have e:br r (.tuple (is.map PyData.int))=false:=by
    have:=of_decide_eq_true c2'
    rw [List.length_map] at this
    simp only [br]
    rw [List.length_map,decide_eq_false (by omega)]
    rfl
   rw [e] at q0
   exact q0
  have c2':(is.length:Int)≤r.c:=by
   have c3:¬ decide (r.c<((is.map V.int).length:Int))=true:=c2
   have:=of_decide_eq_false (Bool.eq_false_iff.mpr c3)
   rw [List.length_map] at this
   omega
  refine ⟨_,rfl,rfl,_,rfl,aN ?_⟩
  refine ⟨_,rfl,a,rfl,⟨_,SqT.of ha'⟩,cr (xs:=is.map V.int) is.length (by rw [List.length_map]) hl (fun i acc H'=>H'=H∧acc=((is.take i).map (cG r.a r.b)).map V.bl) ⟨rfl,rfl⟩ (fun i acc H' p=>by rw [p.1]; exact SqT.of ha') (fun i acc H' x hi la hx p=>?_) (fun acc H' p la D hD=>?_)⟩
  ·obtain ⟨rfl,rfl⟩:=p
   rw [List.getElem?_map] at hx
   obtain ⟨j,hj,rfl⟩:=Option.map_eq_some_iff.mp hx
   refine ⟨⟨rfl,rfl⟩,bf ?_⟩
   have step:((is.take (i+1)).map (cG r.a r.b)).map V.bl=((is.take i).map (cG r.a r.b)).map V.bl++[V.bl (cG r.a r.b j)]:=by
    rw [List.take_add_one,hj,List.map_append,List.map_append]
    rfl
   refine ⟨_,rfl,_,_,_,_,rfl,rfl,SqT.of hp,rfl,_,rfl,_,_,rfl,rfl,_,rfl,?_⟩
   refine aX (fun c1=>?_) (fun c1=>?_)
   ·have c1':decide (r.a≤j)=true:=c1
    refine ⟨_,rfl,_,_,_,_,rfl,rfl,SqT.of hp,rfl,_,_,rfl,rfl,nxT hl hi la ⟨rfl,?_⟩⟩
    rw [step,show cG r.a r.b j=decide (j≤r.b) from by unfold cG; rw [c1']; rfl]
   ·have c1':decide (r.a≤j)=false:=Bool.eq_false_iff.mpr c1
    refine nxT hl hi la ⟨rfl,?_⟩
    rw [step,show cG r.a r.b j=false from by unfold cG; rw [c1']; rfl]
  ·obtain ⟨rfl,rfl⟩:=p
   refine ⟨D,_,rfl,SqL.of ad,?_⟩
   have e:br r (.tuple (is.map PyData.int))=(List.map (cG r.a r.b) (is.take is.length)).all id:=by
    rw [List.take_length,List.all_map]
    simp only [br]
    rw [List.length_map,decide_eq_true c2',List.all_map]
    rfl
   rw [← e]
   exact q _ (ae hD _)
end
open PySem L2
theorem mU {α β:Type} {F:α→β→Prop}:∀ {l:List α} {m:List β},l.length=m.length→(∀ p∈l.zip m,F p.1 p.2)→Paired F l m
 | [],[],_,_=>.nil
 | [],_::_,h,_=>by simp at h
 | _::_,[],h,_=>by simp at h
 | a::l,b::m,h,k=>.cons (k (a,b) (by simp)) (mU (by simpa using h) fun p hp=>k p (by rw [List.zip_cons_cons]; exact List.mem_cons_of_mem _ hp))
theorem uG {α β γ:Type} (g:α→γ):∀ (l:List α) (m:List β),(l.map g).zip m=(l.zip m).map fun p=>(g p.1,p.2)
 | [],_=>rfl
 | _::_,[]=>rfl
 | a::l,b::m=>by rw [List.map_cons,List.zip_cons_cons,List.zip_cons_cons,List.map_cons,uG g l m]
theorem DAs.zip_da {tp:Addr} {H:Hp}:∀ {xs:List V} {ds:List PyData},DAs tp H xs ds→∀ d∈ds,∃ x,DA tp H x d
 | _,_,.nil,d,h=>nomatch h
 | _,_,.cons q r,d,h=>by
  rcases List.mem_cons.mp h with rfl | h
  ·exact ⟨_,q⟩
  ·exact DAs.zip_da r d h
theorem vE {K:Frag} {tp:Addr} {H:Hp}:∀ {xs:List V} {ds:List PyData},DAs tp H xs ds→ds.all bM=true→DTs K H xs ds∧∃ is:List Int,ds=is.map PyData.int
 | _,_,.nil,_=>⟨.nil,[],rfl⟩
 | _,_,.cons (d:=d) q r,h=>by
  rw [List.all_cons,Bool.and_eq_true] at h
  obtain ⟨a,is,rfl⟩:=vE (K:=K) r h.2
  cases q with
  | int i=>exact ⟨.cons (.int i) a,i::is,rfl⟩
  | _=>exact absurd h.1 (by simp [bM])
structure VP (K:Frag) (R:List Rec) (n:Nat) (k:Str) (H:Hp) (v:V) (d:PyData):Prop where
 t:DT K H v d
 v:Val R n k d
 p:Paired (fun (q:cA) e=>PV q.2 e) (ax R n k) (cw R n k d)
theorem qG:("num":Str)∈PL:=by decide +kernel
theorem mI:("text":Str)∈PL:=by decide +kernel
theorem qI:("row":Str)∈PL:=by decide +kernel
theorem jv {α β γ:Type} {F:α→β→Prop} {F2:γ→β→Prop} {g:α→γ} {l:List α} {m:List β} (h:Paired F l m) (hg:∀ a b,F a b→F2 (g a) b):Paired F2 (l.map g) m:=by
 induction h with
 | nil=>exact .nil
 | cons q _ ih=>exact .cons (hg _ _ q) ih
theorem iX {α β γ δ:Type} {F:γ→δ→Prop} {g:α→List γ} {h:β→List δ}:∀ {l:List α} {m:List β},Paired (fun a b=>Paired F (g a) (h b)) l m→Paired F (l.flatMap g) (m.flatMap h)
 | _,_,.nil=>.nil
 | _,_,.cons q r=>by
  rw [List.flatMap_cons,List.flatMap_cons]
  exact oM (iX r) q
theorem gk (f:Str→PyData→List PyData) (l:List Fld) (ds:List PyData):fH f (l.map (·.2)) ds=(l.zip ds).flatMap fun p=>f p.1.2 p.2:=by
 unfold fH
 rw [uG,List.flatMap_map]
theorem fM {α β:Type} {F:α→β→Prop}:∀ {l:List α} {m:List β},Paired F l m→Paired (fun a (p:α×β)=>F a p.2∧p.1=a) l (l.zip m)
 | _,_,.nil=>.nil
 | _,_,.cons q r=>.cons ⟨q,rfl⟩ (fM r)
theorem sj {K:Frag} {tp:Addr} {R:List Rec} {H:Hp}:∀ (n:Nat) {k:Str} {v:V} {d:PyData},cu R n k→DA tp H v d→isV R n k d=true→VP K R n k H v d
 | 0,_,_,_,h,_,_=>h.elim
 | n+1,k,v,d,hd,da,hv=>by
  unfold isV at hv
  have base:∀ (hk:k∈PL) (t:DT K H v d) (p:PV k d),VP K R (n+1) k H v d:=fun hk t p=>by
   refine ⟨t,.inl hk,?_⟩
   rw [eG hk]
   unfold ax
   rw [if_pos hk]
   exact .cons p .nil
  by_cases c1:k=Str.ofString "num"
  ·rw [if_pos c1] at hv
   subst c1
   cases da with
   | int i=>exact base qG (.int i) (.inl ⟨rfl,i,rfl⟩)
   | _=>exact absurd hv (by simp [bM])
  rw [if_neg c1] at hv
  by_cases c2:k=Str.ofString "text"
  ·rw [if_pos c2] at hv
   subst c2
   cases da with
   | str z l=>exact base mI (.str z) (.inr (.inl ⟨rfl,z,l,rfl⟩))
   | _=>exact absurd hv (by simp [jd])
  rw [if_neg c2] at hv
  by_cases c3:k=Str.ofString "row"
  ·rw [if_pos c3] at hv
   subst c3
   cases da with
   | @tup a xs ds nn h rr =>
    obtain ⟨a1,is,rfl⟩:=vE (K:=K) rr hv
    have ll:=rr.len
    rw [List.length_map] at ll
    exact base qI (.tup (.inl h) a1) (.inr (.inr ⟨rfl,is,by rw [← ll]; exact nn.2,rfl⟩))
   | _=>exact absurd hv (by simp [ut])
  rw [if_neg c3] at hv
  have ck:k∉PL:=fun z=>by
   rcases List.mem_cons.mp z with e | z
   ·exact c1 e
   rcases List.mem_cons.mp z with e | z
   ·exact c2 e
   ·exact c3 (List.mem_singleton.mp z)
  rcases hd with z | ⟨_,_,⟨_,hl⟩,hd⟩
  ·exact absurd z ck
  cases da with
  | @tup a xs ds nn h rr =>
   have hv':(decide (ds.length=((look R k).map (·.2)).length)&&(((look R k).map (·.2)).zip ds).all fun p=>isV R n p.1 p.2)=true:=hv
   rw [Bool.and_eq_true,decide_eq_true_eq,uG,List.all_map,List.length_map] at hv'
   obtain ⟨l1,l2⟩:=hv'
   have each:∀ p∈(look R k).zip ds,isV R n p.1.2 p.2=true:=fun p hp=>List.all_eq_true.mp l2 p hp
   have sub:∀ p∈(look R k).zip ds,(∃ x,DA tp H x p.2)∧cu R n p.1.2:=fun p hp=>by
    obtain ⟨h1,h2⟩:=List.of_mem_zip hp
    exact ⟨rr.zip_da _ h2,hd _ h1⟩
   have vps:Paired (fun (p:Fld) e=>∃ x,VP K R n p.2 H x e) (look R k) ds:=mU l1.symm fun p hp=>by
    obtain ⟨⟨x,hx⟩,hdp⟩:=sub p hp
    exact ⟨x,sj n hdp hx (each p hp)⟩
   have dts:DTs K H xs ds:=by
    have:∀ {xs:List V} {ds:List PyData} {l:List Fld},DAs tp H xs ds→l.length=ds.length→(∀ p∈l.zip ds,isV R n p.1.2 p.2=true∧cu R n p.1.2)→DTs K H xs ds:=by
     intro xs ds l
     induction l generalizing xs ds with
     | nil =>
      intro r hl _
      cases r with
      | nil=>exact .nil
      | cons=>simp at hl
     | cons f l ih =>
      intro r hl hh
      cases r with
      | nil=>simp at hl
      | cons q r =>
       have h0:=hh (f,_) (by rw [List.zip_cons_cons]; exact List.mem_cons_self)
       exact .cons (sj n h0.2 q h0.1).t (ih r (by simpa using hl) fun p hp=>hh p (by rw [List.zip_cons_cons]; exact List.mem_cons_of_mem _ hp))
    exact this rr l1.symm fun p hp=>⟨each p hp,(sub p hp).2⟩
   refine ⟨.tup (.inl h) dts,.inr ⟨ck,ds,rfl,Paired.mapP vps fun _ _ z=>let ⟨_,z⟩:=z; z.v⟩,?_⟩
   rw [gf ck,gk]
   unfold ax
   rw [if_neg ck]
   unfold mH
   refine iX (Paired.mapP (fM vps) fun a p z=>?_)
   obtain ⟨⟨x,z⟩,e⟩:=z
   rw [e]
   have:=z.p
   exact jv this fun _ _ w=>w
  | _=>exact absurd hv (by simp [jA])
def inB (R:List Rec) (n:Nat) (r:Rm) (l:List Fld):PyData→Bool
 | .tuple ds=>jA (isV R n) (l.map (·.2)) (.tuple ds)&&(fH (cw R n) (l.map (·.2)) ds).all (br r)
 | _=>false
theorem wy {h:Str→PyData→Bool} {ks:List Str} {d:PyData} (hd:∀ ds,d≠.tuple ds):jA h ks d=false:=by
 cases d<;>first | rfl | exact absurd rfl (hd _)
section
variable {P:Program} {w:World} {K:Frag} {mg:Str→Option Value} {base:Heap} {f g:Addr} {fd gd:FuncData}
abbrev ml:List Str:=["program", "f", "room", "thing", "kinds", "laid"]
abbrev iC:List Str:=["pair", "part", "room"]
theorem gQ:iC.Nodup:=by decide +kernel
theorem gZ:aK ml ["program", "f", "room", "thing"] (defScope eM):=⟨rfl,rfl,rfl,by decide +kernel,rfl,by decide +kernel,by decide +kernel⟩
def yG (tp:Addr) (n:Nat):Sp:=fun vs H Q _=>∃ pg z R FS F rv r u d,vs=[pg,.str z,rv,u]∧ij H pg R FS∧iK FS z=some F∧F.2.length≤3∧n≤4∧(∀ p∈F.2,cu R n p.2)∧jy H rv r∧DA tp H u d∧∀ H',ar H H'→Q (.bl (inB R n r F.2 d)) H'
theorem zS {n:Nat} (tp:Addr) (T:G0 mg) (TZ:mg "zip"=none) (F:Fun K "in_room" "in_room" eM f fd) (D_param_parts:Cal P w K mg base (n+2) "param_parts" ["program", "f"] (yM n)) (D_is_part_in:Cal P w K mg base 1 "is_part_in" ["room", "sort", "part"] (yH K)) (D_flat_all:Cal P w K mg base (2*n+2) "flat_all" ["program", "kinds", "values"] (gq K n)) (D_are_values:Cal P w K mg base (2*n+2) "are_values" nVs (iM tp n)) (D_param_kinds:Cal P w K mg base 2 "param_kinds" ["program", "f"] yD):aU P w K mg base CX0 (2*n+3) f fd ["program", "f", "room", "thing"] (yG tp n):=by
 obtain ⟨g_param_parts,gd_param_parts,G_param_parts,b_param_parts,k_param_parts,m_param_parts⟩:=D_param_parts.ex
 obtain ⟨g_is_part_in,gd_is_part_in,G_is_part_in,b_is_part_in,k_is_part_in,m_is_part_in⟩:=D_is_part_in.ex
 obtain ⟨g_flat_all,gd_flat_all,G_flat_all,b_flat_all,k_flat_all,m_flat_all⟩:=D_flat_all.ex
 obtain ⟨g_are_values,gd_are_values,G_are_values,b_are_values,k_are_values,m_are_values⟩:=D_are_values.ex
 obtain ⟨g_param_kinds,gd_param_kinds,G_param_kinds,b_param_kinds,k_param_kinds,m_param_kinds⟩:=D_param_kinds.ex
 refine F.ok gZ (fun vs H Q E h=>?_) (fun cdv A outer s H vs Q E hr h=>?_)
 ·obtain ⟨pg,z,R,FS,F,rv,r,u,d,rfl,_⟩:=h
  rfl
 obtain ⟨pg,z,R,FS,FF,rv,r,u,d,rfl,hp,hF,hl,hn,hd,hrm,hda,q⟩:=h
 refine ⟨_,(@aj _ _ _ _ _ (@aC _ _ 4 _ _ _ _ gZ.nd rfl (Or.inl rfl) (@ao _ _ _ _ _ _ _ _ _ _ _ _ _ _ _ _ G_param_kinds (hr.mono (by omega)) rfl m_param_kinds k_param_kinds b_param_kinds .nil aB (@ac _ _ _ _ _ (pv 0) (@ac _ _ _ _ _ (pv 1) af (aa rfl)) (aa rfl)) (by decide) (aa rfl) (ah rfl)) (am rfl) (.inr rfl)) (@aj _ _ _ _ _ (@bj _ _ _ _ _ _ _ _ (cI (bX (@ao _ _ _ _ _ _ _ _ _ _ _ _ _ _ _ _ G_are_values (hr.mono (by omega)) rfl m_are_values k_are_values b_are_values .nil aB (@ac _ _ _ _ _ (pv 0) (@ac _ _ _ _ _ (pv 4) (@ac _ _ _ _ _ (pv 3) af (aa rfl)) (aa rfl)) (aa rfl)) (by decide) (aa rfl) (ah rfl)))) (@al _ _ _ (@ay _ _ _ _ cC)) aL) (@aj _ _ _ _ _ (@aC _ _ 5 _ _ _ _ gZ.nd rfl (Or.inl rfl) (@ao _ _ _ _ _ _ _ _ _ _ _ _ _ _ _ _ G_flat_all (hr.mono (by omega)) rfl m_flat_all k_flat_all b_flat_all .nil aB (@ac _ _ _ _ _ (pv 0) (@ac _ _ _ _ _ (pv 4) (@ac _ _ _ _ _ (pv 3) af (aa rfl)) (aa rfl)) (aa rfl)) (by decide) (aa rfl) (ah rfl)) (am rfl) (.inr rfl)) (@al _ _ _ (@ay _ _ _ _ (@ap _ _ _ _ _ _ _ _ _ (eS rfl) rfl T.all lS (@ac _ _ _ _ _ (aW (N':=iC) (ρ:=[none,none,some 2]) (m:=2) (bo.of (fs:=defScope eM) (N:=ml) rfl rfl (by decide +kernel)) rfl (qt false true rfl TZ (ac (ao G_param_parts (hr.mono (by omega)) rfl m_param_parts k_param_parts b_param_parts .nil aB (ac (pv 0) (ac (pv 1) af))) (ac (pv 5) af))) (fun _ _ _ _=>(fZ (n:=2) (K:=K) rfl rfl (aG (au (i:=0) gQ rfl (Or.inl rfl)) (aG (au (i:=1) gQ rfl (Or.inl rfl)) bJ)))) (fun _ _ _ _=>bg) (fun _ _ _ _=>(ao G_is_part_in (hr.mono (by omega)) rfl m_is_part_in k_is_part_in b_is_part_in .nil aB (ac (pv 2) (ac (av (bB (K:=K) rfl) (pv 0) ag (fun _ _=>rfl)) (ac (pv 1) af)))))) af (aa rfl)) (by decide) (by decide) (aa rfl) (ah rfl))))))),?_⟩
 refine ⟨_,rfl,_,rfl,pg,z,R,FS,FF,rfl,hp,hF,hl,fun kr H1 g1 nkr hkr=>?_⟩
 have ekr:H1 kr=some (.lst ((FF.2.map (·.2)).map V.str)):=by rw [hkr,List.map_map]; rfl
 have hk:∀ k∈FF.2.map (·.2),cu R n k:=fun k hk=>by
  obtain ⟨p,hp',rfl⟩:=List.mem_map.mp hk
  exact hd p hp'
 refine ⟨_,rfl,_,rfl,_,rfl,pg,kr,FF.2.map (·.2),u,d,R,rfl,(hp.mono (ak g1)).prog,ekr,by rw [List.length_map]; exact hl,hk,hda.same g1,fun H2 g2=>?_⟩
 have g12:=g1.trans g2
 cases ev:jA (isV R n) (FF.2.map (·.2)) d with
 | false =>
  refine ⟨_,rfl,aN ?_⟩
  have q0:=q _ g12
  have e:inB R n r FF.2 d=false:=by
   cases d<;>try rfl
   simp only [inB]
   rw [ev]
   rfl
  rw [e] at q0
  exact q0
 | true =>
  refine ⟨_,rfl,bp ?_⟩
  have hda2:=hda.same g12
  obtain ⟨ds,rfl⟩:∃ ds,d=.tuple ds:=by cases d<;>first | exact ⟨_,rfl⟩ | (simp [jA] at ev)
  have ev':(decide (ds.length=(FF.2.map (·.2)).length)&&((FF.2.map (·.2)).zip ds).all fun p=>isV R n p.1 p.2)=true:=ev
  rw [Bool.and_eq_true,decide_eq_true_eq] at ev'
  obtain ⟨l1,l2⟩:=ev'
  cases hda2 with
  | @tup a xs _ nn h rr =>
  have vps:Paired (fun (k:Str) e=>∃ x,VP K R n k H2 x e) (FF.2.map (·.2)) ds:=mU l1.symm fun p hp=>by
   obtain ⟨h1,h2⟩:=List.of_mem_zip hp
   obtain ⟨x,hx⟩:=rr.zip_da _ h2
   exact ⟨x,sj n (hk _ h1) hx (List.all_eq_true.mp l2 p hp)⟩
  have dts:DTs K H2 xs ds:=by
   have:∀ {xs:List V} {ds:List PyData} {l:List Str},DAs tp H2 xs ds→l.length=ds.length→(∀ p∈l.zip ds,isV R n p.1 p.2=true∧cu R n p.1)→DTs K H2 xs ds:=by
    intro xs ds l
    induction l generalizing xs ds with
    | nil =>
     intro r hl _
     cases r with
     | nil=>exact .nil
     | cons=>simp at hl
    | cons f l ih =>
     intro r hl hh
     cases r with
     | nil=>simp at hl
     | cons q r =>
      have h0:=hh (f,_) (by rw [List.zip_cons_cons]; exact List.mem_cons_self)
      exact .cons (sj n h0.2 q h0.1).t (ih r (by simpa using hl) fun p hp=>hh p (by rw [List.zip_cons_cons]; exact List.mem_cons_of_mem _ hp))
   exact this rr l1.symm fun p hp=>⟨List.all_eq_true.mp l2 p hp,hk _ (List.of_mem_zip hp).1⟩
  refine ⟨_,rfl,_,rfl,_,rfl,pg,kr,FF.2.map (·.2),.ref a,ds,R,rfl,(hp.mono (ak g12)).prog,hn,g2 _ _ ekr,by rw [List.length_map]; exact hl,hk,.tup (.inl h) dts,Paired.mapP vps fun _ _ z=>let ⟨_,z⟩:=z; z.v,fun lt ls H3 g3 hlt dls=>?_⟩
  have g13:=g12.trans g3
  refine ⟨_,rfl,_,rfl,pg,z,R,FS,FF,rfl,hp.mono (ak g13),hF,hl,hn,hd,fun pr ys H4 g4 hpr pys=>?_⟩
  have g14:=g13.trans g4
  have pvs:Paired (fun (q:cA) e=>PV q.2 e) (ppM R n FF.2) (fH (cw R n) (FF.2.map (·.2)) ds):=by
   rw [gk]
   unfold ppM
   have vps2:Paired (fun (p:Fld) e=>∃ x,VP K R n p.2 H2 x e) FF.2 ds:=by
    have:∀ {l:List Fld} {ds:List PyData},Paired (fun (k:Str) e=>∃ x,VP K R n k H2 x e) (l.map (·.2)) ds→Paired (fun (p:Fld) e=>∃ x,VP K R n p.2 H2 x e) l ds:=by
     intro l
     induction l with
     | nil=>intro ds h; cases h; exact .nil
     | cons f l ih=>intro ds h; cases h with | cons a b=>exact .cons a (ih b)
    exact this vps
   refine iX (Paired.mapP (fM vps2) fun a p z=>?_)
   obtain ⟨⟨x,z⟩,e⟩:=z
   rw [e]
   exact jv z.p fun _ _ w=>w
  have le1:=Paired.length pvs
  have le2:=Paired.length pys
  have le3:=dls.len
  have le4:=re hn hl hd
  have dls4:=dls.mono (ak g4)
  have hlt4:=g4 _ _ hlt
  refine ⟨_,rfl,pr,lt,rfl,⟨_,SqL.of hpr⟩,⟨_,SqT.of hlt4⟩,nY (xs:=ys) (ys:=ls) ys.length rfl (by omega) (by omega) (fun i acc H'=>ar H4 H'∧acc=(((fH (cw R n) (FF.2.map (·.2)) ds).take i).map (br r)).map V.bl) ⟨ar.refl _,rfl⟩ (fun i acc H' p=>⟨SqL.of (p.1 _ _ hpr),SqT.of (p.1 _ _ hlt4)⟩) (fun i acc H' x y pp hi la hx hy p hpp=>?_) (fun acc H' p la D hD=>?_)⟩
  ·obtain ⟨g5,rfl⟩:=p
   obtain ⟨qq,hqq,hpa⟩:=aJ pys i x hx
   obtain ⟨e,he,hde⟩:=dls4.get i y hy
   obtain ⟨e',he',hpv⟩:=aJ pvs i qq hqq
   rw [he] at he'
   cases he'
   have g6:=g5.trans (ae hpp (.tup [x,y]))
   obtain ⟨a2,y2,rfl,ha2,_⟩:=hpa
   refine ⟨pp,_,rfl,SqT.of ad,rfl,_,_,rfl,_,_,rfl,rfl,⟨rfl,rfl⟩,bf ?_⟩
   refine ⟨_,rfl,_,rfl,a2,_,_,_,rfl,rfl,SqT.of (g6 _ _ ha2),rfl,_,rfl,rv,r,qq.2,y,e,rfl,(hrm.mono (ak g14)).mono (ak g6),hde.mono (ak g6),hpv,fun H7 g7=>nxT (by omega) hi la ⟨g6.trans g7,?_⟩⟩
   rw [List.take_add_one,he,List.map_append,List.map_append]
   rfl
  ·obtain ⟨g5,rfl⟩:=p
   refine ⟨D,_,rfl,SqL.of ad,?_⟩
   have e:inB R n r FF.2 (.tuple ds)=(((fH (cw R n) (FF.2.map (·.2)) ds).take ys.length).map (br r)).all id:=by
    rw [le2,le1,List.take_length,List.all_map]
    simp only [inB]
    rw [ev]
    rfl
   rw [← e]
   exact q _ ((g14.trans g5).trans (ae hD _))
end
open PySem L2
def PL3:List Str:=["num", "row", "text"]
theorem pl3 (k:Str):k∈PL3↔k∈PL:=by
 simp only [PL3,PL,List.mem_cons,List.not_mem_nil,or_false]
 constructor<;>(intro h; rcases h with h | h | h<;>simp [h])
theorem jb (r:Rec) (R:List Rec) (k:Str):look (r::R) k=if r.1=k then r.2 else look R k:=by
 unfold look
 rw [List.find?_cons]
 by_cases q:r.1=k
 ·rw [if_pos q,decide_eq_true q]; rfl
 ·rw [if_neg q,decide_eq_false q]
def NF (H:Hp) (p:Str×V) (r:Rec):Prop:=p.1=r.1∧dS H p.2 r.2
theorem km {K:Frag} {H:Hp}:∀ {xs:List V} {R:List Rec},Paired (jw H) xs R→∃ ps:List (Str×V),Paired (qS K H) xs ps∧Paired (NF H) ps R
 | _,_,.nil=>⟨[],.nil,.nil⟩
 | _,_,.cons h t=>by
  obtain ⟨a,y,rfl,ha,hf⟩:=h
  obtain ⟨ps,h1,h2⟩:=km (K:=K) t
  exact ⟨(_,y)::ps,.cons ⟨a,rfl,SqT.of ha⟩ h1,.cons ⟨rfl,hf⟩ h2⟩
theorem je {H:Hp}:∀ {ps:List (Str×V)} {R:List Rec},Paired (NF H) ps R→ps.map (·.1)=R.map (·.1)
 | _,_,.nil=>rfl
 | _,_,.cons h t=>by rw [List.map_cons,List.map_cons,h.1,je t]
theorem ka {H:Hp} {k:Str}:∀ {ps:List (Str×V)} {R:List Rec},Paired (NF H) ps R→look R k≠[]→∃ v,((ps.map fun p=>((Sum.inr p.1:Key),p.2)).find? fun kv=>decide (kv.1=Sum.inr k)).map (·.2)=some v∧dS H v (look R k)
 | _,_,.nil,h=>absurd rfl h
 | _,_,.cons (a:=p) (b:=r) q t,h=>by
  rw [jb] at h ⊢
  rw [List.map_cons,List.find?_cons]
  by_cases e:r.1=k
  ·rw [if_pos e]
   have e2:decide ((Sum.inr p.1:Key)=Sum.inr k)=true:=decide_eq_true (by rw [q.1,e])
   simp only [e2]
   exact ⟨p.2,rfl,q.2⟩
  ·rw [if_neg e] at h ⊢
   have e2:decide ((Sum.inr p.1:Key)=Sum.inr k)=false:=decide_eq_false (fun z=>e (by have:=Sum.inr.inj z; rw [← q.1]; exact this))
   simp only [e2]
   exact ka t h
theorem cu.ne {R:List Rec} {n:Nat} {k:Str} (h:cu R n k) (hk:k∉PL):look R k≠[]:=by
 cases n with
 | zero=>exact h.elim
 | succ n =>
  rcases h with z | ⟨_,_,⟨h1,_⟩,_⟩
  ·exact absurd z hk
  ·intro e
   rw [e] at h1
   simp at h1
theorem ng {K:Frag} {H:Hp} {v:V} {R:List Rec} {k:Str} (hR:fm H v R) (hnd:(R.map (·.1)).Nodup) (hl:R.length≤1000) (hne:look R k≠[]) :
  ∃ b xs ps u,v=.ref b∧H b=some (.tup xs)∧xs.length≤1000∧(List.map (fun q:Str×V=>q.1) ps).Nodup∧Paired (qS K H) xs ps∧((ps.map fun p=>((Sum.inr p.1:Key),p.2)).find? fun kv=>decide (kv.1=Sum.inr k)).map (·.2)=some u∧dS H u (look R k):=by
 obtain ⟨b,xs,rfl,hb,rs⟩:=hR
 obtain ⟨ps,pp1,pp2⟩:=km (K:=K) rs
 obtain ⟨yv,efind,hf⟩:=ka (k:=k) pp2 hne
 exact ⟨b,xs,ps,yv,rfl,hb,by rw [Paired.length rs]; exact hl,by rw [je pp2]; exact hnd,pp1,efind,hf⟩
mutual
def gt (L:Nat):PyData→Bool
 | .str z=>jd (.str z)
 | .tuple ds=>decide (ds.length≤L)&&gts L ds
 | _=>true
def gts (L:Nat):List PyData→Bool
 | []=>true
 | d::r=>gt L d&&gts L r
end
theorem jQ {L:Nat}:∀ {ds:List PyData},gts L ds=true→∀ d∈ds,gt L d=true
 | [],_,d,h=>nomatch h
 | a::r,h,d,hd=>by
  simp only [gts,Bool.and_eq_true] at h
  rcases List.mem_cons.mp hd with rfl | hd
  ·exact h.1
  ·exact jQ h.2 d hd
theorem vM {L:Nat}:∀ {ds:List PyData},(∀ d∈ds,gt L d=true)→gts L ds=true
 | [],_=>rfl
 | a::r,h=>by simp only [gts,Bool.and_eq_true]; exact ⟨h a List.mem_cons_self,vM fun d hd=>h d (List.mem_cons_of_mem _ hd)⟩
mutual
theorem ca {L M:Nat} (h:L≤M):∀ {d:PyData},gt L d=true→gt M d=true
 | .str z,q=>q
 | .tuple ds,q=>by
  simp only [gt,Bool.and_eq_true,decide_eq_true_eq] at q ⊢
  exact ⟨by omega,og h q.2⟩
 | .none,_=>rfl
 | .bool _,_=>rfl
 | .int _,_=>rfl
 | .list _,_=>rfl
 | .dict _,_=>rfl
theorem og {L M:Nat} (h:L≤M):∀ {ds:List PyData},gts L ds=true→gts M ds=true
 | [],_=>rfl
 | d::r,q=>by
  simp only [gts,Bool.and_eq_true] at q ⊢
  exact ⟨ca h q.1,og h q.2⟩
end
def lin (R:List Rec) (n:Nat) (r:Rm) (k:Str) (d:PyData):Bool:=if k=Str.ofString "num" then btw d r.a r.b else isV R n k d&&(cw R n k d).all (br r)
theorem ub {R:List Rec} {n:Nat} {r:Rm} {k:Str} {d:PyData} (h:cu R n k):lin R n r k d=(isV R n k d&&(cw R n k d).all (br r)):=by
 unfold lin
 by_cases c:k=Str.ofString "num"
 ·rw [if_pos c]
  cases n with
  | zero=>exact h.elim
  | succ n =>
   have hk:k∈PL:=c ▸ qG
   rw [eG hk]
   unfold isV
   rw [if_pos c]
   cases d<;>first | rfl | (simp [btw,bM,br,cG])
 ·rw [if_neg c]
theorem vP {R:List Rec} {n:Nat} {r:Rm} {d:PyData} {L:Nat} (hg:gt L d=true):lin R (n+1) r "text" d=(match d with | .str z=>br r (.str z) | _=>false):=by
 unfold lin
 rw [if_neg (by decide +kernel),eG mI]
 unfold isV
 rw [if_neg (by decide +kernel),if_pos rfl]
 cases d<;>first | rfl | skip
 simp only [gt] at hg
 rw [hg]
 simp
theorem wQ {R:List Rec} {n:Nat} {r:Rm} {ds:List PyData}:lin R (n+1) r "row" (.tuple ds)=(decide ((ds.length:Int)≤r.c)&&ds.all fun d=>btw d r.a r.b):=by
 unfold lin
 rw [if_neg (by decide +kernel),eG qI]
 unfold isV
 rw [if_neg (by decide +kernel),if_neg (by decide +kernel),if_pos rfl]
 simp only [ut,List.all_cons,List.all_nil,Bool.and_true,br]
 rw [Bool.eq_iff_iff]
 simp only [Bool.and_eq_true,List.all_eq_true]
 constructor
 ·exact fun h=>h.2
 ·refine fun h=>⟨fun d hd=>?_,h⟩
  have:=h.2 d hd
  cases d<;>first | rfl | (simp [btw] at this)
theorem kB {R:List Rec} {n:Nat} {r:Rm} {k:Str} {d:PyData} (h1:k≠Str.ofString "num") (h2:k≠Str.ofString "text") (hd:∀ ds,d≠.tuple ds):lin R (n+1) r k d=false:=by
 unfold lin
 rw [if_neg h1]
 unfold isV
 rw [if_neg h1,if_neg h2]
 by_cases h3:k=Str.ofString "row"
 ·rw [if_pos h3]
  cases d<;>first | rfl | exact absurd rfl (hd _)
 ·rw [if_neg h3,wy hd]
  rfl
theorem kN {α β:Type} (g:α→List β) (p:β→Bool):∀ l:List α,(l.flatMap g).all p=l.all fun a=>(g a).all p
 | []=>rfl
 | a::r=>by rw [List.flatMap_cons,List.all_append,kN g p r,List.all_cons]
theorem wP {R:List Rec} {n:Nat} {r:Rm} {k:Str} {ds:List PyData} (hk:k∉PL) (hd:∀ p∈look R k,cu R n p.2):lin R (n+1) r k (.tuple ds)=(decide (ds.length=(look R k).length)&&((look R k).zip ds).all fun p=>lin R n r p.1.2 p.2):=by
 have n1:k≠Str.ofString "num":=fun e=>hk (e ▸ qG)
 have n2:k≠Str.ofString "text":=fun e=>hk (e ▸ mI)
 have n3:k≠Str.ofString "row":=fun e=>hk (e ▸ qI)
 have e0:lin R (n+1) r k (.tuple ds)=(isV R (n+1) k (.tuple ds)&&(cw R (n+1) k (.tuple ds)).all (br r)):=by unfold lin; rw [if_neg n1]
 have e1:isV R (n+1) k (.tuple ds)=(decide (ds.length=(look R k).length)&&((look R k).zip ds).all fun p=>isV R n p.1.2 p.2):=by
  have:isV R (n+1) k (.tuple ds)=jA (isV R n) ((look R k).map (·.2)) (.tuple ds):=by
   conv=>lhs; unfold isV
   rw [if_neg n1,if_neg n2,if_neg n3]
  rw [this]
  show (decide (ds.length=((look R k).map (·.2)).length)&&(((look R k).map (·.2)).zip ds).all fun p=>isV R n p.1 p.2)=_
  rw [uG,List.all_map,List.length_map]
  rfl
 rw [e0,e1,gf hk,gk,kN,Bool.and_assoc]
 congr 1
 have le:∀ p∈(look R k).zip ds,lin R n r p.1.2 p.2=(isV R n p.1.2 p.2&&(cw R n p.1.2 p.2).all (br r)):=fun p hp=>ub (hd p.1 (List.of_mem_zip hp).1)
 rw [Bool.eq_iff_iff,Bool.and_eq_true,List.all_eq_true,List.all_eq_true,List.all_eq_true]
 constructor
 ·intro h p hp
  rw [le p hp,Bool.and_eq_true]
  exact ⟨h.1 p hp,h.2 p hp⟩
 ·intro h
  refine ⟨fun p hp=>?_,fun p hp=>?_⟩
  ·have h':=h p hp
   rw [le p hp,Bool.and_eq_true] at h'
   exact h'.1
  ·have h':=h p hp
   rw [le p hp,Bool.and_eq_true] at h'
   exact h'.2
open PySem L2
theorem sM {α:Type} {xs:List α} {j:Nat} {v:α} (h:xs[j]?=some v):atI xs (0+(j:Int))=some v:=by rw [Int.zero_add]; exact rD h
theorem not_false (l:List Bool):(if true=true then !inV (.bl false) (l.map V.bl) else inV (.bl false) (l.map V.bl))=l.all id:=by
 rw [if_pos rfl,kM]
 induction l with
 | nil=>rfl
 | cons b r ih=>rw [List.any_cons,List.all_cons,Bool.not_or,ih]; cases b<;>rfl
section
variable {P:Program} {w:World} {K:Frag} {mg:Str→Option Value} {base:Heap} {f g:Addr} {fd gd:FuncData}
abbrev gc:List Str:=["_law_records", "_law_room_here", "_law_kind", "_law_thing", "_law_fields"]
abbrev iJ:List Str:=["_law_k", "_law_records", "_law_room_here", "_law_thing", "_law_fields"]
theorem lI:iJ.Nodup:=by decide +kernel
abbrev iG:List Str:=["_law_one", "_law_records", "_law_room_here"]
theorem lK:iG.Nodup:=by decide +kernel
abbrev iu:List Str:=["_law_sign", "_law_room_here"]
theorem ly:iu.Nodup:=by decide +kernel
theorem kA:aK gc ["_law_records", "_law_room_here", "_law_kind", "_law_thing"] (defScope cK):=⟨rfl,rfl,rfl,by decide +kernel,rfl,by decide +kernel,by decide +kernel⟩
abbrev qi:List Str:=["_law_records", "_law_room_here", "_law_kind", "_law_thing"]
def lT (tp:Addr) (n:Nat):Sp:=fun vs H Q _=>∃ v R mv r k u d,vs=[v,mv,.str k,u]∧fm H v R∧(R.map (·.1)).Nodup∧R.length≤1000∧(cu R n k∨k = "num")∧jy H mv r∧DA tp H u d∧gt 101 d=true∧∀ H',ar H H'→Q (.bl (lin R n r k d)) H'
theorem uu {n r0:Nat} {spC:Sp} (tp:Addr) (hrm:r0≤n+1) (hR:∀ m,n=m+1→∀ vs H Q E,lT tp m vs H Q E→spC vs H Q E) (T:G0 mg) (F:Fun K "_law_is_in" "_law_is_in" cK f fd) (D_l_is_in:Cal P w K mg base r0 "_law_is_in" qi spC) (D_l_whole:Cal P w K mg base 1 "_law_whole" ["_law_thing"] (dC tp)):aU P w K mg base CX0 (n+2) f fd qi (lT tp n):=by
 obtain ⟨g_l_is_in,gd_l_is_in,G_l_is_in,b_l_is_in,k_l_is_in,m_l_is_in⟩:=D_l_is_in.ex
 obtain ⟨g_l_whole,gd_l_whole,G_l_whole,b_l_whole,k_l_whole,m_l_whole⟩:=D_l_whole.ex
 refine F.ok kA (fun vs H Q E h=>?_) (fun cdv A outer s H vs Q E hr h=>?_)
 ·obtain ⟨v,R,mv,r,k,u,d,rfl,_⟩:=h
  rfl
 obtain ⟨v,R,mv,r,k,u,d,rfl,hRc,hnd,hlR,hk,⟨p,rfl,hp⟩,hd,hg,q⟩:=h
 refine ⟨_,(@aj _ _ _ _ _ (@bj _ _ _ _ _ _ _ _ (@aE _ _ _ _ _ _ _ _ bO (pv 2) aM (aO _)) (@al _ _ _ (@ay _ _ _ _ (dh (@ao _ _ _ _ _ _ _ _ _ _ _ _ _ _ _ _ G_l_whole (hr.mono (by omega)) rfl m_l_whole k_l_whole b_l_whole .nil aB (@ac _ _ _ _ _ (pv 3) af (aa rfl)) (by decide) (aa rfl) (ah rfl)) (dJ (dM bY bY (@av _ _ _ _ _ _ _ aH (pv 1) ag (fun _ _=>rfl)) (pv 3) (@av _ _ _ _ _ _ _ aH (pv 1) ag (fun _ _=>rfl))))))) aL) (@aj _ _ _ _ _ (@bj _ _ _ _ _ _ _ _ (@aE _ _ _ _ _ _ _ _ bO (pv 2) aM (aO _)) (@aj _ _ _ _ _ (@bj _ _ _ _ _ _ _ _ (PW.pt (ft (cI (bX (@ap _ _ _ _ _ _ _ _ _ bm rfl T.isi cL (@ac _ _ _ _ _ (pv 3) (@ac _ _ _ _ _ (bw (v:=.ty "str") rfl T.str xG rfl) af (aa rfl)) (aa rfl)) (by decide) (by decide) (aa rfl) (ah rfl)))) (eB (@aE _ _ _ _ _ _ _ _ jU (@ap _ _ _ _ _ _ _ _ _ (bE.or aA cy) rfl T.len cb (@ac _ _ _ _ _ (pv 3) af (aa rfl)) (by decide) (by decide) (aa rfl) (ah rfl)) (@av _ _ _ _ _ _ _ aH (pv 1) ag (fun _ _=>rfl)) (aO _))))) (@al _ _ _ (@ay _ _ _ _ cC)) aL) (@al _ _ _ (@ay _ _ _ _ (@cX _ _ _ _ _ _ _ _ dA cC (aW (N':=iu) (ρ:=[none,some 1]) (m:=1) (bo.of (fs:=defScope cK) (N:=gc) rfl rfl (by decide +kernel)) rfl (kn (pv 3)) (fun _ _ _ _=>(au (i:=0) ly rfl (Or.inl rfl))) (fun _ _ _ _=>bg) (fun _ _ _ _=>(dM bY bY (av (bB (K:=K) rfl) (pv 1) ag (fun _ _=>rfl)) (ap ip rfl T.ord rA (ac (pv 0) af)) (av (bB (K:=K) rfl) (pv 1) ag (fun _ _=>rfl))))) rfl)))) aL) (@aj _ _ _ _ _ (@bj _ _ _ _ _ _ _ _ (cI (bX (@ap _ _ _ _ _ _ _ _ _ bm rfl T.isi cL (@ac _ _ _ _ _ (pv 3) (@ac _ _ _ _ _ (bw (v:=.ty "tuple") rfl T.tuple bI rfl) af (aa rfl)) (aa rfl)) (by decide) (by decide) (aa rfl) (ah rfl)))) (@al _ _ _ (@ay _ _ _ _ cC)) aL) (@aj _ _ _ _ _ (@bj _ _ _ _ _ _ _ _ (@aE _ _ _ _ _ _ _ _ bO (pv 2) aM (aO _)) (@al _ _ _ (@ay _ _ _ _ (dh (@cX _ _ _ _ _ _ _ _ bY (@ap _ _ _ _ _ _ _ _ _ (bE.or aA cy) rfl T.len cb (@ac _ _ _ _ _ (pv 3) af (aa rfl)) (by decide) (by decide) (aa rfl) (ah rfl)) (@av _ _ _ _ _ _ _ aH (pv 1) ag (fun _ _=>rfl)) (aO _)) (dJ (@cX _ _ _ _ _ _ _ _ dA cC (aW (N':=iG) (ρ:=[none,some 0,some 1]) (m:=1) (bo.of (fs:=defScope cK) (N:=gc) rfl rfl (by decide +kernel)) rfl (bZ (pv 3)) (fun _ _ _ _=>(au (i:=0) lK rfl (Or.inl rfl))) (fun _ _ _ _=>bg) (fun _ _ _ _=>(ao G_l_is_in (hr.mono (by omega)) rfl m_l_is_in k_l_is_in b_l_is_in .nil aB (ac (pv 1) (ac (pv 2) (ac aM (ac (pv 0) af))))))) rfl))))) aL) (@aj _ _ _ _ _ (@aC _ _ 4 _ _ _ _ kA.nd rfl (Or.inr rfl) (@av _ _ _ _ _ _ _ ni (@aZ _ _ _ _ _ _ _ _ _ (hU rfl) rfl T.dict pK (@ac _ _ _ _ _ (pv 0) af (aa rfl)) (by decide) (by decide) (aa rfl) (ah rfl)) (pv 2) (fun _ _=>rfl)) (am rfl) (.inl rfl)) (@aj _ _ _ _ _ (@bj _ _ _ _ _ _ _ _ (@aE _ _ _ _ _ _ _ _ kF (@ap _ _ _ _ _ _ _ _ _ (bE.or aA cy) rfl T.len cb (@ac _ _ _ _ _ (pv 3) af (aa rfl)) (by decide) (by decide) (aa rfl) (ah rfl)) (@ap _ _ _ _ _ _ _ _ _ aA rfl T.len cb (@ac _ _ _ _ _ (pv 4) af (aa rfl)) (by decide) (by decide) (aa rfl) (ah rfl)) (aO _)) (@al _ _ _ (@ay _ _ _ _ cC)) aL) (@al _ _ _ (@ay _ _ _ _ (@cX _ _ _ _ _ _ _ _ dA cC (aW (N':=iJ) (ρ:=[none,some 0,some 1,some 3,some 4]) (m:=1) (bo.of (fs:=defScope cK) (N:=gc) rfl rfl (by decide +kernel)) rfl (cT rfl T.range (ac (ap aA rfl T.len cb (ac (pv 4) af)) af)) (fun _ _ _ _=>(au (i:=0) lI rfl (Or.inl rfl))) (fun _ _ _ _=>bg) (fun _ _ _ _=>(ao G_l_is_in (hr.mono (by omega)) rfl m_l_is_in k_l_is_in b_l_is_in .nil aB (ac (pv 1) (ac (pv 2) (ac (av (bB (K:=K) rfl) (av (bB (K:=K) rfl) (pv 4) (pv 0) (fun _ _=>rfl)) ag (fun _ _=>rfl)) (ac (av (bB (K:=K) rfl) (pv 3) (pv 0) (fun _ _=>rfl)) af))))))) rfl))))))))),?_⟩
 refine ⟨_,rfl,rfl,_,rfl,?_⟩
 refine aX (fun c1=>?_) (fun c1=>?_)
 ·have ek:k=Str.ofString "num":=eqS c1
  have q0:=q _ (ar.refl _)
  unfold lin at q0
  rw [if_pos ek] at q0
  refine ⟨_,rfl,u,d,rfl,hd,_,rfl,?_⟩
  cases hd with
  | int i =>
   refine aN ⟨_,rfl,p,_,_,_,rfl,rfl,SqT.of hp,rfl,_,rfl,_,_,rfl,rfl,_,rfl,?_⟩
   simp only [btw] at q0
   refine aX (fun c=>?_) (fun c=>?_)
   ·refine ⟨_,rfl,p,_,_,_,rfl,rfl,SqT.of hp,rfl,_,_,rfl,rfl,?_⟩
    rw [c] at q0
    exact q0
   ·rw [Bool.eq_false_iff.mpr c] at q0
    exact q0
  | _=>exact bp q0
 have n1:k≠Str.ofString "num":=neS c1
 have hdk:cu R n k:=hk.resolve_right n1
 cases n with
 | zero=>exact hdk.elim
 | succ n =>
 have hrec:=hR n rfl
 refine ⟨_,rfl,rfl,_,rfl,?_⟩
 refine aX (fun c2=>?_) (fun c2=>?_)
 ·obtain rfl:k=Str.ofString "text":=eqS c2
  have q0:=q _ (ar.refl _)
  rw [show lin R (n+1) r (Str.ofString "text") d=_ from vP hg] at q0 q
  cases hd with
  | non=>exact ⟨_,rfl,_,_,_,false,rfl,.non,rfl,_,rfl,aN (aN q0)⟩
  | bl b=>exact ⟨_,rfl,_,_,_,false,rfl,.bl b,rfl,_,rfl,aN (aN q0)⟩
  | int i=>exact ⟨_,rfl,_,_,_,false,rfl,.int i,rfl,_,rfl,aN (aN q0)⟩
  | lst nn h rr=>exact ⟨_,rfl,_,_,_,false,rfl,.lst h,rfl,_,rfl,aN (aN q0)⟩
  | tup nn h rr=>exact ⟨_,rfl,_,_,_,false,rfl,.tup h,rfl,_,rfl,aN (aN q0)⟩
  | str z hz =>
   refine ⟨_,rfl,_,_,_,true,rfl,.str z,rfl,_,rfl,bp ?_⟩
   refine ⟨_,rfl,.inr ⟨z,rfl,Nat.le_of_lt (aI hz),_,rfl,p,_,_,_,rfl,rfl,SqT.of hp,rfl,_,_,rfl,rfl,_,rfl,?_⟩⟩
   refine aX (fun c3=>?_) (fun c3=>?_)
   ·have c3':decide (r.c<(z.length:Int))=true:=c3
    have e:br r (.str z)=false:=by
     have:=of_decide_eq_true c3'
     simp only [br]
     rw [decide_eq_false (by omega)]
     rfl
    have q1:Q (.bl (br r (.str z))) H:=q0
    rw [e] at q1
    exact q1
   have c3':(z.length:Int)≤r.c:=by
    have c4:¬ decide (r.c<(z.length:Int))=true:=c3
    have:=of_decide_eq_false (Bool.eq_false_iff.mpr c4)
    omega
   refine ⟨_,rfl,z,rfl,fL z.cps.size rfl hz (fun i acc H'=>H'=H∧acc=((z.cps.toList.take i).map (fun c:Nat=>cG r.d r.e (c:Int))).map V.bl) ⟨rfl,rfl⟩ (fun i acc H' c hi la hc p=>?_) (fun acc H' p la D hD=>?_)⟩
   ·obtain ⟨rfl,rfl⟩:=p
    refine ⟨⟨rfl,rfl⟩,bf ?_⟩
    have step:((z.cps.toList.take (i+1)).map (fun c:Nat=>cG r.d r.e (c:Int))).map V.bl=((z.cps.toList.take i).map (fun c:Nat=>cG r.d r.e (c:Int))).map V.bl++[V.bl (cG r.d r.e ((c:Nat):Int))]:=by
     rw [List.take_add_one,show z.cps.toList[i]?=some c by simpa using hc,List.map_append,List.map_append]
     rfl
    refine ⟨_,rfl,_,_,_,_,rfl,rfl,SqT.of hp,rfl,_,rfl,_,rfl,rfl,_,_,rfl,rfl,_,rfl,?_⟩
    refine aX (fun c1=>?_) (fun c1=>?_)
    ·have c1':decide (r.d≤((c:Nat):Int))=true:=c1
     refine ⟨_,rfl,_,_,_,_,rfl,rfl,SqT.of hp,rfl,_,_,rfl,rfl,nxT hz hi la ⟨rfl,?_⟩⟩
     rw [step,show cG r.d r.e ((c:Nat):Int)=decide (((c:Nat):Int)≤r.e) from by unfold cG; rw [c1']; rfl]
     rfl
    ·have c1':decide (r.d≤((c:Nat):Int))=false:=Bool.eq_false_iff.mpr c1
     refine nxT hz hi la ⟨rfl,?_⟩
     rw [step,show cG r.d r.e ((c:Nat):Int)=false from by unfold cG; rw [c1']; rfl]
   ·obtain ⟨rfl,rfl⟩:=p
    refine ⟨D,_,rfl,.inl (SqL.of ad),rfl,eK _,?_⟩
    rw [not_false]
    have e:br r (.str z)=(List.map (fun c:Nat=>cG r.d r.e (c:Int)) (z.cps.toList.take z.cps.size)).all id:=by
     rw [← Array.length_toList,List.take_length,List.all_map]
     simp only [br]
     rw [decide_eq_true c3']
     rfl
    rw [← e]
    exact q _ (ae hD _)
 have n2:k≠Str.ofString "text":=neS c2
 cases hd with
 | non=>refine ⟨_,rfl,_,_,_,false,rfl,.non,rfl,_,rfl,aN ?_⟩; have q0:=q _ (ar.refl _); rw [kB n1 n2 (fun _ z=>by cases z)] at q0; exact q0
 | bl b=>refine ⟨_,rfl,_,_,_,false,rfl,.bl b,rfl,_,rfl,aN ?_⟩; have q0:=q _ (ar.refl _); rw [kB n1 n2 (fun _ z=>by cases z)] at q0; exact q0
 | int i=>refine ⟨_,rfl,_,_,_,false,rfl,.int i,rfl,_,rfl,aN ?_⟩; have q0:=q _ (ar.refl _); rw [kB n1 n2 (fun _ z=>by cases z)] at q0; exact q0
 | str z l=>refine ⟨_,rfl,_,_,_,false,rfl,.str z,rfl,_,rfl,aN ?_⟩; have q0:=q _ (ar.refl _); rw [kB n1 n2 (fun _ z=>by cases z)] at q0; exact q0
 | lst nn h rr=>refine ⟨_,rfl,_,_,_,false,rfl,.lst h,rfl,_,rfl,aN ?_⟩; have q0:=q _ (ar.refl _); rw [kB n1 n2 (fun _ z=>by cases z)] at q0; exact q0
 | @tup a xs ds nn h rr =>
  have lx:=rr.len
  simp only [gt,Bool.and_eq_true] at hg
  have hgm:=jQ hg.2
  refine ⟨_,rfl,_,_,_,true,rfl,.tup h,rfl,_,rfl,bp ?_⟩
  refine ⟨_,rfl,rfl,_,rfl,?_⟩
  refine aX (fun c3=>?_) (fun c3=>?_)
  ·obtain rfl:k=Str.ofString "row":=eqS c3
   rw [show lin R (n+1) r (Str.ofString "row") (.tuple ds)=_ from wQ] at q
   refine ⟨_,rfl,.inl ⟨a,xs,rfl,.inr (SqT.of h),_,rfl,p,_,_,_,rfl,rfl,SqT.of hp,rfl,_,_,rfl,rfl,_,rfl,?_⟩⟩
   refine aX (fun c4=>?_) (fun c4=>?_)
   case refine_2 =>
    have c4':decide ((xs.length:Int)≤r.c)=false:=Bool.eq_false_iff.mpr c4
    have q0:=q _ (ar.refl _)
    rw [← lx,c4'] at q0
    exact q0
   have c4':decide ((xs.length:Int)≤r.c)=true:=c4
   refine ⟨_,rfl,a,rfl,⟨xs,SqT.of h⟩,cr (xs:=xs) xs.length rfl nn.2 (fun i acc H'=>ar H H'∧acc=((ds.take i).map fun d=>btw d r.a r.b).map V.bl) ⟨ar.refl _,rfl⟩ (fun i acc H' p=>SqT.of (p.1 _ _ h)) (fun i acc H' x hi la hx p=>?_) (fun acc H' p la D hD=>?_)⟩
   ·obtain ⟨g1,rfl⟩:=p
    obtain ⟨e,he,hde⟩:=rr.get i x hx
    refine ⟨⟨rfl,rfl⟩,bf ?_⟩
    refine ⟨_,rfl,_,rfl,_,rfl,hrec _ _ _ _ ⟨v,R,_,r, "num",x,e,rfl,hRc.mono (ak g1),hnd,hlR,.inr rfl,⟨_,rfl,g1 _ _ hp⟩,hde.same g1,hgm e (List.mem_of_getElem? he),fun H2 g2=>nxT nn.2 hi la ⟨g1.trans g2,?_⟩⟩⟩
    rw [List.take_add_one,he,List.map_append,List.map_append]
    rfl
   ·obtain ⟨g1,rfl⟩:=p
    refine ⟨D,_,rfl,.inl (SqL.of ad),rfl,eK _,?_⟩
    rw [not_false,lx,List.take_length,List.all_map]
    have q0:=q _ (g1.trans (ae hD (.lst (List.map V.bl (List.map (fun d=>btw d r.a r.b) (List.take xs.length ds))))))
    rw [← lx,c4',Bool.true_and,lx,List.take_length] at q0
    exact q0
  have n3:k≠Str.ofString "row":=neS c3
  have ck:k∉PL:=fun z=>by
   rcases List.mem_cons.mp z with e | z
   ·exact n1 e
   rcases List.mem_cons.mp z with e | z
   ·exact n2 e
   ·exact n3 (List.mem_singleton.mp z)
  rcases id hdk with z | ⟨_,_,⟨_,hl⟩,hdd⟩
  ·exact absurd z ck
  rw [wP ck hdd] at q
  obtain ⟨b0,xs0,ps,fv,rfl,hb0,hl0,hnd0,pp1,efind,hfl⟩:=ng (K:=K) hRc hnd hlR (hdk.ne ck)
  refine ⟨_,rfl,b0,xs0,ps,rfl,hb0,hl0,hnd0,pp1,fun dl hdl=>?_⟩
  have g1:=ae hdl (.dK (ps.map fun p=>(Sum.inr p.1,p.2)))
  obtain ⟨b,fs,rfl,hb,rf⟩:=hfl.mono (ak g1)
  have lf:=Paired.length rf
  refine ⟨_,rfl,dl,_,k,_,rfl,rfl,ad,efind,?_⟩
  refine ⟨_,rfl,.inl ⟨a,xs,rfl,.inr (SqT.of (g1 _ _ h)),_,rfl,b,fs,rfl,.inr (SqT.of hb),rfl,_,rfl,?_⟩⟩
  have dk:∀ {c:Bool},decide (V.int (xs.length:Int)=V.int (fs.length:Int))=c→decide (ds.length=(look R k).length)=c:=fun {c} e=>by
   rw [lx,lf] at e
   rw [← e]
   exact decide_eq_decide.mpr ⟨fun z=>by rw [z],fun z=>by have:=V.int.inj z; omega⟩
  refine aX (fun c5=>?_) (fun c5=>?_)
  ·have c5':decide (V.int (xs.length:Int)=V.int (fs.length:Int))=false:=by simpa using c5
   have q0:=q _ g1
   rw [dk c5'] at q0
   exact q0
  have c5':decide (V.int (xs.length:Int)=V.int (fs.length:Int))=true:=by simpa using c5
  have l0:=of_decide_eq_true (dk c5')
  have lz:((look R k).zip ds).length=fs.length:=by rw [List.length_zip]; omega
  refine ⟨_,rfl,b,fs,rfl,.inr (SqT.of hb),?_⟩
  have hfl3:fs.length≤3:=by rw [lf]; exact hl
  have hbH:=hb
  have hp1:=g1 _ _ hp
  have h1:=g1 _ _ h
  have hRc1:=hRc.mono (ak g1)
  have rr1:=rr.same g1
  generalize (upd H dl (.dK (ps.map fun p=>(Sum.inr p.1,p.2))))=H1 at g1 hb rf hp1 h1 hRc1 rr1
  refine ⟨_,rfl,by omega,by omega,hJ (lo:=0) fs.length (by omega) (fun i acc H'=>ar H1 H'∧acc=((((look R k).zip ds).take i).map fun p=>lin R n r p.1.2 p.2).map V.bl) ⟨ar.refl _,rfl⟩ (fun i acc H' hi la pp=>?_) (fun acc H' pp la D hD=>?_)⟩
  ·obtain ⟨g2,rfl⟩:=pp
   obtain ⟨fx,hfx⟩:∃ fx,fs[i]?=some fx:=⟨_,List.getElem?_eq_getElem hi⟩
   obtain ⟨fl,hfl',c,rfl,hc⟩:=aJ rf i fx hfx
   obtain ⟨x,hx⟩:∃ x,xs[i]?=some x:=⟨_,List.getElem?_eq_getElem (by omega)⟩
   obtain ⟨e,he,hde⟩:=rr1.get i x hx
   have ez:((look R k).zip ds)[i]?=some (fl,e):=by
    rw [List.getElem?_zip_eq_some]
    exact ⟨hfl',he⟩
   refine ⟨⟨rfl,rfl⟩,bf ?_⟩
   refine ⟨_,rfl,_,rfl,_,rfl,_,rfl,b,_,_,_,rfl,rfl,SqT.of (g2 _ _ hb),sM hfx,c,_,_,_,rfl,rfl,SqT.of (g2 _ _ hc),rfl,_,rfl,_,rfl,a,_,_,_,rfl,rfl,SqT.of (g2 _ _ h1),sM hx,hrec _ _ _ _ ⟨_,R,_,r,fl.2,x,e,rfl,hRc1.mono (ak g2),hnd,hlR,.inl (hdd fl (List.mem_of_getElem? hfl')),⟨_,rfl,g2 _ _ hp1⟩,hde.same g2,hgm e (List.mem_of_getElem? he),fun H3 g3=>nxT (by omega) hi la ⟨g2.trans g3,?_⟩⟩⟩
   rw [List.take_add_one,ez,List.map_append,List.map_append]
   rfl
  ·obtain ⟨g2,rfl⟩:=pp
   refine ⟨D,_,rfl,.inl (SqL.of ad),rfl,eK _,?_⟩
   rw [not_false,← lz,List.take_length,List.all_map]
   have q0:=q _ ((g1.trans g2).trans (ae hD (.lst (List.map V.bl (List.map (fun p=>lin R n r p.1.2 p.2) (List.take fs.length ((look R k).zip ds)))))))
   rw [dk c5',Bool.true_and,← lz,List.take_length] at q0
   exact q0
end
end K6
namespace L2
open PySem PySem.Spec PyProof.Rows
section
variable {X:Cx}
def wK:V→List V→Hp→VK→Prop:=fun x vs H Q=>∃ l xs i y,x=.ref l∧vs=[.int i,y]∧H l=some (.lst xs)∧0≤i∧i≤1000∧xs.length<sizeLine∧Q .non (upd H l (.lst (xs.take i.toNat++y::xs.drop i.toNat)))
theorem sn:MtM X "list.insert" wK:=by
 intro pins s σ H x vs v us Q I rx rv h
 obtain ⟨l,xs,i,y,rfl,rfl,hH,h0,h1,hz,q⟩:=h
 cases rx
 obtain ⟨u,w,rfl,⟨t,rfl⟩,rw'⟩:=nU rv
 obtain ⟨z,its,n,r,hl,e⟩:=I.lstM hH
 refine call_meets F.slot_list_insert ⟨_,e,rfl⟩ F.entry_list_insert (F.args_list_insert_3 _ _ _) (AutoListH.list_insert_list_int_val_1 l its.toArray n i t w (by rw [show Builtin.List.listFitsIndex i=true from fitsIndex_both (by omega) (by omega)]; decide) (by rw [List.size_toArray]; omega)) ⟨e,?_⟩
 refine ⟨.non,_,I.lset (its':=its.take i.toNat++w::its.drop i.toNat) hH e ?_ ((r.take _).append (.cons rw' (r.drop _))) ?_,rfl,q⟩
 ·dsimp only
  rw [if_neg (by omega)]
  apply Array.toList_inj.mp
  simp only [Array.toList_append,Array.toList_push,Array.toList_extract,List.size_toArray,List.extract_eq_drop_take,List.drop_zero,Nat.sub_zero,List.append_assoc,List.singleton_append]
  by_cases hi:i.toNat≤its.length
  ·rw [Nat.min_eq_left hi,List.take_of_length_le (l:=its.drop i.toNat) (by rw [List.length_drop]; omega)]
  ·rw [Nat.min_eq_right (by omega),List.take_of_length_le (l:=its) (i:=its.length) (Nat.le_refl _),List.take_of_length_le (l:=its) (i:=i.toNat) (by omega),List.drop_eq_nil_of_le (as:=its) (i:=its.length) (Nat.le_refl _),List.drop_eq_nil_of_le (as:=its) (i:=i.toNat) (by omega)]
   simp
 ·rw [List.length_append,List.length_cons,List.length_take,List.length_drop]
  omega
theorem kU:∀ {ns:List Int} {us:List Value},aQ (ns.map V.int) us→∃ xs:List (Int×Tok),us.toArray=intItems xs.toArray∧xs.map (·.1)=ns
 | [],_,r=>by cases r; exact ⟨[],by simp [intItems],rfl⟩
 | i::ns,_,r=>by
  cases r with
  | cons a b =>
   obtain ⟨t,rfl⟩:=a
   obtain ⟨xs,e1,e2⟩:=kU b
   refine ⟨(i,t)::xs,?_,by rw [List.map_cons,e2]⟩
   apply Array.toList_inj.mp
   have e3:=congrArg Array.toList e1
   simp only [intItems,Array.toList_map,List.map_cons] at e3 ⊢
   rw [e3]
def zq (K:Frag):List V→Hp→VK→Prop:=fun xs H Q=>∃ (l:Addr) (ns:List Int),xs=[.ref l]∧SqL K H l (ns.map V.int)∧Q (.int ns.sum) H
theorem kY (hc:X.calm=true):bE X (.builtin "sum") (zq X.K):=by
 intro pins s σ H xs us Q I r h
 obtain ⟨l,ns,rfl,hl,q⟩:=h
 obtain ⟨u,rfl,rx⟩:=eH r
 cases rx
 obtain ⟨its,ri,pl,hz⟩:=I.list hl
 obtain ⟨ps,e1,e2⟩:=kU ri
 have hl':=pl.isList
 rw [e1] at hl'
 refine sum_intListG (I.ok.hd hc) hl' fun h' tk t' hk=>?_
 refine ⟨.int ns.sum,H,I.kept (t':=tk) hk,⟨t',?_⟩,q⟩
 rw [preSum_eq,List.take_of_length_le (by simp),e2]
theorem nW:∀ {vs:List V} {us:List Value},vs.length=us.length→(∀ (j:Nat) (u:Value),us[j]?=some u→∃ v,vs[j]?=some v∧bq v u)→aQ vs us
 | [],[],_,_=>.nil
 | [],_::_,h,_=>by simp at h
 | _::_,[],h,_=>by simp at h
 | v::vs,u::us,h,k=>by
  obtain ⟨v',e,r⟩:=k 0 u rfl
  have e':v=v':=by simpa using e
  subst e'
  exact .cons r (nW (by simpa using h) fun j u' hu=>by simpa using k (j+1) u' (by simpa using hu))
def zv:List V→Hp→VK→Prop:=fun xs H Q=>∃ i j,xs=[.int i,.int j]∧∀ p,H p=none→Q (.ref p) (upd H p (.rng i j))
theorem tz:bE X (.type "range") zv:=by
 intro pins s σ H xs us Q I r h
 obtain ⟨i,j,rfl,q⟩:=h
 obtain ⟨u,w',rfl,⟨t,rfl⟩,⟨t',rfl⟩⟩:=nU r
 refine call_range_2 ⟨.ref s.heap.objs.size,_,I.laid (o:=.rng i j) (t':=s.toks+1) (fun b ob q=>Heap.get?_push_of_some _ q) (Nat.le_refl _) ?_,rfl,q _ (I.hok.fresh (Nat.le_refl _))⟩
 exact ⟨t,t',s.toks,Heap.get?_push_size _ rfl⟩
def intsFrom (i:Int) (n:Nat):List Int:=(List.range n).map fun (k:Nat)=>i+(k:Int)
def yJ:List V→Hp→VK→Prop:=fun xs H Q=>∃ p i j,xs=[.ref p]∧H p=some (.rng i j)∧-1000≤i∧i≤j∧j≤1000∧∀ l,H l=none→Q (.ref l) (upd H l (.lst ((intsFrom i (j - i).toNat).map V.int)))
theorem qj (hc:X.calm=true):bE X (.type "list") yJ:=by
 intro pins s σ H xs us Q I r h
 obtain ⟨p,i,j,rfl,hp,h1,h2,h3,q⟩:=h
 obtain ⟨u,rfl,rx⟩:=eH r
 cases rx
 obtain ⟨t,u,v,e⟩:=(show bS X.prog X.w H s.heap p (.rng i j) from I.hok p _ hp)
 have hn:Builtin.Range.rangeSize i j 1=(((j - i).toNat:Nat):Int):=by rw [rangeSize_one]; split<;>omega
 refine call_list_range (n:=(j - i).toNat) (I.ok.hd hc) (show IsRange s.heap p i j 1 t u v from e) (small_one (by omega) (by omega) (by omega) (by omega)) hn (by omega) fun h' tk acc c kp ea hacc=>?_
 refine ⟨.ref s.heap.objs.size,_,I.laid (t':=tk) kp (Nat.le_refl _) (show bS X.prog X.w _ h' _ (.lst ((intsFrom i (j - i).toNat).map V.int)) from ⟨?_,acc.toList,c,?_,by simpa using ea⟩),rfl,q _ (I.hok.fresh (Nat.le_refl _))⟩
 ·unfold intsFrom
  rw [List.length_map,List.length_map,List.length_range,sizeLine_eq]
  omega
 ·have hl:((intsFrom i (j - i).toNat).map V.int).length=acc.toList.length:=by
   unfold intsFrom
   rw [List.length_map,List.length_map,List.length_range,Array.length_toList,hacc.1]
  refine nW hl fun k w hw=>?_
  obtain ⟨t,rfl⟩:=hacc.2 k w (by rw [← Array.getElem?_toList]; exact hw)
  have hk:k<(j - i).toNat:=by
   have:=(List.getElem?_eq_some_iff.mp hw).1
   rw [Array.length_toList,hacc.1] at this
   exact this
  refine ⟨.int (i+(k:Int)),?_,⟨t,by simp⟩⟩
  unfold intsFrom
  rw [List.getElem?_map,List.getElem?_map,List.getElem?_range hk]
  rfl
end
end L2
namespace K6
open PySem L2
theorem DAs.app {tp:Addr} {H:Hp}:∀ {xs ys:List V} {ds es:List PyData},DAs tp H xs ds→DAs tp H ys es→DAs tp H (xs++ys) (ds++es)
 | _,_,_,_,.nil,q=>q
 | _,_,_,_,.cons h r,q=>.cons h (DAs.app r q)
theorem DAs.take {tp:Addr} {H:Hp}:∀ (i:Nat) {xs:List V} {ds:List PyData},DAs tp H xs ds→DAs tp H (xs.take i) (ds.take i)
 | 0,_,_,_=>by rw [List.take_zero,List.take_zero]; exact .nil
 | i+1,_,_,.nil=>.nil
 | i+1,_,_,.cons h r=>.cons h (DAs.take i r)
theorem DAs.drop {tp:Addr} {H:Hp}:∀ (i:Nat) {xs:List V} {ds:List PyData},DAs tp H xs ds→DAs tp H (xs.drop i) (ds.drop i)
 | 0,_,_,q=>q
 | i+1,_,_,.nil=>.nil
 | i+1,_,_,.cons h r=>DAs.drop i r
theorem DAs.erase {tp:Addr} {H:Hp}:∀ (i:Nat) {xs:List V} {ds:List PyData},DAs tp H xs ds→DAs tp H (xs.eraseIdx i) (ds.eraseIdx i)
 | _,_,_,.nil=>.nil
 | 0,_,_,.cons h r=>r
 | i+1,_,_,.cons h r=>.cons h (DAs.erase i r)
theorem DAs.set {tp:Addr} {H:Hp} {y:V} {e:PyData} (q:DA tp H y e):∀ (i:Nat) {xs:List V} {ds:List PyData},DAs tp H xs ds→DAs tp H (xs.set i y) (ds.set i e)
 | _,_,_,.nil=>.nil
 | 0,_,_,.cons h r=>.cons q r
 | i+1,_,_,.cons h r=>.cons h (DAs.set q i r)
mutual
theorem DA.put {tp l:Addr} {H:Hp} {o:HO}:∀ {v:V} {d e:PyData},DA tp H v d→DA l H v e→DA tp (L2.upd H l o) v d
 | _,_,_,.non,_=>.non
 | _,_,_,.bl b,_=>.bl b
 | _,_,_,.int i,_=>.int i
 | _,_,_,.str x z,_=>.str x z
 | _,_,_,.lst n h r,.lst n' h' r'=>by
  cases h.symm.trans h'
  exact .lst n (by rw [bc n'.1]; exact h) (DAs.put r r')
 | _,_,_,.lst n h r,.tup n' h' r'=>nomatch h.symm.trans h'
 | _,_,_,.tup n h r,.lst n' h' r'=>nomatch h.symm.trans h'
 | _,_,_,.tup n h r,.tup n' h' r'=>by
  cases h.symm.trans h'
  exact .tup n (by rw [bc n'.1]; exact h) (DAs.put r r')
theorem DAs.put {tp l:Addr} {H:Hp} {o:HO}:∀ {v:List V} {d e:List PyData},DAs tp H v d→DAs l H v e→DAs tp (L2.upd H l o) v d
 | _,_,_,.nil,_=>.nil
 | _,_,_,.cons h r,.cons h' r'=>.cons (DA.put h h') (DAs.put r r')
end
mutual
theorem DA.lift {tp l:Addr} {H H':Hp} (x:Ext tp H H'):∀ {v:V} {d e:PyData},DA tp H v d→DA l H v e→DA l H' v e
 | _,_,_,.non,.non=>.non
 | _,_,_,.bl b,.bl _=>.bl b
 | _,_,_,.int i,.int _=>.int i
 | _,_,_,.str z _,.str _ q=>.str z q
 | _,_,_,.lst n h r,.lst n' h' r'=>by
  cases h.symm.trans h'
  exact .lst n' (x _ _ n.1 h) (DAs.lift x r r')
 | _,_,_,.lst n h r,.tup n' h' r'=>nomatch h.symm.trans h'
 | _,_,_,.tup n h r,.lst n' h' r'=>nomatch h.symm.trans h'
 | _,_,_,.tup n h r,.tup n' h' r'=>by
  cases h.symm.trans h'
  exact .tup n' (x _ _ n.1 h) (DAs.lift x r r')
theorem DAs.lift {tp l:Addr} {H H':Hp} (x:Ext tp H H'):∀ {v:List V} {d e:List PyData},DAs tp H v d→DAs l H v e→DAs l H' v e
 | _,_,_,.nil,.nil=>.nil
 | _,_,_,.cons h r,.cons h' r'=>.cons (DA.lift x h h') (DAs.lift x r r')
end
mutual
theorem DA.fresh {tp l:Addr} {H:Hp} (z:H l=none):∀ {v:V} {d:PyData},DA tp H v d→DA l H v d
 | _,_,.non=>.non
 | _,_,.bl b=>.bl b
 | _,_,.int i=>.int i
 | _,_,.str x q=>.str x q
 | _,_,.lst n h r=>.lst ⟨aq h z,n.2⟩ h (DAs.fresh z r)
 | _,_,.tup n h r=>.tup ⟨aq h z,n.2⟩ h (DAs.fresh z r)
theorem DAs.fresh {tp l:Addr} {H:Hp} (z:H l=none):∀ {v:List V} {d:List PyData},DAs tp H v d→DAs l H v d
 | _,_,.nil=>.nil
 | _,_,.cons h r=>.cons (DA.fresh z h) (DAs.fresh z r)
end
theorem Fd.some {H:Hp} {fp sc:Addr} {m:Nat} (h:Fd H fp sc m):H fp≠none:=by
 obtain ⟨xs,e⟩:=h.lst
 rw [e]
 exact fun z=>nomatch z
theorem ar.kp {H H':Hp} (g:ar H H') {l:Addr} (h:H l≠none):H' l≠none:=by
 cases e:H l with
 | none=>exact absurd e h
 | some o=>rw [g _ _ e]; exact fun z=>nomatch z
theorem Ext.kp {fp sc:Addr} {m:Nat} {H H':Hp} (g:Ext fp H H') (f:Fd H' fp sc m) {l:Addr} (h:H l≠none):H' l≠none:=by
 cases e:H l with
 | none=>exact absurd e h
 | some o =>
  by_cases c:l=fp
  ·subst c; exact f.some
  ·rw [g _ _ c e]; exact fun z=>nomatch z
section
variable {P:Program} {w:World} {K:Frag} {mg:Str→Option Value} {base:Heap} {f g:Addr} {fd gd:FuncData}
abbrev wC:List Str:=["_law_feed_here", "_law_some"]
theorem oz:aK wC ["_law_feed_here"] (defScope mN):=⟨rfl,rfl,rfl,by decide +kernel,rfl,by decide +kernel,by decide +kernel⟩
def nG:Sp:=fun vs H Q _=>∃ fp sc m,vs=[.ref fp]∧Fd H fp sc m∧m≤900∧∀ u d H',Ext fp H H'→Fd H' fp sc (m+1)→(∀ l,H l≠none→DA l H' u d)→gt 100 d=true→Q u H'
theorem yq (T:G0 mg) (F:Fun K "_law_odd" "_law_odd" mN f fd) (D_l_draw:Cal P w K mg base 1 "_law_draw" ["_law_feed_here", "_law_many_here"] oJ):aU P w K mg base CX0 2 f fd ["_law_feed_here"] nG:=by
 obtain ⟨g_l_draw,gd_l_draw,G_l_draw,b_l_draw,k_l_draw,m_l_draw⟩:=D_l_draw.ex
 refine F.ok oz (fun vs H Q E h=>?_) (fun cdv A outer s H vs Q E hr h=>?_)
 ·obtain ⟨fp,sc,m,rfl,_⟩:=h
  rfl
 obtain ⟨fp,sc,m,rfl,hf,hm,q⟩:=h
 refine ⟨_,(@aj _ _ _ _ _ (@aC _ _ 1 _ _ _ _ oz.nd rfl (Or.inl rfl) (@aV _ _ _ _ (@ac _ _ _ _ _ tR (@ac _ _ _ _ _ cC (@ac _ _ _ _ _ cC (@ac _ _ _ _ _ ag (@ac _ _ _ _ _ (@lW _ _ _ _ _ _ iZ ag) (@ac _ _ _ _ _ ag (@ac _ _ _ _ _ (@lW _ _ _ _ _ _ iZ ag) (@ac _ _ _ _ _ ag (@ac _ _ _ _ _ ag (@ac _ _ _ _ _ ag (@ac _ _ _ _ _ aM (@ac _ _ _ _ _ aM (@ac _ _ _ _ _ aM (@ac _ _ _ _ _ (@ba _ _ _ _ _ af) (@ac _ _ _ _ _ (@ba _ _ _ _ _ (@ac _ _ _ _ _ ag af (aa rfl))) (@ac _ _ _ _ _ (@aV _ _ _ _ af) (@ac _ _ _ _ _ (@aV _ _ _ _ (@ac _ _ _ _ _ ag af (aa rfl))) (@ac _ _ _ _ _ (@ba _ _ _ _ _ (@ac _ _ _ _ _ (@ba _ _ _ _ _ af) af (aa rfl))) (@ac _ _ _ _ _ (@ba _ _ _ _ _ (@ac _ _ _ _ _ aM af (aa rfl))) (@ac _ _ _ _ _ (@ba _ _ _ _ _ (@ac _ _ _ _ _ cC af (aa rfl))) af (aa rfl)) (aa rfl)) (aa rfl)) (aa rfl)) (aa rfl)) (aa rfl)) (aa rfl)) (aa rfl)) (aa rfl)) (aa rfl)) (aa rfl)) (aa rfl)) (aa rfl)) (aa rfl)) (aa rfl)) (aa rfl)) (aa rfl)) (aa rfl)) (aa rfl)) (aa rfl))) (am rfl) (.inr rfl)) (@al _ _ _ (@ay _ _ _ _ (@av _ _ _ _ _ _ _ aF (pv 1) (@ao _ _ _ _ _ _ _ _ _ _ _ _ _ _ _ _ G_l_draw (hr.mono (by omega)) rfl m_l_draw k_l_draw b_l_draw .nil aB (@ac _ _ _ _ _ (pv 0) (@ac _ _ _ _ _ (@ap _ _ _ _ _ _ _ _ _ aA rfl T.len cb (@ac _ _ _ _ _ (pv 1) af (aa rfl)) (by decide) (by decide) (aa rfl) (ah rfl)) af (aa rfl)) (aa rfl)) (by decide) (aa rfl) (ah rfl)) (fun _ _=>rfl))))),?_⟩
 refine ⟨_,rfl,_,rfl,(by show 0≤sizeLine; decide),fun p1 h1=>?_⟩
 have s1:=ae h1 (.tup [])
 refine ⟨(by show 1≤sizeLine; decide),fun p2 h2=>?_⟩
 have s2:=ae h2 (.tup [.int 0])
 refine ⟨(by show 0≤sizeLine; decide),fun p3 h3=>?_⟩
 have s3:=ae h3 (.lst [])
 refine ⟨(by show 1≤sizeLine; decide),fun p4 h4=>?_⟩
 have s4:=ae h4 (.lst [.int 0])
 refine ⟨(by show 0≤sizeLine; decide),fun p5 h5=>?_⟩
 have s5:=ae h5 (.tup [])
 refine ⟨(by show 1≤sizeLine; decide),fun p6 h6=>?_⟩
 have s6:=ae h6 (.tup [.ref p5])
 refine ⟨(by show 1≤sizeLine; decide),fun p7 h7=>?_⟩
 have s7:=ae h7 (.tup [.str "a"])
 refine ⟨(by show 1≤sizeLine; decide),fun p8 h8=>?_⟩
 have s8:=ae h8 (.tup [.bl true])
 refine ⟨(by show 20≤sizeLine; decide),fun l hl=>?_⟩
 have s9:=ae hl (.lst [.non,.bl true,.bl false,.int 0,.int (-1),.int 10,.int (-10),.int 4,.int 127,.int 31,.str "",.str "a",.str "abcd",.ref p1,.ref p2,.ref p3,.ref p4,.ref p6,.ref p7,.ref p8])
 have f1:=hf.same s1
 have f2:=f1.same s2
 have f3:=f2.same s3
 have f4:=f3.same s4
 have f5:=f4.same s5
 have f6:=f5.same s6
 have f7:=f6.same s7
 have f8:=f7.same s8
 have f9:=f8.same s9
 have S:=(((((((s1.trans s2).trans s3).trans s4).trans s5).trans s6).trans s7).trans s8).trans s9
 refine ⟨_,rfl,_,rfl,_,rfl,l,_,rfl,.inl (SqL.of ad),fp,_,sc,m,rfl,f9,by omega,by simp,by simp,fun v H' a1 b1 x1 g1=>?_⟩
 obtain ⟨u,hu,_,hat⟩:=dO a1 b1
 refine ⟨l,_,_,_,rfl,rfl,SqL.of (x1 _ _ (f8.ne hl).1 ad),hat,?_⟩
 have X:Ext fp H H':=(ar.ext S).trans x1
 have n1:=(hf.ne h1).1
 have n2:=(f1.ne h2).1
 have n3:=(f2.ne h3).1
 have n4:=(f3.ne h4).1
 have n5:=(f4.ne h5).1
 have n6:=(f5.ne h6).1
 have n7:=(f6.ne h7).1
 have n8:=(f7.ne h8).1
 have e1:=x1 _ _ n1 (s9 _ _ (s8 _ _ (s7 _ _ (s6 _ _ (s5 _ _ (s4 _ _ (s3 _ _ (s2 _ _ ad))))))))
 have e2:=x1 _ _ n2 (s9 _ _ (s8 _ _ (s7 _ _ (s6 _ _ (s5 _ _ (s4 _ _ (s3 _ _ ad)))))))
 have e3:=x1 _ _ n3 (s9 _ _ (s8 _ _ (s7 _ _ (s6 _ _ (s5 _ _ (s4 _ _ ad))))))
 have e4:=x1 _ _ n4 (s9 _ _ (s8 _ _ (s7 _ _ (s6 _ _ (s5 _ _ ad)))))
 have e5:=x1 _ _ n5 (s9 _ _ (s8 _ _ (s7 _ _ (s6 _ _ ad))))
 have e6:=x1 _ _ n6 (s9 _ _ (s8 _ _ (s7 _ _ ad)))
 have e7:=x1 _ _ n7 (s9 _ _ (s8 _ _ ad))
 have e8:=x1 _ _ n8 (s9 _ _ ad)
 have nz:∀ {p Hi q},ar H Hi→Hi p=none→H q≠none→p≠q:=fun {p Hi q} g a b e=>ar.kp g b (e ▸ a)
 have t2:=s1.trans s2
 have t3:=t2.trans s3
 have t4:=t3.trans s4
 have t5:=t4.trans s5
 have t6:=t5.trans s6
 have t7:=t6.trans s7
 have fin:∀ d,(∀ p,H p≠none→DA p H' u d)→gt 100 d=true→Q u H':=fun d hd hg=>q u d H' X g1 hd hg
 simp only [List.mem_cons,List.not_mem_nil,or_false] at hu
 rcases hu with rfl | rfl | rfl | rfl | rfl | rfl | rfl | rfl | rfl | rfl | rfl | rfl | rfl | rfl | rfl | rfl | rfl | rfl | rfl | rfl
 ·exact fin _ (fun _ _=>.non) rfl
 ·exact fin _ (fun _ _=>.bl _) rfl
 ·exact fin _ (fun _ _=>.bl _) rfl
 ·exact fin _ (fun _ _=>.int _) rfl
 ·exact fin _ (fun _ _=>.int _) rfl
 ·exact fin _ (fun _ _=>.int _) rfl
 ·exact fin _ (fun _ _=>.int _) rfl
 ·exact fin _ (fun _ _=>.int _) rfl
 ·exact fin _ (fun _ _=>.int _) rfl
 ·exact fin _ (fun _ _=>.int _) rfl
 ·exact fin _ (fun _ _=>.str _ (by decide +kernel)) (by decide +kernel)
 ·exact fin _ (fun _ _=>.str _ (by decide +kernel)) (by decide +kernel)
 ·exact fin _ (fun _ _=>.str _ (by decide +kernel)) (by decide +kernel)
 ·exact fin _ (fun p hp=>.tup ⟨nz (ar.refl _) h1 hp,by simp⟩ e1 .nil) (by decide +kernel)
 ·exact fin _ (fun p hp=>.tup ⟨nz s1 h2 hp,by simp⟩ e2 (.cons (.int _) .nil)) (by decide +kernel)
 ·exact fin _ (fun p hp=>.lst ⟨nz t2 h3 hp,by simp⟩ e3 .nil) (by decide +kernel)
 ·exact fin _ (fun p hp=>.lst ⟨nz t3 h4 hp,by simp⟩ e4 (.cons (.int _) .nil)) (by decide +kernel)
 ·exact fin _ (fun p hp=>.tup ⟨nz t5 h6 hp,by simp⟩ e6 (.cons (.tup ⟨nz t4 h5 hp,by simp⟩ e5 .nil) .nil)) (by decide +kernel)
 ·exact fin _ (fun p hp=>.tup ⟨nz t6 h7 hp,by simp⟩ e7 (.cons (.str _ (by decide +kernel)) .nil)) (by decide +kernel)
 ·exact fin _ (fun p hp=>.tup ⟨nz t7 h8 hp,by simp⟩ e8 (.cons (.bl _) .nil)) (by decide +kernel)
abbrev vI:List Str:=["_law_feed_here", "_law_thing", "_law_deep", "_law_row", "_law_at", "_law_way"]
theorem ga:aK vI ["_law_feed_here", "_law_thing", "_law_deep"] (defScope fQ):=⟨rfl,rfl,rfl,by decide +kernel,rfl,by decide +kernel,by decide +kernel⟩
abbrev pBt:List Str:=["_law_feed_here", "_law_thing", "_law_deep"]
def kH (n:Nat):Sp:=fun vs H Q _=>∃ fp sc m u d,vs=[.ref fp,u,.int (n:Int)]∧Fd H fp sc m∧m+4*n+4≤900∧DA fp H u d∧gt 100 d=true∧∀ u' d' H',Ext fp H H'→Fd H' fp sc (m+4*n+4)→(∀ l,H l≠none→DA l H u d→DA l H' u' d')→gt 101 d'=true→Q u' H'
theorem sf {n r0:Nat} {spC:Sp} (hrm:r0≤n+2) (hR:∀ k,n=k+1→∀ vs H Q E,kH k vs H Q E→spC vs H Q E) (T:G0 mg) (F:Fun K "_law_bent" "_law_bent" fQ f fd) (D_l_odd:Cal P w K mg base 2 "_law_odd" ["_law_feed_here"] nG) (D_l_bent:Cal P w K mg base r0 "_law_bent" pBt spC) (D_l_draw:Cal P w K mg base 1 "_law_draw" ["_law_feed_here", "_law_many_here"] oJ):aU P w K mg base CX0 (n+3) f fd pBt (kH n):=by
 obtain ⟨g_l_odd,gd_l_odd,G_l_odd,b_l_odd,k_l_odd,m_l_odd⟩:=D_l_odd.ex
 obtain ⟨g_l_bent,gd_l_bent,G_l_bent,b_l_bent,k_l_bent,m_l_bent⟩:=D_l_bent.ex
 obtain ⟨g_l_draw,gd_l_draw,G_l_draw,b_l_draw,k_l_draw,m_l_draw⟩:=D_l_draw.ex
 refine F.ok ga (fun vs H Q E h=>?_) (fun cdv A outer s H vs Q E hr h=>?_)
 ·obtain ⟨fp,sc,m,u,d,rfl,_⟩:=h
  rfl
 obtain ⟨fp,sc,m,u,d,rfl,hf,hm,hd,hg,q⟩:=h
 refine ⟨_,(@aj _ _ _ _ _ (@bj _ _ _ _ _ _ _ _ (PW.pt (ft (cI (bX (@ap _ _ _ _ _ _ _ _ _ bm rfl T.isi cL (@ac _ _ _ _ _ (pv 1) (@ac _ _ _ _ _ (bw (v:=.ty "tuple") rfl T.tuple bI rfl) af (aa rfl)) (aa rfl)) (by decide) (by decide) (aa rfl) (ah rfl)))) (ft (@aE _ _ _ _ _ _ _ _ bO (pv 2) ag (aO _)) (eB (@aE _ _ _ _ _ _ _ _ bO (@ao _ _ _ _ _ _ _ _ _ _ _ _ _ _ _ _ G_l_draw (hr.mono (by omega)) rfl m_l_draw k_l_draw b_l_draw .nil aB (@ac _ _ _ _ _ (pv 0) (@ac _ _ _ _ _ ag af (aa rfl)) (aa rfl)) (by decide) (aa rfl) (ah rfl)) ag (aO _)))))) (@al _ _ _ (@ay _ _ _ _ (@iq _ _ _ _ _ _ _ _ (PW.pt (qh (bX (@ap _ _ _ _ _ _ _ _ _ bm rfl T.isi cL (@ac _ _ _ _ _ (pv 1) (@ac _ _ _ _ _ (bw (v:=.ty "tuple") rfl T.tuple bI rfl) af (aa rfl)) (aa rfl)) (by decide) (by decide) (aa rfl) (ah rfl))) (nA (@aE _ _ _ _ _ _ _ _ bO (@ao _ _ _ _ _ _ _ _ _ _ _ _ _ _ _ _ G_l_draw (hr.mono (by omega)) rfl m_l_draw k_l_draw b_l_draw .nil aB (@ac _ _ _ _ _ (pv 0) (@ac _ _ _ _ _ ag af (aa rfl)) (aa rfl)) (by decide) (aa rfl) (ah rfl)) ag (aO _))))) (@aZ _ _ _ _ _ _ _ _ _ fj rfl T.list ny (@ac _ _ _ _ _ (pv 1) af (aa rfl)) (by decide) (by decide) (aa rfl) (ah rfl)) (@ao _ _ _ _ _ _ _ _ _ _ _ _ _ _ _ _ G_l_odd (hr.mono (by omega)) rfl m_l_odd k_l_odd b_l_odd .nil aB (@ac _ _ _ _ _ (pv 0) af (aa rfl)) (by decide) (aa rfl) (ah rfl))))) aL) (@aj _ _ _ _ _ (@aC _ _ 3 _ _ _ _ ga.nd rfl (Or.inl rfl) (@aZ _ _ _ _ _ _ _ _ _ fj rfl T.list ny (@ac _ _ _ _ _ (pv 1) af (aa rfl)) (by decide) (by decide) (aa rfl) (ah rfl)) (am rfl) (.inr rfl)) (@aj _ _ _ _ _ (@aC _ _ 4 _ _ _ _ ga.nd rfl (Or.inl rfl) (@ao _ _ _ _ _ _ _ _ _ _ _ _ _ _ _ _ G_l_draw (hr.mono (by omega)) rfl m_l_draw k_l_draw b_l_draw .nil aB (@ac _ _ _ _ _ (pv 0) (@ac _ _ _ _ _ (@aS _ _ _ _ _ _ _ _ bQ (@ap _ _ _ _ _ _ _ _ _ aA rfl T.len cb (@ac _ _ _ _ _ (pv 3) af (aa rfl)) (by decide) (by decide) (aa rfl) (ah rfl)) ag) af (aa rfl)) (aa rfl)) (by decide) (aa rfl) (ah rfl)) (am rfl) (.inr rfl)) (@aj _ _ _ _ _ (@aC _ _ 5 _ _ _ _ ga.nd rfl (Or.inl rfl) (@ao _ _ _ _ _ _ _ _ _ _ _ _ _ _ _ _ G_l_draw (hr.mono (by omega)) rfl m_l_draw k_l_draw b_l_draw .nil aB (@ac _ _ _ _ _ (pv 0) (@ac _ _ _ _ _ ag af (aa rfl)) (aa rfl)) (by decide) (aa rfl) (ah rfl)) (am rfl) (.inr rfl)) (@aj _ _ _ _ _ (@bj _ _ _ _ _ _ _ _ (PW.pt (ft (@aE _ _ _ _ _ _ _ _ bO (pv 5) ag (aO _)) (eB (@aE _ _ _ _ _ _ _ _ bO (pv 4) (@ap _ _ _ _ _ _ _ _ _ aA rfl T.len cb (@ac _ _ _ _ _ (pv 3) af (aa rfl)) (by decide) (by decide) (aa rfl) (ah rfl)) (aO _))))) (@al _ _ _ (@cQ _ _ _ _ (@eX _ _ _ _ _ _ _ _ _ _ _ _ PySem.F.plainAttrs_list PySem.F.slot_list_insert PySem.F.type_list_insert sn (pv 3) (@ac _ _ _ _ _ (pv 4) (@ac _ _ _ _ _ (@ao _ _ _ _ _ _ _ _ _ _ _ _ _ _ _ _ G_l_odd (hr.mono (by omega)) rfl m_l_odd k_l_odd b_l_odd .nil aB (@ac _ _ _ _ _ (pv 0) af (aa rfl)) (by decide) (aa rfl) (ah rfl)) af (aa rfl)) (aa rfl)) rfl (cW rfl rfl) rfl (aa rfl) (ah rfl)) (am rfl))) (@al _ _ _ (@bj _ _ _ _ _ _ _ _ (@aE _ _ _ _ _ _ _ _ bO (pv 5) ag (aO _)) (@al _ _ _ (@cQ _ _ _ _ (@eX _ _ _ _ _ _ _ _ _ _ _ _ PySem.F.plainAttrs_list PySem.F.slot_list_pop PySem.F.type_list_pop oj (pv 3) (@ac _ _ _ _ _ (pv 4) af (aa rfl)) rfl (cW rfl rfl) rfl (aa rfl) (ah rfl)) (am rfl))) (@al _ _ _ (@eE _ _ _ _ _ _ (@ao _ _ _ _ _ _ _ _ _ _ _ _ _ _ _ _ G_l_bent (hr.mono (by omega)) rfl m_l_bent k_l_bent b_l_bent .nil aB (@ac _ _ _ _ _ (pv 0) (@ac _ _ _ _ _ (@av _ _ _ _ _ _ _ aF (pv 3) (pv 4) (fun _ _=>rfl)) (@ac _ _ _ _ _ (@aS _ _ _ _ _ _ _ _ lc (pv 2) ag) af (aa rfl)) (aa rfl)) (aa rfl)) (by decide) (aa rfl) (ah rfl)) (dW (pv 3) (pv 4) cv) rfl rfl rfl))))) (@al _ _ _ (@ay _ _ _ _ (@aZ _ _ _ _ _ _ _ _ _ bt rfl T.tuple bI (@ac _ _ _ _ _ (pv 3) af (aa rfl)) (by decide) (by decide) (aa rfl) (ah rfl))))))))),?_⟩
 have od:∀ {C:VK},C=Q→(∃ fp' sc' m',[V.ref fp]=[.ref fp']∧Fd H fp' sc' m'∧m'≤900∧∀ u d H',Ext fp' H H'→Fd H' fp' sc' (m'+1)→(∀ l,H l≠none→DA l H' u d)→gt 100 d=true→C u H'):=fun {C} e=>⟨fp,sc,m,rfl,hf,by omega,fun u' d' H3 x3 f3 hd3 hg3=>e ▸ q u' d' H3 x3 (f3.le (by omega)) (fun p hp _=>hd3 p hp) (ca (by decide) hg3)⟩
 cases hd with
 | non =>
  refine ⟨_,rfl,_,_,_,false,rfl,.non,rfl,_,rfl,aN (aN ?_)⟩
  refine ⟨_,rfl,_,_,_,false,rfl,.non,rfl,_,rfl,bp ⟨_,rfl,?_⟩⟩
  exact od rfl
 | bl b =>
  refine ⟨_,rfl,_,_,_,false,rfl,.bl b,rfl,_,rfl,aN (aN ?_)⟩
  refine ⟨_,rfl,_,_,_,false,rfl,.bl b,rfl,_,rfl,bp ⟨_,rfl,?_⟩⟩
  exact od rfl
 | int i =>
  refine ⟨_,rfl,_,_,_,false,rfl,.int i,rfl,_,rfl,aN (aN ?_)⟩
  refine ⟨_,rfl,_,_,_,false,rfl,.int i,rfl,_,rfl,bp ⟨_,rfl,?_⟩⟩
  exact od rfl
 | str z l =>
  refine ⟨_,rfl,_,_,_,false,rfl,.str z,rfl,_,rfl,aN (aN ?_)⟩
  refine ⟨_,rfl,_,_,_,false,rfl,.str z,rfl,_,rfl,bp ⟨_,rfl,?_⟩⟩
  exact od rfl
 | lst nn h rr =>
  refine ⟨_,rfl,_,_,_,false,rfl,.lst h,rfl,_,rfl,aN (aN ?_)⟩
  refine ⟨_,rfl,_,_,_,false,rfl,.lst h,rfl,_,rfl,bp ⟨_,rfl,?_⟩⟩
  exact od rfl
 | @tup a xs ds nn h rr =>
  have lx:=rr.len
  simp only [gt,Bool.and_eq_true,decide_eq_true_eq] at hg
  have hgm:=jQ hg.2
  refine ⟨_,rfl,_,_,_,true,rfl,.tup h,rfl,_,rfl,bp ?_⟩
  refine ⟨_,rfl,rfl,_,rfl,?_⟩
  refine aX (fun c0=>?_) (fun c0=>?_)
  ·refine aN ?_
   have xx:Ext fp H H:=Ext.refl _ _
   have ff:=hf
   refine ⟨_,rfl,_,_,_,true,rfl,.tup (xx _ _ nn.1 h),rfl,_,rfl,aN ?_⟩
   refine ⟨_,rfl,fp,3,sc,_,rfl,ff,by omega,by decide,by decide,fun w2 H2 a2 b2 x2 f2=>?_⟩
   refine ⟨rfl,_,rfl,?_⟩
   have xx2:=xx.trans x2
   refine aX (fun c2=>?_) (fun c2=>?_)
   ·refine ⟨_,rfl,a,xs,rfl,.inr (SqT.of (xx2 _ _ nn.1 h)),fun l hl=>?_⟩
    have nl:=f2.ne hl
    have sl:=ae hl (.lst xs)
    have xl:=xx2.trans (ar.ext sl)
    exact q (.ref l) (.list ds) _ xl ((f2.same sl).le (by omega)) (fun p hp hq=>by
     cases hq with
     | tup n' h' r' =>
      cases h.symm.trans h'
      exact .lst ⟨fun e=>xx2.kp f2 hp (e ▸ hl),nn.2⟩ ad (rr.lift xl r')) rfl
   ·exact ⟨_,rfl,fp,sc,_,rfl,f2,by omega,fun u' d' H3 x3 f3 hd3 hg3=>q u' d' H3 (xx2.trans x3) (f3.le (by omega)) (fun p hp _=>hd3 p (xx2.kp f2 hp)) (ca (by decide) hg3)⟩
  have n0:n≠0:=by
   intro e
   subst e
   simp at c0
  obtain ⟨k,rfl⟩:∃ k,n=k+1:=⟨n - 1,by omega⟩
  refine ⟨_,rfl,fp,6,sc,_,rfl,hf,by omega,by decide,by decide,fun w2 H1 a2 b2 xx ff=>?_⟩
  refine ⟨rfl,_,rfl,?_⟩
  refine aX (fun c1=>?_) (fun c1=>?_)
  ·refine ⟨_,rfl,_,_,_,true,rfl,.tup (xx _ _ nn.1 h),rfl,_,rfl,aN ?_⟩
   refine ⟨_,rfl,fp,3,sc,_,rfl,ff,by omega,by decide,by decide,fun w2 H2 a2 b2 x2 f2=>?_⟩
   refine ⟨rfl,_,rfl,?_⟩
   have xx2:=xx.trans x2
   refine aX (fun c2=>?_) (fun c2=>?_)
   ·refine ⟨_,rfl,a,xs,rfl,.inr (SqT.of (xx2 _ _ nn.1 h)),fun l hl=>?_⟩
    have nl:=f2.ne hl
    have sl:=ae hl (.lst xs)
    have xl:=xx2.trans (ar.ext sl)
    exact q (.ref l) (.list ds) _ xl ((f2.same sl).le (by omega)) (fun p hp hq=>by
     cases hq with
     | tup n' h' r' =>
      cases h.symm.trans h'
      exact .lst ⟨fun e=>xx2.kp f2 hp (e ▸ hl),nn.2⟩ ad (rr.lift xl r')) rfl
   ·exact ⟨_,rfl,fp,sc,_,rfl,f2,by omega,fun u' d' H3 x3 f3 hd3 hg3=>q u' d' H3 (xx2.trans x3) (f3.le (by omega)) (fun p hp _=>hd3 p (xx2.kp f2 hp)) (ca (by decide) hg3)⟩
  have h1:=xx _ _ nn.1 h
  refine ⟨_,rfl,a,xs,rfl,.inr (SqT.of h1),fun l hl=>?_⟩
  have nl:=ff.ne hl
  have sl:=ae hl (.lst xs)
  have xl:=xx.trans (ar.ext sl)
  have fl:=ff.same sl
  refine ⟨_,rfl,_,rfl,l,xs,rfl,.inl (SqL.of ad),?_⟩
  refine ⟨_,_,rfl,rfl,?_⟩
  refine ⟨fp,_,sc,_,rfl,fl,by omega,by omega,by omega,fun w3 H3 a3 b3 x3 f3=>?_⟩
  refine ⟨_,rfl,fp,4,sc,_,rfl,f3,by omega,by decide,by decide,fun w4 H4 a4 b4 x4 f4=>?_⟩
  have xL:H4 l=some (.lst xs):=x4 _ _ nl.1 (x3 _ _ nl.1 ad)
  have X:=(xl.trans x3).trans x4
  have Hl:H l=none:=xx.free nl.1 hl
  have lne:∀ {p},H p≠none→p≠l:=fun hp e=>hp (e ▸ Hl)
  have L1:DAs l H xs ds:=rr.fresh Hl
  have T9:∀ {H5 zs es},Ext fp H H5→H5 l=some (.lst zs)→Fd H5 fp sc (m+4*(k+1)+4)→(∀ p,H p≠none→DAs p H xs ds→DAs p H5 zs es)→es.length≤101→(∀ d∈es,gt 101 d=true)→∀ t,H5 t=none→Q (.ref t) (L2.upd H5 t (.tup zs)):=by
   intro H5 zs es x5 h5 f5 g5 le5 gt5 t ht
   have lz:=(g5 _ hf.some rr).len
   have st:=ae ht (.tup zs)
   refine q (.ref t) (.tuple es) _ (x5.trans (ar.ext st)) (f5.same st) (fun p hp hq=>?_) ?_
   ·cases hq with
    | tup n' h' r' =>
     cases h.symm.trans h'
     exact .tup ⟨fun e=>x5.kp f5 hp (e ▸ ht),by omega⟩ ad ((g5 p hp r').same st)
   ·simp only [gt,Bool.and_eq_true,decide_eq_true_eq]
    exact ⟨le5,vM gt5⟩
  refine ⟨_,rfl,rfl,_,rfl,?_⟩
  refine aX (fun c2=>?_) (fun c2=>?_)
  ·refine aN ?_
   refine ⟨_,rfl,.inl ⟨rfl,_,SqL.of xL⟩,_,rfl,_,rfl,fp,sc,_,rfl,f4,by omega,fun y e H5 x5 f5 hd5 hg5=>?_⟩
   have E5:=(X.trans x5).put (o:=.lst (xs.take w3.toNat++y::xs.drop w3.toNat)) Hl
   refine ⟨l,xs,w3,y,rfl,rfl,x5 _ _ nl.1 xL,a3,by omega,Nat.lt_of_le_of_lt (show xs.length≤100 by omega) (by decide),⟨_,rfl,l,_,rfl,.inl ⟨SqL.of ad,T9 (es:=ds.take w3.toNat++e::ds.drop w3.toNat) E5 ad ((f5.upd nl).le (by omega)) (fun p hp hq=>?_) (by rw [List.length_append,List.length_cons,List.length_take,List.length_drop]; omega) (fun d hd=>?_)⟩⟩⟩
   ·have z:=rr.lift E5 hq
    exact DAs.app (DAs.take _ z) (.cons (DA.put (hd5 p (X.kp f4 hp)) (hd5 l (by rw [xL]; exact fun z=>nomatch z))) (DAs.drop _ z))
   ·rcases List.mem_append.mp hd with hd | hd
    ·exact ca (by decide) (hgm d (List.mem_of_mem_take hd))
    ·rcases List.mem_cons.mp hd with rfl | hd
     ·exact ca (by decide) hg5
     ·exact ca (by decide) (hgm d (List.mem_of_mem_drop hd))
  refine ⟨_,rfl,_,rfl,l,xs,rfl,.inl (SqL.of xL),rfl,_,rfl,?_⟩
  refine aX (fun c3=>?_) (fun c3=>?_)
  ·refine ⟨_,rfl,.inl ⟨rfl,_,SqL.of xL⟩,_,rfl,_,rfl,fp,sc,_,rfl,f4,by omega,fun y e H5 x5 f5 hd5 hg5=>?_⟩
   have E5:=(X.trans x5).put (o:=.lst (xs.take w3.toNat++y::xs.drop w3.toNat)) Hl
   refine ⟨l,xs,w3,y,rfl,rfl,x5 _ _ nl.1 xL,a3,by omega,Nat.lt_of_le_of_lt (show xs.length≤100 by omega) (by decide),⟨_,rfl,l,_,rfl,.inl ⟨SqL.of ad,T9 (es:=ds.take w3.toNat++e::ds.drop w3.toNat) E5 ad ((f5.upd nl).le (by omega)) (fun p hp hq=>?_) (by rw [List.length_append,List.length_cons,List.length_take,List.length_drop]; omega) (fun d hd=>?_)⟩⟩⟩
   ·have z:=rr.lift E5 hq
    exact DAs.app (DAs.take _ z) (.cons (DA.put (hd5 p (X.kp f4 hp)) (hd5 l (by rw [xL]; exact fun z=>nomatch z))) (DAs.drop _ z))
   ·rcases List.mem_append.mp hd with hd | hd
    ·exact ca (by decide) (hgm d (List.mem_of_mem_take hd))
    ·rcases List.mem_cons.mp hd with rfl | hd
     ·exact ca (by decide) hg5
     ·exact ca (by decide) (hgm d (List.mem_of_mem_drop hd))
  have d3:w3<xs.length:=by
   have:w3≠xs.length:=fun e=>by simp [e] at c3
   omega
  refine ⟨_,rfl,rfl,_,rfl,?_⟩
  refine aX (fun c4=>?_) (fun c4=>?_)
  ·obtain ⟨y,_,hy,_⟩:=dO a3 d3
   have E5:=X.put (o:=.lst (xs.eraseIdx w3.toNat)) Hl
   refine ⟨_,rfl,.inl ⟨rfl,_,SqL.of xL⟩,_,rfl,l,xs,w3,w3.toNat,y,rfl,rfl,xL,by omega,by omega,seqIndex_of a3 d3,hy,⟨_,rfl,l,_,rfl,.inl ⟨SqL.of ad,T9 (es:=ds.eraseIdx w3.toNat) E5 ad ((f4.upd nl).le (by omega)) (fun p hp hq=>DAs.erase _ (rr.lift E5 hq)) (Nat.le_trans (List.length_eraseIdx_le _ _) (by omega)) (fun d hd=>ca (by decide) (hgm d (List.mem_of_mem_eraseIdx hd)))⟩⟩⟩
  ·obtain ⟨y,hym,hy,hat⟩:=dO a3 d3
   obtain ⟨d2,hd2,hD2⟩:=rr.get _ _ hy
   have hb:=hR k rfl
   refine ⟨_,rfl,_,rfl,_,rfl,l,xs,_,y,rfl,rfl,SqL.of xL,hat,_,rfl,_,_,rfl,rfl,hb _ _ _ _ ⟨fp,sc,_,y,d2,?_,f4,by omega,hD2.mono X,hgm _ (List.mem_of_getElem? hd2),fun u' d' H5 x5 f5 hd5 hg5=>?_⟩⟩
   ·show [V.ref fp,y,V.int (((k+1:Nat):Int) - 1)]=_
    rw [show ((k+1:Nat):Int) - 1=(k:Int) by omega]
   have E5:=(X.trans x5).put (o:=.lst (xs.set w3.toNat u')) Hl
   refine ⟨_,rfl,_,rfl,l,xs,w3,w3.toNat,rfl,rfl,x5 _ _ nl.1 xL,by unfold ixN; rw [if_pos a3,if_pos d3],⟨_,rfl,l,_,rfl,.inl ⟨SqL.of ad,T9 (es:=ds.set w3.toNat d') E5 ad ((f5.upd nl).le (by omega)) (fun p hp hq=>?_) (by rw [List.length_set]; omega) (fun d hd=>?_)⟩⟩⟩
   ·obtain ⟨d3',hd3',hD3⟩:=hq.get _ _ hy
    have l4:DA l H4 y d2:=hD2.lift X (hD2.fresh Hl)
    refine DAs.set (DA.put (hd5 p (X.kp f4 hp) ?_) (hd5 l (by rw [xL]; exact fun z=>nomatch z) l4)) _ (rr.lift E5 hq)
    rw [hd2] at hd3'
    cases hd3'
    exact hD2.lift X hD3
   ·rcases List.mem_or_eq_of_mem_set hd with hd | rfl
    ·exact ca (by decide) (hgm d hd)
    ·exact hg5
end
open PySem L2
theorem uK {R:List Rec} {n:Nat} {r:Rm} {l:List Fld} {ds:List PyData} (hd:∀ p∈l,cu R n p.2):inB R n r l (.tuple ds)=(decide (ds.length=l.length)&&(l.zip ds).all fun p=>lin R n r p.1.2 p.2):=by
 have e1:jA (isV R n) (l.map (·.2)) (.tuple ds)=(decide (ds.length=l.length)&&(l.zip ds).all fun p=>isV R n p.1.2 p.2):=by
  show (decide (ds.length=(l.map (·.2)).length)&&((l.map (·.2)).zip ds).all fun p=>isV R n p.1 p.2)=_
  rw [uG,List.all_map,List.length_map]
  rfl
 show (jA (isV R n) (l.map (·.2)) (.tuple ds)&&(fH (cw R n) (l.map (·.2)) ds).all (br r))=_
 rw [e1,gk,kN,Bool.and_assoc]
 congr 1
 have le:∀ p∈l.zip ds,lin R n r p.1.2 p.2=(isV R n p.1.2 p.2&&(cw R n p.1.2 p.2).all (br r)):=fun p hp=>ub (hd p.1 (List.of_mem_zip hp).1)
 rw [Bool.eq_iff_iff,Bool.and_eq_true,List.all_eq_true,List.all_eq_true,List.all_eq_true]
 constructor
 ·intro h p hp
  rw [le p hp,Bool.and_eq_true]
  exact ⟨h.1 p hp,h.2 p hp⟩
 ·intro h
  refine ⟨fun p hp=>?_,fun p hp=>?_⟩
  ·have h':=h p hp
   rw [le p hp,Bool.and_eq_true] at h'
   exact h'.1
  ·have h':=h p hp
   rw [le p hp,Bool.and_eq_true] at h'
   exact h'.2
structure vZ (R:List Rec) (FS:List lB):Prop where
 rn:(R.map (·.1)).Nodup
 rl:R.length≤2
 fn:(FS.map (·.1)).Nodup
 fl:∀ F∈FS,F.2.length≤3∧∀ p∈F.2,cu R 4 p.2
theorem nK {F:lB}:∀ {FS:List lB} {i:Nat},(FS.map (·.1)).Nodup→FS[i]?=some F→iK FS F.1=some F
 | [],_,_,h=>nomatch h
 | G::r,0,_,h=>by
  cases Option.some.inj h
  unfold iK
  rw [List.find?_cons_of_pos (by simp)]
 | G::r,i+1,n,h=>by
  have n':=List.nodup_cons.mp n
  have:F∈r:=List.mem_of_getElem? h
  have ne:G.1≠F.1:=fun e=>n'.1 (by show G.1∈_; rw [e]; exact List.mem_map_of_mem this)
  unfold iK
  rw [List.find?_cons_of_neg (by simpa using ne)]
  exact nK n'.2 h
theorem lq {α:Type} {xs:List α} {i:Nat} {x:α} (h:xs[i]?=some x):atI xs (i:Int)=some x:=by
 have:=sM (j:=i) h
 rwa [Int.zero_add] at this
section
variable {P:Program} {w:World} {K:Frag} {mg:Str→Option Value} {base:Heap} {f g:Addr} {fd gd:FuncData}
abbrev iO:List Str:=["_law_program", "_law_f", "_law_room_here", "_law_thing", "_law_kinds", "_law_due", "_law_told"]
abbrev ir:List Str:=["_law_k", "_law_room_here", "_law_program", "_law_kinds", "_law_thing"]
theorem lJ:ir.Nodup:=by decide +kernel
abbrev iN:List Str:=["_law_name", "_law_kind"]
theorem gN:iN.Nodup:=by decide +kernel
theorem dN:aK iO ["_law_program", "_law_f", "_law_room_here", "_law_thing"] (defScope dH):=⟨rfl,rfl,rfl,by decide +kernel,rfl,by decide +kernel,by decide +kernel⟩
def rH (tp:Addr):Sp:=fun vs H Q _=>∃ pg i R FS F rv r u d,vs=[pg,.int (i:Nat),rv,u]∧ij H pg R FS∧vZ R FS∧FS[i]?=some F∧jy H rv r∧DA tp H u d∧gt 101 d=true∧∀ H',ar H H'→Q (.bl true) H'
theorem uc (tp:Addr) (T:G0 mg) (F:Fun K "_law_right" "_law_right" dH f fd) (D_in_room:Cal P w K mg base 11 "in_room" ["program", "f", "room", "thing"] (yG tp 4)) (D_l_is_in:Cal P w K mg base 6 "_law_is_in" qi (lT tp 4)):aU P w K mg base CX0 12 f fd ["_law_program", "_law_f", "_law_room_here", "_law_thing"] (rH tp):=by
 obtain ⟨g_in_room,gd_in_room,G_in_room,b_in_room,k_in_room,m_in_room⟩:=D_in_room.ex
 obtain ⟨g_l_is_in,gd_l_is_in,G_l_is_in,b_l_is_in,k_l_is_in,m_l_is_in⟩:=D_l_is_in.ex
 refine F.ok dN (fun vs H Q E h=>?_) (fun cdv A outer s H vs Q E hr h=>?_)
 ·obtain ⟨pg,i,R,FS,F,rv,r,u,d,rfl,_⟩:=h
  rfl
 obtain ⟨pg,i,R,FS,FF,rv,r,u,d,rfl,hp,hpg,hF,⟨rp,rfl,hrp⟩,hd,hg,q⟩:=h
 obtain ⟨hl,hDp⟩:=hpg.fl FF (List.mem_of_getElem? hF)
 have hfi:=nK hpg.fn hF
 obtain ⟨a,y,b,fs,rfl,ha,hRc,hb,pf⟩:=id hp
 obtain ⟨fx,hfx,c,yy,l0,b',rfl,hc,pb,xs,rfl,hpb,rs⟩:∃ fx,fs[i]?=some fx∧iE H fx FF:=by
  obtain ⟨fx,h1⟩:∃ fx,fs[i]?=some fx:=⟨_,List.getElem?_eq_getElem (by rw [Paired.length pf]; exact (List.getElem?_eq_some_iff.mp hF).1)⟩
  obtain ⟨F2,h2,h3⟩:=aJ pf i fx h1
  rw [hF] at h2
  cases h2
  exact ⟨fx,h1,h3⟩
 refine ⟨_,(@aj _ _ _ _ _ (@aC _ _ 4 _ _ _ _ dN.nd rfl (Or.inr rfl) (aW (N':=iN) (ρ:=[none,none]) (m:=2) (bo.of (fs:=defScope dH) (N:=iO) rfl rfl (by decide +kernel)) rfl (bZ (av aH (av aH (av aH (pv 0) ag (fun _ _=>rfl)) (pv 1) (fun _ _=>rfl)) ag (fun _ _=>rfl))) (fun _ _ _ _=>(fZ (n:=2) (K:=K) rfl rfl (aG (au (i:=0) gN rfl (Or.inl rfl)) (aG (au (i:=1) gN rfl (Or.inl rfl)) bJ)))) (fun _ _ _ _=>bg) (fun _ _ _ _=>(pv 1))) rfl (.inl rfl)) (@aj _ _ _ _ _ (@aC _ _ 5 _ _ _ _ dN.nd rfl (Or.inl rfl) (dh (@ap _ _ _ _ _ _ _ _ _ bm rfl T.isi cL (@ac _ _ _ _ _ (pv 3) (@ac _ _ _ _ _ (bw (v:=.ty "tuple") rfl T.tuple bI rfl) af (aa rfl)) (aa rfl)) (by decide) (by decide) (aa rfl) (ah rfl)) (dJ (@cX _ _ _ _ _ _ _ _ bO (@ap _ _ _ _ _ _ _ _ _ aA rfl T.len cb (@ac _ _ _ _ _ (pv 3) af (aa rfl)) (by decide) (by decide) (aa rfl) (ah rfl)) (@ap _ _ _ _ _ _ _ _ _ aA rfl T.len cb (@ac _ _ _ _ _ (pv 4) af (aa rfl)) (by decide) (by decide) (aa rfl) (ah rfl)) (aO _)))) (am rfl) (.inr rfl)) (@aj _ _ _ _ _ (@bj _ _ _ _ _ _ _ _ (bX (pv 5)) (@al _ _ _ (@aC _ _ 5 _ _ _ _ dN.nd rfl (Or.inl rfl) (@cX _ _ _ _ _ _ _ _ dA cC (aW (N':=ir) (ρ:=[none,some 2,some 0,some 4,some 3]) (m:=1) (bo.of (fs:=defScope dH) (N:=iO) rfl rfl (by decide +kernel)) rfl (cT rfl T.range (ac (ap aA rfl T.len cb (ac (pv 4) af)) af)) (fun _ _ _ _=>(au (i:=0) lJ rfl (Or.inl rfl))) (fun _ _ _ _=>bg) (fun _ _ _ _=>(ao G_l_is_in (hr.mono (by omega)) rfl m_l_is_in k_l_is_in b_l_is_in .nil aB (ac (av (bB (K:=K) rfl) (pv 2) ag (fun _ _=>rfl)) (ac (pv 1) (ac (av (jZ (K:=K) rfl) (pv 3) (pv 0) (fun _ _=>rfl)) (ac (av (bB (K:=K) rfl) (pv 4) (pv 0) (fun _ _=>rfl)) af))))))) rfl) (am rfl) (.inr rfl))) aL) (@aj _ _ _ _ _ (@aC _ _ 6 _ _ _ _ dN.nd rfl (Or.inl rfl) (@ao _ _ _ _ _ _ _ _ _ _ _ _ _ _ _ _ G_in_room (hr.mono (by omega)) rfl m_in_room k_in_room b_in_room .nil aB (@ac _ _ _ _ _ (pv 0) (@ac _ _ _ _ _ (@av _ _ _ _ _ _ _ aH (@av _ _ _ _ _ _ _ aH (@av _ _ _ _ _ _ _ aH (pv 0) ag (fun _ _=>rfl)) (pv 1) (fun _ _=>rfl)) ag (fun _ _=>rfl)) (@ac _ _ _ _ _ (pv 2) (@ac _ _ _ _ _ (pv 3) af (aa rfl)) (aa rfl)) (aa rfl)) (aa rfl)) (by decide) (aa rfl) (ah rfl)) (am rfl) (.inr rfl)) (@al _ _ _ (@ay _ _ _ _ (dh (@ap _ _ _ _ _ _ _ _ _ bm rfl T.isi cL (@ac _ _ _ _ _ (pv 6) (@ac _ _ _ _ _ (bw (v:=.ty "bool") rfl T.bool mX rfl) af (aa rfl)) (aa rfl)) (by decide) (by decide) (aa rfl) (ah rfl)) (dJ (@cX _ _ _ _ _ _ _ _ bO (pv 6) (pv 5) (aO _)))))))))),?_⟩
 have lx:xs.length≤1000:=by rw [Paired.length rs]; omega
 refine ⟨_,rfl,a,_,_,_,rfl,rfl,SqT.of ha,rfl,_,rfl,b,_,_,_,rfl,rfl,SqT.of hb,lq hfx,c,_,_,_,rfl,rfl,SqT.of hc,rfl,?_⟩
 refine ⟨pb,rfl,⟨xs,SqT.of hpb⟩,cr (xs:=xs) xs.length rfl lx (fun i acc H'=>H'=H∧acc=(FF.2.take i).map fun p=>V.str p.2) ⟨rfl,rfl⟩ (fun i acc H' p=>by rw [p.1]; exact SqT.of hpb) (fun i acc H' x hi la hx p=>?_) (fun acc H' p la D hD=>?_)⟩
 ·obtain ⟨rfl,rfl⟩:=p
  obtain ⟨fl,hfl,c2,rfl,hc2⟩:=aJ rs i x hx
  refine ⟨c2,_,rfl,SqT.of hc2,rfl,_,_,rfl,_,_,rfl,rfl,⟨rfl,rfl⟩,bf ⟨_,rfl,nxT lx hi la ⟨rfl,?_⟩⟩⟩
  rw [List.take_add_one,hfl,List.map_append]
  rfl
 obtain ⟨rfl,rfl⟩:=p
 rw [Paired.length rs,List.take_length]
 have gD:=ae hD (.lst (FF.2.map fun p=>V.str p.2))
 have hDl:(upd H' D (.lst (FF.2.map fun p=>V.str p.2))) D=some (.lst (FF.2.map fun p=>V.str p.2)):=ad
 have hd1:=hd.same gD
 have hp1:=hp.mono (ak gD)
 have hr1:=gD _ _ hrp
 generalize (upd H' D (.lst (FF.2.map fun p=>V.str p.2)))=H1 at gD hDl hd1 hp1 hr1
 cases hd1 with
 | @tup ta ts ds nn h rr =>
  have lt:=rr.len
  refine ⟨_,rfl,_,_,_,true,rfl,.tup h,rfl,_,rfl,aN ?_⟩
  refine ⟨_,rfl,ta,ts,rfl,.inr (SqT.of h),_,rfl,D,_,rfl,.inl (SqL.of hDl),rfl,?_⟩
  have dk:∀ {c:Bool},decide (V.int (ts.length:Int)=V.int ((FF.2.map fun p=>V.str p.2).length:Int))=c→decide (ds.length=FF.2.length)=c:=fun {c} e=>by
   rw [lt,List.length_map] at e
   rw [← e]
   exact decide_eq_decide.mpr ⟨fun z=>by rw [z],fun z=>by have:=V.int.inj z; omega⟩
  refine ⟨_,rfl,_,rfl,?_⟩
  refine aX (fun c5=>?_) (fun c5=>?_)
  ·have l0:=of_decide_eq_true (dk c5)
   have IB:inB R 4 r FF.2 (.tuple ds)=(FF.2.zip ds).all (fun p=>lin R 4 r p.1.2 p.2):=by rw [uK hDp,decide_eq_true l0]; rfl
   have l1:FF.2.length=(FF.2.zip ds).length:=by rw [List.length_zip]; omega
   simp only [gt,Bool.and_eq_true,decide_eq_true_eq] at hg
   have hgm:=jQ hg.2
   refine ⟨_,rfl,D,_,rfl,.inl (SqL.of hDl),?_⟩
   rw [List.length_map]
   refine ⟨_,rfl,by omega,by omega,hJ (lo:=0) FF.2.length (by omega) (fun i acc H'=>ar H1 H'∧acc=(((FF.2.zip ds).take i).map fun p=>lin R 4 r p.1.2 p.2).map V.bl) ⟨ar.refl _,rfl⟩ (fun i acc H' hi la pp=>?_) (fun acc H' pp la D2 hD2=>?_)⟩
   ·obtain ⟨g2,rfl⟩:=pp
    obtain ⟨fl,hfl⟩:∃ fl,FF.2[i]?=some fl:=⟨_,List.getElem?_eq_getElem hi⟩
    obtain ⟨x,hx⟩:∃ x,ts[i]?=some x:=⟨_,List.getElem?_eq_getElem (by omega)⟩
    obtain ⟨e,he,hde⟩:=rr.get i x hx
    have ez:(FF.2.zip ds)[i]?=some (fl,e):=by
     rw [List.getElem?_zip_eq_some]
     exact ⟨hfl,he⟩
    have hk:(FF.2.map fun p=>V.str p.2)[i]?=some (.str fl.2):=by rw [List.getElem?_map,hfl]; rfl
    have G2:=gD.trans g2
    refine ⟨⟨rfl,rfl⟩,bf ?_⟩
    refine ⟨_,rfl,a,_,_,_,rfl,rfl,SqT.of (G2 _ _ ha),rfl,_,rfl,_,rfl,_,rfl,D,_,_,_,rfl,rfl,SqL.of (g2 _ _ hDl),sM hk,_,rfl,_,rfl,ta,_,_,_,rfl,rfl,SqT.of (g2 _ _ h),sM hx,_,R,_,r,fl.2,x,e,rfl,hRc.mono (ak G2),hpg.rn,by have:=hpg.rl; omega,.inl (hDp fl (List.mem_of_getElem? hfl)),⟨_,rfl,G2 _ _ hrp⟩,hde.same g2,hgm e (List.mem_of_getElem? he),fun H3 g3=>nxT (by omega) hi la ⟨g2.trans g3,?_⟩⟩
    rw [List.take_add_one,ez,List.map_append,List.map_append]
    rfl
   ·obtain ⟨g2,rfl⟩:=pp
    have G2:=(gD.trans g2).trans (ae hD2 (.lst (List.map V.bl (List.map (fun p=>lin R 4 r p.1.2 p.2) (List.take FF.2.length (FF.2.zip ds))))))
    have hd2:DA tp _ (.ref ta) (.tuple ds):=(DA.tup nn h rr).same (g2.trans (ae hD2 (.lst (List.map V.bl (List.map (fun p=>lin R 4 r p.1.2 p.2) (List.take FF.2.length (FF.2.zip ds)))))))
    refine ⟨D2,_,rfl,.inl (SqL.of ad),rfl,eK _,?_⟩
    rw [not_false]
    refine ⟨_,rfl,_,rfl,a,_,_,_,rfl,rfl,SqT.of (G2 _ _ ha),rfl,_,rfl,b,_,_,_,rfl,rfl,SqT.of (G2 _ _ hb),lq hfx,c,_,_,_,rfl,rfl,SqT.of (G2 _ _ hc),rfl,_,rfl,_,rfl,_,FF.1,R,FS,FF,_,r,_,_,rfl,hp.mono (ak G2),hfi,hl,by decide,hDp,⟨_,rfl,G2 _ _ hrp⟩,hd2,fun H3 g3=>?_⟩
    refine ⟨_,rfl,_,_,_,true,rfl,.bl _,rfl,_,rfl,aN ⟨_,rfl,_,rfl,rfl,?_⟩⟩
    rw [IB,l1,List.take_length,List.all_map]
    simpa using q H3 (G2.trans g3)
  ·have c5':=dk (Bool.eq_false_iff.mpr c5)
   have IB:inB R 4 r FF.2 (.tuple ds)=false:=by rw [uK hDp,c5']; rfl
   have hd2:DA tp H1 (.ref ta) (.tuple ds):=.tup nn h rr
   rw [Bool.eq_false_iff.mpr c5]
   refine ⟨_,rfl,_,rfl,a,_,_,_,rfl,rfl,SqT.of (gD _ _ ha),rfl,_,rfl,b,_,_,_,rfl,rfl,SqT.of (gD _ _ hb),lq hfx,c,_,_,_,rfl,rfl,SqT.of (gD _ _ hc),rfl,_,rfl,_,rfl,_,FF.1,R,FS,FF,_,r,_,_,rfl,hp.mono (ak gD),hfi,hl,by decide,hDp,⟨_,rfl,gD _ _ hrp⟩,hd2,fun H3 g3=>?_⟩
   refine ⟨_,rfl,_,_,_,true,rfl,.bl _,rfl,_,rfl,aN ⟨_,rfl,_,rfl,rfl,?_⟩⟩
   rw [IB]
   simpa using q H3 (gD.trans g3)
 | non =>
  have hd2:DA tp H1 _ _:=.non
  refine ⟨_,rfl,_,_,_,false,rfl,.non,rfl,_,rfl,bp ?_⟩
  refine ⟨_,rfl,_,rfl,bp ?_⟩
  have IB:inB R 4 r FF.2 .none=false:=rfl
  refine ⟨_,rfl,_,rfl,a,_,_,_,rfl,rfl,SqT.of (gD _ _ ha),rfl,_,rfl,b,_,_,_,rfl,rfl,SqT.of (gD _ _ hb),lq hfx,c,_,_,_,rfl,rfl,SqT.of (gD _ _ hc),rfl,_,rfl,_,rfl,_,FF.1,R,FS,FF,_,r,_,_,rfl,hp.mono (ak gD),hfi,hl,by decide,hDp,⟨_,rfl,gD _ _ hrp⟩,hd2,fun H3 g3=>?_⟩
  refine ⟨_,rfl,_,_,_,true,rfl,.bl _,rfl,_,rfl,aN ⟨_,rfl,_,rfl,rfl,?_⟩⟩
  rw [IB]
  simpa using q H3 (gD.trans g3)
 | bl bb =>
  have hd2:DA tp H1 _ _:=.bl bb
  refine ⟨_,rfl,_,_,_,false,rfl,.bl bb,rfl,_,rfl,bp ?_⟩
  refine ⟨_,rfl,_,rfl,bp ?_⟩
  have IB:inB R 4 r FF.2 (.bool bb)=false:=rfl
  refine ⟨_,rfl,_,rfl,a,_,_,_,rfl,rfl,SqT.of (gD _ _ ha),rfl,_,rfl,b,_,_,_,rfl,rfl,SqT.of (gD _ _ hb),lq hfx,c,_,_,_,rfl,rfl,SqT.of (gD _ _ hc),rfl,_,rfl,_,rfl,_,FF.1,R,FS,FF,_,r,_,_,rfl,hp.mono (ak gD),hfi,hl,by decide,hDp,⟨_,rfl,gD _ _ hrp⟩,hd2,fun H3 g3=>?_⟩
  refine ⟨_,rfl,_,_,_,true,rfl,.bl _,rfl,_,rfl,aN ⟨_,rfl,_,rfl,rfl,?_⟩⟩
  rw [IB]
  simpa using q H3 (gD.trans g3)
 | int ii =>
  have hd2:DA tp H1 _ _:=.int ii
  refine ⟨_,rfl,_,_,_,false,rfl,.int ii,rfl,_,rfl,bp ?_⟩
  refine ⟨_,rfl,_,rfl,bp ?_⟩
  have IB:inB R 4 r FF.2 (.int ii)=false:=rfl
  refine ⟨_,rfl,_,rfl,a,_,_,_,rfl,rfl,SqT.of (gD _ _ ha),rfl,_,rfl,b,_,_,_,rfl,rfl,SqT.of (gD _ _ hb),lq hfx,c,_,_,_,rfl,rfl,SqT.of (gD _ _ hc),rfl,_,rfl,_,rfl,_,FF.1,R,FS,FF,_,r,_,_,rfl,hp.mono (ak gD),hfi,hl,by decide,hDp,⟨_,rfl,gD _ _ hrp⟩,hd2,fun H3 g3=>?_⟩
  refine ⟨_,rfl,_,_,_,true,rfl,.bl _,rfl,_,rfl,aN ⟨_,rfl,_,rfl,rfl,?_⟩⟩
  rw [IB]
  simpa using q H3 (gD.trans g3)
 | str z l =>
  have hd2:DA tp H1 _ _:=.str z l
  refine ⟨_,rfl,_,_,_,false,rfl,.str z,rfl,_,rfl,bp ?_⟩
  refine ⟨_,rfl,_,rfl,bp ?_⟩
  have IB:inB R 4 r FF.2 (.str z)=false:=rfl
  refine ⟨_,rfl,_,rfl,a,_,_,_,rfl,rfl,SqT.of (gD _ _ ha),rfl,_,rfl,b,_,_,_,rfl,rfl,SqT.of (gD _ _ hb),lq hfx,c,_,_,_,rfl,rfl,SqT.of (gD _ _ hc),rfl,_,rfl,_,rfl,_,FF.1,R,FS,FF,_,r,_,_,rfl,hp.mono (ak gD),hfi,hl,by decide,hDp,⟨_,rfl,gD _ _ hrp⟩,hd2,fun H3 g3=>?_⟩
  refine ⟨_,rfl,_,_,_,true,rfl,.bl _,rfl,_,rfl,aN ⟨_,rfl,_,rfl,rfl,?_⟩⟩
  rw [IB]
  simpa using q H3 (gD.trans g3)
 | @lst la ls lds nn h rr =>
  have hd2:DA tp H1 _ _:=.lst nn h rr
  refine ⟨_,rfl,_,_,_,false,rfl,.lst h,rfl,_,rfl,bp ?_⟩
  refine ⟨_,rfl,_,rfl,bp ?_⟩
  have IB:inB R 4 r FF.2 (.list lds)=false:=rfl
  refine ⟨_,rfl,_,rfl,a,_,_,_,rfl,rfl,SqT.of (gD _ _ ha),rfl,_,rfl,b,_,_,_,rfl,rfl,SqT.of (gD _ _ hb),lq hfx,c,_,_,_,rfl,rfl,SqT.of (gD _ _ hc),rfl,_,rfl,_,rfl,_,FF.1,R,FS,FF,_,r,_,_,rfl,hp.mono (ak gD),hfi,hl,by decide,hDp,⟨_,rfl,gD _ _ hrp⟩,hd2,fun H3 g3=>?_⟩
  refine ⟨_,rfl,_,_,_,true,rfl,.bl _,rfl,_,rfl,aN ⟨_,rfl,_,rfl,rfl,?_⟩⟩
  rw [IB]
  simpa using q H3 (gD.trans g3)
end
open PySem L2
theorem Paired.app {α β:Type} {F:α→β→Prop}:∀ {l l2:List α} {m m2:List β},Paired F l m→Paired F l2 m2→Paired F (l++l2) (m++m2)
 | _,_,_,_,.nil,q=>q
 | _,_,_,_,.cons h r,q=>.cons h (Paired.app r q)
abbrev L3:List V:=[V.str (Str.ofString "num"),V.str (Str.ofString "row"),V.str (Str.ofString "text")]
section
variable {P:Program} {w:World} {K:Frag} {mg:Str→Option Value} {base:Heap} {f g:Addr} {fd gd:FuncData}
abbrev lY:List Str:=["_law_records", "_law_kind", "_law_found", "_law_field", "_law_own"]
abbrev iL:List Str:=["_law_path", "_law_sort", "_law_field"]
theorem gI:iL.Nodup:=by decide +kernel
theorem eZ:aK lY ["_law_records", "_law_kind"] (defScope eR):=⟨rfl,rfl,rfl,by decide +kernel,rfl,by decide +kernel,by decide +kernel⟩
abbrev pSo:List Str:=["_law_records", "_law_kind"]
def fg (n:Nat):Sp:=fun vs H Q _=>∃ v k R,vs=[v,.str k]∧fm H v R∧(R.map (·.1)).Nodup∧R.length≤1000∧n≤4∧cu R n k∧∀ r ys H',ar H H'→H r=none→H' r=some (.lst ys)→Paired (cm H') ys (ax R n k)→Q (.ref r) H'
theorem vX {n:Nat} (T:G0 mg) (F:Fun K "_law_sorts" "_law_sorts" eR f fd) (D_l_sorts:Cal P w K mg base (n+1) "_law_sorts" pSo (fg n)):aU P w K mg base CX0 (n+2) f fd pSo (fg (n+1)):=by
 obtain ⟨g_l_sorts,gd_l_sorts,G_l_sorts,b_l_sorts,k_l_sorts,m_l_sorts⟩:=D_l_sorts.ex
 refine F.ok eZ (fun vs H Q E h=>?_) (fun cdv A outer s H vs Q E hr h=>?_)
 ·obtain ⟨v,k,R,rfl,_⟩:=h
  rfl
 obtain ⟨v,k,R,rfl,hRc,hnd,hlR,hn,hd,q⟩:=h
 refine ⟨_,(@aj _ _ _ _ _ (@aC _ _ 2 _ _ _ _ eZ.nd rfl (Or.inl rfl) (@aV _ _ _ _ af) (am rfl) (.inr rfl)) (@aj _ _ _ _ _ (@bj _ _ _ _ _ _ _ _ (@aE _ _ _ _ _ _ _ _ eQ (pv 1) (@aV _ _ _ _ (@ac _ _ _ _ _ aM (@ac _ _ _ _ _ aM (@ac _ _ _ _ _ aM af (aa rfl)) (aa rfl)) (aa rfl))) rfl) (@al _ _ _ (@ay _ _ _ _ (@aV _ _ _ _ (@ac _ _ _ _ _ (@ba _ _ _ _ _ (@ac _ _ _ _ _ (@ba _ _ _ _ _ af) (@ac _ _ _ _ _ (pv 1) af (aa rfl)) (aa rfl))) af (aa rfl))))) aL) (@aj _ _ _ _ _ (@bF _ _ _ _ _ _ _ _ PassesOwn.never rfl (bZ (@av _ _ _ _ _ _ _ ni (@aZ _ _ _ _ _ _ _ _ _ (hU rfl) rfl T.dict pK (@ac _ _ _ _ _ (pv 0) af (aa rfl)) (by decide) (by decide) (aa rfl) (ah rfl)) (pv 1) (fun _ _=>rfl))) (dm rfl (aG (au (i:=3) eZ.nd rfl (Or.inr rfl)) (aG (au (i:=4) eZ.nd rfl (Or.inl rfl)) bJ))) (@al _ _ _ (@cQ _ _ _ _ (@eX _ _ _ _ _ _ _ _ _ _ _ _ PySem.F.plainAttrs_list PySem.F.slot_list_extend PySem.F.type_list_extend jc (pv 2) (@ac _ _ _ _ _ (aW (N':=iL) (ρ:=[none,none,some 3]) (m:=2) (bo.of (fs:=defScope eR) (N:=lY) rfl rfl (by decide +kernel)) rfl (bA (ao G_l_sorts (hr.mono (by omega)) rfl m_l_sorts k_l_sorts b_l_sorts .nil aB (ac (pv 0) (ac (pv 4) af)))) (fun _ _ _ _=>(fZ (n:=2) (K:=K) rfl rfl (aG (au (i:=0) gI rfl (Or.inl rfl)) (aG (au (i:=1) gI rfl (Or.inl rfl)) bJ)))) (fun _ _ _ _=>bg) (fun _ _ _ _=>(ba (ac (aS (kP (K:=K) rfl) (ba (ac (pv 2) af)) (pv 0)) (ac (pv 1) af))))) af (aa rfl)) rfl (cW rfl rfl) rfl (aa rfl) (ah rfl)) (am rfl))) (fun _=>rfl)) (@al _ _ _ (@ay _ _ _ _ (pv 2)))))),?_⟩
 refine ⟨(by show 0≤sizeLine; decide),fun t ht=>?_⟩
 have g0:=ae ht (.lst [])
 refine ⟨_,rfl,(by show 3≤sizeLine; decide),fun l3 h3=>?_⟩
 have g1:=g0.trans (ae h3 (.lst (L3)))
 refine ⟨l3,L3,rfl,.inl (SqL.of ad),rfl,(by decide +kernel),_,rfl,?_⟩
 have ht1:(upd (upd H t (.lst [])) l3 (.lst (L3))) t=some (.lst []):=ae h3 _ _ _ ad
 refine aX (fun c=>?_) (fun c=>?_)
 ·have ck:k∈PL:=(pl3 k).mp (of_decide_eq_true ((dE k PL3).symm.trans c))
  refine ⟨(by show 0≤sizeLine; decide),fun p1 h1=>⟨_,rfl,(by show 2≤sizeLine; decide),fun p2 h2=>⟨(by show 1≤sizeLine; decide),fun r h3=>?_⟩⟩⟩
  have t1:=fq h2 (.tup [.ref p1,.str k])
  have t2:=fq h3 (.lst [.ref p2])
  refine q r _ _ (g1.trans (((ae h1 _).trans (ae h2 _)).trans (ae h3 _))) ?_ ad ?_
  ·exact g1.free ((ae h1 _).free ((ae h2 _).free h3))
  ·unfold ax
   rw [if_pos ck]
   exact .cons ⟨p2,.ref p1,rfl,t2 _ _ ad,p1,rfl,t2 _ _ (t1 _ _ ad)⟩ .nil
 have ck:k∉PL:=fun z=>c ((dE k PL3).trans (decide_eq_true ((pl3 k).mpr z)))
 have hdk:=hd
 rcases hd with z | ⟨_,_,⟨_,hl⟩,hd⟩
 ·exact absurd z ck
 generalize (upd (upd H t (.lst [])) l3 (.lst (L3)))=H1 at g1 ht1
 obtain ⟨b0,xs0,ps,fv,rfl,hb0,hl0,hnd0,pp1,efind,hfl⟩:=ng (K:=K) (hRc.mono (ak g1)) hnd hlR (hdk.ne ck)
 refine ⟨_,rfl,b0,xs0,ps,rfl,hb0,hl0,hnd0,pp1,fun dl hdl=>?_⟩
 have g2:=ae hdl (.dK (ps.map fun p=>(Sum.inr p.1,p.2)))
 obtain ⟨b,fs,rfl,hb,rf⟩:=hfl.mono (ak g2)
 have lf:=Paired.length rf
 refine ⟨_,rfl,dl,_,k,_,rfl,rfl,ad,efind,?_⟩
 have ht2:=g2 _ _ ht1
 have G2:=g1.trans g2
 generalize (upd H1 dl (.dK (ps.map fun p=>(Sum.inr p.1,p.2))))=H2 at G2 hb rf ht2
 have hlen:∀ i,((look R k).take i).length≤3:=fun i=>by rw [List.length_take]; omega
 have p3:(3:Nat) ^ n≤81:=by
  calc 3 ^ n≤3 ^ 4:=Nat.pow_le_pow_right (by decide) (by omega)
   _=81:=by decide
 refine ⟨b,rfl,⟨fs,SqT.of hb⟩,fo (xs:=fs) (fun i σ H'=>∃ m3 m4 ys,σ=[some (.ref b0),some (.str k),some (.ref t),m3,m4]∧Ext t H2 H'∧H' t=some (.lst ys) ∧
   Paired (cm H') ys (((look R k).take i).flatMap fun p=>(ax R n p.2).map fun q=>(p.1::q.1,q.2))) ⟨none,none,[],rfl,Ext.refl _ _,ht2,.nil⟩ (fun i σ H' _ p=>?_) (fun i u σ H' hx p=>?_) (fun σ H' p=>?_)⟩
 ·obtain ⟨_,_,_,_,x1,_⟩:=p
  exact SqT.of (bn x1 ht2 _ _ hb)
 ·obtain ⟨m3,m4,ys,rfl,x1,hty,py⟩:=p
  obtain ⟨fl,hfl,a,rfl,ha⟩:=aJ rf i u hx
  have k1:=bn x1 ht2
  have dp:=hd fl (List.mem_of_getElem? hfl)
  refine ⟨a,_,rfl,SqT.of (k1 _ _ ha),rfl,_,_,rfl,_,_,rfl,rfl,?_⟩
  refine ⟨_,rfl,.inl ⟨rfl,_,SqL.of hty⟩,_,rfl,_,rfl,_,fl.2,R,rfl,(hRc.mono (ak G2)).mono k1,hnd,hlR,by omega,dp,fun r zs H3 g3 hr0 hrz pz=>?_⟩
  have el:=bU n dp
  have lz:=Paired.length pz
  have len1:ys.length≤243:=by
   rw [Paired.length py]
   have:=cj (l:=(look R k).take i) (g:=fun p=>(ax R n p.2).map fun q=>(p.1::q.1,q.2)) (b:=81) fun p hp'=>by
    rw [List.length_map]
    have:=bU n (hd p (List.mem_of_mem_take hp'))
    omega
   have h3:=hlen i
   have:((look R k).take i).length*81≤3*81:=Nat.mul_le_mul_right _ h3
   omega
  refine ⟨r,rfl,⟨zs,SqL.of hrz⟩,cB (xs:=zs) zs.length rfl (by omega) (fun j acc H'=>ar H3 H'∧Paired (cm H') acc (((ax R n fl.2).take j).map fun q=>(fl.1::q.1,q.2))) ⟨ar.refl _,.nil⟩ (fun j acc H' p=>SqL.of (p.1 _ _ hrz)) (fun j acc H' x hj la hx2 p=>?_) (fun acc H' p la D hD=>?_)⟩
  ·obtain ⟨g4,pa⟩:=p
   obtain ⟨qq,hqq,hpa⟩:=aJ pz j x hx2
   obtain ⟨a2,y2,rfl,ha2,a3,rfl,ha3⟩:=hpa.mono (ak g4)
   have hm:qq∈ax R n fl.2:=List.mem_of_getElem? hqq
   have pl:=eh n hm
   have fin:∀ (u:V) (H5:Hp),ar H' H5→hV H5 u (fl.1::qq.1)→∀ p2,H5 p2=none→ar H3 (upd H5 p2 (.tup [u,.str qq.2]))∧Paired (cm (upd H5 p2 (.tup [u,.str qq.2]))) (acc++[.ref p2]) (((ax R n fl.2).take (j+1)).map fun q=>(fl.1::q.1,q.2)):=by
    intro u H5 g5 hu p2 hp2
    have g6:=ae hp2 (.tup [u,.str qq.2])
    refine ⟨(g4.trans g5).trans g6,?_⟩
    rw [List.take_add_one,hqq,List.map_append]
    exact Paired.snoc (cH (ak (g5.trans g6)) pa) ⟨p2,u,rfl,ad,hu.mono (ak g6)⟩
   refine ⟨a2,_,rfl,SqT.of ha2,rfl,_,_,rfl,_,_,rfl,rfl,⟨rfl,rfl⟩,bf ?_⟩
   refine ⟨_,rfl,(by show 1≤sizeLine; decide),fun p1 hp1=>?_⟩
   have g5:=ae hp1 (.tup [.str fl.1])
   refine ⟨_,rfl,.inl ⟨p1,a3,_,_,rfl,rfl,SqT.of ad,SqT.of (g5 _ _ ha3),(by simp),?_,fun z=>?_,fun z p3 hp3=>?_⟩⟩
   ·rw [List.length_map]
    exact Nat.le_of_lt (aI (by simp; omega))
   ·have ep:qq.1=[]:=by simpa using z
    refine ⟨_,rfl,(by show 2≤sizeLine; decide),fun p2 hp2=>?_⟩
    exact nxT (by omega) hj la (fin (.ref p1) _ g5 ⟨p1,rfl,by rw [ep]; exact ad⟩ p2 hp2)
   ·refine ⟨_,rfl,(by show 2≤sizeLine; decide),fun p2 hp2=>?_⟩
    exact nxT (by omega) hj la (fin (.ref p3) _ (g5.trans (ae hp3 _)) ⟨p3,rfl,ad⟩ p2 hp2)
  ·obtain ⟨g4,pa⟩:=p
   have g5:=ae hD (.lst acc)
   have htD:=g5 _ _ (g4 _ _ (g3 _ _ hty))
   have gg:=(g3.trans g4).trans g5
   have kt:=cM htD (.lst (ys++acc))
   refine ⟨t,D,ys,acc,rfl,rfl,htD,ad,Nat.le_of_lt (aI (by omega)),?_⟩
   refine ⟨_,_,ys++acc,rfl,(x1.trans (ar.ext gg)).trans Ext.upd,ad,?_⟩
   rw [List.take_add_one,hfl,List.flatMap_append]
   rw [lz,List.take_length] at pa
   have:=Paired.app (cH ((ak gg).trans kt) py) (cH ((ak g5).trans kt) pa)
   simpa using this
 ·obtain ⟨m3,m4,ys,rfl,x1,hty,py⟩:=p
  refine ⟨_,rfl,q t ys H' (fun b o e=>?_) ht hty ?_⟩
  ·exact x1 _ _ (aq e ht) (G2 _ _ e)
  ·unfold ax
   rw [if_neg ck]
   rw [Paired.length rf,List.take_length] at py
   exact py
theorem vj:aU P w K mg base CX0 1 f fd pSo (fg 0):=by
 have no:∀ vs H Q E,¬ fg 0 vs H Q E:=fun vs H Q E h=>by
  obtain ⟨v,k,R,_,_,_,_,_,h1,_⟩:=h
  exact h1
 exact ⟨fun vs H Q E h=>absurd h (no vs H Q E),fun A outer s H args us vs Q E _ _ _ _ h=>absurd h (no vs H Q E)⟩
theorem lU (T:G0 mg) (F:Fun K "_law_sorts" "_law_sorts" eR f fd) (b:dg K fd pSo []) (m:mg "_law_sorts"=some (.ref f)):∀ n:Nat,aU P w K mg base CX0 (n+1) f fd pSo (fg n)
 | 0=>vj
 | n+1=>vX T F ⟨f,fd,lU T F b m n,b,F.kp,m⟩
end
end K6
namespace L2
open PySem PySem.W PySem.Calls PySem.Spec PyProof.Rows
section
variable {prog:Program} {w:World}
theorem xS {A:Around} {b fin:Bool} {Q:Bool→Shared→Prop}:∀ (l:List (Value×Value)) (i:Nat),KatLex prog w A b fin Q l (i+1)=KatLex prog w A false fin Q l (i+1)
 | [],i=>rfl
 | (p,q)::r,i=>by
  funext s
  have e1:(b&&(i+1==0))=false:=by cases b<;>rfl
  have e2:(false&&(i+1==0))=false:=rfl
  unfold KatLex
  rw [xS r (i+1),e1,e2]
theorem sH {i j:Int} {l m:List PyData} {A:Around} {E:Value→Shared→Prop} {s:Shared} {u v:Value} {Q:Bool→Shared→Prop} (r1:RdT s.heap u (.tuple (.int i::l))) (r2:RdT s.heap v (.tuple (.int j::m))) (p1:pk (.tuple (.int i::l))=true) (p2:pk (.tuple (.int j::m))=true) (c:Cok (.tuple (.int i::l)) (.tuple (.int j::m))) (hu:A.units+(PyData.tuple (.int i::l)).depth+2<cLine)
  (h:Q (dlt (.tuple (.int i::l)) (.tuple (.int j::m))) s):wpAny (model prog w) A (keyLt' (tuples' true) u v) Q E s:=by
 cases r1 with
 | @tup a oa xs na _ hoa _ hda hia =>
  cases r2 with
  | @tup b ob ys nb _ hob _ hdb hib =>
   refine kat_lt hoa hda hob hdb ?_
   have hc:jF (.int i::l) (.int j::m):=by cases c; assumption
   simp only [dlt,kI] at h
   simp only [PyData.depth,PyData.depthAll] at hu
   have e1:=gj hia
   have e2:=gj hib
   have z1:xs.size=(PyData.int i::l).length:=by rw [← Array.length_toList,e1]
   have z2:ys.size=(PyData.int j::m).length:=by rw [← Array.length_toList,e2]
   rw [z1,z2]
   generalize xs.toList=xl at hia
   generalize ys.toList=yl at hib
   have p1':pks (.int i::l)=true:=by simpa only [pk] using p1
   have p2':pks (.int j::m)=true:=by simpa only [pk] using p2
   simp only [pks,Bool.and_eq_true] at p1' p2'
   cases hia with
   | cons q1 t1 =>
    cases hib with
    | cons q2 t2 =>
     rw [List.zip_cons_cons]
     obtain ⟨as,ra⟩:=q1.reads
     have di:(PyData.int i).depth≤1:=by simp [PyData.depth]
     have dj:(PyData.int j).depth≤1:=by simp [PyData.depth]
     obtain ⟨bs,rb⟩:=q2.reads
     refine kat_cons (SeqAt.eqAt_reads _ _ A s _ _ as bs ra rb (eY p1'.1) (eY p2'.1) (by omega) prog w _ _ ?_)
     rw [nB p1'.1 p2'.1]
     by_cases hab:(PyData.int i)=.int j
     ·rw [decide_eq_true hab]
      have hd:dif (.int i::l) (.int j::m)=dif l m:=by simp only [dif]; rw [if_pos hab]
      rw [hd] at h
      refine kat_yes ?_
      rw [xS]
      refine rG l m t1 t2 p1'.2 p2'.2 ?_ (by omega) (fun z hz=>by rw [hz] at h; exact h) (fun hz=>by rw [hz] at h; exact h)
      cases hc with
      | eq c=>exact c
      | ne n _=>exact absurd hab n
     ·rw [decide_eq_false hab]
      have hd:dif (.int i::l) (.int j::m)=some (dlt (.int i) (.int j)):=by simp only [dif]; rw [if_neg hab]
      rw [hd] at h
      refine kat_no ?_
      cases q1
      cases q2
      exact oneLt_int (by simpa only [dlt,Option.getD_some] using h)
end
structure zN (ds:List PyData):Prop where
 len:ds.length<64
 p:∀ d∈ds,pk d=true∧d.depth≤40∧∃ i r,d=.tuple (.int i::r)
 c:∀ d∈ds,∀ e∈ds,Cok d e
theorem jr {h:Heap}:∀ {us:List Value} {ds:List PyData},cP h us ds→(∀ d∈ds,∃ i r,d=.tuple (.int i::r))→∃ fs,KatTups h us fs∧fs.length=ds.length∧∀ v∈fs,∃ i,RdT h v (.int i)
 | _,_,.nil,_=>⟨[],.nil,rfl,fun _ z=>by cases z⟩
 | _,_,.cons (v:=u) (vs:=us) (d:=d) (ds:=ds) q r,hp=>by
  obtain ⟨fs,t,l,k⟩:=jr r fun d hd=>hp d (List.mem_cons_of_mem _ hd)
  obtain ⟨f,rr,rfl⟩:=hp d List.mem_cons_self
  cases q with
  | @tup a o xs n _ h1 h2 h3 h4 =>
   obtain ⟨v0,vr,e,q0⟩:∃ v0 vr,xs.toList=v0::vr∧RdT h v0 (.int f):=by
    generalize xs.toList=zs at h4
    cases h4 with
    | cons q0 _=>exact ⟨_,_,rfl,q0⟩
   refine ⟨v0::fs,.cons h1 h2 h3 (by rw [← Array.getElem?_toList,e]; rfl) t,by rw [List.length_cons,List.length_cons,l],fun v hv=>?_⟩
   rcases List.mem_cons.mp hv with rfl | hv
   ·exact ⟨f,q0⟩
   ·exact k v hv
section
variable {X:Cx}
def yw (K:Frag):List V→Hp→VK→Prop:=fun xs H Q=>∃ l vs ds,xs=[.ref l]∧SqL K H l vs∧bC H vs ds∧zN ds∧∀ p (ix:List Nat),H p=none→ix.Perm (List.range vs.length)→Q (.ref p) (upd H p (.lst (ix.map fun i=>vs.getD i .non)))
theorem qx (hu:X.A.units+64<cLine):bE X (.builtin "sorted") (yw X.K):=by
 intro pins s σ H xs us Q I r h
 obtain ⟨l,vs,ds,rfl,hl,hk,ok,q⟩:=h
 obtain ⟨u,rfl,rx⟩:=eH r
 cases rx
 obtain ⟨its,ri,pl,hz⟩:=I.list hl
 have rd:=nh I.hok hk ri
 have ln:=gj rd
 have lv:=aQ.length ri
 have l64:=ok.len
 have i1:=oU X.A
 have i2:=oU X.A.in1
 have kx:∀ {h':Heap},HX s.heap h'→cP h' its ds:=fun x=>rd.keeps fun a o vs n e _=>x a o e
 refine qA (U:=fun us=>us=its) (fun E' Qc hQ=>collect_list pl.isList (hQ _ s.toks its (fun b o e=>?_) ?_ rfl) (by omega)) (fun us hus=>?_)
 ·have lt:=Heap.lt_size e
  rw [Heap.get?_update_ne _ _ _ _ (Nat.ne_of_lt lt)]
  exact Heap.get?_push_of_some _ e
 ·rw [Heap.size_update,size_push']
  omega
 subst hus
 refine ⟨by omega,tuples' true,fun i j=>dlt (ds.getD i .none) (ds.getD j .none),fun _=>True,fun h2 h' t Qk x qk=>?_,fun h' t i j C x hi hj hC=>?_,fun h2=>cD.imp (fun _ _=>trivial) (nT (by omega)),fun h' t c D p gp _ x big e=>?_⟩
 ·obtain ⟨fs,kt,lf,kf⟩:=jr (kx x) fun d hd=>(ok.p d hd).2.2
  refine kat_kind (s:={ s with heap:=h',toks:=t }) (T:=.type "int") kt (by omega) (fun v hv=>?_) (by rfl) qk
  obtain ⟨f,rf⟩:=kf v hv
  cases rf
  exact .now
 ·have hi':i<ds.length:=by omega
  have hj':j<ds.length:=by omega
  have mi:ds.getD i .none∈ds:=by simp [hi']
  have mj:ds.getD j .none∈ds:=by simp [hj']
  have r1:=kb (kx x) i hi'
  have r2:=kb (kx x) j hj'
  have cc:=ok.c _ mi _ mj
  obtain ⟨p1,d1,f1,g1,e1⟩:=ok.p _ mi
  obtain ⟨p2,d2,f2,g2,e2⟩:=ok.p _ mj
  have hC':C (dlt (ds.getD i .none) (ds.getD j .none)) { s with heap:=h',toks:=t }:=hC t
  rw [e1] at r1 p1 d1 cc hC'
  rw [e2] at r2 p2 d2 cc hC'
  exact sH (s:={ s with heap:=h',toks:=t }) r1 r2 p1 p2 cc (by omega) hC'
 ·refine ⟨.ref D,_,I.laid (t':=t) (a:=D) (o:=.lst (p.toList.map fun i=>vs.getD i .non)) x big ?_,rfl,q D p.toList (I.hok.fresh big) (by rw [lv]; simpa using Array.perm_iff_toList_perm.mp gp)⟩
  exact ⟨by rw [List.length_map,Array.length_toList,gp.size,sizeLine_eq]; omega,_,c,sU ri p,e⟩
end
end L2
namespace K6
open PySem L2
mutual
def kv:PyData→Bool
 | .int _=>true
 | .str z=>jd (.str z)&&decide (z.length≤3)
 | .tuple ds=>decide (ds.length≤100)&&kvs ds
 | _=>false
def kvs:List PyData→Bool
 | []=>true
 | d::r=>kv d&&kvs r
end
theorem mO:∀ {ds:List PyData},(∀ d∈ds,kv d=true)→kvs ds=true
 | [],_=>rfl
 | a::r,h=>by simp only [kvs,Bool.and_eq_true]; exact ⟨h a List.mem_cons_self,mO fun d hd=>h d (List.mem_cons_of_mem _ hd)⟩
mutual
theorem xJ:∀ {d:PyData},kv d=true→gt 100 d=true
 | .int _,_=>rfl
 | .str z,h=>by simp only [kv,Bool.and_eq_true] at h; exact h.1
 | .tuple ds,h=>by simp only [kv,gt,Bool.and_eq_true] at h ⊢; exact ⟨h.1,uO h.2⟩
theorem uO:∀ {d:List PyData},kvs d=true→gts 100 d=true
 | [],_=>rfl
 | d::r,h=>by simp only [kvs,gts,Bool.and_eq_true] at h ⊢; exact ⟨xJ h.1,uO h.2⟩
end
mutual
theorem xf {fp:Addr} {H:Hp} (hf:∀ xs,H fp≠some (.tup xs)):∀ {v:V} {d:PyData},KAt H v d→kv d=true→DA fp H v d
 | _,_,.int i,_=>.int i
 | _,_,.str z,h=>by simp only [kv,Bool.and_eq_true,decide_eq_true_eq] at h; exact .str z (by omega)
 | _,_,.tup (xs:=xs) e r,h=>by
  simp only [kv,Bool.and_eq_true,decide_eq_true_eq] at h
  have r':=uh hf r h.2
  exact .tup ⟨fun z=>hf _ (z ▸ e),by have:=r'.len; omega⟩ e r'
theorem uh {fp:Addr} {H:Hp} (hf:∀ xs,H fp≠some (.tup xs)):∀ {v:List V} {d:List PyData},bC H v d→kvs d=true→DAs fp H v d
 | _,_,.nil,_=>.nil
 | _,_,.cons q r,h=>by simp only [kvs,Bool.and_eq_true] at h; exact .cons (xf hf q h.1) (uh hf r h.2)
end
theorem bN {H:Hp}:∀ {v:List V} {d:List PyData},bC H v d→v.length=d.length
 | _,_,.nil=>rfl
 | _,_,.cons h r=>by rw [List.length_cons,List.length_cons,bN r]
theorem mM {H:Hp}:∀ (i:Nat) {v:List V} {d:List PyData},bC H v d→bC H (v.take i) (d.take i)
 | 0,_,_,_=>by rw [List.take_zero,List.take_zero]; exact .nil
 | i+1,_,_,.nil=>.nil
 | i+1,_,_,.cons h r=>.cons h (mM i r)
theorem nj {H:Hp}:∀ (i:Nat) {v:List V} {d:List PyData},bC H v d→bC H (v.drop i) (d.drop i)
 | 0,_,_,q=>q
 | i+1,_,_,.nil=>.nil
 | i+1,_,_,.cons h r=>nj i r
theorem cR {H:Hp}:∀ {v v2:List V} {d d2:List PyData},bC H v d→bC H v2 d2→bC H (v++v2) (d++d2)
 | _,_,_,_,.nil,q=>q
 | _,_,_,_,.cons h r,q=>.cons h (cR r q)
theorem fY {H:Hp}:∀ {v:List V} {d:List PyData},bC H v d→∀ (i:Nat) (x:V),v[i]?=some x→∃ e,d[i]?=some e∧KAt H x e
 | _,_,.nil,_,_,h=>nomatch h
 | _,_,.cons q r,0,x,h=>by cases Option.some.inj h; exact ⟨_,rfl,q⟩
 | _,_,.cons q r,i+1,x,h=>fY r i x h
section
variable {P:Program} {w:World} {K:Frag} {mg:Str→Option Value} {base:Heap} {f g:Addr} {fd gd:FuncData}
abbrev eO:List Str:=["_law_records", "_law_kind", "_law_pieces"]
abbrev dv:List Str:=["_law_field", "_law_own", "_law_records", "_law_pieces"]
theorem df:dv.Nodup:=by decide +kernel
theorem ik:aK eO ["_law_records", "_law_kind", "_law_pieces"] (defScope bP):=⟨rfl,rfl,rfl,by decide +kernel,rfl,by decide +kernel,by decide +kernel⟩
abbrev pPu:List Str:=["_law_records", "_law_kind", "_law_pieces"]
def mf (n:Nat):Sp:=fun vs H Q _=>∃ v k R pl xs ds rest,vs=[v,.str k,.ref pl]∧fm H v R∧(R.map (·.1)).Nodup∧R.length≤1000∧cu R n k∧H pl=some (.lst (xs++rest))∧bC H xs ds∧ds.length=(ax R n k).length∧(∀ d∈ds,kv d=true)∧∀ u d H',Ext pl H H'→H' pl=some (.lst rest)→KAt H' u d→kv d=true→Q u H'
theorem yn {n:Nat} (T:G0 mg) (F:Fun K "_law_put_together" "_law_put_together" bP f fd) (D_l_put_together:Cal P w K mg base (n+1) "_law_put_together" pPu (mf n)):aU P w K mg base CX0 (n+2) f fd pPu (mf (n+1)):=by
 obtain ⟨g_l_put_together,gd_l_put_together,G_l_put_together,b_l_put_together,k_l_put_together,m_l_put_together⟩:=D_l_put_together.ex
 refine F.ok ik (fun vs H Q E h=>?_) (fun cdv A outer s H vs Q E hr h=>?_)
 ·obtain ⟨v,k,R,pl,xs,ds,rest,rfl,_⟩:=h
  rfl
 obtain ⟨v,k,R,pl,xs,ds,rest,rfl,hRc,hnd,hlR,hd,hpl,hks,hln,hgt,q⟩:=h
 refine ⟨_,(@aj _ _ _ _ _ (@bj _ _ _ _ _ _ _ _ (@aE _ _ _ _ _ _ _ _ eQ (pv 1) (@aV _ _ _ _ (@ac _ _ _ _ _ aM (@ac _ _ _ _ _ aM (@ac _ _ _ _ _ aM af (aa rfl)) (aa rfl)) (aa rfl))) rfl) (@al _ _ _ (@ay _ _ _ _ (@eX _ _ _ _ _ _ _ _ _ _ _ _ PySem.F.plainAttrs_list PySem.F.slot_list_pop PySem.F.type_list_pop oj (pv 2) (@ac _ _ _ _ _ ag af (aa rfl)) rfl (cW rfl rfl) rfl (aa rfl) (ah rfl)))) aL) (@al _ _ _ (@ay _ _ _ _ (@aZ _ _ _ _ _ _ _ _ _ bt rfl T.tuple bI (@ac _ _ _ _ _ (aW (N':=dv) (ρ:=[none,none,some 0,some 2]) (m:=2) (bo.of (fs:=defScope bP) (N:=eO) rfl rfl (by decide +kernel)) rfl (bZ (av ni (aZ (hU rfl) rfl T.dict pK (ac (pv 0) af)) (pv 1) (fun _ _=>rfl))) (fun _ _ _ _=>(fZ (n:=2) (K:=K) rfl rfl (aG (au (i:=0) df rfl (Or.inl rfl)) (aG (au (i:=1) df rfl (Or.inl rfl)) bJ)))) (fun _ _ _ _=>bg) (fun _ _ _ _=>(ao G_l_put_together (hr.mono (by omega)) rfl m_l_put_together k_l_put_together b_l_put_together .nil aB (ac (pv 2) (ac (pv 1) (ac (pv 3) af)))))) af (aa rfl)) (by decide) (by decide) (aa rfl) (ah rfl))))),?_⟩
 refine ⟨_,rfl,(by show 3≤sizeLine; decide),fun l3 h3=>?_⟩
 have g1:=ae h3 (.lst L3)
 refine ⟨l3,L3,rfl,.inl (SqL.of ad),rfl,(by decide +kernel),_,rfl,?_⟩
 have hp1:=g1 _ _ hpl
 refine aX (fun c=>?_) (fun c=>?_)
 ·have ck:k∈PL:=(pl3 k).mp (of_decide_eq_true ((dE k PL3).symm.trans c))
  have l1:ds.length=1:=by
   rw [hln]
   unfold ax
   rw [if_pos ck]
   rfl
  cases hks with
  | nil=>cases l1
  | @cons x xr d dr hx hr' =>
   have:dr=[]:=List.eq_nil_of_length_eq_zero (by simpa using l1)
   subst this
   cases hr'
   exact ⟨_,rfl,.inl ⟨rfl,_,SqL.of hp1⟩,pl,x::rest,0,0,x,rfl,rfl,hp1,by decide,by decide,seqIndex_of (by decide) (by simp),rfl,q x d _ ((ar.ext g1).trans Ext.upd) ad ((hx.mono (ak g1)).mono (cM hp1 _)) (hgt d List.mem_cons_self)⟩
 have ck:k∉PL:=fun z=>c ((dE k PL3).trans (decide_eq_true ((pl3 k).mpr z)))
 have hdk:=hd
 rcases hd with z | ⟨_,_,⟨_,hl⟩,hd⟩
 ·exact absurd z ck
 generalize (upd H l3 (.lst [V.str (Str.ofString "num"),V.str (Str.ofString "row"),V.str (Str.ofString "text")]))=H1 at g1 hp1
 obtain ⟨b0,xs0,ps,fv,rfl,hb0,hl0,hnd0,pp1,efind,hfl⟩:=ng (K:=K) (hRc.mono (ak g1)) hnd hlR (hdk.ne ck)
 refine ⟨_,rfl,b0,xs0,ps,rfl,hb0,hl0,hnd0,pp1,fun dl hdl=>?_⟩
 have g2:=ae hdl (.dK (ps.map fun p=>(Sum.inr p.1,p.2)))
 obtain ⟨b,fs,rfl,hb,rf⟩:=hfl.mono (ak g2)
 have lf:=Paired.length rf
 refine ⟨_,rfl,dl,_,k,_,rfl,rfl,ad,efind,?_⟩
 have hp2:=g2 _ _ hp1
 have G2:=g1.trans g2
 generalize (upd H1 dl (.dK (ps.map fun p=>(Sum.inr p.1,p.2))))=H2 at G2 hb rf hp2
 have hks2:=hks.mono (ak G2)
 have lks:=bN hks
 have etot:ax R (n+1) k=(look R k).flatMap fun p=>(ax R n p.2).map fun q=>(p.1::q.1,q.2):=by
  conv=>lhs; unfold ax
  rw [if_neg ck]
  rfl
 have cn:∀ i fl,(look R k)[i]?=some fl→(((look R k).take (i+1)).flatMap fun p=>(ax R n p.2).map fun q=>(p.1::q.1,q.2)).length=(((look R k).take i).flatMap fun p=>(ax R n p.2).map fun q=>(p.1::q.1,q.2)).length+(ax R n fl.2).length:=fun i fl h=>by
  rw [List.take_add_one,h,List.flatMap_append,List.length_append]
  simp
 have cle:∀ i,(((look R k).take i).flatMap fun p=>(ax R n p.2).map fun q=>(p.1::q.1,q.2)).length≤ds.length:=fun i=>by
  rw [hln,etot]
  conv=>rhs; rw [← List.take_append_drop i (look R k),List.flatMap_append,List.length_append]
  omega
 refine ⟨b,rfl,⟨fs,SqT.of hb⟩,cr (xs:=fs) fs.length rfl (by omega) (fun i acc H'=>∃ es,Ext pl H2 H'∧H' pl=some (.lst (xs.drop (((look R k).take i).flatMap fun p=>(ax R n p.2).map fun q=>(p.1::q.1,q.2)).length++rest))∧bC H' acc es∧es.length=i∧∀ d∈es,kv d=true) ⟨[],Ext.refl _ _,hp2,.nil,rfl,fun _ z=>nomatch z⟩ (fun i acc H' p=>SqT.of (bn p.choose_spec.1 hp2 _ _ hb)) (fun i acc H' x hi la hx p=>?_) (fun acc H' p la D hD=>?_)⟩
 ·obtain ⟨es,x1,hpi,hes,les,ges⟩:=p
  obtain ⟨fl,hfl,a,rfl,ha⟩:=aJ rf i x hx
  have k1:=bn x1 hp2
  have dp:=hd fl (List.mem_of_getElem? hfl)
  have c1:=cn i fl hfl
  have c2:=cle (i+1)
  rw [c1] at c2
  generalize hc:(((look R k).take i).flatMap fun p=>(ax R n p.2).map fun q=>(p.1::q.1,q.2)).length=ci at hpi c1 c2
  refine ⟨a,_,rfl,SqT.of (k1 _ _ ha),rfl,_,_,rfl,_,_,rfl,rfl,⟨rfl,rfl⟩,bf ?_⟩
  refine ⟨_,rfl,_,rfl,_,rfl,_,fl.2,R,pl,(xs.drop ci).take (ax R n fl.2).length,(ds.drop ci).take (ax R n fl.2).length,xs.drop (ci+(ax R n fl.2).length)++rest,rfl,(hRc.mono (ak G2)).mono k1,hnd,hlR,dp,?_,mM _ (nj _ (hks2.mono k1)),?_,fun d hd'=>hgt d (List.mem_of_mem_drop (List.mem_of_mem_take hd')),fun u d H3 x3 h3p hu gu=>nxT (by omega) hi la ⟨es++[d],x1.trans x3,?_,cR (hes.mono (bn x3 hpi)) (.cons hu .nil),by simp [les],fun e he=>?_⟩⟩
  ·rw [hpi,← List.append_assoc,← List.drop_drop,List.take_append_drop]
  ·rw [List.length_take,List.length_drop]
   omega
  ·rw [h3p,c1]
  ·rcases List.mem_append.mp he with he | he
   ·exact ges e he
   ·rw [List.mem_singleton.mp he]
    exact gu
 ·obtain ⟨es,x1,hpi,hes,les,ges⟩:=p
  rw [lf,List.take_length,← etot,← hln,← lks,List.drop_length,List.nil_append] at hpi
  have gD:=ae hD (.lst acc)
  refine ⟨D,acc,rfl,.inl ⟨SqL.of ad,fun t ht=>?_⟩⟩
  have gt':=ae ht (.tup acc)
  have npl:H2 pl=_:=hp2
  refine q (.ref t) (.tuple es) _ ((ar.ext G2).trans (x1.trans (ar.ext (gD.trans gt')))) (gt' _ _ (gD _ _ hpi)) (.tup ad (hes.mono (ak (gD.trans gt')))) ?_
  simp only [kv,Bool.and_eq_true,decide_eq_true_eq]
  exact ⟨by omega,mO ges⟩
theorem yR:aU P w K mg base CX0 1 f fd pPu (mf 0):=by
 have no:∀ vs H Q E,¬ mf 0 vs H Q E:=fun vs H Q E h=>by
  obtain ⟨v,k,R,pl,xs,ds,rest,_,_,_,_,h1,_⟩:=h
  exact h1
 exact ⟨fun vs H Q E h=>absurd h (no vs H Q E),fun A outer s H args us vs Q E _ _ _ _ h=>absurd h (no vs H Q E)⟩
theorem rS (T:G0 mg) (F:Fun K "_law_put_together" "_law_put_together" bP f fd) (b:dg K fd pPu []) (m:mg "_law_put_together"=some (.ref f)):∀ n:Nat,aU P w K mg base CX0 (n+1) f fd pPu (mf n)
 | 0=>yR
 | n+1=>yn T F ⟨f,fd,rS T F b m n,b,F.kp,m⟩
end
end K6
namespace L2
open PySem PySem.Spec PyProof.Rows
theorem gz:∀ {ts:List Str} {us:List Value},aQ (ts.map V.str) us→∃ l:List (Str×Tok),us=strValues l∧l.map (·.1)=ts
 | [],_,.nil=>⟨[],rfl,rfl⟩
 | t::ts,_,.cons r q=>by
  obtain ⟨k,rfl⟩:=r
  obtain ⟨l,rfl,e⟩:=gz q
  exact ⟨(t,k)::l,rfl,by rw [List.map_cons,e]⟩
def jl (sep:Str) (ts:List Str):Nat:=(ts.map (·.length)).sum+ts.length*sep.length
theorem qY {sep:Str} {ts:List Str} (h:jl sep ts≤sizeLine):Builtin.Str.tooLong (ts.toArray.foldl (·+·.length+sep.length) 0)=false:=by
 rw [StrLaws.joinTotal]
 unfold Builtin.Str.tooLong
 unfold jl at h
 exact decide_eq_false (Nat.not_lt.mpr h)
section
variable {X:Cx}
def xI (K:Frag):V→List V→Hp→VK→Prop:=fun x vs H Q=>∃ sep a,∃ ts:List Str,x=.str sep∧vs=[.ref a]∧(SqL K H a (ts.map V.str)∨SqT K H a (ts.map V.str))∧jl sep ts≤sizeLine∧Q (.str (Str.join sep ts)) H
theorem ww:MtR X "str.join" (xI X.K):=by
 intro pins s σ H x vs v us Q I rx rv h
 obtain ⟨sep,a,ts,rfl,rfl,hq,hz,q⟩:=h
 obtain ⟨t,rfl⟩:=rx
 obtain ⟨u,rfl,ru⟩:=rv.one
 cases ru
 have fin:∀ (l:List (Str×Tok)),l.map (·.1)=ts→∀ (v:Value) (s':Shared),((∃ t' k,v=.str (Txt.join sep ts) t'∧s'={ s with toks:=k }))→EP X pins σ Q v s':=by
  rintro l hl v s' ⟨t',k,rfl,rfl⟩
  refine ⟨.str (Str.join sep ts),H,I.tok _,⟨t',?_⟩,q⟩
  show Value.str (Builtin.Str.glued sep ts) t'=_
  rw [StrLaws.glued_eq_join]
 rcases hq with hq | hq
 ·obtain ⟨its,r,pl,_⟩:=I.list hq
  obtain ⟨l,rfl,hl⟩:=gz r
  refine call_meets F.slot_str_join (typeIs_str _ _ _) F.entry_str_join (F.args_str_join_2 _ _) (meets_str_join_list sep t a l (by rw [hl]; exact qY hz)) ⟨pl.isList,?_⟩
  refine post_join l ⟨by rw [hl]; exact joinFit_length (qY hz),fun t' k=>?_⟩
  exact fin l hl _ _ ⟨t',k,by rw [hl],rfl⟩
 ·obtain ⟨its,r,pl,_⟩:=I.tuple hq
  obtain ⟨l,rfl,hl⟩:=gz r
  obtain ⟨o,ho,hc,n,hd⟩:=id pl
  refine call_meets F.slot_str_join (typeIs_str _ _ _) F.entry_str_join (F.args_str_join_2 _ _) (meets_str_join_tuple sep t a l (by rw [hl]; exact qY hz)) ⟨⟨o,n,ho,hc,hd⟩,?_⟩
  refine post_join l ⟨by rw [hl]; exact joinFit_length (qY hz),fun t' k=>?_⟩
  exact fin l hl _ _ ⟨t',k,by rw [hl],rfl⟩
end
theorem uY {X:Cx} {K:Frag} {o e:Expr} {to te:TE} {apos cpos:Pos} (hK:X.K=K) (ho:PE X o to) (he:PE X e te)
  (hbase:attributeBase o "join" X.env (eval o X.env)=eval o X.env:=by rfl) (hline:(apos.endLine==cpos.line)=true:=by rfl)
  (hfew:((backTo cpos (starEach [e] X.env)).all (fun x=>!x.1)&&(backToKw cpos (keywordEach [] X.env)).all (fun x=>x.1.isSome)
  &&decide ([e].length+([]:List Keyword).length+(if ([]:List Keyword).isEmpty then 0 else 1)<30))=true:=by exact cW rfl rfl)
  (hs:starEach [e] X.env=(false,eval e X.env)::starEach [] X.env:=by exact aa rfl) (hplain:(backTo cpos (starEach [] X.env)).any (·.1)=false:=by exact ah rfl) :
  PE X (.Call (.Attribute o "join" apos) [e] [] cpos) (tBM K "str" (xI K) to (xj te zG)):=by
 subst hK
 exact eX PySem.F.plainAttrs_str PySem.F.slot_str_join PySem.F.type_str_join ww ho (ac he af hs) hbase hfew hline hs hplain
end L2
namespace K6
open PySem L2
structure GX (mg:Str→Option Value):Prop where
 sum:mg "sum"=none
 abs:mg "abs"=none
 sorted:mg "sorted"=none
 min:mg "min"=none
theorem tF:bootBuiltins "sum"=some (.builtin "sum"):=by decide +kernel
theorem rF:bootBuiltins "abs"=some (.builtin "abs"):=by decide +kernel
theorem tN:bootBuiltins "sorted"=some (.builtin "sorted"):=by decide +kernel
theorem zP:bootBuiltins "min"=some (.builtin "min"):=by decide +kernel
theorem wN:bootBuiltins "range"=some (.type "range"):=by decide +kernel
structure hW (r:Rm):Prop where
 a:-9≤r.a
 ab:r.a≤r.b
 b:r.b≤9
 c0:0≤r.c
 c:r.c≤3
 d:r.d∈([32,36,97,37,125]:List Int)
 de:r.d≤r.e
 e3:r.e≤r.d+3
 e:r.e≤126
def EVs:Str := " !\"#$&'()*+,-./0123456789:;<=>?@ABCDEFGHIJKLMNOPQRSTUVWXYZ[\\]^_`abcdefghijklmnopqrstuvwxyz{|}~"
def sgs (d e:Int):List Nat:=EVs.cps.toList.filter fun c=>decide (d≤(c:Int))&&decide ((c:Int)≤e)
def dn (n:Nat):Nat→Nat
 | 0=>1
 | c+1=>dn n c*n+1
theorem eJ (n:Nat):∀ c,dn n (c+1)=dn n c+n ^ (c+1)
 | 0=>by simp [dn]; omega
 | c+1=>by
  have ih:=eJ n c
  show dn n (c+1)*n+1=_
  conv=>lhs; rw [ih]
  rw [Nat.add_mul,← Nat.pow_succ]
  show dn n c*n+n ^ (c+1+1)+1=(dn n c*n+1)+_
  omega
theorem gr (n:Nat) {c k:Nat} (h:c≤k):dn n c≤dn n k:=by
 induction k with
 | zero=>rw [Nat.le_zero.mp h]; exact Nat.le_refl _
 | succ k ih =>
  rcases Nat.lt_or_eq_of_le h with h | rfl
  ·rw [eJ]
   have:=ih (by omega)
   omega
  ·exact Nat.le_refl _
def cF (r:Rm) (sort:Str):List PyData:=if sort=Str.ofString "text" then (sgs r.d r.e).map fun c=>.str ⟨#[c]⟩ else (intsFrom r.a (r.b+1 - r.a).toNat).map .int
def cnt (r:Rm) (sort:Str):Nat:=if sort=Str.ofString "num" then (r.b+1 - r.a).toNat else dn (cF r sort).length r.c.toNat
def PcD (sort:Str) (e:PyData):Prop:=(sort=Str.ofString "num"∧∃ i,e=.int i)∨(sort=Str.ofString "text"∧∃ z:Str,z.length≤3∧e=.str z∧jd e=true)∨(sort=Str.ofString "row"∧∃ is:List Int,is.length≤3∧e=.tuple (is.map .int))
def vS (ws:List PyData) (i:Nat) (e:PyData):Prop:=∃ l,e=.tuple l∧l.length=i∧∀ d∈l,d∈ws
theorem tK {H:Hp} {ns:List Int}:bC H (ns.map V.int) (ns.map .int):=by
 induction ns with
 | nil=>exact .nil
 | cons i r ih=>exact .cons (.int i) ih
theorem rM {ns:List Int}:∀ {l:List PyData},(∀ d∈l,d∈ns.map PyData.int)→∃ is:List Int,is.length=l.length∧l=is.map PyData.int
 | [],_=>⟨[],rfl,rfl⟩
 | d::l,h=>by
  obtain ⟨is,h1,h2⟩:=rM fun e he=>h e (List.mem_cons_of_mem _ he)
  obtain ⟨i,_,rfl⟩:=List.mem_map.mp (h d List.mem_cons_self)
  exact ⟨i::is,by simp [h1],by rw [h2]; rfl⟩
theorem gz {H:Hp} {d e:Int}:∀ {xs:List V} {l:List PyData},bC H xs l→(∀ z∈l,z∈(sgs d e).map fun c=>PyData.str ⟨#[c]⟩)→∃ ts:List Str,xs=ts.map V.str∧ts.length=l.length∧∀ z∈ts,∃ c,c∈EVs.cps.toList∧z=⟨#[c]⟩
 | _,_,.nil,_=>⟨[],rfl,rfl,fun _ z=>nomatch z⟩
 | _,_,.cons (d:=d0) (ds:=l) q r,h=>by
  obtain ⟨ts,e1,e2,e3⟩:=gz r fun e he=>h e (List.mem_cons_of_mem _ he)
  obtain ⟨c,hc,e4⟩:=List.mem_map.mp (h d0 List.mem_cons_self)
  subst e4
  cases q
  refine ⟨⟨#[c]⟩::ts,by rw [e1]; rfl,by simp [e2],fun z hz=>?_⟩
  rcases List.mem_cons.mp hz with rfl | hz
  ·exact ⟨c,(List.mem_filter.mp hc).1,rfl⟩
  ·exact e3 z hz
theorem wV:∀ c∈EVs.cps.toList,du (c:Nat)=true:=by decide +kernel
theorem om:∀ ts:List Str,(Str.join "" ts).cps.toList=ts.flatMap fun z=>z.cps.toList
 | []=>rfl
 | [x]=>by
  show x.cps.toList=_
  simp
 | x::y::r=>by
  show ((x.cps++(Str.ofString "").cps)++(Str.join "" (y::r)).cps).toList=_
  rw [Array.toList_append,Array.toList_append,om (y::r)]
  show (x.cps.toList++[])++_=_
  rw [List.append_nil]
  rfl
theorem mB {ts:List Str} (h:∀ z∈ts,∃ c,c∈EVs.cps.toList∧z=⟨#[c]⟩):(Str.join "" ts).length=ts.length∧jd (.str (Str.join "" ts))=true:=by
 have e:=om ts
 refine ⟨?_,?_⟩
 ·show (Str.join "" ts).cps.size=_
  rw [← Array.length_toList,e]
  clear e
  induction ts with
  | nil=>rfl
  | cons z r ih =>
   obtain ⟨c,_,rfl⟩:=h z List.mem_cons_self
   rw [List.flatMap_cons,List.length_append,ih fun y hy=>h y (List.mem_cons_of_mem _ hy)]
   show 1+r.length=r.length+1
   omega
 ·show (Str.join "" ts).cps.toList.all _=true
  rw [e,List.all_eq_true]
  intro c hc
  obtain ⟨z,hz,hcz⟩:=List.mem_flatMap.mp hc
  obtain ⟨c',h1,rfl⟩:=h z hz
  have:c=c':=by simpa using hcz
  subst this
  exact wV c h1
theorem wj {ts:List Str} (h:∀ z∈ts,∃ c,c∈EVs.cps.toList∧z=⟨#[c]⟩):jl "" ts=ts.length:=by
 have:(ts.map (·.length)).sum=ts.length:=by
  induction ts with
  | nil=>rfl
  | cons z r ih =>
   obtain ⟨c,_,rfl⟩:=h z List.mem_cons_self
   rw [List.map_cons,List.sum_cons,ih fun y hy=>h y (List.mem_cons_of_mem _ hy)]
   show 1+r.length=r.length+1
   omega
 unfold jl
 rw [this]
 show _+ts.length*0=_
 omega
section
variable {P:Program} {w:World} {K:Frag} {mg:Str→Option Value} {base:Heap} {f g:Addr} {fd gd:FuncData}
abbrev jN:List Str:=["_law_room_here", "_law_sort", "_law_numbers", "_law_every", "_law_found", "_law_last", "_law_k", "_law_longer", "_law_row"]
abbrev jT:List Str:=["_law_signs"]
theorem nO:jT.Nodup:=by decide +kernel
abbrev jY:List Str:=["_law_one", "_law_row"]
theorem ox:jY.Nodup:=by decide +kernel
abbrev jW:List Str:=["_law_sign", "_law_room_here"]
theorem oH:jW.Nodup:=by decide +kernel
theorem cg:aK jN ["_law_room_here", "_law_sort"] (defScope gb):=⟨rfl,rfl,rfl,by decide +kernel,rfl,by decide +kernel,by decide +kernel⟩
abbrev pAl:List Str:=["_law_room_here", "_law_sort"]
def xO:Sp:=fun vs H Q _=>∃ rv r sort,vs=[rv,.str sort]∧jy H rv r∧hW r∧sort∈PL∧cnt r sort≤40∧∀ l ys es H',ar H H'→H l=none→H' l=some (.lst ys)→bC H' ys es→es.length=cnt r sort→(∀ e∈es,PcD sort e)→Q (.ref l) H'
theorem xW (T:G0 mg) (F:Fun K "_law_all" "_law_all" gb f fd):aU P w K mg base CX0 1 f fd pAl xO:=by
 refine F.ok cg (fun vs H Q E h=>?_) (fun cdv A outer s H vs Q E hr h=>?_)
 ·obtain ⟨rv,r,sort,rfl,_⟩:=h
  rfl
 obtain ⟨rv,r,sort,rfl,⟨rp,rfl,hrp⟩,hok,hso,hcn,q⟩:=h
 refine ⟨_,(@aj _ _ _ _ _ (@aC _ _ 2 _ _ _ _ cg.nd rfl (Or.inl rfl) (@aZ _ _ _ _ _ _ _ _ _ (qj rfl) rfl T.list ny (@ac _ _ _ _ _ (@aZ _ _ _ _ _ _ _ _ _ tz rfl T.range wN (@ac _ _ _ _ _ (@av _ _ _ _ _ _ _ aH (pv 0) ag (fun _ _=>rfl)) (@ac _ _ _ _ _ (@aS _ _ _ _ _ _ _ _ bQ (@av _ _ _ _ _ _ _ aH (pv 0) ag (fun _ _=>rfl)) ag) af (aa rfl)) (aa rfl)) (by decide) (by decide) (aa rfl) (ah rfl)) af (aa rfl)) (by decide) (by decide) (aa rfl) (ah rfl)) (am rfl) (.inr rfl)) (@aj _ _ _ _ _ (@bj _ _ _ _ _ _ _ _ (@aE _ _ _ _ _ _ _ _ bO (pv 1) aM (aO _)) (@al _ _ _ (@ay _ _ _ _ (pv 2))) aL) (@aj _ _ _ _ _ (@bj _ _ _ _ _ _ _ _ (@aE _ _ _ _ _ _ _ _ bO (pv 1) aM (aO _)) (@aj _ _ _ _ _ (@aC _ _ 3 _ _ _ _ cg.nd rfl (Or.inl rfl) aM (am rfl) (.inr rfl)) (@al _ _ _ (rE (i:=2) (N':=jW) (ρ:=[none,some 0]) (m:=1) (bo.of (fs:=defScope gb) (N:=jN) rfl rfl (by decide +kernel)) cg.nd rfl (Or.inl rfl) rfl (kn (pv 3)) (fun _ _ _ _=>(au (i:=0) oH rfl (Or.inl rfl))) (fun _ _ _ _=>(jH (oB bY bY (av (bB (K:=K) rfl) (pv 1) ag (fun _ _=>rfl)) (ap ip rfl T.ord rA (ac (pv 0) af)) (av (bB (K:=K) rfl) (pv 1) ag (fun _ _=>rfl))))) (fun _ _ _ _=>(pv 0))))) aL) (@aj _ _ _ _ _ (@aC _ _ 4 _ _ _ _ cg.nd rfl (Or.inl rfl) (@aV _ _ _ _ (@ac _ _ _ _ _ (@ba _ _ _ _ _ af) af (aa rfl))) (am rfl) (.inr rfl)) (@aj _ _ _ _ _ (@aC _ _ 5 _ _ _ _ cg.nd rfl (Or.inl rfl) (@aV _ _ _ _ (@ac _ _ _ _ _ (@ba _ _ _ _ _ af) af (aa rfl))) (am rfl) (.inr rfl)) (@aj _ _ _ _ _ (@bF _ _ _ _ _ _ _ _ PassesOwn.never rfl (cT rfl T.range (@ac _ _ _ _ _ (@av _ _ _ _ _ _ _ aH (pv 0) ag (fun _ _=>rfl)) af (aa rfl))) (au (i:=6) cg.nd rfl (Or.inl rfl)) (@aj _ _ _ _ _ (@aC _ _ 7 _ _ _ _ cg.nd rfl (Or.inl rfl) (@aV _ _ _ _ af) (am rfl) (.inr rfl)) (@aj _ _ _ _ _ (@bF _ _ _ _ _ _ _ _ PassesOwn.never rfl (bA (pv 5)) (au (i:=8) cg.nd rfl (Or.inr rfl)) (@al _ _ _ (@cQ _ _ _ _ (@eX _ _ _ _ _ _ _ _ _ _ _ _ PySem.F.plainAttrs_list PySem.F.slot_list_extend PySem.F.type_list_extend jc (pv 7) (@ac _ _ _ _ _ (aW (N':=jY) (ρ:=[none,some 8]) (m:=1) (bo.of (fs:=defScope gb) (N:=jN) rfl rfl (by decide +kernel)) rfl (bA (pv 2)) (fun _ _ _ _=>(au (i:=0) ox rfl (Or.inl rfl))) (fun _ _ _ _=>bg) (fun _ _ _ _=>(aS (kP (K:=K) rfl) (pv 1) (ba (ac (pv 0) af))))) af (aa rfl)) rfl (cW rfl rfl) rfl (aa rfl) (ah rfl)) (am rfl))) (fun _=>rfl)) (@aj _ _ _ _ _ (@aC _ _ 5 _ _ _ _ cg.nd rfl (Or.inl rfl) (pv 7) (am rfl) (.inr rfl)) (@al _ _ _ (@aC _ _ 4 _ _ _ _ cg.nd rfl (Or.inl rfl) (@aS _ _ _ _ _ _ _ _ nr (pv 4) (pv 7)) (am rfl) (.inr rfl)))))) (fun _=>rfl)) (@al _ _ _ (@ay _ _ _ _ (@iq _ _ _ _ _ _ _ _ (@aE _ _ _ _ _ _ _ _ bO (pv 1) aM (aO _)) (pv 4) (aW (N':=jT) (ρ:=[none]) (m:=1) (bo.of (fs:=defScope gb) (N:=jN) rfl rfl (by decide +kernel)) rfl (bA (pv 4)) (fun _ _ _ _=>(au (i:=0) nO rfl (Or.inl rfl))) (fun _ _ _ _=>bg) (fun _ _ _ _=>(uY (K:=K) rfl aM (pv 0))))))))))))),?_⟩
 have o1:=hok.a
 have o2:=hok.ab
 have o3:=hok.b
 refine ⟨_,rfl,rp,_,_,_,rfl,rfl,SqT.of hrp,rfl,_,rfl,rp,_,_,_,rfl,rfl,SqT.of hrp,rfl,_,_,rfl,rfl,?_⟩
 refine ⟨_,_,rfl,fun p0 hp0=>?_⟩
 have g0:=ae hp0 (.rng r.a (r.b+1))
 refine ⟨p0,_,_,rfl,ad,by omega,by omega,by omega,fun nl hnl=>?_⟩
 have g1:=g0.trans (ae hnl (.lst ((intsFrom r.a (r.b+1 - r.a).toNat).map V.int)))
 have hn1:(upd (upd H p0 (.rng r.a (r.b+1))) nl (.lst ((intsFrom r.a (r.b+1 - r.a).toNat).map V.int))) nl=_:=ad
 generalize (upd (upd H p0 (.rng r.a (r.b+1))) nl (.lst ((intsFrom r.a (r.b+1 - r.a).toNat).map V.int)))=H1 at g1 hn1
 refine ⟨_,rfl,rfl,_,rfl,?_⟩
 refine aX (fun c1=>?_) (fun c1=>?_)
 ·have ek:=eqS c1
  subst ek
  have lN:cnt r (Str.ofString "num")=(r.b+1 - r.a).toNat:=by unfold cnt; rw [if_pos rfl]
  refine ⟨_,rfl,q nl _ ((intsFrom r.a (r.b+1 - r.a).toNat).map .int) H1 g1 (g0.free hnl) hn1 tK (by rw [lN]; simp [L2.intsFrom]) (fun e he=>.inl ⟨rfl,?_⟩)⟩
  obtain ⟨i,_,rfl⟩:=List.mem_map.mp he
  exact ⟨i,rfl⟩
 have n1:=neS c1
 dsimp only [xh]
 refine im (fun σ H2=>∃ nv m3 ns,σ=[some (.ref rp),some (.str sort),some (.ref nv),m3,none,none,none,none,none]∧ar H H2∧H2 nv=some (.lst ns)∧bC H2 ns (cF r sort)) (fun NX hNX=>?_) (fun σ H2 jj=>?_)
 ·refine ⟨_,rfl,rfl,_,rfl,?_⟩
  refine aX (fun c2=>?_) (fun c2=>?_)
  ·have ek:=eqS c2
   refine ⟨_,rfl,EVs,rfl,fL EVs.cps.size rfl (by decide +kernel) (fun i acc H'=>H'=H1∧acc=((EVs.cps.toList.take i).filter fun c=>decide (r.d≤((c:Nat):Int))&&decide (((c:Nat):Int)≤r.e)).map fun c:Nat=>V.str ⟨#[c]⟩) ⟨rfl,rfl⟩ (fun i acc H' c hi la hc p=>?_) (fun acc H' p la D hD=>?_)⟩
   ·obtain ⟨rfl,rfl⟩:=p
    have hp:=g1 _ _ hrp
    have step:EVs.cps.toList.take (i+1)=EVs.cps.toList.take i++[c]:=by
     rw [List.take_add_one,show EVs.cps.toList[i]?=some c by simpa using hc]
     rfl
    refine ⟨⟨rfl,rfl⟩,?_⟩
    refine ⟨_,rfl,_,_,_,_,rfl,rfl,SqT.of hp,rfl,_,rfl,_,rfl,rfl,_,_,rfl,rfl,_,rfl,?_⟩
    refine aX (fun c3=>?_) (fun c3=>?_)
    ·have c3':decide (r.d≤((c:Nat):Int))=true:=c3
     refine ⟨_,rfl,_,_,_,_,rfl,rfl,SqT.of hp,rfl,_,_,rfl,rfl,_,rfl,?_⟩
     refine aX (fun c4=>?_) (fun c4=>?_)
     ·have c4':decide (((c:Nat):Int)≤r.e)=true:=c4
      refine ⟨_,rfl,nxT (by decide +kernel) hi la ⟨rfl,?_⟩⟩
      rw [step,List.filter_append,List.map_append,List.filter_cons,if_pos (by rw [c3',c4']; rfl)]
      rfl
     ·have c4':decide (((c:Nat):Int)≤r.e)=false:=Bool.eq_false_iff.mpr c4
      refine nxF hi la ⟨rfl,?_⟩
      rw [step,List.filter_append,List.map_append,List.filter_cons,if_neg (by rw [c4']; simp)]
      simp
    ·have c3':decide (r.d≤((c:Nat):Int))=false:=Bool.eq_false_iff.mpr c3
     refine ⟨_,rfl,bp (nxF hi la ⟨rfl,?_⟩)⟩
     rw [step,List.filter_append,List.map_append,List.filter_cons,if_neg (by rw [c3']; simp)]
     simp
   ·obtain ⟨rfl,rfl⟩:=p
    have gD:=ae hD (.lst (((EVs.cps.toList.take EVs.cps.size).filter fun c=>decide (r.d≤((c:Nat):Int))&&decide (((c:Nat):Int)≤r.e)).map fun c:Nat=>V.str ⟨#[c]⟩))
    refine hNX _ _ ⟨D,_,_,rfl,g1.trans gD,ad,?_⟩
    unfold cF
    rw [if_pos ek,← Array.length_toList,List.take_length]
    show bC _ ((sgs r.d r.e).map _) _
    generalize sgs r.d r.e=l
    induction l with
    | nil=>exact .nil
    | cons c l ih=>exact .cons (.str _) ih
  ·have n2:=neS c2
   refine hNX _ _ ⟨nl,_,_,rfl,g1,hn1,?_⟩
   unfold cF
   rw [if_neg n2]
   exact tK
 obtain ⟨nv,m3,ns,rfl,G2,hnv,hks⟩:=jj
 have ecn:cnt r sort=dn (cF r sort).length r.c.toNat:=by unfold cnt; rw [if_neg n1]
 rw [ecn] at q hcn
 have lns:=bN hks
 generalize hN:(cF r sort).length=N at q hcn lns
 have oc:=hok.c0
 have oc3:=hok.c
 have lN:1≤r.c.toNat→N≤40:=fun h=>by
  have:=gr N h
  rw [eJ N 0] at this
  simp at this
  omega
 refine ⟨(by show 0≤sizeLine; decide),fun p1 h1=>⟨(by show 1≤sizeLine; decide),fun fl hfl=>⟨(by show 0≤sizeLine; decide),fun p2 h2=>⟨(by show 1≤sizeLine; decide),fun ll hll=>?_⟩⟩⟩⟩
 have s1:=ae h1 (.tup [])
 have s2:=ae hfl (.lst [.ref p1])
 have s3:=ae h2 (.tup [])
 have s4:=ae hll (.lst [.ref p2])
 have S4:=((s1.trans s2).trans s3).trans s4
 have ef:_=some (HO.lst [.ref p1]):=s4 _ _ (s3 _ _ ad)
 have e1:_=some (HO.tup []):=s4 _ _ (s3 _ _ (s2 _ _ ad))
 have e2:_=some (HO.tup []):=s4 _ _ ad
 have el:_=some (HO.lst [.ref p2]):=ad (H:=upd (upd (upd H2 p1 (.tup [])) fl (.lst [.ref p1])) p2 (.tup [])) (a:=ll)
 have fr0:H fl=none:=(G2.trans s1).free hfl
 generalize (upd (upd (upd (upd H2 p1 (.tup [])) fl (.lst [.ref p1])) p2 (.tup [])) ll (.lst [.ref p2]))=H3 at S4 ef e1 e2 el
 have G3:=G2.trans S4
 have hrp3:=G3 _ _ hrp
 refine ⟨_,rfl,rp,_,_,_,rfl,rfl,SqT.of hrp3,rfl,r.c,rfl,by omega,by omega,eN (n:=r.c.toNat) (fun i σ H'=>∃ fl ll m6 m7 m8 xs ys es gs,σ=[some (.ref rp),some (.str sort),some (.ref nv),m3,some (.ref fl),some (.ref ll),m6,m7,m8]∧ar H3 H'∧H fl=none∧H' fl=some (.lst xs)∧H' ll=some (.lst ys)∧bC H' xs es∧bC H' ys gs∧es.length=dn N i∧gs.length=N ^ i∧(∀ e∈es,∃ j,j≤i∧vS (cF r sort) j e)∧(∀ e∈gs,vS (cF r sort) i e)) ⟨fl,ll,_,_,_,_,_,[.tuple []],[.tuple []],rfl,ar.refl _,fr0,ef,el,.cons (.tup e1 .nil) .nil,.cons (.tup e2 .nil) .nil,rfl,by simp,fun e he=>⟨0,Nat.le_refl _,[],List.mem_singleton.mp he,rfl,fun _ z=>nomatch z⟩,fun e he=>⟨[],List.mem_singleton.mp he,rfl,fun _ z=>nomatch z⟩⟩ (fun i σ H' hi p=>?_) (fun σ H' p=>?_)⟩
 ·obtain ⟨fl,ll,m6,m7,m8,xs,ys,es,gs,rfl,S,fr,hf,hl,kes,kgs,les,lgs,res,rgs⟩:=p
  have N40:=lN (by omega)
  have lys:=bN kgs
  have b1:dn N (i+1)≤40:=Nat.le_trans (gr N (by omega)) hcn
  rw [eJ] at b1
  refine ⟨(by show 0≤sizeLine; decide),fun t ht=>?_⟩
  have st:=ae ht (.lst [])
  have S5:=S.trans st
  have htt:(upd H' t (.lst [])) t=some (.lst []):=ad
  have hf5:=st _ _ hf
  have hl5:=st _ _ hl
  have nf:fl≠t:=aq hf ht
  have nlt:ll≠t:=aq hl ht
  have kgs5:=kgs.mono (ak st)
  have kes5:=kes.mono (ak st)
  have frt:H t=none:=(G3.trans S).free ht
  generalize (upd H' t (.lst []))=H5 at S5 htt hf5 hl5 kgs5 kes5
  refine ⟨_,rfl,ll,rfl,⟨ys,SqL.of hl5⟩,cN (xs:=ys) (fun j σ H6=>∃ m8 zs hs,σ=[some (.ref rp),some (.str sort),some (.ref nv),m3,some (.ref fl),some (.ref ll),some (.int (0+(i:Int))),some (.ref t),m8]∧Ext t H5 H6∧H6 t=some (.lst zs)∧bC H6 zs hs∧hs.length=j*N∧∀ e∈hs,vS (cF r sort) (i+1) e) ⟨_,[],[],rfl,Ext.refl _ _,htt,.nil,by simp,fun _ z=>nomatch z⟩ (fun j σ H6 _ p=>?_) (fun j x σ H6 hx p=>?_) (fun σ H6 p=>?_)⟩
  ·obtain ⟨_,_,_,_,x6,_⟩:=p
   exact SqL.of (x6 _ _ nlt hl5)
  ·obtain ⟨m8',zs,hs,rfl,x6,hz,khs,lhs,rhs⟩:=p
   obtain ⟨e,he,ke⟩:=fY kgs5 j x hx
   obtain ⟨l,rfl,ll1,lm⟩:=rgs e (List.mem_of_getElem? he)
   have k6:=bn x6 htt
   have ke6:=ke.mono k6
   have hj:j<N ^ i:=by
    rw [← lgs,← lys]
    exact (List.getElem?_eq_some_iff.mp hx).1
   have szz:j*N+N≤N ^ (i+1):=by
    rw [Nat.pow_succ,← Nat.succ_mul]
    exact Nat.mul_le_mul_right _ hj
   cases ke6 with
   | @tup xa xl _ hxa kxl =>
    have lxl:=bN kxl
    have hnv6:H6 nv=some (.lst ns):=x6 _ _ (aq hnv (S4.free (S.free ht))) (S5 _ _ (S4 _ _ hnv))
    have hns6:=(hks.mono (ak (S4.trans S5))).mono k6
    refine ⟨_,rfl,.inl ⟨rfl,_,SqL.of hz⟩,_,rfl,nv,rfl,⟨ns,SqL.of hnv6⟩,cB (xs:=ns) ns.length rfl (by omega) (fun jj acc H7=>ar H6 H7∧∃ ks,bC H7 acc ks∧ks.length=jj∧∀ e∈ks,vS (cF r sort) (i+1) e) ⟨ar.refl _,[],.nil,rfl,fun _ z=>nomatch z⟩ (fun jj acc H7 p=>SqL.of (p.1 _ _ hnv6)) (fun jj acc H7 y hjj la hy p=>?_) (fun acc H7 p la D hD=>?_)⟩
    ·obtain ⟨g7,ks,kks,lks,rks⟩:=p
     obtain ⟨d,hd,kd⟩:=fY hns6 jj y hy
     have hxa7:=g7 _ _ hxa
     have fin:∀ (u:V) (H8:Hp),ar H7 H8→KAt H8 u (.tuple (l++[d]))→ar H6 H8∧∃ ks,bC H8 (acc++[u]) ks∧ks.length=jj+1∧∀ e∈ks,vS (cF r sort) (i+1) e:=by
      intro u H8 g8 ku
      refine ⟨g7.trans g8,ks++[.tuple (l++[d])],cR (kks.mono (ak g8)) (.cons ku .nil),by simp [lks],fun e he=>?_⟩
      rcases List.mem_append.mp he with he | he
      ·exact rks e he
      ·refine ⟨l++[d],List.mem_singleton.mp he,by simp [ll1],fun z hz=>?_⟩
       rcases List.mem_append.mp hz with hz | hz
       ·exact lm z hz
       ·rw [List.mem_singleton.mp hz]
        exact List.mem_of_getElem? hd
     refine ⟨⟨rfl,rfl⟩,bf ?_⟩
     refine ⟨_,rfl,_,rfl,(by show 1≤sizeLine; decide),fun q1 hq1=>?_⟩
     have g8:=ae hq1 (.tup [y])
     have ky:=kd.mono (ak (g7.trans g8))
     by_cases cx:xl=[]
     ·subst cx
      have:l=[]:=List.eq_nil_of_length_eq_zero (by rw [← lxl]; rfl)
      subst this
      exact .inr ⟨xa,q1,[y],rfl,rfl,SqT.of (g8 _ _ hxa7),SqT.of ad,nxT (by omega) hjj la (fin (.ref q1) _ g8 (.tup ad (.cons ky .nil)))⟩
     ·refine .inl ⟨xa,q1,xl,[y],rfl,rfl,SqT.of (g8 _ _ hxa7),SqT.of ad,cx,Nat.le_of_lt (aI (by simp; omega)),fun z=>absurd z (by simp),fun _ q3 hq3=>?_⟩
      have g9:=ae hq3 (.tup (xl++[y]))
      exact nxT (by omega) hjj la (fin (.ref q3) _ (g8.trans g9) (.tup ad (cR ((kxl.mono (ak g7)).mono (ak (g8.trans g9))) (.cons (ky.mono (ak g9)) .nil))))
    ·obtain ⟨g7,ks,kks,lks,rks⟩:=p
     have lz:=bN khs
     have lac:=bN kks
     have gD:=ae hD (.lst acc)
     have htD:=gD _ _ (g7 _ _ hz)
     have kt:=cM htD (.lst (zs++acc))
     refine ⟨t,D,zs,acc,rfl,rfl,htD,ad,Nat.le_of_lt (aI (by omega)),?_⟩
     refine ⟨_,zs++acc,hs++ks,rfl,(x6.trans (ar.ext (g7.trans gD))).trans Ext.upd,ad,cR ((khs.mono (ak (g7.trans gD))).mono kt) ((kks.mono (ak gD)).mono kt),?_,fun e he=>?_⟩
     ·rw [List.length_append,lhs,lks,Nat.succ_mul]
      omega
     ·rcases List.mem_append.mp he with he | he
      ·exact rhs e he
      ·exact rks e he
  ·obtain ⟨m8',zs,hs,rfl,x6,hz,khs,lhs,rhs⟩:=p
   have k6:=bn x6 htt
   have lz:=bN khs
   have lx:=bN kes
   replace lhs:hs.length=N ^ (i+1):=by rw [lhs,lys,lgs,Nat.pow_succ]
   refine ⟨_,rfl,_,rfl,_,rfl,fl,t,xs,zs,rfl,rfl,x6 _ _ nf hf5,hz,Nat.le_of_lt (aI (by omega)),fun nf2 hnf2=>?_⟩
   have g7:=ae hnf2 (.lst (xs++zs))
   have S7:ar H3 (upd H6 nf2 (.lst (xs++zs))):=fun b o e=>g7 _ _ (x6 _ _ (aq e (S.free ht)) (S5 _ _ e))
   refine ⟨nf2,t,_,_,_,xs++zs,zs,es++hs,hs,rfl,S7,?_,ad,g7 _ _ hz,cR ((kes5.mono k6).mono (ak g7)) (khs.mono (ak g7)),khs.mono (ak g7),?_,lhs,fun e he=>?_,rhs⟩
   ·cases e9:H nf2 with
    | none=>rfl
    | some o =>
     have a1:=G3 _ _ e9
     have a2:=x6 _ _ (aq a1 (S.free ht)) (S5 _ _ a1)
     rw [hnf2] at a2
     cases a2
   ·rw [List.length_append,les,lhs,eJ]
   ·rcases List.mem_append.mp he with he | he
    ·obtain ⟨j,hj,rj⟩:=res e he
     exact ⟨j,by omega,rj⟩
    ·exact ⟨i+1,Nat.le_refl _,rhs e he⟩
 ·obtain ⟨fl,ll,m6,m7,m8,xs,ys,es,gs,rfl,S,fr,hf,hl,kes,kgs,les,lgs,res,rgs⟩:=p
  have lxs:=bN kes
  refine ⟨_,rfl,rfl,_,rfl,?_⟩
  refine aX (fun c5=>?_) (fun c5=>?_)
  ·have ek:=eqS c5
   refine ⟨_,rfl,q fl xs es H' (G3.trans S) fr hf kes les (fun e he=>?_)⟩
   obtain ⟨j,hj,l,rfl,l1,lm⟩:=res e he
   refine .inr (.inr ⟨ek,?_⟩)
   have:cF r sort=(intsFrom r.a (r.b+1 - r.a).toNat).map .int:=by
    unfold cF
    rw [if_neg (by rw [ek]; decide +kernel)]
   rw [this] at lm
   obtain ⟨is,h1,h2⟩:=rM lm
   exact ⟨is,by omega,by rw [h2]⟩
  ·have n5:=neS c5
   have et:sort=Str.ofString "text":=by
    rcases List.mem_cons.mp hso with e | z
    ·exact absurd e n1
    rcases List.mem_cons.mp z with e | z
    ·exact e
    ·exact absurd (List.mem_singleton.mp z) n5
   have eo:cF r sort=(sgs r.d r.e).map fun c=>.str ⟨#[c]⟩:=by
    unfold cF
    rw [if_pos et]
   refine ⟨_,rfl,fl,rfl,⟨xs,SqL.of hf⟩,cB (xs:=xs) xs.length rfl (by omega) (fun jj acc H7=>H7=H'∧∃ ks,bC H7 acc ks∧ks.length=jj∧∀ e∈ks,PcD sort e) ⟨rfl,[],.nil,rfl,fun _ z=>nomatch z⟩ (fun jj acc H7 p=>SqL.of (p.1 ▸ hf)) (fun jj acc H7 x hjj la hx p=>?_) (fun acc H7 p la D hD=>?_)⟩
   ·obtain ⟨rfl,ks,kks,lks,rks⟩:=p
    obtain ⟨e,he,ke⟩:=fY kes jj x hx
    obtain ⟨j,hj,l,rfl,l1,lm⟩:=res e (List.mem_of_getElem? he)
    rw [eo] at lm
    cases ke with
    | @tup xa xl _ hxa kxl =>
     obtain ⟨ts,rfl,lt,hts⟩:=gz kxl lm
     refine ⟨⟨rfl,rfl⟩,bf ?_⟩
     refine ⟨rfl,_,rfl,_,xa,ts,rfl,rfl,.inr (SqT.of hxa),?_,nxT (by omega) hjj la ⟨rfl,ks++[.str (Str.join "" ts)],cR kks (.cons (.str _) .nil),by simp [lks],fun e he=>?_⟩⟩
     ·exact Nat.le_of_lt (aI (by have:=wj hts; omega))
     ·rcases List.mem_append.mp he with he | he
      ·exact rks e he
      ·refine .inr (.inl ⟨et,_,?_,List.mem_singleton.mp he,?_⟩)
       ·have:=mB hts
        rw [this.1]
        omega
       ·rw [List.mem_singleton.mp he]
        exact (mB hts).2
   ·obtain ⟨rfl,ks,kks,lks,rks⟩:=p
    have gD:=ae hD (.lst acc)
    exact q D acc ks _ ((G3.trans S).trans gD) ((G3.trans S).free hD) ad (kks.mono (ak gD)) (by rw [lks,lxs,les]) rks
end
end K6
namespace L2
theorem aU.or {P:PySem.Program} {w:PySem.World} {K:Frag} {mg:PySem.Str→Option PySem.Value} {base:PySem.Heap} {CX:CXT} {k:Nat} {f:PySem.Addr} {fd:PySem.FuncData} {ps:List PySem.Str} {sp sp':Sp} (F:aU P w K mg base CX k f fd ps sp) (G:aU P w K mg base CX k f fd ps sp'):aU P w K mg base CX k f fd ps (fun vs H Q E=>sp vs H Q E∨sp' vs H Q E) :=
 ⟨fun vs H Q E q=>q.elim (F.len vs H Q E) (G.len vs H Q E),fun A outer s H args us vs Q E hr he hb hv hs=>hs.elim (F.run A outer s H args us vs Q E hr he hb hv) (G.run A outer s H args us vs Q E hr he hb hv)⟩
theorem lZ {X:Cx} {K:Frag} (h:X.K=K):bE X (.builtin "isinstance") (zQ K):=h ▸ bm
end L2
namespace K6
open PySem L2
section
variable {P:Program} {w:World} {K:Frag} {mg:Str→Option Value} {base:Heap} {f g:Addr} {fd gd:FuncData}
abbrev kw:List Str:=["_law_value"]
abbrev fN:List Str:=["_law_one"]
theorem iI:fN.Nodup:=by decide +kernel
theorem mh:aK kw ["_law_value"] (defScope dY):=⟨rfl,rfl,rfl,by decide +kernel,rfl,by decide +kernel,by decide +kernel⟩
def rL:Sp:=fun vs H Q _=>∃ v,vs=[v]∧((∃ i,v=.int i)∨∃ a,∃ is:List Int,v=.ref a∧H a=some (.tup (is.map V.int))∧is.length≤3)∧∀ (n:Int) H',ar H H'→Q (.int n) H'
def rz:Sp:=fun vs H Q _=>∃ z:Str,vs=[.str z]∧z.length≤3∧∀ (n:Int) H',ar H H'→Q (.int n) H'
theorem uJ (T:G0 mg) (TX:GX mg) (F:Fun K "_law_size" "_law_size" dY f fd):aU P w K mg base CX0 1 f fd ["_law_value"] rL:=by
 refine F.ok mh (fun vs H Q E h=>?_) (fun cdv A outer s H vs Q E hr h=>?_)
 ·obtain ⟨v,rfl,_⟩:=h
  rfl
 obtain ⟨v,rfl,hv,q⟩:=h
 refine ⟨_,(@aj _ _ _ _ _ (@bj _ _ _ _ _ _ _ _ (bX (@ap _ _ _ _ _ _ _ _ _ bm rfl T.isi cL (@ac _ _ _ _ _ (pv 0) (@ac _ _ _ _ _ (bw (v:=.ty "int") rfl T.int jq rfl) af (aa rfl)) (aa rfl)) (by decide) (by decide) (aa rfl) (ah rfl))) (@al _ _ _ (@ay _ _ _ _ (@ap _ _ _ _ _ _ _ _ _ iB rfl TX.abs rF (@ac _ _ _ _ _ (pv 0) af (aa rfl)) (by decide) (by decide) (aa rfl) (ah rfl)))) aL) (@al _ _ _ (@ay _ _ _ _ (@aS _ _ _ _ _ _ _ _ bQ (@ap _ _ _ _ _ _ _ _ _ (bE.or aA cy) rfl T.len cb (@ac _ _ _ _ _ (pv 0) af (aa rfl)) (by decide) (by decide) (aa rfl) (ah rfl)) (@ap _ _ _ _ _ _ _ _ _ (kY rfl) rfl TX.sum tF (@ac _ _ _ _ _ (aW (N':=fN) (ρ:=[none]) (m:=1) (bo.of (fs:=defScope dY) (N:=kw) rfl rfl (by decide +kernel)) rfl (bZ (pv 0)) (fun _ _ _ _=>(au (i:=0) iI rfl (Or.inl rfl))) (fun _ _ _ _=>(jH (bX (ap (lZ (K:=K) rfl) rfl T.isi cL (ac (pv 0) (ac (bw (v:=.ty "int") rfl T.int jq rfl) af)))))) (fun _ _ _ _=>(ap iB rfl TX.abs rF (ac (pv 0) af)))) af (aa rfl)) (by decide) (by decide) (aa rfl) (ah rfl)))))),?_⟩
 rcases hv with ⟨i,rfl⟩ | ⟨a,is,rfl,ha,li⟩
 ·refine ⟨_,rfl,_,_,_,true,rfl,.int i,rfl,_,rfl,aN ?_⟩
  exact ⟨_,rfl,i,rfl,q _ _ (ar.refl _)⟩
 ·refine ⟨_,rfl,_,_,_,false,rfl,.tup ha,rfl,_,rfl,bp ?_⟩
  refine ⟨_,rfl,.inl ⟨a,_,rfl,.inr (SqT.of ha),?_⟩⟩
  refine ⟨_,rfl,a,rfl,⟨_,SqT.of ha⟩,cr (xs:=is.map V.int) is.length (by simp) (by omega) (fun i acc H'=>H'=H∧∃ ns:List Int,acc=ns.map V.int) ⟨rfl,[],rfl⟩ (fun i acc H' p=>by rw [p.1]; exact SqT.of ha) (fun i acc H' x hi la hx p=>?_) (fun acc H' p la D hD=>?_)⟩
  ·obtain ⟨rfl,ns,rfl⟩:=p
   obtain ⟨j,rfl⟩:∃ j,x=.int j:=by
    rw [List.getElem?_map] at hx
    obtain ⟨j,_,e⟩:=Option.map_eq_some_iff.mp hx
    exact ⟨j,e.symm⟩
   refine ⟨⟨rfl,rfl⟩,?_⟩
   refine ⟨_,rfl,_,_,_,true,rfl,.int j,rfl,_,rfl,aN ?_⟩
   refine ⟨_,rfl,j,rfl,nxT (by omega) hi la ⟨rfl,ns++[if j<0 then -j else j],?_⟩⟩
   rw [List.map_append]
   rfl
  ·obtain ⟨rfl,ns,rfl⟩:=p
   refine ⟨D,ns,rfl,SqL.of ad,_,_,rfl,rfl,q _ _ (ae hD _)⟩
theorem vn (T:G0 mg) (TX:GX mg) (F:Fun K "_law_size" "_law_size" dY f fd):aU P w K mg base CX0 1 f fd ["_law_value"] rz:=by
 refine F.ok mh (fun vs H Q E h=>?_) (fun cdv A outer s H vs Q E hr h=>?_)
 ·obtain ⟨v,rfl,_⟩:=h
  rfl
 obtain ⟨z,rfl,hz,q⟩:=h
 refine ⟨_,(@aj _ _ _ _ _ (@bj _ _ _ _ _ _ _ _ (bX (@ap _ _ _ _ _ _ _ _ _ bm rfl T.isi cL (@ac _ _ _ _ _ (pv 0) (@ac _ _ _ _ _ (bw (v:=.ty "int") rfl T.int jq rfl) af (aa rfl)) (aa rfl)) (by decide) (by decide) (aa rfl) (ah rfl))) (@al _ _ _ (@ay _ _ _ _ (@ap _ _ _ _ _ _ _ _ _ iB rfl TX.abs rF (@ac _ _ _ _ _ (pv 0) af (aa rfl)) (by decide) (by decide) (aa rfl) (ah rfl)))) aL) (@al _ _ _ (@ay _ _ _ _ (@aS _ _ _ _ _ _ _ _ bQ (@ap _ _ _ _ _ _ _ _ _ (bE.or aA cy) rfl T.len cb (@ac _ _ _ _ _ (pv 0) af (aa rfl)) (by decide) (by decide) (aa rfl) (ah rfl)) (@ap _ _ _ _ _ _ _ _ _ (kY rfl) rfl TX.sum tF (@ac _ _ _ _ _ (aW (N':=fN) (ρ:=[none]) (m:=1) (bo.of (fs:=defScope dY) (N:=kw) rfl rfl (by decide +kernel)) rfl (kn (pv 0)) (fun _ _ _ _=>(au (i:=0) iI rfl (Or.inl rfl))) (fun _ _ _ _=>(jH (bX (ap (lZ (K:=K) rfl) rfl T.isi cL (ac (pv 0) (ac (bw (v:=.ty "int") rfl T.int jq rfl) af)))))) (fun _ _ _ _=>(ap iB rfl TX.abs rF (ac (pv 0) af)))) af (aa rfl)) (by decide) (by decide) (aa rfl) (ah rfl)))))),?_⟩
 refine ⟨_,rfl,_,_,_,false,rfl,.str z,rfl,_,rfl,bp ?_⟩
 refine ⟨_,rfl,.inr ⟨z,rfl,Nat.le_of_lt (aI (by omega)),?_⟩⟩
 refine ⟨_,rfl,z,rfl,fL z.cps.size rfl (show z.length≤1000 by omega) (fun i acc H'=>H'=H∧acc=[]) ⟨rfl,rfl⟩ (fun i acc H' c hi la hc p=>?_) (fun acc H' p la D hD=>?_)⟩
 ·obtain ⟨rfl,rfl⟩:=p
  refine ⟨⟨rfl,rfl⟩,?_⟩
  exact ⟨_,rfl,_,_,_,false,rfl,.str _,rfl,_,rfl,bp (nxF hi la ⟨rfl,rfl⟩)⟩
 ·obtain ⟨rfl,rfl⟩:=p
  exact ⟨D,[],rfl,SqL.of ad,_,_,rfl,rfl,q _ _ (ae hD _)⟩
def uC:Sp:=fun vs H Q E=>rL vs H Q E∨rz vs H Q E
theorem wn (T:G0 mg) (TX:GX mg) (F:Fun K "_law_size" "_law_size" dY f fd):aU P w K mg base CX0 1 f fd ["_law_value"] uC:=(uJ T TX F).or (vn T TX F)
end
open PySem L2
def iD:List Nat→Nat
 | []=>1
 | a::r=>a*iD r
theorem mx:∀ a b:List Nat,iD (a++b)=iD a*iD b
 | [],b=>by simp [iD]
 | x::a,b=>by rw [List.cons_append,iD,iD,mx a b,Nat.mul_assoc]
def bx (r:Rm) (ps:List cA):Nat:=iD (ps.map fun q=>cnt r q.2)
theorem iU (r:Rm) (a b:List cA):bx r (a++b)=bx r a*bx r b:=by unfold bx; rw [List.map_append,mx]
def aR (R:List Rec) (l:List Fld):List cA:=l.flatMap fun p=>ax R 4 p.2
theorem rJ {r:Rm} (h:hW r):((L2.intsFrom r.d (r.e+1 - r.d).toNat).filter fun c=>!decide (V.int c=V.int 37)).length=(sgs r.d r.e).length:=by
 have h1:=h.d
 have h2:=h.de
 have h3:=h.e3
 have h4:=h.e
 generalize r.d=d at *
 generalize r.e=e at *
 have he:e=d∨e=d+1∨e=d+2∨e=d+3:=by omega
 simp only [List.mem_cons,List.not_mem_nil,or_false] at h1
 rcases h1 with rfl | rfl | rfl | rfl | rfl<;>rcases he with rfl | rfl | rfl | rfl<;>first | (exfalso; omega) | decide +kernel
theorem wG {r:Rm} (h:hW r) (sort:Str):(cF r sort).length≤19:=by
 unfold cF
 have h1:=h.a
 have h2:=h.b
 have h3:=h.d
 have h5:=h.de
 have h6:=h.e3
 split
 ·rw [List.length_map,← rJ h]
  refine Nat.le_trans (List.length_filter_le _ _) ?_
  simp [L2.intsFrom]
  omega
 ·simp [L2.intsFrom]
  omega
theorem wT {N c:Nat} (hN:N≤19) (hc:c≤3):dn N c≤7240:=by
 have m:∀ a b:Nat,a≤b→a*N≤b*19:=fun a b h=>Nat.mul_le_mul h hN
 have r1:dn N 1≤20:=by show 1*N+1≤20; omega
 have r2:dn N 2≤381:=by
  show dn N 1*N+1≤381
  have:=m _ _ r1
  omega
 have r3:dn N 3≤7240:=by
  show dn N 2*N+1≤7240
  have:=m _ _ r2
  omega
 exact Nat.le_trans (gr N hc) r3
section
variable {P:Program} {w:World} {K:Frag} {mg:Str→Option Value} {base:Heap} {f g:Addr} {fd gd:FuncData}
abbrev nJ:List Str:=["_law_program", "_law_f", "_law_room_here", "_law_signs", "_law_found", "_law_name", "_law_kind", "_law_path", "_law_sort", "_law_own", "_law_rows", "_law_k"]
abbrev jo:List Str:=["_law_number"]
theorem mL:jo.Nodup:=by decide +kernel
theorem bH:aK nJ ["_law_program", "_law_f", "_law_room_here"] (defScope io):=⟨rfl,rfl,rfl,by decide +kernel,rfl,by decide +kernel,by decide +kernel⟩
def vi:Sp:=fun vs H Q _=>∃ pg i R FS F rl r,vs=[pg,.int (i:Nat),.ref rl]∧ij H pg R FS∧vZ R FS∧FS[i]?=some F∧H rl=some (.lst r.vs)∧hW r∧∀ H',ar H H'→Q (.int (bx r (aR R F.2):Nat)) H'
theorem wI (T:G0 mg) (F:Fun K "_law_many" "_law_many" io f fd) (D_l_sorts:Cal P w K mg base 5 "_law_sorts" pSo (fg 4)):aU P w K mg base CX0 6 f fd ["_law_program", "_law_f", "_law_room_here"] vi:=by
 obtain ⟨g_l_sorts,gd_l_sorts,G_l_sorts,b_l_sorts,k_l_sorts,m_l_sorts⟩:=D_l_sorts.ex
 refine F.ok bH (fun vs H Q E h=>?_) (fun cdv A outer s H vs Q E hr h=>?_)
 ·obtain ⟨pg,i,R,FS,F,rl,r,rfl,_⟩:=h
  rfl
 obtain ⟨pg,i,R,FS,FF,rl,r,rfl,hp,hpg,hF,hrl,hok,q⟩:=h
 obtain ⟨hl,hDp⟩:=hpg.fl FF (List.mem_of_getElem? hF)
 obtain ⟨a,y,b,fs,rfl,ha,hRc,hb,pf⟩:=id hp
 obtain ⟨fx,hfx,c,yy,l0,b',rfl,hc,pb,xs,rfl,hpb,rs⟩:∃ fx,fs[i]?=some fx∧iE H fx FF:=by
  obtain ⟨fx,h1⟩:∃ fx,fs[i]?=some fx:=⟨_,List.getElem?_eq_getElem (by rw [Paired.length pf]; exact (List.getElem?_eq_some_iff.mp hF).1)⟩
  obtain ⟨F2,h2,h3⟩:=aJ pf i fx h1
  rw [hF] at h2
  cases h2
  exact ⟨fx,h1,h3⟩
 have o1:=hok.a
 have o2:=hok.ab
 have o3:=hok.b
 have o4:32≤r.d∧r.d≤125:=by
  have:=hok.d
  simp only [List.mem_cons,List.not_mem_nil,or_false] at this
  omega
 have o5:=hok.de
 have o6:=hok.e3
 have o7:=hok.c0
 have o8:=hok.c
 refine ⟨_,(@aj _ _ _ _ _ (rE (i:=3) (N':=jo) (ρ:=[none]) (m:=1) (bo.of (fs:=defScope io) (N:=nJ) rfl rfl (by decide +kernel)) bH.nd rfl (Or.inl rfl) rfl (sK rfl T.range (ac (av aF (pv 2) ag (fun _ _=>rfl)) (ac (aS bQ (av aF (pv 2) ag (fun _ _=>rfl)) ag) af))) (fun _ _ _ _=>(au (i:=0) mL rfl (Or.inl rfl))) (fun _ _ _ _=>(jH (aE kF (pv 0) ag (aO _)))) (fun _ _ _ _=>(pv 0))) (@aj _ _ _ _ _ (@aC _ _ 4 _ _ _ _ bH.nd rfl (Or.inl rfl) ag (am rfl) (.inr rfl)) (@aj _ _ _ _ _ (@bF _ _ _ _ _ _ _ _ PassesOwn.never rfl (bZ (@av _ _ _ _ _ _ _ aH (@av _ _ _ _ _ _ _ aH (@av _ _ _ _ _ _ _ aH (pv 0) ag (fun _ _=>rfl)) (pv 1) (fun _ _=>rfl)) ag (fun _ _=>rfl))) (dm rfl (aG (au (i:=5) bH.nd rfl (Or.inl rfl)) (aG (au (i:=6) bH.nd rfl (Or.inl rfl)) bJ))) (@al _ _ _ (@bF _ _ _ _ _ _ _ _ PassesOwn.never rfl (bA (@ao _ _ _ _ _ _ _ _ _ _ _ _ _ _ _ _ G_l_sorts (hr.mono (by omega)) rfl m_l_sorts k_l_sorts b_l_sorts .nil aB (@ac _ _ _ _ _ (@av _ _ _ _ _ _ _ aH (pv 0) ag (fun _ _=>rfl)) (@ac _ _ _ _ _ (pv 6) af (aa rfl)) (aa rfl)) (by decide) (aa rfl) (ah rfl))) (dm rfl (aG (au (i:=7) bH.nd rfl (Or.inl rfl)) (aG (au (i:=8) bH.nd rfl (Or.inl rfl)) bJ))) (@aj _ _ _ _ _ (@aC _ _ 9 _ _ _ _ bH.nd rfl (Or.inl rfl) (@iq _ _ _ _ _ _ _ _ (@aE _ _ _ _ _ _ _ _ bO (pv 8) aM (aO _)) (@ap _ _ _ _ _ _ _ _ _ aA rfl T.len cb (@ac _ _ _ _ _ (pv 3) af (aa rfl)) (by decide) (by decide) (aa rfl) (ah rfl)) (@aS _ _ _ _ _ _ _ _ bQ (@aS _ _ _ _ _ _ _ _ lc (@av _ _ _ _ _ _ _ aF (pv 2) ag (fun _ _=>rfl)) (@av _ _ _ _ _ _ _ aF (pv 2) ag (fun _ _=>rfl))) ag)) (am rfl) (.inr rfl)) (@aj _ _ _ _ _ (@aC _ _ 10 _ _ _ _ bH.nd rfl (Or.inl rfl) ag (am rfl) (.inr rfl)) (@aj _ _ _ _ _ (@bF _ _ _ _ _ _ _ _ PassesOwn.never rfl (cT rfl T.range (@ac _ _ _ _ _ (@av _ _ _ _ _ _ _ aF (pv 2) ag (fun _ _=>rfl)) af (aa rfl))) (au (i:=11) bH.nd rfl (Or.inl rfl)) (@al _ _ _ (@aC _ _ 10 _ _ _ _ bH.nd rfl (Or.inl rfl) (@aS _ _ _ _ _ _ _ _ bQ (@aS _ _ _ _ _ _ _ _ ia (pv 10) (pv 9)) ag) (am rfl) (.inr rfl))) (fun _=>rfl)) (@al _ _ _ (@aC _ _ 4 _ _ _ _ bH.nd rfl (Or.inl rfl) (@aS _ _ _ _ _ _ _ _ ia (pv 4) (@iq _ _ _ _ _ _ _ _ (@aE _ _ _ _ _ _ _ _ bO (pv 8) aM (aO _)) (pv 9) (pv 10))) (am rfl) (.inr rfl)))))) (fun _=>rfl))) (fun _=>rfl)) (@al _ _ _ (@ay _ _ _ _ (pv 4)))))),?_⟩
 refine ⟨_,rfl,rl,_,_,_,rfl,rfl,SqL.of hrl,rfl,_,rfl,rl,_,_,_,rfl,rfl,SqL.of hrl,rfl,_,_,rfl,rfl,?_⟩
 refine ⟨_,_,rfl,by omega,hJ (lo:=r.d) (r.e+1 - r.d).toNat (by omega) (fun i acc H'=>H'=H∧acc=((L2.intsFrom r.d i).filter fun c=>!decide (V.int c=V.int 37)).map V.int) ⟨rfl,rfl⟩ (fun i acc H' hi la p=>?_) (fun acc H' p la D hD=>?_)⟩
 ·obtain ⟨rfl,rfl⟩:=p
  have step:L2.intsFrom r.d (i+1)=L2.intsFrom r.d i++[r.d+(i:Int)]:=by
   unfold L2.intsFrom
   rw [List.range_succ,List.map_append]
   rfl
  refine ⟨⟨rfl,rfl⟩,?_⟩
  refine ⟨_,rfl,rfl,_,rfl,?_⟩
  refine aX (fun c3=>?_) (fun c3=>?_)
  ·refine ⟨_,rfl,nxT (by omega) hi la ⟨rfl,?_⟩⟩
   rw [step,List.filter_append,List.map_append,List.filter_cons,if_pos c3]
   rfl
  ·refine nxF hi la ⟨rfl,?_⟩
   rw [step,List.filter_append,List.map_append,List.filter_cons,if_neg c3]
   simp
 obtain ⟨rfl,rfl⟩:=p
 have gD:=ae hD (.lst (((L2.intsFrom r.d (r.e+1 - r.d).toNat).filter fun c=>!decide (V.int c=V.int 37)).map V.int))
 have hDl:(upd H' D (.lst (((L2.intsFrom r.d (r.e+1 - r.d).toNat).filter fun c=>!decide (V.int c=V.int 37)).map V.int))) D=_:=ad
 generalize (upd H' D (.lst (((L2.intsFrom r.d (r.e+1 - r.d).toNat).filter fun c=>!decide (V.int c=V.int 37)).map V.int)))=H1 at gD hDl
 refine ⟨_,rfl,a,_,_,_,rfl,rfl,SqT.of (gD _ _ ha),rfl,_,rfl,b,_,_,_,rfl,rfl,SqT.of (gD _ _ hb),lq hfx,c,_,_,_,rfl,rfl,SqT.of (gD _ _ hc),rfl,?_⟩
 refine ⟨pb,rfl,⟨xs,SqT.of (gD _ _ hpb)⟩,fo (xs:=xs) (fun j σ H2=>∃ m5 m6 m7 m8 m9 m10 m11,σ=[some (.ref a),some (.int (i:Nat)),some (.ref rl),some (.ref D),some (.int (bx r (aR R (FF.2.take j)):Nat)),m5,m6,m7,m8,m9,m10,m11]∧ar H1 H2) ⟨_,_,_,_,_,_,_,rfl,ar.refl _⟩ (fun j σ H2 _ p=>?_) (fun j u σ H2 hx p=>?_) (fun σ H2 p=>?_)⟩
 ·obtain ⟨_,_,_,_,_,_,_,_,g2⟩:=p
  exact SqT.of (g2 _ _ (gD _ _ hpb))
 ·obtain ⟨m5,m6,m7,m8,m9,m10,m11,rfl,g2⟩:=p
  obtain ⟨fl,hfl,ta,rfl,hta⟩:=aJ rs j u hx
  have G2:=gD.trans g2
  refine ⟨ta,_,rfl,SqT.of (G2 _ _ hta),rfl,_,_,rfl,_,_,rfl,rfl,?_⟩
  have dp:=hDp fl (List.mem_of_getElem? hfl)
  refine ⟨_,rfl,a,_,_,_,rfl,rfl,SqT.of (G2 _ _ ha),rfl,_,rfl,_,fl.2,R,rfl,hRc.mono (ak G2),hpg.rn,by have:=hpg.rl; omega,by decide,dp,fun rr zs H3 g3 hr0 hrz pz=>?_⟩
  have lz:=Paired.length pz
  refine ⟨rr,rfl,⟨zs,SqL.of hrz⟩,cN (xs:=zs) (fun jj σ H4=>∃ m7 m8 m9 m10 m11,σ=[some (.ref a),some (.int (i:Nat)),some (.ref rl),some (.ref D),some (.int (bx r (aR R (FF.2.take j)++(ax R 4 fl.2).take jj):Nat)),some (.str fl.1),some (.str fl.2),m7,m8,m9,m10,m11]∧ar H3 H4) ⟨_,_,_,_,_,by rw [List.take_zero,List.append_nil]; rfl,ar.refl _⟩ (fun jj σ H4 _ p=>?_) (fun jj u σ H4 hx2 p=>?_) (fun σ H4 p=>?_)⟩
  ·obtain ⟨_,_,_,_,_,_,g4⟩:=p
   exact SqL.of (g4 _ _ hrz)
  ·obtain ⟨m7,m8,m9,m10,m11,rfl,g4⟩:=p
   obtain ⟨qq,hqq,hpa⟩:=aJ pz jj u hx2
   obtain ⟨a2,y2,rfl,ha2,a3,rfl,ha3⟩:=hpa.mono (ak g4)
   have G4:=G2.trans (g3.trans g4)
   have hrl4:=G4 _ _ hrl
   have hD4:H4 D=_:=g4 _ _ (g3 _ _ (g2 _ _ hDl))
   have oN:=wG hok qq.2
   have eI:qq.2≠Str.ofString "text"→((cF r qq.2).length:Int)=r.b - r.a+1:=fun n=>by
    unfold cF
    rw [if_neg n]
    simp [L2.intsFrom]
    omega
   refine ⟨a2,_,rfl,SqT.of ha2,rfl,_,_,rfl,_,_,rfl,rfl,?_⟩
   dsimp only [my]
   refine im (fun σ H5=>σ=[some (.ref a),some (.int (i:Nat)),some (.ref rl),some (.ref D),some (.int (bx r (aR R (FF.2.take j)++(ax R 4 fl.2).take jj):Nat)),some (.str fl.1),some (.str fl.2),some (.ref a3),some (.str qq.2),some (.int ((cF r qq.2).length:Nat)),m10,m11]∧H5=H4) (fun NX hNX=>?_) (fun σ H5 pp=>?_)
   ·refine ⟨_,rfl,rfl,_,rfl,?_⟩
    refine aX (fun c3=>?_) (fun c3=>?_)
    ·have et:=eqS c3
     refine ⟨_,rfl,D,_,rfl,.inl (SqL.of hD4),hNX _ _ ⟨?_,rfl⟩⟩
     rw [List.length_map,rJ hok]
     have:(cF r qq.2).length=(sgs r.d r.e).length:=by
      unfold cF
      rw [if_pos et,List.length_map]
     rw [this]
     rfl
    ·have nt:=neS c3
     refine ⟨_,rfl,rl,_,_,_,rfl,rfl,SqL.of hrl4,rfl,_,rfl,rl,_,_,_,rfl,rfl,SqL.of hrl4,rfl,_,_,rfl,rfl,_,_,rfl,rfl,hNX _ _ ⟨?_,rfl⟩⟩
     rw [eI nt]
     rfl
   obtain ⟨rfl,rfl⟩:=pp
   have el:∀ t,((dn (cF r qq.2).length t:Nat):Int)*((cF r qq.2).length:Int)+1=((dn (cF r qq.2).length (t+1):Nat):Int):=fun t=>by
    show _=(((dn (cF r qq.2).length t*(cF r qq.2).length+1:Nat)):Int)
    simp
   refine ⟨_,rfl,rl,_,_,_,rfl,rfl,SqL.of hrl4,rfl,r.c,rfl,by omega,by omega,eN (n:=r.c.toNat) (fun t σ H6=>∃ m11,σ=[some (.ref a),some (.int (i:Nat)),some (.ref rl),some (.ref D),some (.int (bx r (aR R (FF.2.take j)++(ax R 4 fl.2).take jj):Nat)),some (.str fl.1),some (.str fl.2),some (.ref a3),some (.str qq.2),some (.int ((cF r qq.2).length:Nat)),some (.int (dn (cF r qq.2).length t:Nat)),m11]∧H6=H5) ⟨_,rfl,rfl⟩ (fun t σ H6 ht pp=>?_) (fun σ H6 pp=>?_)⟩
   ·obtain ⟨m11',rfl,rfl⟩:=pp
    refine ⟨_,rfl,_,rfl,_,_,rfl,rfl,.inr (by omega),_,_,rfl,rfl,some (.int (0+(t:Int))),?_,rfl⟩
    rw [← el t]
    rfl
   ·obtain ⟨m11',rfl,rfl⟩:=pp
    have ec:∀ {σ:St} (n:Nat),n=cnt r qq.2→σ=[some (.ref a),some (.int (i:Nat)),some (.ref rl),some (.ref D),some (.int (((bx r (aR R (FF.2.take j)++(ax R 4 fl.2).take jj):Nat):Int)*(n:Int))),some (.str fl.1),some (.str fl.2),some (.ref a3),some (.str qq.2),some (.int ((cF r qq.2).length:Nat)),some (.int (dn (cF r qq.2).length r.c.toNat:Nat)),m11']→∃ m7 m8 m9 m10 m11,σ=[some (.ref a),some (.int (i:Nat)),some (.ref rl),some (.ref D),some (.int (bx r (aR R (FF.2.take j)++(ax R 4 fl.2).take (jj+1)):Nat)),some (.str fl.1),some (.str fl.2),m7,m8,m9,m10,m11]∧ar H3 H6:=by
     rintro σ n en rfl
     have:bx r (aR R (FF.2.take j)++(ax R 4 fl.2).take (jj+1))=bx r (aR R (FF.2.take j)++(ax R 4 fl.2).take jj)*n:=by
      rw [List.take_add_one,hqq,← List.append_assoc,iU,en]
      show _*(cnt r qq.2*1)=_
      rw [Nat.mul_one]
     rw [this]
     exact ⟨_,_,_,_,_,rfl,g4⟩
    refine ⟨_,rfl,_,rfl,rfl,_,rfl,?_⟩
    refine aX (fun c4=>?_) (fun c4=>?_)
    ·have en:=eqS c4
     refine ⟨_,rfl,_,_,rfl,rfl,.inr (by omega),ec (cF r qq.2).length ?_ rfl⟩
     have:=eI (by rw [en]; decide +kernel)
     unfold cnt
     rw [if_pos en]
     omega
    ·have nn:=neS c4
     have:=wT oN (show r.c.toNat≤3 by omega)
     refine ⟨_,rfl,_,_,rfl,rfl,.inr (by omega),ec (dn (cF r qq.2).length r.c.toNat) ?_ rfl⟩
     unfold cnt
     rw [if_neg nn]
  ·obtain ⟨m7,m8,m9,m10,m11,rfl,g4⟩:=p
   have:aR R (FF.2.take (j+1))=aR R (FF.2.take j)++(ax R 4 fl.2).take zs.length:=by
    rw [lz,List.take_length,List.take_add_one,hfl]
    unfold aR
    rw [List.flatMap_append]
    simp
   rw [this]
   exact ⟨_,_,_,_,_,_,_,rfl,g2.trans (g3.trans g4)⟩
 ·obtain ⟨m5,m6,m7,m8,m9,m10,m11,rfl,g2⟩:=p
  rw [Paired.length rs,List.take_length]
  exact ⟨_,rfl,q _ (gD.trans g2)⟩
end
end K6
namespace L2
open PySem PySem.Spec PyProof.Rows
def tJ (scope:Scope) (N':List Str) (ρ:List (Option Nat)):Bool:=(match scope.kind with | .function=>true | _=>false)&&scope.names.all (fun x=>x.2 != .cell&&x.2 != .free&&(x.2 != .local||scope.names.lookup x.1==some .local))&&ρ.length==N'.length&&ρ.all (·.isNone)
theorem bo.plain {X:Cx} {scope:Scope} {N':List Str} {ρ:List (Option Nat)} {m:Nat} (h:tJ scope N' ρ=true):bo X scope N' ρ m:=by
 unfold tJ at h
 simp only [Bool.and_eq_true,List.all_eq_true,bne_iff_ne,ne_eq,Bool.or_eq_true,beq_iff_eq] at h
 obtain ⟨⟨⟨h1,h2⟩,h3⟩,h4⟩:=h
 have no:∀ (i j:Nat),ρ[i]?=some (some j)→False:=fun i j e=>by
  have:=h4 _ (List.mem_of_getElem? e)
  cases this
 refine ⟨?_,fun x hx=>(h2 x hx).1.1,fun x hx e=>?_,fun x hx e=>absurd e (h2 x hx).1.2,h3,fun i j e=>(no i j e).elim,fun i j x e=>(no i j e).elim,fun i j x e=>(no i j e).elim⟩
 ·generalize scope.kind=k at h1
  cases k<;>first | rfl | cases h1
 ·rcases (h2 x hx).2 with h | h
  ·exact absurd e h
  ·exact h
section
variable {X:Cx} {K:Frag}
theorem wR {tg e:Expr} {t:TE} (h:X.K=K) (he:PE X e t):PI X tg e (zR K t):=by subst h; exact bZ he
theorem su (h:X.K=K) (hc:X.calm=true):bE X (.builtin "sum") (zq K):=h ▸ kY hc
end
end L2
namespace K6
open PySem L2
theorem wk {r:Rm} (h:hW r) (sort:Str):1≤cnt r sort:=by
 unfold cnt
 have:=h.ab
 split
 ·omega
 ·exact gr _ (Nat.zero_le _)
theorem lL:∀ {l:List Nat},(∀ n∈l,1≤n)→1≤iD l
 | [],_=>Nat.le_refl _
 | a::r,h=>Nat.mul_le_mul (h a List.mem_cons_self) (lL fun n hn=>h n (List.mem_cons_of_mem _ hn))
theorem jX {r:Rm} (h:hW r) (ps:List cA):1≤bx r ps:=lL fun n hn=>by
 obtain ⟨q,_,rfl⟩:=List.mem_map.mp hn
 exact wk h _
theorem uN {r:Rm} (h:hW r) (a b:List cA):bx r a≤bx r (a++b):=by
 rw [iU]
 exact Nat.le_mul_of_pos_right _ (jX h b)
theorem mE (r:Rm) (a:List cA) (q:cA):bx r (a++[q])=bx r a*cnt r q.2:=by
 rw [iU]
 show _*(cnt r q.2*1)=_
 rw [Nat.mul_one]
def sL (qs:List cA) (e:PyData):Prop:=∃ l,e=.tuple l∧Paired (fun d (q:cA)=>PcD q.2 d) l qs
theorem Ad {sort:Str} {d:PyData} (h:PcD sort d):kv d=true:=by
 rcases h with ⟨_,i,rfl⟩ | ⟨_,z,hz,rfl,ht⟩ | ⟨_,is,hl,rfl⟩
 ·rfl
 ·simp only [kv,Bool.and_eq_true,decide_eq_true_eq]
  exact ⟨ht,hz⟩
 ·simp only [kv,Bool.and_eq_true,decide_eq_true_eq]
  refine ⟨by rw [List.length_map]; omega,mO fun d hd=>?_⟩
  obtain ⟨i,_,rfl⟩:=List.mem_map.mp hd
  rfl
theorem xU {sort:Str} {d e:PyData} (h:PcD sort d) (g:PcD sort e):Cok d e:=by
 rcases h with ⟨h0,i,rfl⟩ | ⟨h0,z,hz,rfl,ht⟩ | ⟨h0,is,hl,rfl⟩<;>subst h0
 ·rcases g with ⟨g0,j,rfl⟩ | ⟨g0,_⟩ | ⟨g0,_⟩
  ·exact .int i j
  ·exact absurd g0 (by decide +kernel)
  ·exact absurd g0 (by decide +kernel)
 ·rcases g with ⟨g0,_⟩ | ⟨g0,y,_,rfl,_⟩ | ⟨g0,_⟩
  ·exact absurd g0 (by decide +kernel)
  ·exact .str z y
  ·exact absurd g0 (by decide +kernel)
 ·rcases g with ⟨g0,_⟩ | ⟨g0,_⟩ | ⟨g0,js,_,rfl⟩
  ·exact absurd g0 (by decide +kernel)
  ·exact absurd g0 (by decide +kernel)
  ·refine .tup ?_
   clear hl
   rename_i hl2
   clear hl2
   induction is generalizing js with
   | nil=>exact .nil _
   | cons i is ih =>
    cases js with
    | nil=>exact .nil2 _
    | cons j js =>
     by_cases c:PyData.int i=.int j
     ·rw [List.map_cons,List.map_cons,c]
      exact .eq (ih js)
     ·exact .ne c (.int i j)
theorem oG:∀ {qs:List cA} {l m:List PyData},Paired (fun d (q:cA)=>PcD q.2 d) l qs→Paired (fun d (q:cA)=>PcD q.2 d) m qs→jF l m
 | _,_,_,.nil,.nil=>.nil _
 | _,_,_,.cons (a:=a) h r,.cons (a:=b) h' r'=>by
  by_cases c:a=b
  ·subst c
   exact .eq (oG r r')
  ·exact .ne c (xU h h')
theorem Ab {sort:Str} {d:PyData} (h:PcD sort d):pk d=true∧d.depth≤2:=by
 rcases h with ⟨_,i,rfl⟩ | ⟨_,z,hz,rfl,ht⟩ | ⟨_,is,hl,rfl⟩
 ·exact ⟨rfl,by simp [PyData.depth]⟩
 ·refine ⟨?_,by simp [PyData.depth]⟩
  show PyData.strOk z=true
  unfold PyData.strOk
  have ht':z.cps.toList.all (fun c=>du (c:Nat))=true:=ht
  rw [← Array.all_toList,List.all_eq_true]
  rw [List.all_eq_true] at ht'
  intro c hc
  have:=ht' c hc
  simp only [du,Bool.and_eq_true,decide_eq_true_eq] at this
  exact decide_eq_true (by omega)
 ·have a:pks (is.map PyData.int)=true∧PyData.depthAll (is.map PyData.int)≤1:=by
   clear hl
   induction is with
   | nil=>exact ⟨rfl,by simp [PyData.depthAll]⟩
   | cons i is ih =>
    refine ⟨by simp only [List.map_cons,pks,pk,Bool.true_and]; exact ih.1,?_⟩
    simp only [List.map_cons,PyData.depthAll,PyData.depth]
    have:=ih.2
    omega
  refine ⟨by simp only [pk]; exact a.1,?_⟩
  simp only [PyData.depth]
  omega
theorem yu {qs:List cA} {l:List PyData} (h:Paired (fun d (q:cA)=>PcD q.2 d) l qs):pks l=true∧PyData.depthAll l≤2:=by
 induction h with
 | nil=>exact ⟨rfl,by simp [PyData.depthAll]⟩
 | cons h r ih =>
  have:=Ab h
  refine ⟨by simp only [pks,Bool.and_eq_true]; exact ⟨this.1,ih.1⟩,?_⟩
  simp only [PyData.depthAll]
  omega
theorem ji {R:List Rec}:∀ (n:Nat) {k:Str} {q:cA},q∈ax R n k→q.2∈PL
 | 0,_,_,h=>nomatch h
 | n+1,k,q,h=>by
  unfold ax at h
  split at h
  ·rename_i hk
   rw [List.mem_singleton.mp h]
   exact hk
  ·unfold mH at h
   obtain ⟨p,_,hq⟩:=List.mem_flatMap.mp h
   obtain ⟨q',hq',rfl⟩:=List.mem_map.mp hq
   have:=ji n hq'
   exact this
theorem jn {R:List Rec} {l:List Fld} {j:Nat} {fl:Fld} (h:l[j]?=some fl):aR R (l.take (j+1))=aR R (l.take j)++ax R 4 fl.2:=by
 rw [List.take_add_one,h]
 unfold aR
 rw [List.flatMap_append]
 simp
theorem kR (R:List Rec) (l:List Fld) (j:Nat):∃ b,aR R l=aR R (l.take j)++b:=by
 refine ⟨aR R (l.drop j),?_⟩
 unfold aR
 rw [← List.flatMap_append,List.take_append_drop]
theorem uQ {qs:List cA} {q:cA} {l:List PyData} {d:PyData} (h:Paired (fun d (q:cA)=>PcD q.2 d) l qs) (hd:PcD q.2 d):Paired (fun d (q:cA)=>PcD q.2 d) (l++[d]) (qs++[q]):=xB (R:=fun d (q:cA)=>PcD q.2 d) hd h
theorem pq {R:List Rec} {l:List Fld} (hl:l.length≤3) (hd:∀ p∈l,cu R 4 p.2):(aR R l).length≤243:=by
 have:=cj (l:=l) (g:=fun p=>ax R 4 p.2) (b:=81) fun p hp'=>bU 4 (hd p hp')
 unfold aR
 omega
def SzP (qs:List cA) (e:PyData):Prop:=∃ n l,e=.tuple [.int n,.tuple l]∧Paired (fun d (q:cA)=>PcD q.2 d) l qs
theorem rY {H:Hp}:∀ {xs:List V} {is:List Int},bC H xs (is.map .int)→xs=is.map V.int
 | _,[],.nil=>rfl
 | _,i::is,.cons h r=>by cases h; rw [rY r]; rfl
theorem qM {H:Hp}:∀ {v:List V} {d:List PyData},bC H v d→∀ x∈v,∃ e,e∈d∧KAt H x e
 | _,_,.nil,_,h=>nomatch h
 | _,_,.cons q r,x,h=>by
  rcases List.mem_cons.mp h with rfl | h
  ·exact ⟨_,List.mem_cons_self,q⟩
  ·obtain ⟨e,he,k⟩:=qM r x h
   exact ⟨e,List.mem_cons_of_mem _ he,k⟩
theorem kj {α β:Type} {F:α→β→Prop}:∀ {l:List α} {m:List β},Paired F l m→∀ a∈l,∃ b,b∈m∧F a b
 | _,_,.nil,_,h=>nomatch h
 | _,_,.cons q r,x,h=>by
  rcases List.mem_cons.mp h with rfl | h
  ·exact ⟨_,List.mem_cons_self,q⟩
  ·obtain ⟨e,he,k⟩:=kj r x h
   exact ⟨e,List.mem_cons_of_mem _ he,k⟩
theorem zK {qs:List cA} {ks:List PyData} (h:ks.length≤40) (hs:∀ e∈ks,SzP qs e):zN ks:=by
 refine ⟨by omega,fun d hd=>?_,fun d hd e he=>?_⟩
 ·obtain ⟨n,l,rfl,lm⟩:=hs d hd
  have:=yu lm
  refine ⟨by simp only [pk,pks,Bool.and_eq_true]; exact ⟨trivial,this.1,trivial⟩,?_,n,[.tuple l],rfl⟩
  simp only [PyData.depth,PyData.depthAll]
  omega
 ·obtain ⟨n,l,rfl,lm⟩:=hs d hd
  obtain ⟨n2,l2,rfl,lm2⟩:=hs e he
  refine .tup ?_
  have c:jF [PyData.tuple l] [PyData.tuple l2]:=by
   by_cases z:PyData.tuple l=.tuple l2
   ·rw [z]
    exact .eq (.nil _)
   ·exact .ne z (.tup (oG lm lm2))
  by_cases z:PyData.int n=.int n2
  ·rw [z]
   exact .eq c
  ·exact .ne z (.int n n2)
section
variable {P:Program} {w:World} {K:Frag} {mg:Str→Option Value} {base:Heap} {f g:Addr} {fd gd:FuncData}
abbrev fe:List Str:=["_law_program", "_law_f", "_law_room_here", "_law_records", "_law_flats", "_law_name", "_law_kind", "_law_path", "_law_sort", "_law_longer", "_law_row", "_law_found", "_law_size_here", "_law_pieces"]
abbrev gP:List Str:=["_law_row"]
theorem ki:gP.Nodup:=by decide +kernel
abbrev gW:List Str:=["_law_one"]
theorem lh:gW.Nodup:=by decide +kernel
abbrev gR:List Str:=["_law_name", "_law_kind", "_law_records", "_law_pieces"]
theorem fU:gR.Nodup:=by decide +kernel
abbrev gM:List Str:=["_law_one", "_law_row"]
theorem jV:gM.Nodup:=by decide +kernel
theorem bd:aK fe ["_law_program", "_law_f", "_law_room_here"] (defScope cS):=⟨rfl,rfl,rfl,by decide +kernel,rfl,by decide +kernel,by decide +kernel⟩
def xt:Sp:=fun vs H Q _=>∃ pg i R FS F rv r,vs=[pg,.int (i:Nat),rv]∧ij H pg R FS∧vZ R FS∧FS[i]?=some F∧jy H rv r∧hW r∧bx r (aR R F.2)≤40∧∀ l ys es H',ar H H'→H l=none→H' l=some (.lst ys)→bC H' ys es→es.length=bx r (aR R F.2)→(∀ e∈es,kv e=true)→Q (.ref l) H'
theorem sZ (T:G0 mg) (TX:GX mg) (F:Fun K "_law_inputs" "_law_inputs" cS f fd) (D_l_sorts:Cal P w K mg base 5 "_law_sorts" pSo (fg 4)) (D_l_all:Cal P w K mg base 1 "_law_all" pAl xO) (D_l_size:Cal P w K mg base 1 "_law_size" ["_law_value"] uC) (D_l_put_together:Cal P w K mg base 5 "_law_put_together" pPu (mf 4)):aU P w K mg base CX0 7 f fd ["_law_program", "_law_f", "_law_room_here"] xt:=by
 obtain ⟨g_l_size,gd_l_size,G_l_size,b_l_size,k_l_size,m_l_size⟩:=D_l_size.ex
 obtain ⟨g_l_put_together,gd_l_put_together,G_l_put_together,b_l_put_together,k_l_put_together,m_l_put_together⟩:=D_l_put_together.ex
 obtain ⟨g_l_sorts,gd_l_sorts,G_l_sorts,b_l_sorts,k_l_sorts,m_l_sorts⟩:=D_l_sorts.ex
 obtain ⟨g_l_all,gd_l_all,G_l_all,b_l_all,k_l_all,m_l_all⟩:=D_l_all.ex
 refine F.ok bd (fun vs H Q E h=>?_) (fun cdv A outer s H vs Q E hr h=>?_)
 ·obtain ⟨pg,i,R,FS,F,rl,r,rfl,_⟩:=h
  rfl
 obtain ⟨pg,i,R,FS,FF,rv,r,rfl,hp,hpg,hF,⟨rp,rfl,hrp⟩,hok,hmn,q⟩:=h
 obtain ⟨hl,hDp⟩:=hpg.fl FF (List.mem_of_getElem? hF)
 obtain ⟨a,y,b,fs,rfl,ha,hRc,hb,pf⟩:=id hp
 obtain ⟨fx,hfx,c,yy,l0,b',rfl,hc,pb,xs,rfl,hpb,rs⟩:∃ fx,fs[i]?=some fx∧iE H fx FF:=by
  obtain ⟨fx,h1⟩:∃ fx,fs[i]?=some fx:=⟨_,List.getElem?_eq_getElem (by rw [Paired.length pf]; exact (List.getElem?_eq_some_iff.mp hF).1)⟩
  obtain ⟨F2,h2,h3⟩:=aJ pf i fx h1
  rw [hF] at h2
  cases h2
  exact ⟨fx,h1,h3⟩
 have lfp:=pq hl hDp
 have lrs:=Paired.length rs
 refine ⟨_,(@aj _ _ _ _ _ (@aC _ _ 3 _ _ _ _ bd.nd rfl (Or.inr rfl) (@av _ _ _ _ _ _ _ aH (pv 0) ag (fun _ _=>rfl)) (am rfl) (.inl rfl)) (@aj _ _ _ _ _ (@aC _ _ 4 _ _ _ _ bd.nd rfl (Or.inl rfl) (@aV _ _ _ _ (@ac _ _ _ _ _ (@ba _ _ _ _ _ af) af (aa rfl))) (am rfl) (.inr rfl)) (@aj _ _ _ _ _ (@bF _ _ _ _ _ _ _ _ PassesOwn.never rfl (bZ (@av _ _ _ _ _ _ _ aH (@av _ _ _ _ _ _ _ aH (@av _ _ _ _ _ _ _ aH (pv 0) ag (fun _ _=>rfl)) (pv 1) (fun _ _=>rfl)) ag (fun _ _=>rfl))) (dm rfl (aG (au (i:=5) bd.nd rfl (Or.inl rfl)) (aG (au (i:=6) bd.nd rfl (Or.inl rfl)) bJ))) (@al _ _ _ (@bF _ _ _ _ _ _ _ _ PassesOwn.never rfl (bA (@ao _ _ _ _ _ _ _ _ _ _ _ _ _ _ _ _ G_l_sorts (hr.mono (by omega)) rfl m_l_sorts k_l_sorts b_l_sorts .nil aB (@ac _ _ _ _ _ (pv 3) (@ac _ _ _ _ _ (pv 6) af (aa rfl)) (aa rfl)) (by decide) (aa rfl) (ah rfl))) (dm rfl (aG (au (i:=7) bd.nd rfl (Or.inl rfl)) (aG (au (i:=8) bd.nd rfl (Or.inl rfl)) bJ))) (@aj _ _ _ _ _ (@aC _ _ 9 _ _ _ _ bd.nd rfl (Or.inl rfl) (@aV _ _ _ _ af) (am rfl) (.inr rfl)) (@aj _ _ _ _ _ (@bF _ _ _ _ _ _ _ _ PassesOwn.never rfl (bA (pv 4)) (au (i:=10) bd.nd rfl (Or.inr rfl)) (@al _ _ _ (@cQ _ _ _ _ (@eX _ _ _ _ _ _ _ _ _ _ _ _ PySem.F.plainAttrs_list PySem.F.slot_list_extend PySem.F.type_list_extend jc (pv 9) (@ac _ _ _ _ _ (aW (N':=gM) (ρ:=[none,some 10]) (m:=1) (bo.of (fs:=defScope cS) (N:=fe) rfl rfl (by decide +kernel)) rfl (bA (ao G_l_all (hr.mono (by omega)) rfl m_l_all k_l_all b_l_all .nil aB (ac (pv 2) (ac (pv 8) af)))) (fun _ _ _ _=>(au (i:=0) jV rfl (Or.inl rfl))) (fun _ _ _ _=>bg) (fun _ _ _ _=>(aS (kP (K:=K) rfl) (pv 1) (ba (ac (pv 0) af))))) af (aa rfl)) rfl (cW rfl rfl) rfl (aa rfl) (ah rfl)) (am rfl))) (fun _=>rfl)) (@al _ _ _ (@aC _ _ 4 _ _ _ _ bd.nd rfl (Or.inl rfl) (pv 9) (am rfl) (.inr rfl))))) (fun _=>rfl))) (fun _=>rfl)) (@aj _ _ _ _ _ (@aC _ _ 11 _ _ _ _ bd.nd rfl (Or.inl rfl) (@aV _ _ _ _ af) (am rfl) (.inr rfl)) (@aj _ _ _ _ _ (@bF _ _ _ _ _ _ _ _ PassesOwn.never rfl (bA (@ap _ _ _ _ _ _ _ _ _ (qx hr.units) rfl TX.sorted tN (@ac _ _ _ _ _ (aW (N':=gP) (ρ:=[none]) (m:=1) (bo.of (fs:=defScope cS) (N:=fe) rfl rfl (by decide +kernel)) rfl (bA (pv 4)) (fun _ _ _ _=>(au (i:=0) ki rfl (Or.inl rfl))) (fun _ _ _ _=>bg) (fun _ _ _ _=>(ba (ac (ap (su (K:=K) rfl rfl) rfl TX.sum tF (ac (aW (N':=gW) (ρ:=[none]) (m:=1) (bo.plain (by decide +kernel)) rfl (wR (K:=K) rfl (pv 0)) (fun _ _ _ _=>(au (i:=0) lh rfl (Or.inl rfl))) (fun _ _ _ _=>bg) (fun _ _ _ _=>(ao G_l_size (hr.mono (by omega)) rfl m_l_size k_l_size b_l_size .nil aB (ac (pv 0) af)))) af)) (ac (pv 0) af))))) af (aa rfl)) (by decide) (by decide) (aa rfl) (ah rfl))) (dm rfl (aG (au (i:=12) bd.nd rfl (Or.inl rfl)) (aG (au (i:=10) bd.nd rfl (Or.inr rfl)) bJ))) (@aj _ _ _ _ _ (@aC _ _ 13 _ _ _ _ bd.nd rfl (Or.inr rfl) (@aZ _ _ _ _ _ _ _ _ _ fj rfl T.list ny (@ac _ _ _ _ _ (pv 10) af (aa rfl)) (by decide) (by decide) (aa rfl) (ah rfl)) (am rfl) (.inl rfl)) (@al _ _ _ (@cQ _ _ _ _ (@eX _ _ _ _ _ _ _ _ _ _ _ _ PySem.F.plainAttrs_list PySem.F.slot_list_append PySem.F.type_list_append eL (pv 11) (@ac _ _ _ _ _ (@aZ _ _ _ _ _ _ _ _ _ bt rfl T.tuple bI (@ac _ _ _ _ _ (aW (N':=gR) (ρ:=[none,none,some 3,some 13]) (m:=2) (bo.of (fs:=defScope cS) (N:=fe) rfl rfl (by decide +kernel)) rfl (bZ (av aH (av aH (av aH (pv 0) ag (fun _ _=>rfl)) (pv 1) (fun _ _=>rfl)) ag (fun _ _=>rfl))) (fun _ _ _ _=>(fZ (n:=2) (K:=K) rfl rfl (aG (au (i:=0) fU rfl (Or.inl rfl)) (aG (au (i:=1) fU rfl (Or.inl rfl)) bJ)))) (fun _ _ _ _=>bg) (fun _ _ _ _=>(ao G_l_put_together (hr.mono (by omega)) rfl m_l_put_together k_l_put_together b_l_put_together .nil aB (ac (pv 2) (ac (pv 1) (ac (pv 3) af)))))) af (aa rfl)) (by decide) (by decide) (aa rfl) (ah rfl)) af (aa rfl)) rfl (cW rfl rfl) rfl (aa rfl) (ah rfl)) (am rfl)))) (fun _=>rfl)) (@al _ _ _ (@ay _ _ _ _ (pv 11)))))))),?_⟩
 refine ⟨_,rfl,a,_,_,_,rfl,rfl,SqT.of ha,rfl,(by show 0≤sizeLine; decide),fun p1 h1=>⟨(by show 1≤sizeLine; decide),fun l1 hl1=>?_⟩⟩
 have s1:=ae h1 (.tup [])
 have s2:=ae hl1 (.lst [.ref p1])
 have gD:=s1.trans s2
 have e1:_=some (HO.tup []):=s2 _ _ ad
 have el:_=some (HO.lst [.ref p1]):=ad (H:=upd H p1 (.tup [])) (a:=l1)
 generalize (upd (upd H p1 (.tup [])) l1 (.lst [.ref p1]))=H1 at gD e1 el
 dsimp only [my]
 refine im (fun σ H2=>∃ l4 xs es m5 m6 m7 m8 m9 m10,σ=[some (.ref a),some (.int (i:Nat)),some (.ref rp),some y,some (.ref l4),m5,m6,m7,m8,m9,m10,none,none,none]∧ar H H2∧H2 l4=some (.lst xs)∧bC H2 xs es∧es.length=bx r (aR R FF.2)∧∀ e∈es,sL (aR R FF.2) e) (fun NX hNX=>?_) (fun σ H2 jj=>?_)
 ·refine ⟨_,rfl,a,_,_,_,rfl,rfl,SqT.of (gD _ _ ha),rfl,_,rfl,b,_,_,_,rfl,rfl,SqT.of (gD _ _ hb),lq hfx,c,_,_,_,rfl,rfl,SqT.of (gD _ _ hc),rfl,?_⟩
  refine ⟨pb,rfl,⟨xs,SqT.of (gD _ _ hpb)⟩,fo (xs:=xs) (fun j σ H2=>∃ l4 xs es m5 m6 m7 m8 m9 m10,σ=[some (.ref a),some (.int (i:Nat)),some (.ref rp),some y,some (.ref l4),m5,m6,m7,m8,m9,m10,none,none,none]∧ar H1 H2∧H2 l4=some (.lst xs)∧bC H2 xs es∧es.length=bx r (aR R (FF.2.take j))∧∀ e∈es,sL (aR R (FF.2.take j)) e) ⟨l1,_,[.tuple []],_,_,_,_,_,_,rfl,ar.refl _,el,.cons (.tup e1 .nil) .nil,rfl,fun e he=>⟨[],List.mem_singleton.mp he,.nil⟩⟩ (fun j σ H2 _ p=>?_) (fun j u σ H2 hx p=>?_) (fun σ H2 p=>?_)⟩
  ·obtain ⟨_,_,_,_,_,_,_,_,_,_,g2,_⟩:=p
   exact SqT.of (g2 _ _ (gD _ _ hpb))
  ·obtain ⟨l4,xs4,es,m5,m6,m7,m8,m9,m10,rfl,g2,hl4,kes,les,res⟩:=p
   obtain ⟨fl,hfl,ta,rfl,hta⟩:=aJ rs j u hx
   have G2:=gD.trans g2
   have dp:=hDp fl (List.mem_of_getElem? hfl)
   have efp:=jn (R:=R) hfl
   obtain ⟨bb,ebb⟩:=kR R FF.2 (j+1)
   refine ⟨ta,_,rfl,SqT.of (G2 _ _ hta),rfl,_,_,rfl,_,_,rfl,rfl,?_⟩
   refine ⟨_,rfl,_,rfl,y,fl.2,R,rfl,hRc.mono (ak G2),hpg.rn,by have:=hpg.rl; omega,by decide,dp,fun rr zs H3 g3 hr0 hrz pz=>?_⟩
   have lz:=Paired.length pz
   refine ⟨rr,rfl,⟨zs,SqL.of hrz⟩,cN (xs:=zs) (fun jj σ H4=>∃ l4 xs es m7 m8 m9 m10,σ=[some (.ref a),some (.int (i:Nat)),some (.ref rp),some y,some (.ref l4),some (.str fl.1),some (.str fl.2),m7,m8,m9,m10,none,none,none]∧ar H3 H4∧H4 l4=some (.lst xs)∧bC H4 xs es∧es.length=bx r (aR R (FF.2.take j)++(ax R 4 fl.2).take jj)∧∀ e∈es,sL (aR R (FF.2.take j)++(ax R 4 fl.2).take jj) e) ⟨l4,xs4,es,_,_,_,_,rfl,ar.refl _,g3 _ _ hl4,kes.mono (ak g3),by rw [List.take_zero,List.append_nil]; exact les,by rw [List.take_zero,List.append_nil]; exact res⟩ (fun jj σ H4 _ p=>?_) (fun jj u σ H4 hx2 p=>?_) (fun σ H4 p=>?_)⟩
   ·obtain ⟨_,_,_,_,_,_,_,_,g4,_⟩:=p
    exact SqL.of (g4 _ _ hrz)
   ·obtain ⟨l4,xs4,es,m7,m8,m9,m10,rfl,g4,hl4,kes,les,res⟩:=p
    obtain ⟨qq,hqq,hpa⟩:=aJ pz jj u hx2
    obtain ⟨a2,y2,rfl,ha2,a3,rfl,ha3⟩:=hpa.mono (ak g4)
    have G4:=G2.trans (g3.trans g4)
    have hrp4:=G4 _ _ hrp
    have hso:=ji 4 (List.mem_of_getElem? hqq)
    have eqs:aR R (FF.2.take j)++(ax R 4 fl.2).take (jj+1)=(aR R (FF.2.take j)++(ax R 4 fl.2).take jj)++[qq]:=by rw [List.take_add_one,hqq,← List.append_assoc]; rfl
    have pre:∃ b,aR R FF.2=((aR R (FF.2.take j)++(ax R 4 fl.2).take jj)++[qq])++b:=by
     rw [← eqs]
     refine ⟨(ax R 4 fl.2).drop (jj+1)++bb,?_⟩
     rw [ebb,efp,List.append_assoc (aR R (FF.2.take j)) ((ax R 4 fl.2).take (jj+1)),← List.append_assoc ((ax R 4 fl.2).take (jj+1)),List.take_append_drop,List.append_assoc]
    rw [eqs]
    generalize (aR R (FF.2.take j)++(ax R 4 fl.2).take jj)=qs at les res pre
    obtain ⟨b2,eb2⟩:=pre
    have mle:bx r (qs++[qq])≤40:=by
     have:=uN hok (qs++[qq]) b2
     rw [← eb2] at this
     omega
    have lqs:qs.length≤243:=by
     have:=congrArg List.length eb2
     rw [List.length_append,List.length_append] at this
     omega
    rw [mE] at mle
    have cle:cnt r qq.2≤40:=Nat.le_trans (Nat.le_mul_of_pos_left _ (jX hok qs)) mle
    have lxs4:=bN kes
    refine ⟨a2,_,rfl,SqT.of ha2,rfl,_,_,rfl,_,_,rfl,rfl,?_⟩
    refine ⟨(by show 0≤sizeLine; decide),fun t ht=>?_⟩
    have st:=ae ht (.lst [])
    have G5:=G4.trans st
    have S5:=g4.trans st
    have htt:(upd H4 t (.lst [])) t=some (.lst []):=ad
    have hl5:=st _ _ hl4
    have nlt:l4≠t:=aq hl4 ht
    have kes5:=kes.mono (ak st)
    have hrp5:=st _ _ hrp4
    generalize (upd H4 t (.lst []))=H5 at G5 S5 htt hl5 kes5 hrp5
    refine ⟨_,rfl,l4,rfl,⟨xs4,SqL.of hl5⟩,cN (xs:=xs4) (fun k σ H6=>∃ m10 ws hs,σ=[some (.ref a),some (.int (i:Nat)),some (.ref rp),some y,some (.ref l4),some (.str fl.1),some (.str fl.2),some (.ref a3),some (.str qq.2),some (.ref t),m10,none,none,none]∧Ext t H5 H6∧H6 t=some (.lst ws)∧bC H6 ws hs∧hs.length=k*cnt r qq.2∧∀ e∈hs,sL (qs++[qq]) e) ⟨_,[],[],rfl,Ext.refl _ _,htt,.nil,by simp,fun _ z=>nomatch z⟩ (fun k σ H6 _ p=>?_) (fun k x σ H6 hx p=>?_) (fun σ H6 p=>?_)⟩
    ·obtain ⟨_,_,_,_,x6,_⟩:=p
     exact SqL.of (x6 _ _ nlt hl5)
    ·obtain ⟨m10',ws,hs,rfl,x6,hz,khs,lhs,rhs⟩:=p
     obtain ⟨e,he,ke⟩:=fY kes5 k x hx
     obtain ⟨l,rfl,lm⟩:=res e (List.mem_of_getElem? he)
     have k6:=bn x6 htt
     have ke6:=ke.mono k6
     have hk:k<bx r qs:=by
      rw [← les,← lxs4]
      exact (List.getElem?_eq_some_iff.mp hx).1
     have szz:k*cnt r qq.2+cnt r qq.2≤bx r qs*cnt r qq.2:=by
      rw [← Nat.succ_mul]
      exact Nat.mul_le_mul_right _ hk
     cases ke6 with
     | @tup xa xl _ hxa kxl =>
      have lxl:=bN kxl
      have lm':=Paired.length lm
      refine ⟨_,rfl,.inl ⟨rfl,_,SqL.of hz⟩,_,rfl,_,rfl,_,r,qq.2,rfl,⟨rp,rfl,k6 _ _ hrp5⟩,hok,hso,cle,fun nl ns ds H7 g7 hnl0 hnl kns lds pds=>?_⟩
      have lns:=bN kns
      have hxa7:=g7 _ _ hxa
      refine ⟨nl,rfl,⟨ns,SqL.of hnl⟩,cB (xs:=ns) ns.length rfl (by omega) (fun jj acc H8=>ar H7 H8∧∃ ks,bC H8 acc ks∧ks.length=jj∧∀ e∈ks,sL (qs++[qq]) e) ⟨ar.refl _,[],.nil,rfl,fun _ z=>nomatch z⟩ (fun jj acc H8 p=>SqL.of (p.1 _ _ hnl)) (fun jj acc H8 v hjj la hv p=>?_) (fun acc H8 p la D hD=>?_)⟩
      ·obtain ⟨g8,ks,kks,lks,rks⟩:=p
       obtain ⟨d,hd,kd⟩:=fY kns jj v hv
       have hpd:=pds d (List.mem_of_getElem? hd)
       have hxa8:=g8 _ _ hxa7
       have fin:∀ (u:V) (H9:Hp),ar H8 H9→KAt H9 u (.tuple (l++[d]))→ar H7 H9∧∃ ks,bC H9 (acc++[u]) ks∧ks.length=jj+1∧∀ e∈ks,sL (qs++[qq]) e:=by
        intro u H9 g9 ku
        refine ⟨g8.trans g9,ks++[.tuple (l++[d])],cR (kks.mono (ak g9)) (.cons ku .nil),by simp [lks],fun e he=>?_⟩
        rcases List.mem_append.mp he with he | he
        ·exact rks e he
        ·exact ⟨l++[d],List.mem_singleton.mp he,uQ lm hpd⟩
       refine ⟨⟨rfl,rfl⟩,bf ?_⟩
       refine ⟨_,rfl,_,rfl,(by show 1≤sizeLine; decide),fun q1 hq1=>?_⟩
       have g9:=ae hq1 (.tup [v])
       have ky:=kd.mono (ak (g8.trans g9))
       by_cases cx:xl=[]
       ·subst cx
        have:l=[]:=List.eq_nil_of_length_eq_zero (by rw [← lxl]; rfl)
        subst this
        exact .inr ⟨xa,q1,[v],rfl,rfl,SqT.of (g9 _ _ hxa8),SqT.of ad,nxT (by omega) hjj la (fin (.ref q1) _ g9 (.tup ad (.cons ky .nil)))⟩
       ·refine .inl ⟨xa,q1,xl,[v],rfl,rfl,SqT.of (g9 _ _ hxa8),SqT.of ad,cx,Nat.le_of_lt (aI (by simp; omega)),fun z=>absurd z (by simp),fun _ q3 hq3=>?_⟩
        have g10:=ae hq3 (.tup (xl++[v]))
        exact nxT (by omega) hjj la (fin (.ref q3) _ (g9.trans g10) (.tup ad (cR ((kxl.mono (ak g7)).mono (ak (g8.trans (g9.trans g10)))) (.cons (ky.mono (ak g10)) .nil))))
      ·obtain ⟨g8,ks,kks,lks,rks⟩:=p
       have lz':=bN khs
       have lac:=bN kks
       have gD':=ae hD (.lst acc)
       have g78:=(g7.trans g8).trans gD'
       have htD:=g78 _ _ hz
       have kt:=cM htD (.lst (ws++acc))
       refine ⟨t,D,ws,acc,rfl,rfl,htD,ad,Nat.le_of_lt (aI (by omega)),?_⟩
       refine ⟨_,ws++acc,hs++ks,rfl,(x6.trans (ar.ext g78)).trans Ext.upd,ad,cR ((khs.mono (ak g78)).mono kt) ((kks.mono (ak gD')).mono kt),?_,fun e he=>?_⟩
       ·rw [List.length_append,lhs,lks,Nat.succ_mul]
        omega
       ·rcases List.mem_append.mp he with he | he
        ·exact rhs e he
        ·exact rks e he
    ·obtain ⟨m10',ws,hs,rfl,x6,hz,khs,lhs,rhs⟩:=p
     have S6:ar H3 H6:=fun b o e=>x6 _ _ (aq e (g4.free ht)) (S5 _ _ e)
     exact ⟨_,rfl,t,ws,hs,_,_,_,_,rfl,S6,hz,khs,by rw [lhs,lxs4,les,mE],rhs⟩
   ·obtain ⟨l4,xs4,es,m7,m8,m9,m10,rfl,g4,hl4,kes,les,res⟩:=p
    rw [lz,List.take_length,← efp] at les res
    exact ⟨l4,xs4,es,_,_,_,_,_,_,rfl,g2.trans (g3.trans g4),hl4,kes,les,res⟩
  ·obtain ⟨l4,xs4,es,m5,m6,m7,m8,m9,m10,rfl,g2,hl4,kes,les,res⟩:=p
   rw [lrs,List.take_length] at les res
   exact hNX _ _ ⟨l4,xs4,es,_,_,_,_,_,_,rfl,gD.trans g2,hl4,kes,les,res⟩
 obtain ⟨l4,xs4,es,m5,m6,m7,m8,m9,m10,rfl,G2,hl4,kes,les,res⟩:=jj
 have lxs4:=bN kes
 refine ⟨(by show 0≤sizeLine; decide),fun t ht=>?_⟩
 have st:=ae ht (.lst [])
 have G3:=G2.trans st
 have htt:(upd H2 t (.lst [])) t=some (.lst []):=ad
 have hl3:=st _ _ hl4
 have Ht:H t=none:=G2.free ht
 have kes3:=kes.mono (ak st)
 generalize (upd H2 t (.lst []))=H3 at G3 htt hl3 kes3
 refine ⟨_,rfl,l4,rfl,⟨xs4,SqL.of hl3⟩,cB (xs:=xs4) xs4.length rfl (by omega) (fun k acc H'=>ar H3 H'∧∃ ks,bC H' acc ks∧ks.length=k∧∀ e∈ks,SzP (aR R FF.2) e) ⟨ar.refl _,[],.nil,rfl,fun _ z=>nomatch z⟩ (fun k acc H' p=>SqL.of (p.1 _ _ hl3)) (fun k acc H4 x hk la hx p=>?_) (fun acc H4 p la D hD=>?_)⟩
 ·obtain ⟨g4,ks,kks,lks,rks⟩:=p
  obtain ⟨e,he,ke⟩:=fY kes3 k x hx
  obtain ⟨l,rfl,lm⟩:=res e (List.mem_of_getElem? he)
  have lm':=Paired.length lm
  cases ke with
  | @tup xa xl _ hxa kxl =>
   have lxl:=bN kxl
   have hxa4:=g4 _ _ hxa
   refine ⟨⟨rfl,rfl⟩,bf ?_⟩
   refine ⟨_,rfl,xa,rfl,⟨xl,SqT.of hxa4⟩,cr (xs:=xl) xl.length rfl (by omega) (fun jj acc H'=>ar H4 H'∧∃ ns:List Int,acc=ns.map V.int) ⟨ar.refl _,[],rfl⟩ (fun jj acc H' p=>SqT.of (p.1 _ _ hxa4)) (fun jj acc2 H5 v hjj la2 hv p=>?_) (fun acc2 H5 p la2 D2 hD2=>?_)⟩
   ·obtain ⟨g5,ns,rfl⟩:=p
    obtain ⟨d,hd,kd⟩:=fY kxl jj v hv
    obtain ⟨qq,_,hpd⟩:=aJ lm jj d hd
    have kd5:=kd.mono (ak (g4.trans g5))
    have fin:∀ (n:Int) H6,ar H5 H6→ar H4 H6∧∃ ns':List Int,ns.map V.int++[V.int n]=ns'.map V.int:=fun n H6 g6=>⟨g5.trans g6,ns++[n],by rw [List.map_append]; rfl⟩
    refine ⟨⟨rfl,rfl⟩,bf ?_⟩
    rcases hpd with ⟨_,n,rfl⟩ | ⟨_,z,hz,rfl,_⟩ | ⟨_,is,hl3',rfl⟩
    ·cases kd5
     exact ⟨_,rfl,.inl ⟨_,rfl,.inl ⟨n,rfl⟩,fun n H6 g6=>nxT (by omega) hjj la2 (fin n H6 g6)⟩⟩
    ·cases kd5
     exact ⟨_,rfl,.inr ⟨z,rfl,hz,fun n H6 g6=>nxT (by omega) hjj la2 (fin n H6 g6)⟩⟩
    ·cases kd5 with
     | @tup va vl _ hva kvl =>
      obtain rfl:=rY kvl
      exact ⟨_,rfl,.inl ⟨_,rfl,.inr ⟨va,is,rfl,hva,hl3'⟩,fun n H6 g6=>nxT (by omega) hjj la2 (fin n H6 g6)⟩⟩
   ·obtain ⟨g5,ns,rfl⟩:=p
    have gD2:=ae hD2 (.lst (ns.map V.int))
    refine ⟨D2,ns,rfl,SqL.of ad,_,rfl,(by show 2≤sizeLine; decide),fun p2 hp2=>?_⟩
    have g6:=ae hp2 (.tup [.int ns.sum,.ref xa])
    have G6:=(g5.trans gD2).trans g6
    refine nxT (by omega) hk la ⟨g4.trans G6,ks++[.tuple [.int ns.sum,.tuple l]],cR (kks.mono (ak G6)) (.cons (.tup ad (.cons (.int _) (.cons (.tup (G6 _ _ hxa4) ((kxl.mono (ak g4)).mono (ak G6))) .nil))) .nil),by simp [lks],fun e he=>?_⟩
    rcases List.mem_append.mp he with he | he
    ·exact rks e he
    ·exact ⟨_,l,List.mem_singleton.mp he,lm⟩
 obtain ⟨g4,ks,kks,lks,rks⟩:=p
 have gD4:=ae hD (.lst acc)
 have kks5:=kks.mono (ak gD4)
 have lacc:=bN kks
 refine ⟨D,acc,ks,rfl,SqL.of ad,kks5,zK (by omega) rks,fun p ix hpn perm=>?_⟩
 have g5:=ae hpn (.lst (ix.map fun i=>acc.getD i .non))
 have hpp:(upd (upd H4 D (.lst acc)) p (.lst (ix.map fun i=>acc.getD i .non))) p=_:=ad
 have G5:=G3.trans (g4.trans (gD4.trans g5))
 have ht5:=(g4.trans (gD4.trans g5)) _ _ htt
 have kks6:=kks5.mono (ak g5)
 have npt:p≠t:=(aq ((g4.trans gD4) _ _ htt) hpn).symm
 have lix:ix.length=acc.length:=by rw [perm.length_eq,List.length_range]
 generalize (upd (upd H4 D (.lst acc)) p (.lst (ix.map fun i=>acc.getD i .non)))=H5 at hpp G5 ht5 kks6
 refine ⟨p,rfl,⟨_,SqL.of hpp⟩,cN (xs:=ix.map fun i=>acc.getD i .non) (fun k σ H'=>∃ m10 m12 m13 ys gs,σ=[some (.ref a),some (.int (i:Nat)),some (.ref rp),some y,some (.ref l4),m5,m6,m7,m8,m9,m10,some (.ref t),m12,m13]∧Ext t H5 H'∧H' t=some (.lst ys)∧bC H' ys gs∧gs.length=k∧∀ e∈gs,kv e=true) ⟨_,_,_,[],[],rfl,Ext.refl _ _,ht5,.nil,rfl,fun _ z=>nomatch z⟩ (fun k σ H' _ pp=>?_) (fun k x σ H6 hx pp=>?_) (fun σ H6 pp=>?_)⟩
 ·obtain ⟨_,_,_,_,_,_,x6,_⟩:=pp
  exact SqL.of (x6 _ _ npt hpp)
 ·obtain ⟨m10',m12,m13,ys,gs,rfl,x6,hty,kgs,lgs,rgs⟩:=pp
  have hkl:k<acc.length:=by
   have:=(List.getElem?_eq_some_iff.mp hx).1
   rw [List.length_map] at this
   omega
  have hxm:x∈acc:=by
   rw [List.getElem?_map] at hx
   obtain ⟨i0,hi0,e0⟩:=Option.map_eq_some_iff.mp hx
   have:i0∈List.range acc.length:=perm.subset (List.mem_of_getElem? hi0)
   have lt:=List.mem_range.mp this
   rw [← e0,List.getD_eq_getElem?_getD,List.getElem?_eq_getElem lt]
   exact List.getElem_mem lt
  obtain ⟨e,he,ke⟩:=qM kks6 x hxm
  obtain ⟨n,l,rfl,lm⟩:=rks e he
  have k6:=bn x6 ht5
  have lm':=Paired.length lm
  cases ke with
  | @tup xq xqs _ hxq kq =>
   cases kq with
   | @cons v0 vr _ _ kv0 kvr =>
    cases kv0
    cases kvr with
    | @cons v1 vr2 _ _ kv1 kvr2 =>
     cases kvr2
     cases kv1 with
     | @tup xa xl _ hxa kxl =>
      have lxl:=bN kxl
      refine ⟨xq,_,rfl,SqT.of (k6 _ _ hxq),rfl,_,_,rfl,_,_,rfl,rfl,?_⟩
      refine ⟨_,rfl,xa,xl,rfl,.inr (SqT.of (k6 _ _ hxa)),fun pl hpl=>?_⟩
      have g7:=ae hpl (.lst xl)
      have hplv:(upd H6 pl (.lst xl)) pl=some (.lst xl):=ad
      have hty7:=g7 _ _ hty
      have kgs7:=kgs.mono (ak g7)
      have k7:=k6.trans (ak g7)
      have ntp:t≠pl:=aq hty hpl
      have X7:Ext t H5 (upd H6 pl (.lst xl)):=x6.trans (ar.ext g7)
      generalize (upd H6 pl (.lst xl))=H7 at hplv hty7 kgs7 k7 X7
      have kxl7:=kxl.mono k7
      have G7:Tk H H7:=(ak G5).trans k7
      refine ⟨_,rfl,.inl ⟨rfl,_,SqL.of hty7⟩,?_⟩
      refine ⟨_,rfl,a,_,_,_,rfl,rfl,SqT.of (G7 _ _ ha),rfl,_,rfl,b,_,_,_,rfl,rfl,SqT.of (G7 _ _ hb),lq hfx,c,_,_,_,rfl,rfl,SqT.of (G7 _ _ hc),rfl,?_⟩
      refine ⟨pb,rfl,⟨xs,SqT.of (G7 _ _ hpb)⟩,cr (xs:=xs) xs.length rfl (by omega) (fun jj acc H'=>∃ es,Ext pl H7 H'∧H' pl=some (.lst (xl.drop (aR R (FF.2.take jj)).length))∧bC H' acc es∧es.length=jj∧∀ d∈es,kv d=true) ⟨[],Ext.refl _ _,hplv,.nil,rfl,fun _ z=>nomatch z⟩ (fun jj acc H' p=>SqT.of (bn p.choose_spec.1 hplv _ _ (G7 _ _ hpb))) (fun jj acc2 H8 u hjj la2 hu pp=>?_) (fun acc2 H8 pp la2 D2 hD2=>?_)⟩
      ·obtain ⟨es2,x8,hp8,kes2,les2,res2⟩:=pp
       obtain ⟨fl,hfl,ta,rfl,hta⟩:=aJ rs jj u hu
       have k8:=bn x8 hplv
       have dp:=hDp fl (List.mem_of_getElem? hfl)
       have efp:=jn (R:=R) hfl
       obtain ⟨bb,ebb⟩:=kR R FF.2 (jj+1)
       have c1:=congrArg List.length efp
       rw [List.length_append] at c1
       have c2:=congrArg List.length ebb
       rw [List.length_append] at c2
       generalize hci:(aR R (FF.2.take jj)).length=ci at hp8 c1
       refine ⟨ta,_,rfl,SqT.of (k8 _ _ (G7 _ _ hta)),rfl,_,_,rfl,_,_,rfl,rfl,⟨rfl,rfl⟩,bf ?_⟩
       refine ⟨_,rfl,_,rfl,_,rfl,y,fl.2,R,pl,(xl.drop ci).take (ax R 4 fl.2).length,(l.drop ci).take (ax R 4 fl.2).length,xl.drop (ci+(ax R 4 fl.2).length),rfl,(hRc.mono G7).mono k8,hpg.rn,by have:=hpg.rl; omega,dp,?_,mM _ (nj _ (kxl7.mono k8)),?_,fun d hd'=>?_,fun u d H9 x9 h9p hu9 gu=>nxT (by omega) hjj la2 ⟨es2++[d],x8.trans x9,?_,cR (kes2.mono (bn x9 hp8)) (.cons hu9 .nil),by simp [les2],fun e he=>?_⟩⟩
       ·rw [hp8,← List.drop_drop,List.take_append_drop]
       ·rw [List.length_take,List.length_drop]
        omega
       ·obtain ⟨q',_,hpc⟩:=kj lm d (List.mem_of_mem_drop (List.mem_of_mem_take hd'))
        exact Ad hpc
       ·rw [h9p,c1]
       ·rcases List.mem_append.mp he with he | he
        ·exact res2 e he
        ·rw [List.mem_singleton.mp he]
         exact gu
      ·obtain ⟨es2,x8,hp8,kes2,les2,res2⟩:=pp
       have gD8:=ae hD2 (.lst acc2)
       refine ⟨D2,acc2,rfl,.inl ⟨SqL.of ad,fun tt htt=>?_⟩⟩
       have g9:=ae htt (.tup acc2)
       have g89:=gD8.trans g9
       have ht9:=g89 _ _ (x8 _ _ ntp hty7)
       have kt:=cM ht9 (.lst (ys++[.ref tt]))
       have lys:=bN kgs
       refine ⟨t,ys,_,rfl,rfl,ht9,aI (by omega),?_⟩
       refine ⟨_,_,_,ys++[.ref tt],gs++[.tuple es2],rfl,?_,ad,cR (((kgs7.mono (bn x8 hplv)).mono (ak g89)).mono kt) (.cons (.tup (kt _ _ ad) ((kes2.mono (ak g89)).mono kt)) .nil),by simp [lgs],fun e he=>?_⟩
       ·intro b0 o nb e
        rw [bc nb]
        exact g89 _ _ (x8 _ _ (fun z=>by have:=X7 _ _ nb e; have h6:=x6 _ _ nb e; rw [z] at h6; rw [hpl] at h6; cases h6) (X7 _ _ nb e))
       ·rcases List.mem_append.mp he with he | he
        ·exact rgs e he
        ·rw [List.mem_singleton.mp he]
         simp only [kv,Bool.and_eq_true,decide_eq_true_eq]
         exact ⟨by omega,mO res2⟩
 ·obtain ⟨m10',m12,m13,ys,gs,rfl,x6,hty,kgs,lgs,rgs⟩:=pp
  refine ⟨_,rfl,q t ys gs H6 (fun b o e=>x6 _ _ (aq e Ht) (G5 _ _ e)) Ht hty kgs ?_ rgs⟩
  rw [lgs,List.length_map]
  omega
end
open PySem L2
theorem eqI {i j:Int} (c:decide (V.int i=V.int j)=true):i=j:=V.int.inj (of_decide_eq_true c)
theorem neI {i j:Int} (c:¬ decide (V.int i=V.int j)=true):¬ i=j:=fun e=>c (decide_eq_true (congrArg V.int e))
theorem oF {r:Rm} (h:r.a=r.b) (hc:r.c=0):∀ ps:List cA,bx r ps=1
 | []=>rfl
 | q::ps=>by
  show cnt r q.2*bx r ps=1
  rw [oF h hc ps]
  unfold cnt
  rw [hc]
  split
  ·omega
  ·rfl
theorem Fd.ext {H H':Hp} {fp sc rl:Addr} {m:Nat} (x:Ext rl H H') (n:rl≠fp∧rl≠sc) (h:Fd H fp sc m):Fd H' fp sc m:=by
 obtain ⟨ns,a,b,c,h1,h2,h3⟩:=h
 exact ⟨ns,a,b,c,x _ _ n.1.symm h1,x _ _ n.2.symm h2,h3⟩
def msr (r:Rm) (tn:Nat):Nat:=3*((r.b - r.a).toNat+(r.e - r.d).toNat+r.c.toNat)+(2 - tn % 3)
section
variable {P:Program} {w:World} {K:Frag} {mg:Str→Option Value} {base:Heap} {f g:Addr} {fd gd:FuncData}
abbrev uA:List Str:=["_law_feed_here", "_law_program", "_law_f", "_law_most", "_law_low", "_law_room_here", "_law_turn"]
theorem eF:aK uA ["_law_feed_here", "_law_program", "_law_f", "_law_most"] (defScope ld):=⟨rfl,rfl,rfl,by decide +kernel,rfl,by decide +kernel,by decide +kernel⟩
def zL:Sp:=fun vs H Q _=>∃ fp sc m pg i R FS F,vs=[.ref fp,pg,.int (i:Nat),.int 40]∧Fd H fp sc m∧m≤900∧ij H pg R FS∧vZ R FS∧FS[i]?=some F∧∀ rv r H',Ext fp H H'→Fd H' fp sc (m+7)→jy H' rv r→hW r→bx r (aR R F.2)≤40→Q rv H'
theorem wY (T:G0 mg) (TX:GX mg) (F:Fun K "_law_room" "_law_room" ld f fd) (D_l_many:Cal P w K mg base 6 "_law_many" ["_law_program", "_law_f", "_law_room_here"] vi) (D_l_draw:Cal P w K mg base 1 "_law_draw" ["_law_feed_here", "_law_many_here"] oJ):aU P w K mg base CX0 7 f fd ["_law_feed_here", "_law_program", "_law_f", "_law_most"] zL:=by
 obtain ⟨g_l_many,gd_l_many,G_l_many,b_l_many,k_l_many,m_l_many⟩:=D_l_many.ex
 obtain ⟨g_l_draw,gd_l_draw,G_l_draw,b_l_draw,k_l_draw,m_l_draw⟩:=D_l_draw.ex
 refine F.ok eF (fun vs H Q E h=>?_) (fun cdv A outer s H vs Q E hr h=>?_)
 ·obtain ⟨fp,sc,m,pg,i,R,FS,F,rfl,_⟩:=h
  rfl
 obtain ⟨fp,sc,m,pg,i,R,FS,FF,rfl,hf,hm,hp,hpg,hF,q⟩:=h
 refine ⟨_,(@aj _ _ _ _ _ (@aC _ _ 4 _ _ _ _ eF.nd rfl (Or.inl rfl) (@av _ _ _ _ _ _ _ aF (@aV _ _ _ _ (@ac _ _ _ _ _ ag (@ac _ _ _ _ _ ag (@ac _ _ _ _ _ ag (@ac _ _ _ _ _ ag (@ac _ _ _ _ _ ag af (aa rfl)) (aa rfl)) (aa rfl)) (aa rfl)) (aa rfl))) (@ao _ _ _ _ _ _ _ _ _ _ _ _ _ _ _ _ G_l_draw (hr.mono (by omega)) rfl m_l_draw k_l_draw b_l_draw .nil aB (@ac _ _ _ _ _ (pv 0) (@ac _ _ _ _ _ ag af (aa rfl)) (aa rfl)) (by decide) (aa rfl) (ah rfl)) (fun _ _=>rfl)) (am rfl) (.inr rfl)) (@aj _ _ _ _ _ (@aC _ _ 5 _ _ _ _ eF.nd rfl (Or.inl rfl) (@aV _ _ _ _ (@ac _ _ _ _ _ (@lW _ _ _ _ _ _ iZ (@ao _ _ _ _ _ _ _ _ _ _ _ _ _ _ _ _ G_l_draw (hr.mono (by omega)) rfl m_l_draw k_l_draw b_l_draw .nil aB (@ac _ _ _ _ _ (pv 0) (@ac _ _ _ _ _ ag af (aa rfl)) (aa rfl)) (by decide) (aa rfl) (ah rfl))) (@ac _ _ _ _ _ (@ao _ _ _ _ _ _ _ _ _ _ _ _ _ _ _ _ G_l_draw (hr.mono (by omega)) rfl m_l_draw k_l_draw b_l_draw .nil aB (@ac _ _ _ _ _ (pv 0) (@ac _ _ _ _ _ ag af (aa rfl)) (aa rfl)) (by decide) (aa rfl) (ah rfl)) (@ac _ _ _ _ _ (@ao _ _ _ _ _ _ _ _ _ _ _ _ _ _ _ _ G_l_draw (hr.mono (by omega)) rfl m_l_draw k_l_draw b_l_draw .nil aB (@ac _ _ _ _ _ (pv 0) (@ac _ _ _ _ _ ag af (aa rfl)) (aa rfl)) (by decide) (aa rfl) (ah rfl)) (@ac _ _ _ _ _ (pv 4) (@ac _ _ _ _ _ (@ap _ _ _ _ _ _ _ _ _ (tj rfl) rfl TX.min zP (@ac _ _ _ _ _ ag (@ac _ _ _ _ _ (@aS _ _ _ _ _ _ _ _ bQ (pv 4) (@ao _ _ _ _ _ _ _ _ _ _ _ _ _ _ _ _ G_l_draw (hr.mono (by omega)) rfl m_l_draw k_l_draw b_l_draw .nil aB (@ac _ _ _ _ _ (pv 0) (@ac _ _ _ _ _ ag af (aa rfl)) (aa rfl)) (by decide) (aa rfl) (ah rfl))) af (aa rfl)) (aa rfl)) (by decide) (by decide) (aa rfl) (ah rfl)) af (aa rfl)) (aa rfl)) (aa rfl)) (aa rfl)) (aa rfl))) (am rfl) (.inr rfl)) (@aj _ _ _ _ _ (@bj _ _ _ _ _ _ _ _ (@aE _ _ _ _ _ _ _ _ bO (@ao _ _ _ _ _ _ _ _ _ _ _ _ _ _ _ _ G_l_draw (hr.mono (by omega)) rfl m_l_draw k_l_draw b_l_draw .nil aB (@ac _ _ _ _ _ (pv 0) (@ac _ _ _ _ _ ag af (aa rfl)) (aa rfl)) (by decide) (aa rfl) (ah rfl)) ag (aO _)) (@aj _ _ _ _ _ (@eE _ _ _ _ _ _ (@av _ _ _ _ _ _ _ aF (@aV _ _ _ _ (@ac _ _ _ _ _ (@lW _ _ _ _ _ _ iZ ag) (@ac _ _ _ _ _ ag af (aa rfl)) (aa rfl))) (@ao _ _ _ _ _ _ _ _ _ _ _ _ _ _ _ _ G_l_draw (hr.mono (by omega)) rfl m_l_draw k_l_draw b_l_draw .nil aB (@ac _ _ _ _ _ (pv 0) (@ac _ _ _ _ _ ag af (aa rfl)) (aa rfl)) (by decide) (aa rfl) (ah rfl)) (fun _ _=>rfl)) (dW (pv 5) ag cv) rfl rfl rfl) (@al _ _ _ (@eE _ _ _ _ _ _ (@av _ _ _ _ _ _ _ aF (@aV _ _ _ _ (@ac _ _ _ _ _ ag (@ac _ _ _ _ _ ag af (aa rfl)) (aa rfl))) (@aZ _ _ _ _ _ _ _ _ _ mn rfl T.int jq (@ac _ _ _ _ _ (@cX _ _ _ _ _ _ _ _ bO (@av _ _ _ _ _ _ _ aF (pv 5) ag (fun _ _=>rfl)) ag (aO _)) af (aa rfl)) (by decide) (by decide) (aa rfl) (ah rfl)) (fun _ _=>rfl)) (dW (pv 5) ag cv) rfl rfl rfl))) aL) (@aj _ _ _ _ _ (@aC _ _ 6 _ _ _ _ eF.nd rfl (Or.inl rfl) ag (am rfl) (.inr rfl)) (@aj _ _ _ _ _ (vK PassesOwn.never (@aE _ _ _ _ _ _ _ _ jU (@ao _ _ _ _ _ _ _ _ _ _ _ _ _ _ _ _ G_l_many (hr.mono (by omega)) rfl m_l_many k_l_many b_l_many .nil aB (@ac _ _ _ _ _ (pv 1) (@ac _ _ _ _ _ (pv 2) (@ac _ _ _ _ _ (pv 5) af (aa rfl)) (aa rfl)) (aa rfl)) (by decide) (aa rfl) (ah rfl)) (pv 3) (aO _)) (@aj _ _ _ _ _ (@aC _ _ 6 _ _ _ _ eF.nd rfl (Or.inl rfl) (@aS _ _ _ _ _ _ _ _ bQ (pv 6) ag) (am rfl) (.inr rfl)) (@al _ _ _ (@bj _ _ _ _ _ _ _ _ (PW.pt (qh (@aE _ _ _ _ _ _ _ _ bO (@aS _ _ _ _ _ _ _ _ dU (pv 6) ag) ag (aO _)) (nA (@aE _ _ _ _ _ _ _ _ jU (@av _ _ _ _ _ _ _ aF (pv 5) ag (fun _ _=>rfl)) ag (aO _))))) (@al _ _ _ (@eE _ _ _ _ _ _ (@aS _ _ _ _ _ _ _ _ lc (@av _ _ _ _ _ _ _ aF (pv 5) ag (fun _ _=>rfl)) ag) (dW (pv 5) ag cv) rfl rfl rfl)) (@al _ _ _ (@bj _ _ _ _ _ _ _ _ (PW.pt (qh (@aE _ _ _ _ _ _ _ _ bO (@aS _ _ _ _ _ _ _ _ dU (pv 6) ag) ag (aO _)) (nA (@aE _ _ _ _ _ _ _ _ jU (@av _ _ _ _ _ _ _ aF (pv 5) ag (fun _ _=>rfl)) (@av _ _ _ _ _ _ _ aF (pv 5) ag (fun _ _=>rfl)) (aO _))))) (@al _ _ _ (@eE _ _ _ _ _ _ (@aS _ _ _ _ _ _ _ _ lc (@av _ _ _ _ _ _ _ aF (pv 5) ag (fun _ _=>rfl)) ag) (dW (pv 5) ag cv) rfl rfl rfl)) (@al _ _ _ (@bj _ _ _ _ _ _ _ _ (@aE _ _ _ _ _ _ _ _ jU (@av _ _ _ _ _ _ _ aF (pv 5) ag (fun _ _=>rfl)) (@av _ _ _ _ _ _ _ aF (pv 5) ag (fun _ _=>rfl)) (aO _)) (@al _ _ _ (@eE _ _ _ _ _ _ (@av _ _ _ _ _ _ _ aF (@aV _ _ _ _ (@ac _ _ _ _ _ (@ba _ _ _ _ _ (@ac _ _ _ _ _ (@aS _ _ _ _ _ _ _ _ bQ (@av _ _ _ _ _ _ _ aF (pv 5) ag (fun _ _=>rfl)) ag) (@ac _ _ _ _ _ (@av _ _ _ _ _ _ _ aF (pv 5) ag (fun _ _=>rfl)) af (aa rfl)) (aa rfl))) (@ac _ _ _ _ _ (@ba _ _ _ _ _ (@ac _ _ _ _ _ (@av _ _ _ _ _ _ _ aF (pv 5) ag (fun _ _=>rfl)) (@ac _ _ _ _ _ (@aS _ _ _ _ _ _ _ _ lc (@av _ _ _ _ _ _ _ aF (pv 5) ag (fun _ _=>rfl)) ag) af (aa rfl)) (aa rfl))) af (aa rfl)) (aa rfl))) (@aS _ _ _ _ _ _ _ _ dU (pv 6) ag) (fun _ _=>rfl)) (dm rfl (aG (dW (pv 5) ag cv) (aG (dW (pv 5) ag cv) bJ))) rfl rfl rfl)) aL)))))))) (@al _ _ _ (@ay _ _ _ _ (@aZ _ _ _ _ _ _ _ _ _ bt rfl T.tuple bI (@ac _ _ _ _ _ (pv 5) af (aa rfl)) (by decide) (by decide) (aa rfl) (ah rfl))))))))),?_⟩
 refine ⟨(by show 5≤sizeLine; decide),fun l1 hl1=>?_⟩
 have s1:=ae hl1 (.lst [.int 32,.int 36,.int 97,.int 37,.int 125])
 have f1:=hf.same s1
 refine ⟨_,rfl,fp,5,sc,m,rfl,f1,by omega,by decide,by decide,fun v2 H2 a2 b2 x2 f2=>?_⟩
 obtain ⟨u,hu,_,hat⟩:=dO (xs:=[V.int 32,.int 36,.int 97,.int 37,.int 125]) a2 b2
 obtain ⟨low,rfl,hlow⟩:∃ low:Int,u=.int low∧low∈([32,36,97,37,125]:List Int):=by
  simp only [List.mem_cons,List.not_mem_nil,or_false] at hu
  rcases hu with rfl | rfl | rfl | rfl | rfl<;>exact ⟨_,rfl,by decide⟩
 have hlw:32≤low∧low≤125:=by
  simp only [List.mem_cons,List.not_mem_nil,or_false] at hlow
  omega
 refine ⟨l1,_,_,_,rfl,rfl,SqL.of (x2 _ _ (hf.ne hl1).1 ad),hat,?_⟩
 refine ⟨_,rfl,fp,4,sc,_,rfl,f2,by omega,by decide,by decide,fun v3 H3 a3 b3 x3 f3=>?_⟩
 refine ⟨_,rfl,_,rfl,fp,4,sc,_,rfl,f3,by omega,by decide,by decide,fun v4 H4 a4 b4 x4 f4=>?_⟩
 refine ⟨_,rfl,fp,4,sc,_,rfl,f4,by omega,by decide,by decide,fun v5 H5 a5 b5 x5 f5=>?_⟩
 refine ⟨_,rfl,_,rfl,_,rfl,fp,4,sc,_,rfl,f5,by omega,by decide,by decide,fun v6 H6 a6 b6 x6 f6=>?_⟩
 refine ⟨_,_,rfl,rfl,_,_,rfl,(by show 5≤sizeLine; decide),fun rl hrl=>?_⟩
 have nrl:=f6.ne hrl
 have E6:Ext fp H H6:=(ar.ext s1).trans (x2.trans (x3.trans (x4.trans (x5.trans x6))))
 have Hrl:H rl=none:=E6.free nrl.1 hrl
 have s7:=ae hrl (.lst [.int (-v3),.int v4,.int v5,.int low,.int (if low+v6<126 then low+v6 else 126)])
 have E7:=E6.trans (ar.ext s7)
 have F7:=f6.same s7
 have hr7:(upd H6 rl (.lst [.int (-v3),.int v4,.int v5,.int low,.int (if low+v6<126 then low+v6 else 126)])) rl=_:=ad
 generalize (upd H6 rl (.lst [.int (-v3),.int v4,.int v5,.int low,.int (if low+v6<126 then low+v6 else 126)]))=H7 at E7 F7 hr7
 have hee:low≤(if low+v6<126 then low+v6 else 126)∧(if low+v6<126 then low+v6 else 126)≤low+3∧(if low+v6<126 then low+v6 else 126)≤126:=by split<;>omega
 have rok:∀ {a b:Int},-9≤a→a≤b→b≤9→hW ⟨a,b,v5,low,if low+v6<126 then low+v6 else 126⟩:=fun h1 h2 h3=>⟨h1,h2,h3,a5,by show v5≤3; omega,hlow,hee.1,hee.2.1,hee.2.2⟩
 dsimp only [my]
 refine im (fun σ H8=>∃ r,σ=[some (.ref fp),some pg,some (.int (i:Nat)),some (.int 40),some (.int low),some (.ref rl),none]∧Ext fp H H8∧Fd H8 fp sc (m+7)∧H8 rl=some (.lst r.vs)∧hW r) (fun NX hNX=>?_) (fun σ H8 jj=>?_)
 ·refine ⟨_,rfl,fp,4,sc,_,rfl,F7,by omega,by decide,by decide,fun v7 H9 a7 b7 x7 f7=>?_⟩
  have e7:=E7.trans x7
  have hrl7:=x7 _ _ nrl.1 hr7
  refine ⟨rfl,_,rfl,?_⟩
  refine aX (fun c1=>?_) (fun c1=>?_)
  ·refine ⟨_,rfl,(by show 2≤sizeLine; decide),fun l2 hl2=>?_⟩
   have s2:=ae hl2 (.lst [.int (-9),.int 3])
   have g7:=f7.same s2
   refine ⟨_,rfl,fp,2,sc,_,rfl,g7,by omega,by decide,by decide,fun v8 H8 a8 b8 x8 f8=>?_⟩
   obtain ⟨u8,hu8,_,hat8⟩:=dO (xs:=[V.int (-9),.int 3]) a8 b8
   have e7:=e7.trans (ar.ext s2)
   simp only [List.mem_cons,List.not_mem_nil,or_false] at hu8
   rcases hu8 with ea | ea
   ·subst ea
    have e8:=e7.trans x8
    refine ⟨l2,_,_,_,rfl,rfl,SqL.of (x8 _ _ (f7.ne hl2).1 ad),hat8,?_⟩
    have hrl8:=x8 _ _ nrl.1 (s2 _ _ hrl7)
    refine ⟨_,rfl,rl,_,_,_,rfl,rfl,hrl8,rfl,?_⟩
    have f8':=f8.upd (o:=.lst [.int (-9),.int v4,.int v5,.int low,.int (if low+v6<126 then low+v6 else 126)]) nrl
    refine ⟨(by show 2≤sizeLine; decide),fun l3 hl3=>?_⟩
    have s3:=ae hl3 (.lst [.int 9,.int 3])
    have hrl9:=s3 _ _ (ad (H:=H8) (a:=rl) (o:=.lst [.int (-9),.int v4,.int v5,.int low,.int (if low+v6<126 then low+v6 else 126)]))
    refine ⟨_,rfl,rl,_,_,_,rfl,rfl,SqL.of hrl9,rfl,rfl,.inr ⟨_,rfl,l3,_,_,_,rfl,rfl,SqL.of ad,(show atI [V.int 9,.int 3] (if decide (V.int (-9)=V.int 3)=true then 1 else 0)=some (.int 9) from by decide +kernel),?_⟩⟩
    refine ⟨_,rfl,rl,_,_,_,rfl,rfl,hrl9,rfl,?_⟩
    exact hNX _ _ ⟨⟨(-9),9,v5,low,if low+v6<126 then low+v6 else 126⟩,rfl,((e8.put Hrl).trans (ar.ext s3)).put Hrl,((f8'.same s3).upd nrl).le (by omega),ad,rok (by omega) (by omega) (by omega)⟩
   ·subst ea
    have e8:=e7.trans x8
    refine ⟨l2,_,_,_,rfl,rfl,SqL.of (x8 _ _ (f7.ne hl2).1 ad),hat8,?_⟩
    have hrl8:=x8 _ _ nrl.1 (s2 _ _ hrl7)
    refine ⟨_,rfl,rl,_,_,_,rfl,rfl,hrl8,rfl,?_⟩
    have f8':=f8.upd (o:=.lst [.int 3,.int v4,.int v5,.int low,.int (if low+v6<126 then low+v6 else 126)]) nrl
    refine ⟨(by show 2≤sizeLine; decide),fun l3 hl3=>?_⟩
    have s3:=ae hl3 (.lst [.int 9,.int 3])
    have hrl9:=s3 _ _ (ad (H:=H8) (a:=rl) (o:=.lst [.int 3,.int v4,.int v5,.int low,.int (if low+v6<126 then low+v6 else 126)]))
    refine ⟨_,rfl,rl,_,_,_,rfl,rfl,SqL.of hrl9,rfl,rfl,.inr ⟨_,rfl,l3,_,_,_,rfl,rfl,SqL.of ad,(show atI [V.int 9,.int 3] (if decide (V.int 3=V.int 3)=true then 1 else 0)=some (.int 3) from by decide +kernel),?_⟩⟩
    refine ⟨_,rfl,rl,_,_,_,rfl,rfl,hrl9,rfl,?_⟩
    exact hNX _ _ ⟨⟨3,3,v5,low,if low+v6<126 then low+v6 else 126⟩,rfl,((e8.put Hrl).trans (ar.ext s3)).put Hrl,((f8'.same s3).upd nrl).le (by omega),ad,rok (by omega) (by omega) (by omega)⟩
  ·exact hNX _ _ ⟨⟨-v3,v4,v5,low,_⟩,rfl,e7,f7.le (by omega),hrl7,rok (by omega) (by omega) (by omega)⟩
 obtain ⟨r0,rfl,E8,F8,hr8,hok0⟩:=jj
 refine ⟨fun mm σ H'=>∃ (tn:Nat) (r:Rm),σ=[some (.ref fp),some pg,some (.int (i:Nat)),some (.int 40),some (.int low),some (.ref rl),some (.int (tn:Int))]∧Ext rl H8 H'∧H' rl=some (.lst r.vs)∧hW r∧mm=msr r tn,⟨_,0,r0,rfl,Ext.refl _ _,hr8,hok0,rfl⟩,fun mm σ H' wm=>?_⟩
 obtain ⟨tn,r,rfl,X,hr,hok,rfl⟩:=wm
 have k8:Tk H H8:=hf.tk E8
 have kX:=bn X hr8
 refine ⟨_,rfl,_,rfl,_,rfl,pg,i,R,FS,FF,rl,r,rfl,(hp.mono k8).mono kX,hpg,hF,hr,hok,fun H2 g2=>?_⟩
 have hr2:=g2 _ _ hr
 have X2:=X.trans (ar.ext g2)
 refine ⟨_,rfl,_,_,rfl,rfl,_,rfl,?_⟩
 refine aX (fun c1=>?_) (fun c1=>?_)
 ·have c1':(40:Int)<(bx r (aR R FF.2):Nat):=of_decide_eq_true c1
  have zero:¬ (r.a=r.b∧r.c=0):=fun z=>by
   rw [oF z.1 z.2] at c1'
   omega
  refine ⟨fun σ' H'=>∃ m',m'<msr r tn∧∃ (tn:Nat) (r:Rm),σ'=[some (.ref fp),some pg,some (.int (i:Nat)),some (.int 40),some (.int low),some (.ref rl),some (.int (tn:Int))]∧Ext rl H8 H'∧H' rl=some (.lst r.vs)∧hW r∧m'=msr r tn,fun _ _ h=>h,?_⟩
  refine ⟨_,rfl,_,_,rfl,rfl,?_⟩
  have o1:=hok.a
  have o2:=hok.ab
  have o3:=hok.b
  have o4:=hok.c0
  have o5:=hok.c
  have o6:=hok.de
  have o7:=hok.e3
  have o8:=hok.e
  have FIN:∀ {r':Rm} {H':Hp},Ext rl H2 H'→H' rl=some (.lst r'.vs)→hW r'→msr r' (tn+1)<msr r tn→∃ m',m'<msr r tn∧∃ (tn':Nat) (r:Rm),([some (.ref fp),some pg,some (.int (i:Nat)),some (.int 40),some (.int low),some (.ref rl),some (.int ((tn:Int)+1))]:St)=[some (.ref fp),some pg,some (.int (i:Nat)),some (.int 40),some (.int low),some (.ref rl),some (.int (tn':Int))]∧Ext rl H8 H'∧H' rl=some (.lst r.vs)∧hW r∧m'=msr r tn':=fun {r' H'} x h o l=>⟨_,l,tn+1,r',rfl,X2.trans x,h,o,rfl⟩
  refine ⟨_,rfl,_,_,rfl,rfl,(show (0:Int)<3 by decide),rfl,_,rfl,?_⟩
  refine aX (fun a1=>?_) (fun a1=>?_)
  ·have a1':=eqI a1
   refine ⟨_,rfl,rl,_,_,_,rfl,rfl,SqL.of hr2,rfl,_,_,rfl,rfl,_,rfl,?_⟩
   refine aX (fun a2=>?_) (fun a2=>?_)
   ·have a2':0<r.c:=of_decide_eq_true a2
    refine ⟨_,rfl,rl,_,_,_,rfl,rfl,SqL.of hr2,rfl,_,_,rfl,rfl,?_⟩
    refine ⟨_,rfl,rl,_,_,_,rfl,rfl,hr2,rfl,?_⟩
    exact FIN (r':=⟨r.a,r.b,r.c - 1,r.d,r.e⟩) Ext.upd ad ⟨hok.a,hok.ab,hok.b,by show 0≤r.c - 1; omega,by show r.c - 1≤3; omega,hok.d,hok.de,hok.e3,hok.e⟩ (by unfold msr; dsimp only; omega)
   ·have a2':¬ 0<r.c:=of_decide_eq_false (Bool.eq_false_iff.mpr a2)
    refine ⟨_,rfl,_,_,rfl,rfl,(show (0:Int)<3 by decide),rfl,_,rfl,?_⟩
    refine aX (fun b1=>?_) (fun b1=>?_)
    ·have b1':=eqI b1
     refine ⟨_,rfl,rl,_,_,_,rfl,rfl,SqL.of hr2,rfl,_,rfl,rl,_,_,_,rfl,rfl,SqL.of hr2,rfl,_,_,rfl,rfl,_,rfl,?_⟩
     refine aX (fun b2=>?_) (fun b2=>?_)
     ·have b2':r.d<r.e:=of_decide_eq_true b2
      refine ⟨_,rfl,rl,_,_,_,rfl,rfl,SqL.of hr2,rfl,_,_,rfl,rfl,?_⟩
      refine ⟨_,rfl,rl,_,_,_,rfl,rfl,hr2,rfl,?_⟩
      exact FIN (r':=⟨r.a,r.b,r.c,r.d,r.e - 1⟩) Ext.upd ad ⟨hok.a,hok.ab,hok.b,hok.c0,hok.c,hok.d,by show r.d≤r.e - 1; omega,by show r.e - 1≤r.d+3; omega,by show r.e - 1≤126; omega⟩ (by unfold msr; dsimp only; omega)
     ·have b2':¬ r.d<r.e:=of_decide_eq_false (Bool.eq_false_iff.mpr b2)
      refine ⟨_,rfl,rl,_,_,_,rfl,rfl,SqL.of hr2,rfl,_,rfl,rl,_,_,_,rfl,rfl,SqL.of hr2,rfl,_,_,rfl,rfl,_,rfl,?_⟩
      refine aX (fun d1=>?_) (fun d1=>?_)
      ·have d1':r.a<r.b:=of_decide_eq_true d1
       refine ⟨_,rfl,rl,_,_,_,rfl,rfl,SqL.of hr2,rfl,_,_,rfl,rfl,_,rfl,rl,_,_,_,rfl,rfl,SqL.of hr2,rfl,(by show 2≤sizeLine; decide),fun t1 ht1=>?_⟩
       have w1:=ae ht1 (.tup [.int (r.a+1),.int r.b])
       have hr4:=w1 _ _ hr2
       refine ⟨_,rfl,rl,_,_,_,rfl,rfl,SqL.of hr4,rfl,_,rfl,rl,_,_,_,rfl,rfl,SqL.of hr4,rfl,_,_,rfl,rfl,(by show 2≤sizeLine; decide),fun t2 ht2=>?_⟩
       have w2:=w1.trans (ae ht2 (.tup [.int r.a,.int (r.b - 1)]))
       refine ⟨(by show 2≤sizeLine; decide),fun t3 ht3=>?_⟩
       have w3:=w2.trans (ae ht3 (.lst [.ref t1,.ref t2]))
       have hr5:=w3 _ _ hr2
       refine ⟨_,rfl,_,_,rfl,rfl,(show (0:Int)<2 by decide),?_⟩
       have d2:((tn:Int)+1) % 2=0∨((tn:Int)+1) % 2=1:=by omega
       rcases d2 with d2 | d2
       ·refine ⟨t3,_,_,.ref t1,rfl,rfl,SqL.of ad,by rw [d2]; rfl,?_⟩
        refine ⟨t1,_,rfl,SqT.of (ae ht3 (.lst [.ref t1,.ref t2]) _ _ (ae ht2 (.tup [.int r.a,.int (r.b - 1)]) _ _ ad)),rfl,_,_,rfl,?_⟩
        refine ⟨_,rfl,rl,_,_,_,rfl,rfl,hr5,rfl,?_⟩
        refine ⟨_,_,rfl,_,rfl,rl,_,_,_,rfl,rfl,ad,rfl,rfl,?_⟩
        exact FIN (r':=⟨r.a+1,r.b,r.c,r.d,r.e⟩) ((ar.ext w3).trans (Ext.upd.trans Ext.upd)) ad ⟨by show -9≤r.a+1; omega,by show r.a+1≤r.b; omega,hok.b,hok.c0,hok.c,hok.d,hok.de,hok.e3,hok.e⟩ (by unfold msr; dsimp only; omega)
       ·refine ⟨t3,_,_,.ref t2,rfl,rfl,SqL.of ad,by rw [d2]; rfl,?_⟩
        refine ⟨t2,_,rfl,SqT.of (ae ht3 (.lst [.ref t1,.ref t2]) _ _ ad),rfl,_,_,rfl,?_⟩
        refine ⟨_,rfl,rl,_,_,_,rfl,rfl,hr5,rfl,?_⟩
        refine ⟨_,_,rfl,_,rfl,rl,_,_,_,rfl,rfl,ad,rfl,rfl,?_⟩
        exact FIN (r':=⟨r.a,r.b - 1,r.c,r.d,r.e⟩) ((ar.ext w3).trans (Ext.upd.trans Ext.upd)) ad ⟨hok.a,by show r.a≤r.b - 1; omega,by show r.b - 1≤9; omega,hok.c0,hok.c,hok.d,hok.de,hok.e3,hok.e⟩ (by unfold msr; dsimp only; omega)
      ·have d1':¬ r.a<r.b:=of_decide_eq_false (Bool.eq_false_iff.mpr d1)
       exact FIN (r':=r) (Ext.refl _ _) hr2 hok (by unfold msr; omega)
    ·have b1':=neI b1
     refine ⟨_,rfl,rl,_,_,_,rfl,rfl,SqL.of hr2,rfl,_,rfl,rl,_,_,_,rfl,rfl,SqL.of hr2,rfl,_,_,rfl,rfl,_,rfl,?_⟩
     refine aX (fun d1=>?_) (fun d1=>?_)
     ·have d1':r.a<r.b:=of_decide_eq_true d1
      refine ⟨_,rfl,rl,_,_,_,rfl,rfl,SqL.of hr2,rfl,_,_,rfl,rfl,_,rfl,rl,_,_,_,rfl,rfl,SqL.of hr2,rfl,(by show 2≤sizeLine; decide),fun t1 ht1=>?_⟩
      have w1:=ae ht1 (.tup [.int (r.a+1),.int r.b])
      have hr4:=w1 _ _ hr2
      refine ⟨_,rfl,rl,_,_,_,rfl,rfl,SqL.of hr4,rfl,_,rfl,rl,_,_,_,rfl,rfl,SqL.of hr4,rfl,_,_,rfl,rfl,(by show 2≤sizeLine; decide),fun t2 ht2=>?_⟩
      have w2:=w1.trans (ae ht2 (.tup [.int r.a,.int (r.b - 1)]))
      refine ⟨(by show 2≤sizeLine; decide),fun t3 ht3=>?_⟩
      have w3:=w2.trans (ae ht3 (.lst [.ref t1,.ref t2]))
      have hr5:=w3 _ _ hr2
      refine ⟨_,rfl,_,_,rfl,rfl,(show (0:Int)<2 by decide),?_⟩
      have d2:((tn:Int)+1) % 2=0∨((tn:Int)+1) % 2=1:=by omega
      rcases d2 with d2 | d2
      ·refine ⟨t3,_,_,.ref t1,rfl,rfl,SqL.of ad,by rw [d2]; rfl,?_⟩
       refine ⟨t1,_,rfl,SqT.of (ae ht3 (.lst [.ref t1,.ref t2]) _ _ (ae ht2 (.tup [.int r.a,.int (r.b - 1)]) _ _ ad)),rfl,_,_,rfl,?_⟩
       refine ⟨_,rfl,rl,_,_,_,rfl,rfl,hr5,rfl,?_⟩
       refine ⟨_,_,rfl,_,rfl,rl,_,_,_,rfl,rfl,ad,rfl,rfl,?_⟩
       exact FIN (r':=⟨r.a+1,r.b,r.c,r.d,r.e⟩) ((ar.ext w3).trans (Ext.upd.trans Ext.upd)) ad ⟨by show -9≤r.a+1; omega,by show r.a+1≤r.b; omega,hok.b,hok.c0,hok.c,hok.d,hok.de,hok.e3,hok.e⟩ (by unfold msr; dsimp only; omega)
      ·refine ⟨t3,_,_,.ref t2,rfl,rfl,SqL.of ad,by rw [d2]; rfl,?_⟩
       refine ⟨t2,_,rfl,SqT.of (ae ht3 (.lst [.ref t1,.ref t2]) _ _ ad),rfl,_,_,rfl,?_⟩
       refine ⟨_,rfl,rl,_,_,_,rfl,rfl,hr5,rfl,?_⟩
       refine ⟨_,_,rfl,_,rfl,rl,_,_,_,rfl,rfl,ad,rfl,rfl,?_⟩
       exact FIN (r':=⟨r.a,r.b - 1,r.c,r.d,r.e⟩) ((ar.ext w3).trans (Ext.upd.trans Ext.upd)) ad ⟨hok.a,by show r.a≤r.b - 1; omega,by show r.b - 1≤9; omega,hok.c0,hok.c,hok.d,hok.de,hok.e3,hok.e⟩ (by unfold msr; dsimp only; omega)
     ·have d1':¬ r.a<r.b:=of_decide_eq_false (Bool.eq_false_iff.mpr d1)
      exact FIN (r':=r) (Ext.refl _ _) hr2 hok (by unfold msr; omega)
  ·have a1':=neI a1
   refine ⟨_,rfl,_,_,rfl,rfl,(show (0:Int)<3 by decide),rfl,_,rfl,?_⟩
   refine aX (fun b1=>?_) (fun b1=>?_)
   ·have b1':=eqI b1
    refine ⟨_,rfl,rl,_,_,_,rfl,rfl,SqL.of hr2,rfl,_,rfl,rl,_,_,_,rfl,rfl,SqL.of hr2,rfl,_,_,rfl,rfl,_,rfl,?_⟩
    refine aX (fun b2=>?_) (fun b2=>?_)
    ·have b2':r.d<r.e:=of_decide_eq_true b2
     refine ⟨_,rfl,rl,_,_,_,rfl,rfl,SqL.of hr2,rfl,_,_,rfl,rfl,?_⟩
     refine ⟨_,rfl,rl,_,_,_,rfl,rfl,hr2,rfl,?_⟩
     exact FIN (r':=⟨r.a,r.b,r.c,r.d,r.e - 1⟩) Ext.upd ad ⟨hok.a,hok.ab,hok.b,hok.c0,hok.c,hok.d,by show r.d≤r.e - 1; omega,by show r.e - 1≤r.d+3; omega,by show r.e - 1≤126; omega⟩ (by unfold msr; dsimp only; omega)
    ·have b2':¬ r.d<r.e:=of_decide_eq_false (Bool.eq_false_iff.mpr b2)
     refine ⟨_,rfl,rl,_,_,_,rfl,rfl,SqL.of hr2,rfl,_,rfl,rl,_,_,_,rfl,rfl,SqL.of hr2,rfl,_,_,rfl,rfl,_,rfl,?_⟩
     refine aX (fun d1=>?_) (fun d1=>?_)
     ·have d1':r.a<r.b:=of_decide_eq_true d1
      refine ⟨_,rfl,rl,_,_,_,rfl,rfl,SqL.of hr2,rfl,_,_,rfl,rfl,_,rfl,rl,_,_,_,rfl,rfl,SqL.of hr2,rfl,(by show 2≤sizeLine; decide),fun t1 ht1=>?_⟩
      have w1:=ae ht1 (.tup [.int (r.a+1),.int r.b])
      have hr4:=w1 _ _ hr2
      refine ⟨_,rfl,rl,_,_,_,rfl,rfl,SqL.of hr4,rfl,_,rfl,rl,_,_,_,rfl,rfl,SqL.of hr4,rfl,_,_,rfl,rfl,(by show 2≤sizeLine; decide),fun t2 ht2=>?_⟩
      have w2:=w1.trans (ae ht2 (.tup [.int r.a,.int (r.b - 1)]))
      refine ⟨(by show 2≤sizeLine; decide),fun t3 ht3=>?_⟩
      have w3:=w2.trans (ae ht3 (.lst [.ref t1,.ref t2]))
      have hr5:=w3 _ _ hr2
      refine ⟨_,rfl,_,_,rfl,rfl,(show (0:Int)<2 by decide),?_⟩
      have d2:((tn:Int)+1) % 2=0∨((tn:Int)+1) % 2=1:=by omega
      rcases d2 with d2 | d2
      ·refine ⟨t3,_,_,.ref t1,rfl,rfl,SqL.of ad,by rw [d2]; rfl,?_⟩
       refine ⟨t1,_,rfl,SqT.of (ae ht3 (.lst [.ref t1,.ref t2]) _ _ (ae ht2 (.tup [.int r.a,.int (r.b - 1)]) _ _ ad)),rfl,_,_,rfl,?_⟩
       refine ⟨_,rfl,rl,_,_,_,rfl,rfl,hr5,rfl,?_⟩
       refine ⟨_,_,rfl,_,rfl,rl,_,_,_,rfl,rfl,ad,rfl,rfl,?_⟩
       exact FIN (r':=⟨r.a+1,r.b,r.c,r.d,r.e⟩) ((ar.ext w3).trans (Ext.upd.trans Ext.upd)) ad ⟨by show -9≤r.a+1; omega,by show r.a+1≤r.b; omega,hok.b,hok.c0,hok.c,hok.d,hok.de,hok.e3,hok.e⟩ (by unfold msr; dsimp only; omega)
      ·refine ⟨t3,_,_,.ref t2,rfl,rfl,SqL.of ad,by rw [d2]; rfl,?_⟩
       refine ⟨t2,_,rfl,SqT.of (ae ht3 (.lst [.ref t1,.ref t2]) _ _ ad),rfl,_,_,rfl,?_⟩
       refine ⟨_,rfl,rl,_,_,_,rfl,rfl,hr5,rfl,?_⟩
       refine ⟨_,_,rfl,_,rfl,rl,_,_,_,rfl,rfl,ad,rfl,rfl,?_⟩
       exact FIN (r':=⟨r.a,r.b - 1,r.c,r.d,r.e⟩) ((ar.ext w3).trans (Ext.upd.trans Ext.upd)) ad ⟨hok.a,by show r.a≤r.b - 1; omega,by show r.b - 1≤9; omega,hok.c0,hok.c,hok.d,hok.de,hok.e3,hok.e⟩ (by unfold msr; dsimp only; omega)
     ·have d1':¬ r.a<r.b:=of_decide_eq_false (Bool.eq_false_iff.mpr d1)
      exact FIN (r':=r) (Ext.refl _ _) hr2 hok (by unfold msr; omega)
   ·have b1':=neI b1
    refine ⟨_,rfl,rl,_,_,_,rfl,rfl,SqL.of hr2,rfl,_,rfl,rl,_,_,_,rfl,rfl,SqL.of hr2,rfl,_,_,rfl,rfl,_,rfl,?_⟩
    refine aX (fun d1=>?_) (fun d1=>?_)
    ·have d1':r.a<r.b:=of_decide_eq_true d1
     refine ⟨_,rfl,rl,_,_,_,rfl,rfl,SqL.of hr2,rfl,_,_,rfl,rfl,_,rfl,rl,_,_,_,rfl,rfl,SqL.of hr2,rfl,(by show 2≤sizeLine; decide),fun t1 ht1=>?_⟩
     have w1:=ae ht1 (.tup [.int (r.a+1),.int r.b])
     have hr4:=w1 _ _ hr2
     refine ⟨_,rfl,rl,_,_,_,rfl,rfl,SqL.of hr4,rfl,_,rfl,rl,_,_,_,rfl,rfl,SqL.of hr4,rfl,_,_,rfl,rfl,(by show 2≤sizeLine; decide),fun t2 ht2=>?_⟩
     have w2:=w1.trans (ae ht2 (.tup [.int r.a,.int (r.b - 1)]))
     refine ⟨(by show 2≤sizeLine; decide),fun t3 ht3=>?_⟩
     have w3:=w2.trans (ae ht3 (.lst [.ref t1,.ref t2]))
     have hr5:=w3 _ _ hr2
     refine ⟨_,rfl,_,_,rfl,rfl,(show (0:Int)<2 by decide),?_⟩
     have d2:((tn:Int)+1) % 2=0∨((tn:Int)+1) % 2=1:=by omega
     rcases d2 with d2 | d2
     ·refine ⟨t3,_,_,.ref t1,rfl,rfl,SqL.of ad,by rw [d2]; rfl,?_⟩
      refine ⟨t1,_,rfl,SqT.of (ae ht3 (.lst [.ref t1,.ref t2]) _ _ (ae ht2 (.tup [.int r.a,.int (r.b - 1)]) _ _ ad)),rfl,_,_,rfl,?_⟩
      refine ⟨_,rfl,rl,_,_,_,rfl,rfl,hr5,rfl,?_⟩
      refine ⟨_,_,rfl,_,rfl,rl,_,_,_,rfl,rfl,ad,rfl,rfl,?_⟩
      exact FIN (r':=⟨r.a+1,r.b,r.c,r.d,r.e⟩) ((ar.ext w3).trans (Ext.upd.trans Ext.upd)) ad ⟨by show -9≤r.a+1; omega,by show r.a+1≤r.b; omega,hok.b,hok.c0,hok.c,hok.d,hok.de,hok.e3,hok.e⟩ (by unfold msr; dsimp only; omega)
     ·refine ⟨t3,_,_,.ref t2,rfl,rfl,SqL.of ad,by rw [d2]; rfl,?_⟩
      refine ⟨t2,_,rfl,SqT.of (ae ht3 (.lst [.ref t1,.ref t2]) _ _ ad),rfl,_,_,rfl,?_⟩
      refine ⟨_,rfl,rl,_,_,_,rfl,rfl,hr5,rfl,?_⟩
      refine ⟨_,_,rfl,_,rfl,rl,_,_,_,rfl,rfl,ad,rfl,rfl,?_⟩
      exact FIN (r':=⟨r.a,r.b - 1,r.c,r.d,r.e⟩) ((ar.ext w3).trans (Ext.upd.trans Ext.upd)) ad ⟨hok.a,by show r.a≤r.b - 1; omega,by show r.b - 1≤9; omega,hok.c0,hok.c,hok.d,hok.de,hok.e3,hok.e⟩ (by unfold msr; dsimp only; omega)
    ·have d1':¬ r.a<r.b:=of_decide_eq_false (Bool.eq_false_iff.mpr d1)
     exact FIN (r':=r) (Ext.refl _ _) hr2 hok (by unfold msr; omega)
 ·have c1':((bx r (aR R FF.2):Nat):Int)≤40:=by
   have c2:¬ decide ((40:Int)<(bx r (aR R FF.2):Nat))=true:=c1
   have:=of_decide_eq_false (Bool.eq_false_iff.mpr c2)
   omega
  refine ⟨_,rfl,rl,_,rfl,.inl ⟨SqL.of hr2,fun t ht=>?_⟩⟩
  have gt':=ae ht (.tup r.vs)
  refine q (.ref t) r _ (fun b o nb e=>?_) (((F8.ext X2 nrl).same gt')) ⟨t,rfl,ad⟩ hok (by omega)
  exact gt' _ _ (X2 _ _ (aq e Hrl) (E8 _ _ nb e))
end
end K6
namespace L2
theorem gJ {X:Cx} {K:Frag} (h:X.K=K):bE X (.builtin "len") (fun xs H Q=>∃ p ys,xs=[.ref p]∧(SqL K H p ys∨SqT K H p ys)∧Q (.int ys.length) H):=h ▸ aA
end L2
namespace K6
open PySem L2
theorem yT {x y z:V} {h:Int} (h0:0≤h) (h1:h≤3):dP [x,y,z] none (some h)=[x,y,z].take h.toNat:=by
 have:h=0∨h=1∨h=2∨h=3:=by omega
 rcases this with rfl | rfl | rfl | rfl<;>rfl
def uM (R:List Rec):Prop:=∀ j rc,R[j]?=some rc→(1≤rc.2.length∧rc.2.length≤3)∧∀ p∈rc.2,p.2∈PL3++(R.take j).map (·.1)
theorem rg:∀ {R:List Rec} {j:Nat} {rc:Rec},(R.map (·.1)).Nodup→R[j]?=some rc→look R rc.1=rc.2
 | [],_,_,_,h=>nomatch h
 | r::R,0,rc,n,h=>by
  cases Option.some.inj h
  rw [jb,if_pos rfl]
 | r::R,j+1,rc,n,h=>by
  have n':=List.nodup_cons.mp n
  have hm:rc∈R:=List.mem_of_getElem? h
  rw [jb,if_neg (fun e=>n'.1 (by show r.1∈_; rw [e]; exact List.mem_map_of_mem hm))]
  exact rg n'.2 h
theorem si {R:List Rec}:∀ {n:Nat} {k:Str},cu R n k→cu R (n+1) k
 | 0,_,h=>h.elim
 | n+1,k,h=>by
  rcases h with h | ⟨h1,h2,h3,h4⟩
  ·exact .inl h
  ·exact .inr ⟨h1,h2,h3,fun p hp=>si (h4 p hp)⟩
theorem sg {R:List Rec} {n m:Nat} {k:Str} (h:n≤m) (d:cu R n k):cu R m k:=by
 induction m with
 | zero=>rw [Nat.le_zero.mp h] at d; exact d
 | succ m ih =>
  rcases Nat.lt_or_eq_of_le h with h | rfl
  ·exact si (ih (by omega))
  ·exact d
theorem wJ {R:List Rec} (g:uM R) (n:(R.map (·.1)).Nodup) (np:∀ rc∈R,rc.1∉PL):∀ (j:Nat) (rc:Rec),R[j]?=some rc→cu R (j+2) rc.1:=by
 intro j
 induction j using Nat.strongRecOn with
 | _ j ih =>
  intro rc h
  have hm:=List.mem_of_getElem? h
  have e:=rg n h
  refine .inr ⟨np rc hm,List.mem_map_of_mem hm,by rw [e]; exact (g j rc h).1,fun p hp=>?_⟩
  rw [e] at hp
  rcases List.mem_append.mp ((g j rc h).2 p hp) with z | z
  ·exact .inl ((pl3 _).mp z)
  ·obtain ⟨rc2,h2,e2⟩:=List.mem_map.mp z
   obtain ⟨i,hi⟩:=List.getElem?_of_mem h2
   have hij:i<j:=by
    have:=(List.getElem?_eq_some_iff.mp hi).1
    rw [List.length_take] at this
    omega
   rw [List.getElem?_take_of_lt hij] at hi
   have:=ih i hij rc2 hi
   rw [← e2]
   exact sg (by omega) this
theorem uo {R:List Rec} (g:uM R) (n:(R.map (·.1)).Nodup) (np:∀ rc∈R,rc.1∉PL) (l:R.length≤2) {k:Str} (h:k∈PL3++R.map (·.1)):cu R 4 k:=by
 rcases List.mem_append.mp h with z | z
 ·exact .inl ((pl3 _).mp z)
 ·obtain ⟨rc,h2,rfl⟩:=List.mem_map.mp z
  obtain ⟨i,hi⟩:=List.getElem?_of_mem h2
  have:=(List.getElem?_eq_some_iff.mp hi).1
  exact sg (by omega) (wJ g n np i rc hi)
abbrev NM2:List Str:=["pair", "box"]
abbrev NM3:List Str:=["f", "x", "fx"]
theorem nm2 {R:List Rec} {k:Nat} (h:R.map (·.1)=NM2.take k):(R.map (·.1)).Nodup∧R.length≤2∧∀ rc∈R,rc.1∉PL:=by
 have l:R.length≤2:=by
  have:=congrArg List.length h
  rw [List.length_map,List.length_take] at this
  simp at this
  omega
 refine ⟨by rw [h]; exact List.Sublist.nodup (List.take_sublist _ _) (by decide +kernel),l,fun rc hm=>?_⟩
 have:rc.1∈NM2:=List.mem_of_mem_take (h ▸ List.mem_map_of_mem hm)
 simp only [List.mem_cons,List.not_mem_nil,or_false] at this
 rcases this with e | e<;>rw [e]<;>decide +kernel
section
variable {P:Program} {w:World} {K:Frag} {mg:Str→Option Value} {base:Heap} {f g:Addr} {fd gd:FuncData}
abbrev dX:List Str:=["_law_feed_here", "_law_records", "_law_k", "_law_kinds", "_law_names", "_law_fields", "_law_functions", "_law_own", "_law_params"]
abbrev gS:List Str:=["_law_name", "_law_kinds", "_law_feed_here"]
theorem lb:gS.Nodup:=by decide +kernel
abbrev gH:List Str:=["_law_record"]
theorem kz:gH.Nodup:=by decide +kernel
abbrev gY:List Str:=["_law_name", "_law_kinds", "_law_feed_here"]
theorem kJ:gY.Nodup:=by decide +kernel
abbrev gX:List Str:=["_law_record"]
theorem kh:gX.Nodup:=by decide +kernel
theorem bu:aK dX ["_law_feed_here"] (defScope cJ):=⟨rfl,rfl,rfl,by decide +kernel,rfl,by decide +kernel,by decide +kernel⟩
def zk:Sp:=fun vs H Q _=>∃ fp sc m,vs=[.ref fp]∧Fd H fp sc m∧m≤900∧∀ pg R FS H',Ext fp H H'→Fd H' fp sc (m+25)→ij H' pg R FS→vZ R FS→1≤FS.length→FS.length≤3→Q pg H'
theorem sX (T:G0 mg) (F:Fun K "_law_headed" "_law_headed" cJ f fd) (D_l_draw:Cal P w K mg base 1 "_law_draw" ["_law_feed_here", "_law_many_here"] oJ):aU P w K mg base CX0 2 f fd ["_law_feed_here"] zk:=by
 obtain ⟨g_l_draw,gd_l_draw,G_l_draw,b_l_draw,k_l_draw,m_l_draw⟩:=D_l_draw.ex
 refine F.ok bu (fun vs H Q E h=>?_) (fun cdv A outer s H vs Q E hr h=>?_)
 ·obtain ⟨fp,sc,m,rfl,_⟩:=h
  rfl
 obtain ⟨fp,sc,m,rfl,hf,hm,q⟩:=h
 refine ⟨_,(@aj _ _ _ _ _ (@aC _ _ 1 _ _ _ _ bu.nd rfl (Or.inl rfl) (@aV _ _ _ _ af) (am rfl) (.inr rfl)) (@aj _ _ _ _ _ (@bF _ _ _ _ _ _ _ _ PassesOwn.never rfl (cT rfl T.range (@ac _ _ _ _ _ (@av _ _ _ _ _ _ _ aF (@aV _ _ _ _ (@ac _ _ _ _ _ ag (@ac _ _ _ _ _ ag (@ac _ _ _ _ _ ag af (aa rfl)) (aa rfl)) (aa rfl))) (@ao _ _ _ _ _ _ _ _ _ _ _ _ _ _ _ _ G_l_draw (hr.mono (by omega)) rfl m_l_draw k_l_draw b_l_draw .nil aB (@ac _ _ _ _ _ (pv 0) (@ac _ _ _ _ _ ag af (aa rfl)) (aa rfl)) (by decide) (aa rfl) (ah rfl)) (fun _ _=>rfl)) af (aa rfl))) (au (i:=2) bu.nd rfl (Or.inl rfl)) (@aj _ _ _ _ _ (@aC _ _ 3 _ _ _ _ bu.nd rfl (Or.inr rfl) (@aS _ _ _ _ _ _ _ _ nr (@aV _ _ _ _ (@ac _ _ _ _ _ aM (@ac _ _ _ _ _ aM (@ac _ _ _ _ _ aM af (aa rfl)) (aa rfl)) (aa rfl))) (aW (N':=gX) (ρ:=[none]) (m:=1) (bo.of (fs:=defScope cJ) (N:=dX) rfl rfl (by decide +kernel)) rfl (bA (pv 1)) (fun _ _ _ _=>(au (i:=0) kh rfl (Or.inl rfl))) (fun _ _ _ _=>bg) (fun _ _ _ _=>(av (bB (K:=K) rfl) (pv 0) ag (fun _ _=>rfl))))) (am rfl) (.inl rfl)) (@aj _ _ _ _ _ (@aC _ _ 4 _ _ _ _ bu.nd rfl (Or.inl rfl) (@iA _ _ _ _ _ _ _ _ _ _ jJ (@aV _ _ _ _ (@ac _ _ _ _ _ aM (@ac _ _ _ _ _ aM (@ac _ _ _ _ _ aM af (aa rfl)) (aa rfl)) (aa rfl))) jM (jI (aS bQ ag (ao G_l_draw (hr.mono (by omega)) rfl m_l_draw k_l_draw b_l_draw .nil aB (ac (pv 0) (ac (aS bQ ag (pv 2)) af)))))) (am rfl) (.inr rfl)) (@aj _ _ _ _ _ (@aC _ _ 5 _ _ _ _ bu.nd rfl (Or.inl rfl) (@aZ _ _ _ _ _ _ _ _ _ bt rfl T.tuple bI (@ac _ _ _ _ _ (aW (N':=gY) (ρ:=[none,some 3,some 0]) (m:=1) (bo.of (fs:=defScope cJ) (N:=dX) rfl rfl (by decide +kernel)) rfl (bA (pv 4)) (fun _ _ _ _=>(au (i:=0) kJ rfl (Or.inl rfl))) (fun _ _ _ _=>bg) (fun _ _ _ _=>(ba (ac (pv 0) (ac (av (jZ (K:=K) rfl) (pv 1) (ao G_l_draw (hr.mono (by omega)) rfl m_l_draw k_l_draw b_l_draw .nil aB (ac (pv 2) (ac (ap (gJ (K:=K) rfl) rfl T.len cb (ac (pv 1) af)) af))) (fun _ _=>rfl)) af))))) af (aa rfl)) (by decide) (by decide) (aa rfl) (ah rfl)) (am rfl) (.inr rfl)) (@al _ _ _ (@cQ _ _ _ _ (@eX _ _ _ _ _ _ _ _ _ _ _ _ PySem.F.plainAttrs_list PySem.F.slot_list_append PySem.F.type_list_append eL (pv 1) (@ac _ _ _ _ _ (@ba _ _ _ _ _ (@ac _ _ _ _ _ (@av _ _ _ _ _ _ _ aF (@aV _ _ _ _ (@ac _ _ _ _ _ aM (@ac _ _ _ _ _ aM af (aa rfl)) (aa rfl))) (pv 2) (fun _ _=>rfl)) (@ac _ _ _ _ _ (pv 5) af (aa rfl)) (aa rfl))) af (aa rfl)) rfl (cW rfl rfl) rfl (aa rfl) (ah rfl)) (am rfl)))))) (fun _=>rfl)) (@aj _ _ _ _ _ (@aC _ _ 3 _ _ _ _ bu.nd rfl (Or.inr rfl) (@aS _ _ _ _ _ _ _ _ nr (@aV _ _ _ _ (@ac _ _ _ _ _ aM (@ac _ _ _ _ _ aM (@ac _ _ _ _ _ aM af (aa rfl)) (aa rfl)) (aa rfl))) (aW (N':=gH) (ρ:=[none]) (m:=1) (bo.of (fs:=defScope cJ) (N:=dX) rfl rfl (by decide +kernel)) rfl (bA (pv 1)) (fun _ _ _ _=>(au (i:=0) kz rfl (Or.inl rfl))) (fun _ _ _ _=>bg) (fun _ _ _ _=>(av (bB (K:=K) rfl) (pv 0) ag (fun _ _=>rfl))))) (am rfl) (.inl rfl)) (@aj _ _ _ _ _ (@aC _ _ 6 _ _ _ _ bu.nd rfl (Or.inl rfl) (@aV _ _ _ _ af) (am rfl) (.inr rfl)) (@aj _ _ _ _ _ (@bF _ _ _ _ _ _ _ _ PassesOwn.never rfl (bA (@iA _ _ _ _ _ _ _ _ _ _ jJ (@aV _ _ _ _ (@ac _ _ _ _ _ aM (@ac _ _ _ _ _ aM (@ac _ _ _ _ _ aM af (aa rfl)) (aa rfl)) (aa rfl))) jM (jI (aS bQ ag (ao G_l_draw (hr.mono (by omega)) rfl m_l_draw k_l_draw b_l_draw .nil aB (ac (pv 0) (ac ag af))))))) (au (i:=7) bu.nd rfl (Or.inl rfl)) (@aj _ _ _ _ _ (@aC _ _ 4 _ _ _ _ bu.nd rfl (Or.inl rfl) (@iA _ _ _ _ _ _ _ _ _ _ jJ (@aV _ _ _ _ (@ac _ _ _ _ _ aM (@ac _ _ _ _ _ aM (@ac _ _ _ _ _ aM af (aa rfl)) (aa rfl)) (aa rfl))) jM (jI (av aF (aV (ac ag (ac ag (ac ag (ac ag af))))) (ao G_l_draw (hr.mono (by omega)) rfl m_l_draw k_l_draw b_l_draw .nil aB (ac (pv 0) (ac ag af))) (fun _ _=>rfl)))) (am rfl) (.inr rfl)) (@aj _ _ _ _ _ (@aC _ _ 8 _ _ _ _ bu.nd rfl (Or.inl rfl) (@aZ _ _ _ _ _ _ _ _ _ bt rfl T.tuple bI (@ac _ _ _ _ _ (aW (N':=gS) (ρ:=[none,some 3,some 0]) (m:=1) (bo.of (fs:=defScope cJ) (N:=dX) rfl rfl (by decide +kernel)) rfl (bA (pv 4)) (fun _ _ _ _=>(au (i:=0) lb rfl (Or.inl rfl))) (fun _ _ _ _=>bg) (fun _ _ _ _=>(ba (ac (pv 0) (ac (av (jZ (K:=K) rfl) (pv 1) (ao G_l_draw (hr.mono (by omega)) rfl m_l_draw k_l_draw b_l_draw .nil aB (ac (pv 2) (ac (ap (gJ (K:=K) rfl) rfl T.len cb (ac (pv 1) af)) af))) (fun _ _=>rfl)) af))))) af (aa rfl)) (by decide) (by decide) (aa rfl) (ah rfl)) (am rfl) (.inr rfl)) (@al _ _ _ (@cQ _ _ _ _ (@eX _ _ _ _ _ _ _ _ _ _ _ _ PySem.F.plainAttrs_list PySem.F.slot_list_append PySem.F.type_list_append eL (pv 6) (@ac _ _ _ _ _ (@ba _ _ _ _ _ (@ac _ _ _ _ _ (pv 7) (@ac _ _ _ _ _ (pv 8) (@ac _ _ _ _ _ (@ba _ _ _ _ _ (@ac _ _ _ _ _ (@ba _ _ _ _ _ (@ac _ _ _ _ _ aM (@ac _ _ _ _ _ aM af (aa rfl)) (aa rfl))) af (aa rfl))) (@ac _ _ _ _ _ aM (@ac _ _ _ _ _ (@ba _ _ _ _ _ af) af (aa rfl)) (aa rfl)) (aa rfl)) (aa rfl)) (aa rfl))) af (aa rfl)) rfl (cW rfl rfl) rfl (aa rfl) (ah rfl)) (am rfl))))) (fun _=>rfl)) (@al _ _ _ (@ay _ _ _ _ (@ba _ _ _ _ _ (@ac _ _ _ _ _ (@aZ _ _ _ _ _ _ _ _ _ bt rfl T.tuple bI (@ac _ _ _ _ _ (pv 1) af (aa rfl)) (by decide) (by decide) (aa rfl) (ah rfl)) (@ac _ _ _ _ _ (@aZ _ _ _ _ _ _ _ _ _ bt rfl T.tuple bI (@ac _ _ _ _ _ (pv 6) af (aa rfl)) (by decide) (by decide) (aa rfl) (ah rfl)) af (aa rfl)) (aa rfl)))))))))),?_⟩
 refine ⟨(by show 0≤sizeLine; decide),fun rl hrl0=>?_⟩
 have nrl:=hf.ne hrl0
 have s1:=ae hrl0 (.lst [])
 have f1:=hf.same s1
 refine ⟨(by show 3≤sizeLine; decide),fun l1 hl1=>?_⟩
 have s2:=ae hl1 (.lst [.int 0,.int 1,.int 2])
 have f2:=f1.same s2
 refine ⟨_,rfl,fp,3,sc,m,rfl,f2,by omega,by decide,by decide,fun v2 H2 a2 b2 x2 f2=>?_⟩
 obtain ⟨u,hu,_,hat⟩:=dO (xs:=[V.int 0,.int 1,.int 2]) a2 b2
 obtain ⟨n,rfl,hn0,hn⟩:∃ n:Int,u=.int n∧0≤n∧n≤2:=by
  simp only [List.mem_cons,List.not_mem_nil,or_false] at hu
  rcases hu with rfl | rfl | rfl<;>exact ⟨_,rfl,by decide,by decide⟩
 refine ⟨l1,_,_,_,rfl,rfl,SqL.of (x2 _ _ (f1.ne hl1).1 ad),hat,n,rfl,by omega,by omega,?_⟩
 have hrl2:=x2 _ _ nrl.1 (s2 _ _ (ad (H:=H) (a:=rl) (o:=.lst [])))
 have E2:Ext fp H H2:=(ar.ext (s1.trans s2)).trans x2
 refine eN (n:=n.toNat) (fun k σ H'=>∃ m2 m3 m4 m5 ys R,σ=[some (.ref fp),some (.ref rl),m2,m3,m4,m5,none,none,none]∧Ext fp H H'∧Fd H' fp sc (m+1+4*k)∧H' rl=some (.lst ys)∧Paired (jw H') ys R∧R.map (·.1)=NM2.take k∧uM R) ⟨_,_,_,_,[],[],rfl,E2,f2,hrl2,.nil,rfl,fun j rc z=>by simp at z⟩ (fun k σ H3 hk p=>?_) (fun σ H3 p=>?_)
 ·obtain ⟨m2,m3,m4,m5,ys,R,rfl,E3,f3,hrl,pr,hnm,hgd⟩:=p
  have lys:=Paired.length pr
  obtain ⟨nd,lR,np⟩:=nm2 hnm
  have lRk:R.length=k:=by
   have:=congrArg List.length hnm
   rw [List.length_map,List.length_take] at this
   simp at this
   omega
  refine ⟨(by show 3≤sizeLine; decide),fun l3 h3=>?_⟩
  have g3:=ae h3 (.lst L3)
  have hrl3:=g3 _ _ hrl
  refine ⟨_,rfl,rl,rfl,⟨ys,SqL.of hrl3⟩,cB (xs:=ys) ys.length rfl (by omega) (fun j acc H'=>H'=upd H3 l3 (.lst L3)∧acc=((R.map (·.1)).take j).map V.str) ⟨rfl,rfl⟩ (fun j acc H' p=>by rw [p.1]; exact SqL.of hrl3) (fun j acc H6 x hj la hx p=>?_) (fun acc H6 p la D hD=>?_)⟩
  ·obtain ⟨rfl,rfl⟩:=p
   obtain ⟨rc,hrc,ra,ry,rfl,hra,_⟩:=aJ pr j x hx
   refine ⟨⟨rfl,rfl⟩,bf ?_⟩
   refine ⟨_,rfl,ra,_,_,_,rfl,rfl,SqT.of (g3 _ _ hra),rfl,nxT (by omega) hj la ⟨rfl,?_⟩⟩
   rw [List.take_add_one,List.getElem?_map,hrc,List.map_append]
   rfl
  obtain ⟨rfl,rfl⟩:=p
  have gD:=ae hD (.lst (((R.map (·.1)).take ys.length).map V.str))
  refine ⟨l3,D,_,_,rfl,rfl,gD _ _ ad,ad,Nat.le_of_lt (aI (by simp; omega)),fun kl hkl0=>?_⟩
  have gK:=ae hkl0 (.lst (L3++((R.map (·.1)).take ys.length).map V.str))
  have gg:=(g3.trans gD).trans gK
  have hkl:(upd (upd (upd H3 l3 (.lst L3)) D (.lst (((R.map (·.1)).take ys.length).map V.str))) kl (.lst (L3++((R.map (·.1)).take ys.length).map V.str))) kl=some (.lst ((PL3++R.map (·.1)).map V.str)):=by
   rw [ad,lys,← List.length_map (f:=fun r:Rec=>r.1),List.take_length,List.map_append]
   rfl
  have klf:H3 kl=none:=(g3.trans gD).free hkl0
  generalize (upd (upd (upd H3 l3 (.lst L3)) D (.lst (((R.map (·.1)).take ys.length).map V.str))) kl (.lst (L3++((R.map (·.1)).take ys.length).map V.str)))=HK at gg hkl
  have fK:=f3.same gg
  have nkl:=f3.ne klf
  have hrlK:=gg _ _ hrl
  refine ⟨(by show 3≤sizeLine; decide),fun l4 h4=>?_⟩
  have g4:=ae h4 (.lst [.str "x",.str "a",.str "ab"])
  have f4:=fK.same g4
  refine ⟨_,rfl,_,rfl,_,_,rfl,rfl,?_⟩
  refine ⟨fp,_,sc,_,rfl,f4,by omega,by omega,by omega,fun v H5 a5 b5 x5 f5=>?_⟩
  have b5':v<2+(0+(k:Int)):=b5
  refine ⟨_,_,rfl,rfl,_,rfl,l4,_,rfl,SqL.of (x5 _ _ (fK.ne h4).1 ad),fun nl hnl0=>?_⟩
  have g5:=ae hnl0 (.lst (dP [.str "x",.str "a",.str "ab"] none (some (1+v))))
  have hnl:(upd H5 nl (.lst (dP [.str "x",.str "a",.str "ab"] none (some (1+v))))) nl=some (.lst ((([("x":Str), "a", "ab"]:List Str).take (1+v).toNat).map V.str)):=by
   rw [ad,yT (by omega) (by omega),List.map_take]
   rfl
  have lns0:(([("x":Str), "a", "ab"]:List Str).take (1+v).toNat).length=(1+v).toNat:=by
   rw [List.length_take]
   show min _ 3=_
   omega
  have ff:=f5.same g5
  have hkl5:=g5 _ _ (x5 _ _ nkl.1 (g4 _ _ hkl))
  have nnl:=(f5.ne hnl0).1
  have hrl5:=g5 _ _ (x5 _ _ nrl.1 (g4 _ _ hrlK))
  have k5:Tk H3 (upd H5 nl (.lst (dP [.str "x",.str "a",.str "ab"] none (some (1+v))))):=(ak (gg.trans g4)).trans ((f4.tk x5).trans (ak g5))
  have E5:Ext fp H3 (upd H5 nl (.lst (dP [.str "x",.str "a",.str "ab"] none (some (1+v))))):=(ar.ext (gg.trans g4)).trans (x5.trans (ar.ext g5))
  generalize (upd H5 nl (.lst (dP [.str "x",.str "a",.str "ab"] none (some (1+v)))))=H8 at hnl ff hkl5 hrl5 k5 E5
  have hkl:=hkl5
  have nkl:=nkl.1
  have lks:(PL3++R.map (·.1)).length=3+R.length:=by rw [List.length_append,List.length_map]; rfl
  generalize hns:(([("x":Str), "a", "ab"]:List Str).take (1+v).toNat)=ns at hnl lns0
  generalize hks:(PL3++R.map (·.1))=ks at hkl lks
  refine ⟨_,rfl,nl,rfl,⟨_,SqL.of hnl⟩,cB (xs:=ns.map V.str) ns.length (by rw [List.length_map]) (by omega) (fun jx acc H'=>∃ fs,Ext fp H8 H'∧Fd H' fp sc (m+1+4*k+1+jx)∧Paired (lQ H') acc fs∧fs.length=jx∧∀ p∈fs,p.2∈ks) ⟨[],Ext.refl _ _,ff,.nil,rfl,fun _ z=>nomatch z⟩ (fun jx acc H' p=>SqL.of (p.choose_spec.1 _ _ nnl hnl)) (fun jx acc H6 x hj la hx p=>?_) (fun acc H6 p la D hD=>?_)⟩
  ·obtain ⟨fs,x6,f6,pf,lf,hk⟩:=p
   obtain ⟨nm,rfl⟩:∃ nm,x=.str nm:=by
    rw [List.getElem?_map] at hx
    obtain ⟨nm,_,e⟩:=Option.map_eq_some_iff.mp hx
    exact ⟨nm,e.symm⟩
   have hkl6:=x6 _ _ nkl hkl
   refine ⟨⟨rfl,rfl⟩,bf ?_⟩
   refine ⟨_,rfl,_,rfl,_,rfl,_,rfl,kl,_,rfl,.inl (SqL.of hkl6),fp,_,sc,_,rfl,f6,by omega,by rw [List.length_map]; omega,by rw [List.length_map]; omega,fun v H7 a7 b7 x7 f7=>?_⟩
   obtain ⟨u,hu,_,hat⟩:=dO a7 b7
   obtain ⟨kk,hkk,rfl⟩:=List.mem_map.mp hu
   refine ⟨kl,_,_,_,rfl,rfl,SqL.of (x7 _ _ nkl hkl6),hat,(by show 2≤sizeLine; decide),fun p hp=>?_⟩
   have g8:=ae hp (.tup [.str nm,.str kk])
   refine nxT (by omega) hj la ⟨fs++[(nm,kk)],(x6.trans x7).trans (ar.ext g8),(f7.same g8).le (by omega),Paired.app (Paired.mapP pf fun _ _ z=>(z.mono (f6.tk x7)).mono (ak g8)) (.cons ⟨p,rfl,ad⟩ .nil),by simp [lf],fun q hq=>?_⟩
   rcases List.mem_append.mp hq with hq | hq
   ·exact hk q hq
   ·rw [List.mem_singleton.mp hq]
    exact hkk
  obtain ⟨fs,x6,f6,pf,lf,hk⟩:=p
  refine ⟨D,acc,rfl,.inl ⟨SqL.of ad,fun t ht=>?_⟩⟩
  have gT:=(ae hD (.lst acc)).trans (ae ht (.tup acc))
  have xT:=x6.trans (ar.ext gT)
  have fT:=f6.same gT
  have pfT:dS (upd (upd H6 D (.lst acc)) t (.tup acc)) (.ref t) fs:=⟨t,acc,rfl,ad,Paired.mapP pf fun _ _ z=>z.mono (ak gT)⟩
  have hrlT:=xT _ _ nrl.1 hrl5
  have kT:=k5.trans (ff.tk xT)
  have ET:=E5.trans xT
  generalize (upd (upd H6 D (.lst acc)) t (.tup acc))=HT at xT fT pfT hrlT kT ET gT
  refine ⟨_,rfl,.inl ⟨rfl,_,SqL.of hrlT⟩,(by show 2≤sizeLine; decide),fun l5 h5=>?_⟩
  have g9:=ae h5 (.lst [.str "pair",.str "box"])
  obtain ⟨nm,hnmk⟩:∃ nm,NM2[k]?=some nm:=⟨_,List.getElem?_eq_getElem (show k<2 by omega)⟩
  have hatn:atI [V.str "pair",.str "box"] (0+(k:Int))=some (.str nm):=sM (xs:=NM2.map V.str) (by rw [List.getElem?_map,hnmk]; rfl)
  refine ⟨_,rfl,l5,_,_,_,rfl,rfl,SqL.of ad,hatn,_,rfl,(by show 2≤sizeLine; decide),fun p6 h6=>?_⟩
  have g10:=g9.trans (ae h6 (.tup [.str nm,.ref t]))
  have hrl10:=g10 _ _ hrlT
  have kt:=cM hrl10 (.lst (ys++[.ref p6]))
  refine ⟨rl,ys,_,rfl,rfl,hrl10,aI (by omega),?_⟩
  refine ⟨_,_,_,_,ys++[.ref p6],R++[(nm,fs)],rfl,((E3.trans ET).trans (ar.ext g10)).put hrl0,((fT.same g10).upd nrl).le (by omega),ad,Paired.app (Paired.mapP pr fun _ _ z=>(z.mono (kT.trans ((ak g10).trans kt)))) (.cons ⟨p6,.ref t,rfl,kt _ _ ad,(pfT.mono ((ak g10).trans kt))⟩ .nil),?_,?_⟩
  ·rw [List.map_append,hnm,List.take_add_one,hnmk]
   rfl
  ·intro j rc hj
   by_cases c:j<R.length
   ·rw [List.getElem?_append_left c] at hj
    have:=hgd j rc hj
    rw [List.take_append_of_le_length (by omega)]
    exact this
   ·rw [List.getElem?_append_right (by omega)] at hj
    have e0:j - R.length=0:=by
     rcases hh:j - R.length with _ | z
     ·rfl
     ·rw [hh] at hj
      cases hj
    rw [e0] at hj
    cases Option.some.inj hj
    have:j=R.length:=by omega
    subst this
    refine ⟨⟨by show 1≤fs.length; omega,by show fs.length≤3; omega⟩,fun p hp=>?_⟩
    rw [List.take_left,hks]
    exact hk p hp
 ·obtain ⟨m2,m3,m4,m5,ys,R,rfl,E3,f3,hrl,pr,hnm,hgd⟩:=p
  have lys:=Paired.length pr
  obtain ⟨nd,lR,np⟩:=nm2 hnm
  refine ⟨(by show 3≤sizeLine; decide),fun l3 h3=>?_⟩
  have g3:=ae h3 (.lst L3)
  have hrl3:=g3 _ _ hrl
  refine ⟨_,rfl,rl,rfl,⟨ys,SqL.of hrl3⟩,cB (xs:=ys) ys.length rfl (by omega) (fun j acc H'=>H'=upd H3 l3 (.lst L3)∧acc=((R.map (·.1)).take j).map V.str) ⟨rfl,rfl⟩ (fun j acc H' p=>by rw [p.1]; exact SqL.of hrl3) (fun j acc H6 x hj la hx p=>?_) (fun acc H6 p la D hD=>?_)⟩
  ·obtain ⟨rfl,rfl⟩:=p
   obtain ⟨rc,hrc,ra,ry,rfl,hra,_⟩:=aJ pr j x hx
   refine ⟨⟨rfl,rfl⟩,bf ?_⟩
   refine ⟨_,rfl,ra,_,_,_,rfl,rfl,SqT.of (g3 _ _ hra),rfl,nxT (by omega) hj la ⟨rfl,?_⟩⟩
   rw [List.take_add_one,List.getElem?_map,hrc,List.map_append]
   rfl
  obtain ⟨rfl,rfl⟩:=p
  have gD:=ae hD (.lst (((R.map (·.1)).take ys.length).map V.str))
  refine ⟨l3,D,_,_,rfl,rfl,gD _ _ ad,ad,Nat.le_of_lt (aI (by simp; omega)),fun kl hkl0=>?_⟩
  have gK:=ae hkl0 (.lst (L3++((R.map (·.1)).take ys.length).map V.str))
  have gg:=(g3.trans gD).trans gK
  have hkl:(upd (upd (upd H3 l3 (.lst L3)) D (.lst (((R.map (·.1)).take ys.length).map V.str))) kl (.lst (L3++((R.map (·.1)).take ys.length).map V.str))) kl=some (.lst ((PL3++R.map (·.1)).map V.str)):=by
   rw [ad,lys,← List.length_map (f:=fun r:Rec=>r.1),List.take_length,List.map_append]
   rfl
  have klf:H3 kl=none:=(g3.trans gD).free hkl0
  generalize (upd (upd (upd H3 l3 (.lst L3)) D (.lst (((R.map (·.1)).take ys.length).map V.str))) kl (.lst (L3++((R.map (·.1)).take ys.length).map V.str)))=HK at gg hkl
  have nkl:=(f3.ne klf).1
  have fK:=f3.same gg
  have hrlK:=gg _ _ hrl
  have prK:Paired (jw HK) ys R:=Paired.mapP pr fun _ _ z=>z.mono (ak gg)
  refine ⟨(by show 0≤sizeLine; decide),fun fl hfl0=>?_⟩
  have nfl:=fK.ne hfl0
  have g4:=ae hfl0 (.lst [])
  have f4:=fK.same g4
  refine ⟨(by show 3≤sizeLine; decide),fun l6 h6=>?_⟩
  have g5:=ae h6 (.lst [.str "f",.str "x",.str "fx"])
  have f5:=f4.same g5
  refine ⟨_,rfl,fp,3,sc,_,rfl,f5,by omega,by decide,by decide,fun v H5 a5 b5 x5 f5'=>?_⟩
  refine ⟨_,_,rfl,rfl,_,rfl,l6,_,rfl,SqL.of (x5 _ _ (f4.ne h6).1 ad),fun ol hol0=>?_⟩
  have b5':v<3:=b5
  have g6:=ae hol0 (.lst (dP [.str "f",.str "x",.str "fx"] none (some (1+v))))
  have hol:(upd H5 ol (.lst (dP [.str "f",.str "x",.str "fx"] none (some (1+v))))) ol=some (.lst ((NM3.take (1+v).toNat).map V.str)):=by
   rw [ad,yT (by omega) (by omega),List.map_take]
   rfl
  have lon:(NM3.take (1+v).toNat).length=(1+v).toNat:=by
   rw [List.length_take]
   show min _ 3=_
   omega
  have ndo:(NM3.take (1+v).toNat).Nodup:=List.Sublist.nodup (List.take_sublist _ _) (by decide +kernel)
  have fS:=f5'.same g6
  have nol:=(f5'.ne hol0).1
  have GS:Ext fp HK (upd H5 ol (.lst (dP [.str "f",.str "x",.str "fx"] none (some (1+v))))):=(ar.ext (g4.trans g5)).trans (x5.trans (ar.ext g6))
  have hkl6:=GS _ _ nkl hkl
  have hrl6:=GS _ _ nrl.1 hrlK
  have hfl6:=g6 _ _ (x5 _ _ nfl.1 (g5 _ _ (ad (H:=HK) (a:=fl) (o:=.lst []))))
  have nof:ol≠fl:=(aq (x5 _ _ nfl.1 (g5 _ _ (ad (H:=HK) (a:=fl) (o:=.lst [])))) hol0).symm
  have pr6:Paired (jw (upd H5 ol (.lst (dP [.str "f",.str "x",.str "fx"] none (some (1+v)))))) ys R:=Paired.mapP prK fun _ _ z=>z.mono (fK.tk GS)
  have ES:Ext fp H (upd H5 ol (.lst (dP [.str "f",.str "x",.str "fx"] none (some (1+v))))):=(E3.trans (ar.ext gg)).trans GS
  have Hfl:H fl=none:=by
   cases e9:H fl with
   | none=>rfl
   | some o =>
    have:=(E3.trans (ar.ext gg)) _ _ nfl.1 e9
    rw [hfl0] at this
    cases this
  have nkf:kl≠fl:=aq hkl hfl0
  have nrf:rl≠fl:=aq hrlK hfl0
  generalize (upd H5 ol (.lst (dP [.str "f",.str "x",.str "fx"] none (some (1+v)))))=HS at hol fS hkl6 hrl6 hfl6 pr6 ES
  have lks:(PL3++R.map (·.1)).length=3+R.length:=by rw [List.length_append,List.length_map]; rfl
  have dal:∀ k,k∈PL3++R.map (·.1)→cu R 4 k:=fun k hk=>uo hgd nd np lR hk
  generalize hks:(PL3++R.map (·.1))=ks at hkl6 lks dal
  generalize hon:NM3.take (1+v).toNat=on at hol lon ndo
  refine ⟨ol,rfl,⟨_,SqL.of hol⟩,cN (xs:=on.map V.str) (fun j σ H'=>∃ m4 m7 m8 zs FS,σ=[some (.ref fp),some (.ref rl),m2,some (.ref kl),m4,m5,some (.ref fl),m7,m8]∧(∀ b o,b≠fp→b≠fl→HS b=some o→H' b=some o)∧Tk HS H'∧Fd H' fp sc (m+11+4*j)∧H' fl=some (.lst zs)∧Paired (iE H') zs FS∧FS.map (·.1)=on.take j∧∀ F∈FS,F.2.length≤3∧∀ p∈F.2,p.2∈ks) ⟨_,_,_,[],[],rfl,fun _ _ _ _ e=>e,fun _ _ e=>e,fS.le (by omega),hfl6,.nil,rfl,fun _ z=>nomatch z⟩ (fun j σ H' _ p=>?_) (fun j x σ H7 hx p=>?_) (fun σ H7 p=>?_)⟩
  ·obtain ⟨_,_,_,_,_,_,kp,_⟩:=p
   exact SqL.of (kp _ _ nol nof hol)
  ·obtain ⟨m4',m7,m8,zs,FS,rfl,kp,kS,f7,hfl7,pF,hFn,hFk⟩:=p
   obtain ⟨own,hown,rfl⟩:∃ own,on[j]?=some own∧x=.str own:=by
    rw [List.getElem?_map] at hx
    obtain ⟨nm,h1,e⟩:=Option.map_eq_some_iff.mp hx
    exact ⟨nm,h1,e.symm⟩
   have hj3:j<on.length:=(List.getElem?_eq_some_iff.mp hown).1
   refine ⟨(by show 3≤sizeLine; decide),fun l7 h7=>?_⟩
   have w1:=ae h7 (.lst [.str "x",.str "xy",.str "pair"])
   refine ⟨(by show 4≤sizeLine; decide),fun l8 h8=>?_⟩
   have w2:=ae h8 (.lst [.int 1,.int 2,.int 3,.int 0])
   have f8:=(f7.same w1).same w2
   refine ⟨_,rfl,fp,4,sc,_,rfl,f8,by omega,by decide,by decide,fun v9 H9 a9 b9 x9 f9=>?_⟩
   obtain ⟨u9,hu9,_,hat9⟩:=dO (xs:=[V.int 1,.int 2,.int 3,.int 0]) a9 b9
   obtain ⟨n9,rfl,hn90,hn9⟩:∃ n:Int,u9=.int n∧0≤n∧n≤3:=by
    simp only [List.mem_cons,List.not_mem_nil,or_false] at hu9
    rcases hu9 with rfl | rfl | rfl | rfl<;>exact ⟨_,rfl,by decide,by decide⟩
   refine ⟨l8,_,_,_,rfl,rfl,SqL.of (x9 _ _ ((f7.same w1).ne h8).1 ad),hat9,_,rfl,l7,_,rfl,SqL.of (x9 _ _ (f7.ne h7).1 (w2 _ _ ad)),fun nl hnl0=>?_⟩
   have w3:=ae hnl0 (.lst (dP [.str "x",.str "xy",.str "pair"] none (some n9)))
   have hnl:(upd H9 nl (.lst (dP [.str "x",.str "xy",.str "pair"] none (some n9)))) nl=some (.lst ((([("x":Str), "xy", "pair"]:List Str).take n9.toNat).map V.str)):=by
    rw [ad,yT (by omega) (by omega),List.map_take]
    rfl
   have lns0:(([("x":Str), "xy", "pair"]:List Str).take n9.toNat).length≤3:=by
    rw [List.length_take]
    show min _ 3≤3
    omega
   have ff:=f9.same w3
   have nnl:=(f9.ne hnl0).1
   have EW:Ext fp H7 (upd H9 nl (.lst (dP [.str "x",.str "xy",.str "pair"] none (some n9)))):=(ar.ext (w1.trans w2)).trans (x9.trans (ar.ext w3))
   have hkl:=EW _ _ nkl (kp _ _ nkl nkf hkl6)
   have hfl8:=EW _ _ nfl.1 hfl7
   generalize (upd H9 nl (.lst (dP [.str "x",.str "xy",.str "pair"] none (some n9))))=H8 at hnl ff EW hkl hfl8
   generalize (([("x":Str), "xy", "pair"]:List Str).take n9.toNat)=ns at hnl lns0
   refine ⟨_,rfl,nl,rfl,⟨_,SqL.of hnl⟩,cB (xs:=ns.map V.str) ns.length (by rw [List.length_map]) (by omega) (fun jx acc H'=>∃ fs,Ext fp H8 H'∧Fd H' fp sc (m+11+4*j+1+jx)∧Paired (lQ H') acc fs∧fs.length=jx∧∀ p∈fs,p.2∈ks) ⟨[],Ext.refl _ _,ff,.nil,rfl,fun _ z=>nomatch z⟩ (fun jx acc H' p=>SqL.of (p.choose_spec.1 _ _ nnl hnl)) (fun jx acc H6 x hj la hx p=>?_) (fun acc H6 p la D hD=>?_)⟩
   ·obtain ⟨fs,x6,f6,pf,lf,hk⟩:=p
    obtain ⟨nm,rfl⟩:∃ nm,x=.str nm:=by
     rw [List.getElem?_map] at hx
     obtain ⟨nm,_,e⟩:=Option.map_eq_some_iff.mp hx
     exact ⟨nm,e.symm⟩
    have hkl6:=x6 _ _ nkl hkl
    refine ⟨⟨rfl,rfl⟩,bf ?_⟩
    refine ⟨_,rfl,_,rfl,_,rfl,_,rfl,kl,_,rfl,.inl (SqL.of hkl6),fp,_,sc,_,rfl,f6,by omega,by rw [List.length_map]; omega,by rw [List.length_map]; omega,fun v H7 a7 b7 x7 f7=>?_⟩
    obtain ⟨u,hu,_,hat⟩:=dO a7 b7
    obtain ⟨kk,hkk,rfl⟩:=List.mem_map.mp hu
    refine ⟨kl,_,_,_,rfl,rfl,SqL.of (x7 _ _ nkl hkl6),hat,(by show 2≤sizeLine; decide),fun p hp=>?_⟩
    have g8:=ae hp (.tup [.str nm,.str kk])
    refine nxT (by omega) hj la ⟨fs++[(nm,kk)],(x6.trans x7).trans (ar.ext g8),(f7.same g8).le (by omega),Paired.app (Paired.mapP pf fun _ _ z=>(z.mono (f6.tk x7)).mono (ak g8)) (.cons ⟨p,rfl,ad⟩ .nil),by simp [lf],fun q hq=>?_⟩
    rcases List.mem_append.mp hq with hq | hq
    ·exact hk q hq
    ·rw [List.mem_singleton.mp hq]
     exact hkk
   obtain ⟨fs,x6,f6,pf,lf,hk⟩:=p
   refine ⟨D,acc,rfl,.inl ⟨SqL.of ad,fun t ht=>?_⟩⟩
   have gT:=(ae hD (.lst acc)).trans (ae ht (.tup acc))
   have xT:=x6.trans (ar.ext gT)
   have fT:=f6.same gT
   have pfT:dS (upd (upd H6 D (.lst acc)) t (.tup acc)) (.ref t) fs:=⟨t,acc,rfl,ad,Paired.mapP pf fun _ _ z=>z.mono (ak gT)⟩
   have ET:=EW.trans xT
   have hflT:=ET _ _ nfl.1 hfl7
   have kT:Tk H7 (upd (upd H6 D (.lst acc)) t (.tup acc)):=f7.tk ET
   generalize (upd (upd H6 D (.lst acc)) t (.tup acc))=HT at xT fT pfT hflT kT ET gT
   refine ⟨_,rfl,.inl ⟨rfl,_,SqL.of hflT⟩,_,rfl,_,rfl,(by show 2≤sizeLine; decide),fun p1 h1=>⟨(by show 1≤sizeLine; decide),fun p2 h2=>⟨(by show 0≤sizeLine; decide),fun p3 h3=>⟨(by show 5≤sizeLine; decide),fun p4 h4=>?_⟩⟩⟩⟩
   have y1:=ae h1 (.tup [.str "y",.str "num"])
   have y2:=ae h2 (.tup [.ref p1])
   have y3:=ae h3 (.tup [])
   have y4:=ae h4 (.tup [.str own,.ref t,.ref p2,.str "num",.ref p3])
   have yy:=((y1.trans y2).trans y3).trans y4
   have hflY:=yy _ _ hflT
   have kt:=cM hflY (.lst (zs++[.ref p4]))
   have lzs:=Paired.length pF
   have lFS:=congrArg List.length hFn
   rw [List.length_map,List.length_take] at lFS
   refine ⟨fl,zs,_,rfl,rfl,hflY,aI (by omega),?_⟩
   refine ⟨_,_,_,zs++[.ref p4],FS++[(own,fs)],rfl,fun b o n1 n2 e=>?_,kS.trans (kT.trans ((ak yy).trans kt)),((fT.same yy).upd nfl).le (by omega),ad,Paired.app (Paired.mapP pF fun _ _ z=>(z.mono (kT.trans ((ak yy).trans kt)))) (.cons ⟨p4,.ref t,.ref p2,.ref p3,rfl,kt _ _ ad,pfT.mono ((ak yy).trans kt)⟩ .nil),?_,fun G hG=>?_⟩
   ·rw [bc n2]
    exact yy _ _ (ET _ _ n1 (kp _ _ n1 n2 e))
   ·rw [List.map_append,hFn,List.take_add_one,hown]
    rfl
   ·rcases List.mem_append.mp hG with hG | hG
    ·exact hFk G hG
    ·rw [List.mem_singleton.mp hG]
     exact ⟨by show fs.length≤3; omega,hk⟩
  ·obtain ⟨m4',m7,m8,zs,FS,rfl,kp,kS,f7,hfl7,pF,hFn,hFk⟩:=p
   rw [List.length_map,List.take_length] at hFn
   have lFS:=congrArg List.length hFn
   rw [List.length_map] at lFS
   have hrl7:=kp _ _ nrl.1 nrf hrl6
   refine ⟨_,rfl,rl,ys,rfl,.inl ⟨SqL.of hrl7,fun t1 ht1=>?_⟩⟩
   have z1:=ae ht1 (.tup ys)
   refine ⟨_,rfl,fl,zs,rfl,.inl ⟨SqL.of (z1 _ _ hfl7),fun t2 ht2=>⟨(by show 2≤sizeLine; decide),fun t3 ht3=>?_⟩⟩⟩
   have z2:=ae ht2 (.tup zs)
   have z3:=ae ht3 (.tup [.ref t1,.ref t2])
   have zz:=(z1.trans z2).trans z3
   refine q (.ref t3) R FS _ (fun b o nb e=>?_) ((f7.same zz).le (by rw [List.length_map]; omega)) ⟨t3,.ref t1,t2,zs,rfl,ad,⟨t1,ys,rfl,z3 _ _ (z2 _ _ ad),Paired.mapP pr6 fun _ _ z=>z.mono (kS.trans (ak zz))⟩,z3 _ _ ad,Paired.mapP pF fun _ _ z=>z.mono (ak zz)⟩ ⟨nd,lR,by rw [hFn]; exact ndo,fun G hG=>⟨(hFk G hG).1,fun p hp=>dal _ ((hFk G hG).2 p hp)⟩⟩ (by omega) (by omega)
   exact zz _ _ (kp _ _ nb (aq e Hfl) (ES _ _ nb e))
end
end K6
namespace L2
open PySem PySem.Spec PyProof.Rows
theorem aU.ex2 {P:Program} {w:World} {K:Frag} {mg:Str→Option Value} {base:Heap} {CX:CXT} {k:Nat} {f:Addr} {fd:FuncData} {ps:List Str} {α:Type} {sp:α→Sp} (h:∀ x,aU P w K mg base CX k f fd ps (sp x)) :
  aU P w K mg base CX k f fd ps (fun vs H Q E=>∃ x,sp x vs H Q E) :=
 ⟨fun vs H Q E ⟨x,q⟩=>(h x).len vs H Q E q,fun A outer s H args us vs Q E hr he hb hv ⟨x,hs⟩=>(h x).run A outer s H args us vs Q E hr he hb hv hs⟩
end L2
namespace K6
open PySem L2
theorem jy.da {H:Hp} {fp sc:Addr} {m:Nat} {rv:V} {r:Rm} (h:jy H rv r) (f:Fd H fp sc m):DA fp H rv (.tuple [.int r.a,.int r.b,.int r.c,.int r.d,.int r.e]):=by
 obtain ⟨p,rfl,hp⟩:=h
 obtain ⟨xs,hx⟩:=f.lst
 refine .tup ⟨fun e=>?_,(by show 5≤1000; decide)⟩ hp (.cons (.int _) (.cons (.int _) (.cons (.int _) (.cons (.int _) (.cons (.int _) .nil)))))
 rw [e,hx] at hp
 cases hp
section
variable {P:Program} {w:World} {K:Frag} {mg:Str→Option Value} {base:Heap} {f g:Addr} {fd gd:FuncData}
abbrev yZ:List Str:=["_law_script", "_law_feed_here", "_law_k", "_law_program", "_law_f", "_law_room_here", "_law_thing", "_law_told", "_law_some", "_law_j", "_law_one"]
theorem dL:aK yZ ["_law_script"] (defScope rh):=⟨rfl,rfl,rfl,by decide +kernel,rfl,by decide +kernel,by decide +kernel⟩
def rN:Sp:=fun vs H Q E=>∃ n:Fin 5,kH n.val vs H Q E
def oI:Sp:=fun vs H Q E=>∃ tp,rH tp vs H Q E
def jO:Sp:=fun vs H Q E=>∃ tp,mS tp vs H Q E
def uf (K:Frag):Sp:=fun vs H Q _=>∃ a ns,vs=[.ref a]∧SqL K H a (List.map V.int ns)∧∀ H',Q (.bl true) H'
theorem ya (T:G0 mg) (F:Fun K "law" "law" rh f fd) (D_l_right:Cal P w K mg base 12 "_law_right" ["_law_program", "_law_f", "_law_room_here", "_law_thing"] oI) (D_l_odd:Cal P w K mg base 2 "_law_odd" ["_law_feed_here"] nG) (D_l_bent:Cal P w K mg base 7 "_law_bent" pBt rN) (D_l_draw:Cal P w K mg base 1 "_law_draw" ["_law_feed_here", "_law_many_here"] oJ) (D_l_inputs:Cal P w K mg base 7 "_law_inputs" ["_law_program", "_law_f", "_law_room_here"] xt) (D_l_is_room:Cal P w K mg base 2 "_law_is_room" ["_law_thing"] jO) (D_is_room:Cal P w K mg base 3 "is_room" ["thing"] jO) (D_l_room:Cal P w K mg base 7 "_law_room" ["_law_feed_here", "_law_program", "_law_f", "_law_most"] zL) (D_l_headed:Cal P w K mg base 2 "_law_headed" ["_law_feed_here"] zk) (D_l_feed:Cal P w K mg base 1 "_law_feed" ["_law_script"] (zW K)):aU P w K mg base CX0 13 f fd ["_law_script"] (uf K):=by
 obtain ⟨g_l_right,gd_l_right,G_l_right,b_l_right,k_l_right,m_l_right⟩:=D_l_right.ex
 obtain ⟨g_l_odd,gd_l_odd,G_l_odd,b_l_odd,k_l_odd,m_l_odd⟩:=D_l_odd.ex
 obtain ⟨g_l_bent,gd_l_bent,G_l_bent,b_l_bent,k_l_bent,m_l_bent⟩:=D_l_bent.ex
 obtain ⟨g_l_draw,gd_l_draw,G_l_draw,b_l_draw,k_l_draw,m_l_draw⟩:=D_l_draw.ex
 obtain ⟨g_l_inputs,gd_l_inputs,G_l_inputs,b_l_inputs,k_l_inputs,m_l_inputs⟩:=D_l_inputs.ex
 obtain ⟨g_l_is_room,gd_l_is_room,G_l_is_room,b_l_is_room,k_l_is_room,m_l_is_room⟩:=D_l_is_room.ex
 obtain ⟨g_is_room,gd_is_room,G_is_room,b_is_room,k_is_room,m_is_room⟩:=D_is_room.ex
 obtain ⟨g_l_room,gd_l_room,G_l_room,b_l_room,k_l_room,m_l_room⟩:=D_l_room.ex
 obtain ⟨g_l_headed,gd_l_headed,G_l_headed,b_l_headed,k_l_headed,m_l_headed⟩:=D_l_headed.ex
 obtain ⟨g_l_feed,gd_l_feed,G_l_feed,b_l_feed,k_l_feed,m_l_feed⟩:=D_l_feed.ex
 refine F.ok dL (fun vs H Q E h=>?_) (fun cdv A outer s H vs Q E hr h=>?_)
 ·obtain ⟨a,ns,rfl,_⟩:=h
  rfl
 obtain ⟨a,ns,rfl,ha,q⟩:=h
 refine ⟨_,(@aj _ _ _ _ _ (@aC _ _ 1 _ _ _ _ dL.nd rfl (Or.inl rfl) (@ao _ _ _ _ _ _ _ _ _ _ _ _ _ _ _ _ G_l_feed (hr.mono (by omega)) rfl m_l_feed k_l_feed b_l_feed .nil aB (@ac _ _ _ _ _ (pv 0) af (aa rfl)) (by decide) (aa rfl) (ah rfl)) (am rfl) (.inr rfl)) (@aj _ _ _ _ _ (@bF _ _ _ _ _ _ _ _ PassesOwn.never rfl (cT rfl T.range (@ac _ _ _ _ _ ag af (aa rfl))) (au (i:=2) dL.nd rfl (Or.inl rfl)) (@aj _ _ _ _ _ (@aC _ _ 3 _ _ _ _ dL.nd rfl (Or.inl rfl) (@ao _ _ _ _ _ _ _ _ _ _ _ _ _ _ _ _ G_l_headed (hr.mono (by omega)) rfl m_l_headed k_l_headed b_l_headed .nil aB (@ac _ _ _ _ _ (pv 1) af (aa rfl)) (by decide) (aa rfl) (ah rfl)) (am rfl) (.inr rfl)) (@aj _ _ _ _ _ (@aC _ _ 4 _ _ _ _ dL.nd rfl (Or.inl rfl) (@ao _ _ _ _ _ _ _ _ _ _ _ _ _ _ _ _ G_l_draw (hr.mono (by omega)) rfl m_l_draw k_l_draw b_l_draw .nil aB (@ac _ _ _ _ _ (pv 1) (@ac _ _ _ _ _ (@ap _ _ _ _ _ _ _ _ _ aA rfl T.len cb (@ac _ _ _ _ _ (@av _ _ _ _ _ _ _ aH (pv 3) ag (fun _ _=>rfl)) af (aa rfl)) (by decide) (by decide) (aa rfl) (ah rfl)) af (aa rfl)) (aa rfl)) (by decide) (aa rfl) (ah rfl)) (am rfl) (.inr rfl)) (@aj _ _ _ _ _ (@aC _ _ 5 _ _ _ _ dL.nd rfl (Or.inl rfl) (@ao _ _ _ _ _ _ _ _ _ _ _ _ _ _ _ _ G_l_room (hr.mono (by omega)) rfl m_l_room k_l_room b_l_room .nil aB (@ac _ _ _ _ _ (pv 1) (@ac _ _ _ _ _ (pv 3) (@ac _ _ _ _ _ (pv 4) (@ac _ _ _ _ _ ag af (aa rfl)) (aa rfl)) (aa rfl)) (aa rfl)) (by decide) (aa rfl) (ah rfl)) (am rfl) (.inr rfl)) (@aj _ _ _ _ _ (@bF _ _ _ _ _ _ _ _ PassesOwn.never rfl (bA (@aV _ _ _ _ (@ac _ _ _ _ _ (pv 5) (@ac _ _ _ _ _ (@ao _ _ _ _ _ _ _ _ _ _ _ _ _ _ _ _ G_l_bent (hr.mono (by omega)) rfl m_l_bent k_l_bent b_l_bent .nil aB (@ac _ _ _ _ _ (pv 1) (@ac _ _ _ _ _ (pv 5) (@ac _ _ _ _ _ ag af (aa rfl)) (aa rfl)) (aa rfl)) (by decide) (aa rfl) (ah rfl)) (@ac _ _ _ _ _ (@ao _ _ _ _ _ _ _ _ _ _ _ _ _ _ _ _ G_l_bent (hr.mono (by omega)) rfl m_l_bent k_l_bent b_l_bent .nil aB (@ac _ _ _ _ _ (pv 1) (@ac _ _ _ _ _ (pv 5) (@ac _ _ _ _ _ ag af (aa rfl)) (aa rfl)) (aa rfl)) (by decide) (aa rfl) (ah rfl)) (@ac _ _ _ _ _ (@ao _ _ _ _ _ _ _ _ _ _ _ _ _ _ _ _ G_l_odd (hr.mono (by omega)) rfl m_l_odd k_l_odd b_l_odd .nil aB (@ac _ _ _ _ _ (pv 1) af (aa rfl)) (by decide) (aa rfl) (ah rfl)) af (aa rfl)) (aa rfl)) (aa rfl)) (aa rfl)))) (au (i:=6) dL.nd rfl (Or.inl rfl)) (@aj _ _ _ _ _ (@aC _ _ 7 _ _ _ _ dL.nd rfl (Or.inl rfl) (@ao _ _ _ _ _ _ _ _ _ _ _ _ _ _ _ _ G_is_room (hr.mono (by omega)) rfl m_is_room k_is_room b_is_room .nil aB (@ac _ _ _ _ _ (pv 6) af (aa rfl)) (by decide) (aa rfl) (ah rfl)) (am rfl) (.inr rfl)) (@al _ _ _ (@bj _ _ _ _ _ _ _ _ (PW.pt (ft (cI (bX (@ap _ _ _ _ _ _ _ _ _ bm rfl T.isi cL (@ac _ _ _ _ _ (pv 7) (@ac _ _ _ _ _ (bw (v:=.ty "bool") rfl T.bool mX rfl) af (aa rfl)) (aa rfl)) (by decide) (by decide) (aa rfl) (ah rfl)))) (eB (@aE _ _ _ _ _ _ _ _ kF (pv 7) (@ao _ _ _ _ _ _ _ _ _ _ _ _ _ _ _ _ G_l_is_room (hr.mono (by omega)) rfl m_l_is_room k_l_is_room b_l_is_room .nil aB (@ac _ _ _ _ _ (pv 6) af (aa rfl)) (by decide) (aa rfl) (ah rfl)) (aO _))))) (@al _ _ _ (@ay _ _ _ _ cC)) aL))) (fun _=>rfl)) (@aj _ _ _ _ _ (@aC _ _ 8 _ _ _ _ dL.nd rfl (Or.inl rfl) (@ao _ _ _ _ _ _ _ _ _ _ _ _ _ _ _ _ G_l_inputs (hr.mono (by omega)) rfl m_l_inputs k_l_inputs b_l_inputs .nil aB (@ac _ _ _ _ _ (pv 3) (@ac _ _ _ _ _ (pv 4) (@ac _ _ _ _ _ (pv 5) af (aa rfl)) (aa rfl)) (aa rfl)) (by decide) (aa rfl) (ah rfl)) (am rfl) (.inr rfl)) (@aj _ _ _ _ _ (@bF _ _ _ _ _ _ _ _ PassesOwn.never rfl (cT rfl T.range (@ac _ _ _ _ _ ag af (aa rfl))) (au (i:=9) dL.nd rfl (Or.inl rfl)) (@aj _ _ _ _ _ (@aC _ _ 10 _ _ _ _ dL.nd rfl (Or.inl rfl) (@av _ _ _ _ _ _ _ aF (pv 8) (@ao _ _ _ _ _ _ _ _ _ _ _ _ _ _ _ _ G_l_draw (hr.mono (by omega)) rfl m_l_draw k_l_draw b_l_draw .nil aB (@ac _ _ _ _ _ (pv 1) (@ac _ _ _ _ _ (@ap _ _ _ _ _ _ _ _ _ aA rfl T.len cb (@ac _ _ _ _ _ (pv 8) af (aa rfl)) (by decide) (by decide) (aa rfl) (ah rfl)) af (aa rfl)) (aa rfl)) (by decide) (aa rfl) (ah rfl)) (fun _ _=>rfl)) (am rfl) (.inr rfl)) (@al _ _ _ (@bj _ _ _ _ _ _ _ _ (PW.pt (ft (cI (bX (@ao _ _ _ _ _ _ _ _ _ _ _ _ _ _ _ _ G_l_right (hr.mono (by omega)) rfl m_l_right k_l_right b_l_right .nil aB (@ac _ _ _ _ _ (pv 3) (@ac _ _ _ _ _ (pv 4) (@ac _ _ _ _ _ (pv 5) (@ac _ _ _ _ _ (pv 10) af (aa rfl)) (aa rfl)) (aa rfl)) (aa rfl)) (by decide) (aa rfl) (ah rfl)))) (eB (cI (bX (@ao _ _ _ _ _ _ _ _ _ _ _ _ _ _ _ _ G_l_right (hr.mono (by omega)) rfl m_l_right k_l_right b_l_right .nil aB (@ac _ _ _ _ _ (pv 3) (@ac _ _ _ _ _ (pv 4) (@ac _ _ _ _ _ (pv 5) (@ac _ _ _ _ _ (@ao _ _ _ _ _ _ _ _ _ _ _ _ _ _ _ _ G_l_bent (hr.mono (by omega)) rfl m_l_bent k_l_bent b_l_bent .nil aB (@ac _ _ _ _ _ (pv 1) (@ac _ _ _ _ _ (pv 10) (@ac _ _ _ _ _ ag af (aa rfl)) (aa rfl)) (aa rfl)) (by decide) (aa rfl) (ah rfl)) af (aa rfl)) (aa rfl)) (aa rfl)) (aa rfl)) (by decide) (aa rfl) (ah rfl))))))) (@al _ _ _ (@ay _ _ _ _ cC)) aL))) (fun _=>rfl)) (@al _ _ _ (@bj _ _ _ _ _ _ _ _ (cI (bX (@ao _ _ _ _ _ _ _ _ _ _ _ _ _ _ _ _ G_l_right (hr.mono (by omega)) rfl m_l_right k_l_right b_l_right .nil aB (@ac _ _ _ _ _ (pv 3) (@ac _ _ _ _ _ (pv 4) (@ac _ _ _ _ _ (pv 5) (@ac _ _ _ _ _ (@ao _ _ _ _ _ _ _ _ _ _ _ _ _ _ _ _ G_l_odd (hr.mono (by omega)) rfl m_l_odd k_l_odd b_l_odd .nil aB (@ac _ _ _ _ _ (pv 1) af (aa rfl)) (by decide) (aa rfl) (ah rfl)) af (aa rfl)) (aa rfl)) (aa rfl)) (aa rfl)) (by decide) (aa rfl) (ah rfl)))) (@al _ _ _ (@ay _ _ _ _ cC)) aL)))))))) (fun _=>rfl)) (@al _ _ _ (@ay _ _ _ _ cC)))),?_⟩
 refine ⟨_,rfl,a,ns,rfl,ha,fun fp sc H1 g1 hfn f1=>?_⟩
 refine ⟨4,rfl,by decide,by decide,eN (n:=4) (fun k σ H'=>∃ m2 m3 m4 m5 m6 m7 m8 m9 m10,σ=[some (.ref a),some (.ref fp),m2,m3,m4,m5,m6,m7,m8,m9,m10]∧Fd H' fp sc (122*k)) ⟨_,_,_,_,_,_,_,_,_,rfl,f1⟩ (fun k σ H2 hk p=>?_) (fun σ H2 p=>?_)⟩
 rotate_left
 ·exact q _
 obtain ⟨m2,m3,m4,m5,m6,m7,m8,m9,m10,rfl,f2⟩:=p
 refine ⟨_,rfl,fp,sc,_,rfl,f2,by omega,fun pg R FS H3 x3 f3 hpg hok hl1 hl3=>?_⟩
 obtain ⟨pa,py,pb,fxs,rfl,hpa,hRc,hpb,pF⟩:=id hpg
 have lF:=Paired.length pF
 refine ⟨_,rfl,_,rfl,pa,_,_,_,rfl,rfl,SqT.of hpa,rfl,pb,fxs,rfl,.inr (SqT.of hpb),fp,_,sc,_,rfl,f3,by omega,by omega,by omega,fun v H4 a4 b4 x4 f4=>?_⟩
 obtain ⟨i,rfl⟩:∃ i:Nat,v=(i:Int):=⟨v.toNat,by omega⟩
 obtain ⟨FF,hF⟩:∃ FF,FS[i]?=some FF:=⟨_,List.getElem?_eq_getElem (by omega)⟩
 have hpg4:=hpg.mono (f3.tk x4)
 refine ⟨_,rfl,_,rfl,_,rfl,fp,sc,_,_,i,R,FS,FF,rfl,f4,by omega,hpg4,hok,hF,fun rv r H5 x5 f5 hrm hrk hmn=>?_⟩
 have hpg5:=hpg4.mono (f4.tk x5)
 have hda5:=hrm.da f5
 refine ⟨_,rfl,_,rfl,_,rfl,⟨2,by decide⟩,fp,sc,_,rv,_,rfl,f5,(by show 122*k+25+1+7+4*2+4≤900; omega),hda5,rfl,fun u6 d6 H6 x6 f6 hd6 hg6=>?_⟩
 replace f6:Fd H6 fp sc (122*k+45):=f6.le (by show 122*k+25+1+7+4*2+4≤122*k+45; omega)
 have hda6:=hda5.mono x6
 refine ⟨_,rfl,_,rfl,⟨2,by decide⟩,fp,sc,_,rv,_,rfl,f6,(by show 122*k+45+4*2+4≤900; omega),hda6,rfl,fun u7 d7 H7 x7 f7 hd7 hg7=>?_⟩
 replace f7:Fd H7 fp sc (122*k+57):=f7.le (by show 122*k+45+4*2+4≤122*k+57; omega)
 have hda7:=hda6.mono x7
 refine ⟨_,rfl,fp,sc,_,rfl,f7,by omega,fun u8 d8 H8 x8 f8 hd8 hg8=>?_⟩
 refine ⟨(by show 4≤sizeLine; decide),fun tl htl=>?_⟩
 have gl:=ae htl (.lst [rv,u6,u7,u8])
 have f9:=f8.same gl
 have hl9:(upd H8 tl (.lst [rv,u6,u7,u8])) tl=_:=ad
 have x9:Ext fp H5 (upd H8 tl (.lst [rv,u6,u7,u8])):=x6.trans (x7.trans (x8.trans (ar.ext gl)))
 have things:∀ x∈[rv,u6,u7,u8],∃ d,DA fp (upd H8 tl (.lst [rv,u6,u7,u8])) x d:=fun x hx=>by
  simp only [List.mem_cons,List.not_mem_nil,or_false] at hx
  rcases hx with rfl | rfl | rfl | rfl
  ·exact ⟨_,(hda7.mono x8).same gl⟩
  ·exact ⟨_,(((hd6 fp f5.some hda5).mono x7).mono x8).same gl⟩
  ·exact ⟨_,((hd7 fp f6.some hda6).mono x8).same gl⟩
  ·exact ⟨_,(hd8 fp f7.some).same gl⟩
 have hpg9:=hpg5.mono (f5.tk x9)
 have hrm9:=hrm.mono (f5.tk x9)
 generalize (upd H8 tl (.lst [rv,u6,u7,u8]))=H9 at f9 hl9 x9 things hpg9 hrm9
 refine ⟨tl,rfl,⟨_,SqL.of hl9⟩,cN (xs:=[rv,u6,u7,u8]) (fun j σ H'=>∃ m6 m7 m8 m9 m10,σ=[some (.ref a),some (.ref fp),some (.int (0+(k:Int))),some (.ref pa),some (.int (i:Int)),some rv,m6,m7,m8,m9,m10]∧ar H9 H') ⟨_,_,_,_,_,rfl,ar.refl _⟩ (fun j σ H' _ p=>?_) (fun j x σ HA hx p=>?_) (fun σ HA p=>?_)⟩
 ·obtain ⟨_,_,_,_,_,_,g⟩:=p
  exact SqL.of (g _ _ hl9)
 ·obtain ⟨m6,m7,m8,m9,m10,rfl,gA⟩:=p
  obtain ⟨d,hd⟩:=things x (List.mem_of_getElem? hx)
  refine ⟨_,rfl,fp,x,d,rfl,hd.same gA,fun HB gB=>?_⟩
  refine ⟨_,rfl,_,_,_,true,rfl,.bl _,rfl,_,rfl,bp ?_⟩
  refine ⟨_,rfl,_,rfl,fp,x,d,rfl,hd.same (gA.trans gB),fun HC gC=>?_⟩
  refine ⟨rfl,_,rfl,?_⟩
  rw [show (!decide (V.bl (bR d)=V.bl (bR d)))=false by simp]
  exact bp ⟨_,_,_,_,_,rfl,gA.trans (gB.trans gC)⟩
 obtain ⟨m6,m7,m8,m9,m10,rfl,gA⟩:=p
 have hpgA:=hpg9.mono (ak gA)
 have hrmA:=hrm9.mono (ak gA)
 have fA:=f9.same gA
 refine ⟨_,rfl,_,rfl,_,rfl,_,i,R,FS,FF,rv,r,rfl,hpgA,hok,hF,hrmA,hrk,hmn,fun il ys es HB gB hilN hil kes les kvs=>?_⟩
 have fB:=fA.same gB
 have hpgB:=hpgA.mono (ak gB)
 have hrmB:=hrmA.mono (ak gB)
 have lys:=bN kes
 have mp:=jX hrk (aR R FF.2)
 have nil_:il≠fp:=fun e=>fA.some (e ▸ hilN)
 refine ⟨3,rfl,by decide,by decide,eN (n:=3) (fun j σ H'=>∃ m9 m10,σ=[some (.ref a),some (.ref fp),some (.int (0+(k:Int))),some (.ref pa),some (.int (i:Int)),some rv,m6,m7,some (.ref il),m9,m10]∧Ext fp HB H'∧Fd H' fp sc (122*k+58+21*j)) ⟨_,_,rfl,Ext.refl _ _,fB.le (by omega)⟩ (fun j σ HC hj p=>?_) (fun σ HC p=>?_)⟩
 ·obtain ⟨m9,m10,rfl,xC,fC⟩:=p
  have hilC:=xC _ _ nil_ hil
  refine ⟨_,rfl,_,rfl,_,rfl,il,ys,rfl,.inl (SqL.of hilC),fp,_,sc,_,rfl,fC,by omega,by omega,by omega,fun v HD aD bD xD fD=>?_⟩
  obtain ⟨u,hu,_,hat⟩:=dO aD bD
  obtain ⟨e,he,ke⟩:=qM kes u hu
  have kve:=kvs e he
  have xBD:=xC.trans xD
  have keD:=ke.mono (fB.tk xBD)
  have hde:DA fp HD u e:=xf (fun xs z=>by obtain ⟨ws,hw⟩:=fD.lst; rw [hw] at z; cases z) keD kve
  have hge:=xJ kve
  have hpgD:=hpgB.mono (fB.tk xBD)
  have hrmD:=hrmB.mono (fB.tk xBD)
  refine ⟨il,_,_,_,rfl,rfl,SqL.of (xD _ _ nil_ hilC),hat,?_⟩
  refine ⟨_,rfl,_,rfl,_,rfl,_,rfl,fp,_,i,R,FS,FF,rv,r,u,e,rfl,hpgD,hok,hF,hrmD,hde,ca (by decide) hge,fun HE gE=>?_⟩
  refine ⟨_,rfl,bp ?_⟩
  have fE:=fD.same gE
  have hdE:=hde.same gE
  refine ⟨_,rfl,_,rfl,_,rfl,_,rfl,_,rfl,⟨4,by decide⟩,fp,sc,_,u,e,rfl,fE,(by show 122*k+58+21*j+1+4*4+4≤900; omega),hdE,hge,fun u' d' HF xF fF hdF hgF=>?_⟩
  replace fF:Fd HF fp sc (122*k+58+21*(j+1)):=fF.le (by show 122*k+58+21*j+1+4*4+4≤122*k+58+21*(j+1); omega)
  have xDF:=(ar.ext gE).trans xF
  refine ⟨fp,_,i,R,FS,FF,rv,r,u',d',rfl,hpgD.mono (fD.tk xDF),hok,hF,hrmD.mono (fD.tk xDF),hdF fp fE.some hdE,hgF,fun HG gG=>?_⟩
  refine ⟨_,rfl,bp ?_⟩
  exact ⟨_,_,rfl,(xBD.trans xDF).trans (ar.ext gG),fF.same gG⟩
 ·obtain ⟨m9,m10,rfl,xC,fC⟩:=p
  have hpgC:=hpgB.mono (fB.tk xC)
  have hrmC:=hrmB.mono (fB.tk xC)
  refine ⟨_,rfl,_,rfl,_,rfl,_,rfl,fp,sc,_,rfl,fC,by omega,fun u d HD xD fD hdD hgD=>?_⟩
  refine ⟨fp,_,i,R,FS,FF,rv,r,u,d,rfl,hpgC.mono (fC.tk xD),hok,hF,hrmC.mono (fC.tk xD),hdD fp fC.some,ca (by decide) hgD,fun HE gE=>?_⟩
  refine ⟨_,rfl,bp ?_⟩
  exact ⟨_,_,_,_,_,_,_,_,_,rfl,(fD.same gE).le (by omega)⟩
end
end K6
namespace HD
open PySem PySem.W
abbrev pE:Program:=PySem.Challenge.pw_everyfork_k23_rooms
abbrev top:Nat→Stmt:=K6.top
abbrev sx:String→Str:=Str.ofString
noncomputable abbrev de (P:Params) (x:Str) (t:Nat) (v:Value):DictEntry:=⟨PyData.keyHash P x,.str x t,v⟩
abbrev fd (i:Nat) (x qual:Str) (dV kV doc pm:Value) (an:Option Addr) (cdv ct:Value):FuncData:=fnOf x qual (L2.defArgs (top i)) (L2.defBody (top i)) (L2.defScope (top i)) dV kV doc pm an cdv ct
abbrev fd0 (i:Nat) (x qual:Str) (dV kV doc pm:Value) (an:Option Addr) (cdv ct:Value):FuncData:={ fd i x qual dV kV doc pm an cdv ct with globals:=0 }
abbrev yW (i j:Nat):Stmt:=match top i with | .ClassDef (body:=b) ..=>b.getD j (.Pass ⟨0,0,0,0⟩) | s=>s
abbrev fdm (i j:Nat) (x qual:Str) (dV kV doc pm:Value) (an:Option Addr) (cdv ct:Value):FuncData:=fnOf x qual (L2.defArgs (yW i j)) (L2.defBody (yW i j)) (L2.defScope (yW i j)) dV kV doc pm an cdv ct
abbrev AD (i j:Nat) (x qual:Str) (dV kV doc pm:Value) (an:Option Addr) (cdv ct:Value):FuncData:={ fdm i j x qual dV kV doc pm an cdv ct with globals:=0 }
noncomputable abbrev st (x:String) (t:Nat):Value:=.str (sx x) t
abbrev i0 (i:Int):Value:=.int i 0
noncomputable abbrev tu (l:List Value):Obj:=⟨.type "tuple",none,.seq ⟨l⟩ 0,#[]⟩
noncomputable abbrev co (l:List Value):Obj:=⟨.type "code",none,.fields ⟨l⟩,#[]⟩
noncomputable abbrev dr (P:Params) (x:String) (t r:Nat):DictEntry:=de P (sx x) t (.ref r)
noncomputable abbrev fu (i:Nat) (x q m:String) (t c:Nat):Obj:=⟨.type "function",none,.func (fd i (sx x) (sx q) .none .none .none (st m t) none (.ref c) .none),#[]⟩
noncomputable abbrev fv (i:Nat) (x m:String) (t c:Nat):Obj:=fu i x x m t c
noncomputable abbrev fw (i:Nat) (x:String):Obj:=⟨.none,none,.func (fd0 i (sx x) (sx x) .none .none .none .none none .none .none),#[]⟩
noncomputable section
def m0:Nat:=11
def ann:Option Value:=some (.ref 6)
def env:Env:={ scope:=pE.main.scope,locals:=mainNs,globals:=mainNs,cells:=[],code:=.ref 13,frame:=some 14 }
abbrev cE:Code:=.body (behindTheImports pE) env
abbrev B:List Frame:=[topFrame ⟨0,0,0,0⟩]
def s0 (w:World) (os:OsState):Shared:=⟨boot_heap w.params,Array.mk [],boot_drawn,boot_toks,os⟩
def aw:Obj:=tu []
def aY:Obj:=⟨.none,none,.fields #[],#[]⟩
def wM:Obj:=co [st "<module>" 182,st "<module>" 183,st "/claim/cut.py" 184,i0 1,i0 0,i0 0,i0 0,i0 0,.ref 11,.bool false,i0 181,.ref 12,.none,.none,.none,.none,i0 185,i0 1,st "/claim/cut.py" 186]
def wX:Obj:=⟨.type "frame",none,.plain,#[some (.ref 13),some (.ref 3),some (.ref 3),none,some (st "__main__" 164),none,some (.ref 0)]⟩
def ha (P:Params):Heap:=⟨⟨[(boot_o_0 P),(boot_o_1 P),(boot_o_2 P),(boot_o_3 P),(boot_o_4 P),(boot_o_5 P),(boot_o_6 P),(boot_o_7 P),(boot_o_8 P),(boot_o_9 P),(boot_o_10 P),aw,aY,wM,wX]⟩,{ :Life }⟩
def sa (w:World) (os:OsState):Shared:=⟨ha w.params,#[],⟨0,0,0,0⟩,187,os⟩
theorem zB:∀ (w:World) (os:OsState),topGo treeTable pE w m0 ann 12 (s0 w os) (topStub pE)=some (sa w os,Thread.mk (denote treeTable cE) cE ⟨0,0,0,0⟩ B):=fun w os=>by kernel_rfl
def tb (P:Params):BT:=(.node (boot_o_0 P) (.node (boot_o_1 P) (.node (boot_o_3 P) (.node (boot_o_7 P) .nil .nil) (.node aw .nil .nil)) (.node (boot_o_5 P) (.node (boot_o_9 P) .nil .nil) (.node wM .nil .nil))) (.node (boot_o_2 P) (.node (boot_o_4 P) (.node (boot_o_8 P) .nil .nil) (.node aY .nil .nil)) (.node (boot_o_6 P) (.node (boot_o_10 P) .nil .nil) (.node wX .nil .nil))))
def sb (w:World) (os:OsState):SharedT:=⟨tb w.params,15,{ :Life },#[],⟨0,0,0,0⟩,187,os⟩
theorem wt:∀ (w:World) (os:OsState),segRun treeTable pE w m0 ann 1 1 (sa w os) (blockOf (behindTheImports pE) env cE ⟨0,0,0,0⟩ B)=some (.next,(sb w os).abs,cE,⟨0,0,0,0⟩):=fun w os=>by kernel_rfl
def yp (P:Params):Obj:=⟨.type "dict",none,.dict #[de P (sx "__name__") 165 (st "law_everyfork_k23_rooms" 335),de P (sx "__doc__") 166 .none,de P (sx "__package__") 167 .none,de P (sx "__loader__") 168 (.builtin "__main__.__loader__#opaque"),de P (sx "__spec__") 169 .none,dr P "__annotations__" 170 6,dr P "__builtins__" 171 4,de P (sx "__file__") 173 (st "/claim/cut.py" 172),de P (sx "__cached__") 174 .none,dr P "PLAIN_KINDS" 192 15,dr P "is_whole" 199 22,dr P "is_between" 208 29,dr P "is_sign_number" 215 36,dr P "is_text" 221 41,dr P "fields_of" 230 48,dr P "field_kinds" 236 53,dr P "parts" 249 60,dr P "function_of" 260 67,dr P "is_value" 268 72,dr P "are_values" 274 77,dr P "flat_all" 286 84,dr P "flat" 295 91,dr P "is_room" 304 98,dr P "param_kinds" 310 103,dr P "param_parts" 322 110,dr P "is_part_in" 328 115,dr P "in_room" 334 120,dr P "_law_feed" 343 127,dr P "_law_draw" 355 134,dr P "_law_headed" 361 139,dr P "_law_sorts" 367 144,dr P "_law_put_together" 373 149,dr P "_law_all" 379 154,dr P "_law_size" 385 159,dr P "_law_inputs" 391 164,dr P "_law_many" 397 169,dr P "_law_room" 410 176,dr P "_law_whole" 417 183,dr P "_law_is_room" 423 188,dr P "_law_is_in" 429 193,dr P "_law_odd" 437 200,dr P "_law_bent" 449 207,dr P "_law_right" 455 212,dr P "law" 472 219] 44,#[]⟩
def xz:Obj:=⟨.none,none,.fields #[i0 3,i0 0,.ref 21,i0 5,i0 0,.ref 28,i0 7,i0 0,.ref 35,i0 9,i0 0,.ref 40,i0 11,i0 0,.ref 47,i0 16,i0 0,.ref 52,i0 18,i0 0,.ref 59,i0 27,i0 0,.ref 66,i0 33,i0 0,.ref 71,i0 41,i0 0,.ref 76,i0 45,i0 0,.ref 83,i0 50,i0 0,.ref 90,i0 55,i0 0,.ref 97,i0 61,i0 0,.ref 102,i0 63,i0 0,.ref 109,i0 69,i0 0,.ref 114,i0 77,i0 0,.ref 119,i0 84,i0 0,.ref 126,i0 86,i0 0,.ref 133,i0 101,i0 0,.ref 138,i0 115,i0 0,.ref 143,i0 122,i0 0,.ref 148,i0 126,i0 0,.ref 153,i0 142,i0 0,.ref 158,i0 146,i0 0,.ref 163,i0 160,i0 0,.ref 168,i0 171,i0 0,.ref 175,i0 187,i0 0,.ref 182,i0 189,i0 0,.ref 187,i0 195,i0 0,.ref 192,i0 210,i0 0,.ref 199,i0 213,i0 0,.ref 206,i0 226,i0 0,.ref 211,i0 233,i0 0,.ref 218],#[]⟩
def tT:Obj:=tu [st "num" 189,st "text" 190,st "row" 191]
def vL:Obj:=tu [st "thing" 196]
def xy:Obj:=fw 2 "is_whole"
def uV:Obj:=co [st "is_whole" 193,st "is_whole" 194,st "/claim/cut.py" 195,i0 3,i0 1,i0 0,i0 0,i0 3,.ref 16,.bool true,i0 181,.ref 17,.none,.ref 18,.ref 19,.ref 20,i0 197,i0 3,st "/claim/cut.py" 198]
def vB:Obj:=fv 2 "is_whole" "everyfork.kinds" 187 21
def vv:Obj:=tu [st "thing" 203,st "least" 204,st "most" 205]
def xw:Obj:=fw 3 "is_between"
def vU:Obj:=co [st "is_between" 200,st "is_between" 201,st "/claim/cut.py" 202,i0 5,i0 3,i0 0,i0 0,i0 3,.ref 23,.bool true,i0 181,.ref 24,.none,.ref 25,.ref 26,.ref 27,i0 206,i0 5,st "/claim/cut.py" 207]
def uE:Obj:=fv 3 "is_between" "everyfork.kinds" 187 28
def vh:Obj:=tu [st "number" 212]
def xu:Obj:=fw 4 "is_sign_number"
def uW:Obj:=co [st "is_sign_number" 209,st "is_sign_number" 210,st "/claim/cut.py" 211,i0 7,i0 1,i0 0,i0 0,i0 3,.ref 30,.bool true,i0 181,.ref 31,.none,.ref 32,.ref 33,.ref 34,i0 213,i0 7,st "/claim/cut.py" 214]
def uj:Obj:=fv 4 "is_sign_number" "everyfork.kinds" 187 35
def xP:Obj:=fw 5 "is_text"
def ua:Obj:=co [st "is_text" 216,st "is_text" 217,st "/claim/cut.py" 218,i0 9,i0 1,i0 0,i0 0,i0 3,.ref 37,.bool true,i0 181,.ref 38,.none,.none,.none,.ref 39,i0 219,i0 9,st "/claim/cut.py" 220]
def ui:Obj:=fv 5 "is_text" "everyfork.kinds" 187 40
def wf:Obj:=tu [st "program" 225,st "kind" 226,st "record" 227]
def xH:Obj:=fw 6 "fields_of"
def uq:Obj:=co [st "fields_of" 222,st "fields_of" 223,st "/claim/cut.py" 224,i0 11,i0 2,i0 0,i0 0,i0 3,.ref 42,.bool true,i0 181,.ref 43,.none,.ref 44,.ref 45,.ref 46,i0 228,i0 11,st "/claim/cut.py" 229]
def vf:Obj:=fv 6 "fields_of" "everyfork.kinds" 187 47
def xi:Obj:=fw 7 "field_kinds"
def uv:Obj:=co [st "field_kinds" 231,st "field_kinds" 232,st "/claim/cut.py" 233,i0 16,i0 2,i0 0,i0 0,i0 3,.ref 49,.bool true,i0 181,.ref 50,.none,.none,.none,.ref 51,i0 234,i0 16,st "/claim/cut.py" 235]
def wc:Obj:=fv 7 "field_kinds" "everyfork.kinds" 187 52
def vD:Obj:=tu [st "program" 240,st "kind" 241,st "told" 242,st "field" 243,st "inner" 244,st "path" 245,st "sort" 246]
def xg:Obj:=fw 8 "parts"
def uD:Obj:=co [st "parts" 237,st "parts" 238,st "/claim/cut.py" 239,i0 18,i0 2,i0 0,i0 0,i0 3,.ref 54,.bool true,i0 181,.ref 55,.none,.ref 56,.ref 57,.ref 58,i0 247,i0 18,st "/claim/cut.py" 248]
def vN:Obj:=fv 8 "parts" "everyfork.kinds" 187 59
def tL:Obj:=tu [st "program" 255,st "f" 256,st "function" 257]
def xo:Obj:=fw 10 "function_of"
def vm:Obj:=co [st "function_of" 252,st "function_of" 253,st "/claim/cut.py" 254,i0 27,i0 2,i0 0,i0 0,i0 3,.ref 61,.bool true,i0 181,.ref 62,.none,.ref 63,.ref 64,.ref 65,i0 258,i0 27,st "/claim/cut.py" 259]
def vR:Obj:=fv 10 "function_of" "everyfork.programs" 250 66
def xM:Obj:=fw 12 "is_value"
def vt:Obj:=co [st "is_value" 263,st "is_value" 264,st "/claim/cut.py" 265,i0 33,i0 3,i0 0,i0 0,i0 3,.ref 68,.bool true,i0 181,.ref 69,.none,.none,.none,.ref 70,i0 266,i0 33,st "/claim/cut.py" 267]
def vx:Obj:=fv 12 "is_value" "everyfork.values" 261 71
def xm:Obj:=fw 13 "are_values"
def uP:Obj:=co [st "are_values" 269,st "are_values" 270,st "/claim/cut.py" 271,i0 41,i0 3,i0 0,i0 0,i0 3,.ref 73,.bool true,i0 181,.ref 74,.none,.none,.none,.ref 75,i0 272,i0 41,st "/claim/cut.py" 273]
def vF:Obj:=fv 13 "are_values" "everyfork.values" 261 76
def ve:Obj:=tu [st "program" 278,st "kinds" 279,st "values" 280,st "told" 281,st "kind" 282,st "value" 283]
def xk:Obj:=fw 14 "flat_all"
def tX:Obj:=co [st "flat_all" 275,st "flat_all" 276,st "/claim/cut.py" 277,i0 45,i0 3,i0 0,i0 0,i0 3,.ref 78,.bool true,i0 181,.ref 79,.none,.ref 80,.ref 81,.ref 82,i0 284,i0 45,st "/claim/cut.py" 285]
def uI:Obj:=fv 14 "flat_all" "everyfork.values" 261 83
def vC:Obj:=tu [st "program" 290,st "kind" 291,st "value" 292]
def xn:Obj:=fw 15 "flat"
def vO:Obj:=co [st "flat" 287,st "flat" 288,st "/claim/cut.py" 289,i0 50,i0 3,i0 0,i0 0,i0 3,.ref 85,.bool true,i0 181,.ref 86,.none,.ref 87,.ref 88,.ref 89,i0 293,i0 50,st "/claim/cut.py" 294]
def vA:Obj:=fv 15 "flat" "everyfork.values" 261 90
def vg:Obj:=tu [st "thing" 301]
def xA:Obj:=fw 17 "is_room"
def uF:Obj:=co [st "is_room" 298,st "is_room" 299,st "/claim/cut.py" 300,i0 55,i0 1,i0 0,i0 0,i0 3,.ref 92,.bool true,i0 181,.ref 93,.none,.ref 94,.ref 95,.ref 96,i0 302,i0 55,st "/claim/cut.py" 303]
def vw:Obj:=fv 17 "is_room" "everyfork.rooms" 296 97
def vc:Obj:=fw 18 "param_kinds"
def pO:Obj:=co [st "param_kinds" 305,st "param_kinds" 306,st "/claim/cut.py" 307,i0 61,i0 2,i0 0,i0 0,i0 3,.ref 99,.bool true,i0 181,.ref 100,.none,.none,.none,.ref 101,i0 308,i0 61,st "/claim/cut.py" 309]
def oV:Obj:=fv 18 "param_kinds" "everyfork.rooms" 296 102
def qF:Obj:=tu [st "program" 314,st "f" 315,st "told" 316,st "param" 317,st "path" 318,st "sort" 319]
def tI:Obj:=fw 19 "param_parts"
def qy:Obj:=co [st "param_parts" 311,st "param_parts" 312,st "/claim/cut.py" 313,i0 63,i0 2,i0 0,i0 0,i0 3,.ref 104,.bool true,i0 181,.ref 105,.none,.ref 106,.ref 107,.ref 108,i0 320,i0 63,st "/claim/cut.py" 321]
def oO:Obj:=fv 19 "param_parts" "everyfork.rooms" 296 109
def tU:Obj:=fw 20 "is_part_in"
def pY:Obj:=co [st "is_part_in" 323,st "is_part_in" 324,st "/claim/cut.py" 325,i0 69,i0 3,i0 0,i0 0,i0 3,.ref 111,.bool true,i0 181,.ref 112,.none,.none,.none,.ref 113,i0 326,i0 69,st "/claim/cut.py" 327]
def qH:Obj:=fv 20 "is_part_in" "everyfork.rooms" 296 114
def uR:Obj:=fw 21 "in_room"
def pL:Obj:=co [st "in_room" 329,st "in_room" 330,st "/claim/cut.py" 331,i0 77,i0 4,i0 0,i0 0,i0 3,.ref 116,.bool true,i0 181,.ref 117,.none,.none,.none,.ref 118,i0 332,i0 77,st "/claim/cut.py" 333]
def qc:Obj:=fv 21 "in_room" "everyfork.rooms" 296 119
def pM:Obj:=tu [st "_law_script" 340]
def wb:Obj:=fw 23 "_law_feed"
def pD:Obj:=co [st "_law_feed" 337,st "_law_feed" 338,st "/claim/cut.py" 339,i0 84,i0 1,i0 0,i0 0,i0 3,.ref 121,.bool true,i0 181,.ref 122,.none,.ref 123,.ref 124,.ref 125,i0 341,i0 84,st "/claim/cut.py" 342]
def oX:Obj:=fv 23 "_law_feed" "law_everyfork_k23_rooms" 335 126
def qz:Obj:=tu [st "_law_feed_here" 347,st "_law_many_here" 348,st "_law_found" 349,st "_law_cell" 350,st "_law_turn" 351,st "_law_mixed" 352]
def vY:Obj:=fw 24 "_law_draw"
def qu:Obj:=co [st "_law_draw" 344,st "_law_draw" 345,st "/claim/cut.py" 346,i0 86,i0 2,i0 0,i0 0,i0 3,.ref 128,.bool true,i0 181,.ref 129,.none,.ref 130,.ref 131,.ref 132,i0 353,i0 86,st "/claim/cut.py" 354]
def qp:Obj:=fv 24 "_law_draw" "law_everyfork_k23_rooms" 335 133
def vk:Obj:=fw 25 "_law_headed"
def qK:Obj:=co [st "_law_headed" 356,st "_law_headed" 357,st "/claim/cut.py" 358,i0 101,i0 1,i0 0,i0 0,i0 3,.ref 135,.bool true,i0 181,.ref 136,.none,.none,.none,.ref 137,i0 359,i0 101,st "/claim/cut.py" 360]
def pN:Obj:=fv 25 "_law_headed" "law_everyfork_k23_rooms" 335 138
def vG:Obj:=fw 26 "_law_sorts"
def pc:Obj:=co [st "_law_sorts" 362,st "_law_sorts" 363,st "/claim/cut.py" 364,i0 115,i0 2,i0 0,i0 0,i0 3,.ref 140,.bool true,i0 181,.ref 141,.none,.none,.none,.ref 142,i0 365,i0 115,st "/claim/cut.py" 366]
def pd:Obj:=fv 26 "_law_sorts" "law_everyfork_k23_rooms" 335 143
def vy:Obj:=fw 27 "_law_put_together"
def qB:Obj:=co [st "_law_put_together" 368,st "_law_put_together" 369,st "/claim/cut.py" 370,i0 122,i0 3,i0 0,i0 0,i0 3,.ref 145,.bool true,i0 181,.ref 146,.none,.none,.none,.ref 147,i0 371,i0 122,st "/claim/cut.py" 372]
def pR:Obj:=fv 27 "_law_put_together" "law_everyfork_k23_rooms" 335 148
def tS:Obj:=fw 28 "_law_all"
def qe:Obj:=co [st "_law_all" 374,st "_law_all" 375,st "/claim/cut.py" 376,i0 126,i0 2,i0 0,i0 0,i0 3,.ref 150,.bool true,i0 181,.ref 151,.none,.none,.none,.ref 152,i0 377,i0 126,st "/claim/cut.py" 378]
def pj:Obj:=fv 28 "_law_all" "law_everyfork_k23_rooms" 335 153
def tY:Obj:=fw 29 "_law_size"
def oT:Obj:=co [st "_law_size" 380,st "_law_size" 381,st "/claim/cut.py" 382,i0 142,i0 1,i0 0,i0 0,i0 3,.ref 155,.bool true,i0 181,.ref 156,.none,.none,.none,.ref 157,i0 383,i0 142,st "/claim/cut.py" 384]
def oW:Obj:=fv 29 "_law_size" "law_everyfork_k23_rooms" 335 158
def vz:Obj:=fw 30 "_law_inputs"
def qg:Obj:=co [st "_law_inputs" 386,st "_law_inputs" 387,st "/claim/cut.py" 388,i0 146,i0 3,i0 0,i0 0,i0 3,.ref 160,.bool true,i0 181,.ref 161,.none,.none,.none,.ref 162,i0 389,i0 146,st "/claim/cut.py" 390]
def pQ:Obj:=fv 30 "_law_inputs" "law_everyfork_k23_rooms" 335 163
def wd:Obj:=fw 31 "_law_many"
def qD:Obj:=co [st "_law_many" 392,st "_law_many" 393,st "/claim/cut.py" 394,i0 160,i0 3,i0 0,i0 0,i0 3,.ref 165,.bool true,i0 181,.ref 166,.none,.none,.none,.ref 167,i0 395,i0 160,st "/claim/cut.py" 396]
def pT:Obj:=fv 31 "_law_many" "law_everyfork_k23_rooms" 335 168
def qf:Obj:=tu [st "_law_feed_here" 401,st "_law_program" 402,st "_law_f" 403,st "_law_most" 404,st "_law_low" 405,st "_law_room_here" 406,st "_law_turn" 407]
def uS:Obj:=fw 32 "_law_room"
def pB:Obj:=co [st "_law_room" 398,st "_law_room" 399,st "/claim/cut.py" 400,i0 171,i0 4,i0 0,i0 0,i0 3,.ref 170,.bool true,i0 181,.ref 171,.none,.ref 172,.ref 173,.ref 174,i0 408,i0 171,st "/claim/cut.py" 409]
def ql:Obj:=fv 32 "_law_room" "law_everyfork_k23_rooms" 335 175
def qN:Obj:=tu [st "_law_thing" 414]
def ud:Obj:=fw 33 "_law_whole"
def qR:Obj:=co [st "_law_whole" 411,st "_law_whole" 412,st "/claim/cut.py" 413,i0 187,i0 1,i0 0,i0 0,i0 3,.ref 177,.bool true,i0 181,.ref 178,.none,.ref 179,.ref 180,.ref 181,i0 415,i0 187,st "/claim/cut.py" 416]
def oS:Obj:=fv 33 "_law_whole" "law_everyfork_k23_rooms" 335 182
def uH:Obj:=fw 34 "_law_is_room"
def pI:Obj:=co [st "_law_is_room" 418,st "_law_is_room" 419,st "/claim/cut.py" 420,i0 189,i0 1,i0 0,i0 0,i0 3,.ref 184,.bool true,i0 181,.ref 185,.none,.none,.none,.ref 186,i0 421,i0 189,st "/claim/cut.py" 422]
def pU:Obj:=fv 34 "_law_is_room" "law_everyfork_k23_rooms" 335 187
def tQ:Obj:=fw 35 "_law_is_in"
def qv:Obj:=co [st "_law_is_in" 424,st "_law_is_in" 425,st "/claim/cut.py" 426,i0 195,i0 4,i0 0,i0 0,i0 3,.ref 189,.bool true,i0 181,.ref 190,.none,.none,.none,.ref 191,i0 427,i0 195,st "/claim/cut.py" 428]
def qE:Obj:=fv 35 "_law_is_in" "law_everyfork_k23_rooms" 335 192
def pS:Obj:=tu [st "_law_feed_here" 433,st "_law_some" 434]
def um:Obj:=fw 36 "_law_odd"
def pA:Obj:=co [st "_law_odd" 430,st "_law_odd" 431,st "/claim/cut.py" 432,i0 210,i0 1,i0 0,i0 0,i0 3,.ref 194,.bool true,i0 181,.ref 195,.none,.ref 196,.ref 197,.ref 198,i0 435,i0 210,st "/claim/cut.py" 436]
def oR:Obj:=fv 36 "_law_odd" "law_everyfork_k23_rooms" 335 199
def qJ:Obj:=tu [st "_law_feed_here" 441,st "_law_thing" 442,st "_law_deep" 443,st "_law_row" 444,st "_law_at" 445,st "_law_way" 446]
def vH:Obj:=fw 37 "_law_bent"
def qP:Obj:=co [st "_law_bent" 438,st "_law_bent" 439,st "/claim/cut.py" 440,i0 213,i0 3,i0 0,i0 0,i0 3,.ref 201,.bool true,i0 181,.ref 202,.none,.ref 203,.ref 204,.ref 205,i0 447,i0 213,st "/claim/cut.py" 448]
def oZ:Obj:=fv 37 "_law_bent" "law_everyfork_k23_rooms" 335 206
def tZ:Obj:=fw 38 "_law_right"
def pW:Obj:=co [st "_law_right" 450,st "_law_right" 451,st "/claim/cut.py" 452,i0 226,i0 4,i0 0,i0 0,i0 3,.ref 208,.bool true,i0 181,.ref 209,.none,.none,.none,.ref 210,i0 453,i0 226,st "/claim/cut.py" 454]
def qb:Obj:=fv 38 "_law_right" "law_everyfork_k23_rooms" 335 211
def pG:Obj:=tu [st "_law_script" 459,st "_law_feed_here" 460,st "_law_k" 461,st "_law_program" 462,st "_law_f" 463,st "_law_room_here" 464,st "_law_thing" 465,st "_law_told" 466,st "_law_some" 467,st "_law_j" 468,st "_law_one" 469]
def vW:Obj:=fw 39 "law"
def qw:Obj:=co [st "law" 456,st "law" 457,st "/claim/cut.py" 458,i0 233,i0 1,i0 0,i0 0,i0 3,.ref 213,.bool true,i0 181,.ref 214,.none,.ref 215,.ref 216,.ref 217,i0 470,i0 233,st "/claim/cut.py" 471]
def pH:Obj:=fv 39 "law" "law_everyfork_k23_rooms" 335 218
def t_0 (P:Params):BT:=(.node (boot_o_0 P) (.node (boot_o_1 P) (.node (yp P) (.node (boot_o_7 P) (.node tT (.node aY (.node tL (.node oX .nil .nil) (.node tQ .nil .nil)) (.node aw (.node oW .nil .nil) .nil)) (.node uq (.node aY (.node pc .nil .nil) (.node oZ .nil .nil)) (.node aw (.node pB .nil .nil) .nil))) (.node aw (.node xP (.node vt (.node aw .nil .nil) (.node pA .nil .nil)) (.node oV (.node wd .nil .nil) .nil)) (.node aY (.node vC (.node aY .nil .nil) (.node pG .nil .nil)) (.node pL (.node oS .nil .nil) .nil)))) (.node aw (.node aw (.node uW (.node vR (.node aw .nil .nil) (.node aY .nil .nil)) (.node aw (.node qg .nil .nil) .nil)) (.node xi (.node tX (.node vy .nil .nil) (.node pW .nil .nil)) (.node qH (.node qN .nil .nil) .nil))) (.node xw (.node aY (.node xm (.node pN .nil .nil) (.node qJ .nil .nil)) (.node aw (.node aY .nil .nil) .nil)) (.node uD (.node vA (.node aw .nil .nil) (.node pH .nil .nil)) (.node pM (.node pI .nil .nil) .nil))))) (.node (boot_o_5 P) (.node (boot_o_9 P) (.node aY (.node aw (.node xo (.node aY .nil .nil) (.node qE .nil .nil)) (.node uF (.node aY .nil .nil) .nil)) (.node aw (.node aw (.node aw .nil .nil) (.node aY .nil .nil)) (.node tU (.node aw .nil .nil) .nil))) (.node vv (.node ui (.node aw (.node vk .nil .nil) (.node aw .nil .nil)) (.node aY (.node pT .nil .nil) .nil)) (.node aw (.node xn (.node qe .nil .nil) (.node vW .nil .nil)) (.node aw (.node aY .nil .nil) .nil)))) (.node wM (.node uV (.node aw (.node aY (.node qu .nil .nil) (.node aw .nil .nil)) (.node vc (.node aw .nil .nil) .nil)) (.node wc (.node aw (.node pR .nil .nil) (.node aw .nil .nil)) (.node aY (.node ud .nil .nil) .nil))) (.node uE (.node aw (.node vF (.node aY .nil .nil) (.node vH .nil .nil)) (.node qy (.node aw .nil .nil) .nil)) (.node aw (.node aY (.node tY .nil .nil) .nil) (.node wb (.node aw .nil .nil) .nil)))))) (.node (boot_o_2 P) (.node (boot_o_4 P) (.node (boot_o_8 P) (.node aw (.node vh (.node aw (.node aw .nil .nil) (.node qv .nil .nil)) (.node xA (.node aw .nil .nil) .nil)) (.node vf (.node ve (.node pd .nil .nil) (.node aw .nil .nil)) (.node aY (.node ql .nil .nil) .nil))) (.node aY (.node ua (.node vx (.node aY .nil .nil) (.node oR .nil .nil)) (.node aw (.node qD .nil .nil) .nil)) (.node vD (.node aw (.node tS .nil .nil) (.node aw .nil .nil)) (.node qc (.node aw .nil .nil) .nil)))) (.node xz (.node xy (.node uj (.node aw (.node vY .nil .nil) (.node pS .nil .nil)) (.node aY (.node pQ .nil .nil) .nil)) (.node uv (.node uI (.node qB .nil .nil) (.node qb .nil .nil)) (.node aw (.node aw .nil .nil) .nil))) (.node vU (.node wf (.node uP (.node aw .nil .nil) (.node aw .nil .nil)) (.node tI (.node qf .nil .nil) .nil)) (.node vN (.node aw (.node aY .nil .nil) .nil) (.node aw (.node pU .nil .nil) .nil))))) (.node (boot_o_6 P) (.node (boot_o_10 P) (.node vL (.node xu (.node vm (.node qz .nil .nil) (.node aw .nil .nil)) (.node vw (.node vz .nil .nil) .nil)) (.node aY (.node xk (.node aY .nil .nil) (.node tZ .nil .nil)) (.node pY (.node aY .nil .nil) .nil))) (.node aw (.node aw (.node aY (.node qK .nil .nil) (.node aY .nil .nil)) (.node qF (.node aw .nil .nil) .nil)) (.node xg (.node vO (.node pj .nil .nil) (.node qw .nil .nil)) (.node aY (.node uH .nil .nil) .nil)))) (.node wX (.node vB (.node aY (.node xM (.node qp .nil .nil) (.node um .nil .nil)) (.node pO (.node aY .nil .nil) .nil)) (.node aw (.node aY (.node aw .nil .nil) (.node aY .nil .nil)) (.node uR (.node qR .nil .nil) .nil))) (.node aw (.node xH (.node aw (.node vG .nil .nil) (.node qP .nil .nil)) (.node oO (.node uS .nil .nil) .nil)) (.node aY (.node vg (.node oT .nil .nil) .nil) (.node pD (.node aY .nil .nil) .nil)))))))
def s_0 (w:World) (os:OsState):SharedT:=⟨t_0 w.params,220,{ :Life },#[],⟨0,0,0,0⟩,473,os⟩
def q0:List Stmt:=(pE.main.body.drop 0).take 40
theorem l_0:∀ (w:World) (os:OsState),segRunT treeTable pE w m0 ann 1 1045 (sb w os) (piecesOf q0 env cE ⟨0,0,0,0⟩ B)=some (.next,s_0 w os,cE,⟨233,0,250,15⟩):=fun w os=>by kernel_rfl
def hz (P:Params):Heap:=⟨⟨[(boot_o_0 P),(boot_o_1 P),(boot_o_2 P),(yp P),(boot_o_4 P),(boot_o_5 P),(boot_o_6 P),(boot_o_7 P),(boot_o_8 P),(boot_o_9 P),(boot_o_10 P),aw,xz,wM,wX,tT,aw,aY,vL,aw,xy,uV,vB,aw,aY,vv,aw,xw,vU,uE,aw,aY,vh,aw,xu,uW,uj,aw,aY,xP,ua,ui,aw,aY,wf,aw,xH,uq,vf,aw,aY,xi,uv,wc,aw,aY,vD,aw,xg,uD,vN,aw,aY,tL,aw,xo,vm,vR,aw,aY,xM,vt,vx,aw,aY,xm,uP,vF,aw,aY,ve,aw,xk,tX,uI,aw,aY,vC,aw,xn,vO,vA,aw,aY,vg,aw,xA,uF,vw,aw,aY,vc,pO,oV,aw,aY,qF,aw,tI,qy,oO,aw,aY,tU,pY,qH,aw,aY,uR,pL,qc,aw,aY,pM,aw,wb,pD,oX,aw,aY,qz,aw,vY,qu,qp,aw,aY,vk,qK,pN,aw,aY,vG,pc,pd,aw,aY,vy,qB,pR,aw,aY,tS,qe,pj,aw,aY,tY,oT,oW,aw,aY,vz,qg,pQ,aw,aY,wd,qD,pT,aw,aY,qf,aw,uS,pB,ql,aw,aY,qN,aw,ud,qR,oS,aw,aY,uH,pI,pU,aw,aY,tQ,qv,qE,aw,aY,pS,aw,um,pA,oR,aw,aY,qJ,aw,vH,qP,oZ,aw,aY,tZ,pW,qb,aw,aY,pG,aw,vW,qw,pH]⟩,{ :Life }⟩
def sz (w:World) (os:OsState):Shared:=⟨hz w.params,#[],⟨0,0,0,0⟩,473,os⟩
theorem zM:∀ (w:World) (os:OsState),topRun treeTable pE w m0 ann 2 (s_0 w os).abs (Thread.mk (doneF .next) cE ⟨233,0,250,15⟩ B)=some (sz w os):=fun w os=>by kernel_rfl
theorem zr:∀ (w:World) (os:OsState),topRun treeTable pE w m0 ann (12+(1+(1045+2))) (s0 w os) (topStub pE)=some (sz w os):=fun w os=>go_top (zB w os) (piece_block (wt w os) (piece_app (l:=q0) (segRun_of (l_0 w os)) (piece_nil (zM w os))))
def HK (P:Params):Frag:=[(2,(boot_o_2 P)),(3,(yp P)),(15,tT),(16,aw),(18,vL),(19,aw),(21,uV),(22,vB),(23,aw),(25,vv),(26,aw),(28,vU),(29,uE),(30,aw),(32,vh),(33,aw),(35,uW),(36,uj),(37,aw),(40,ua),(41,ui),(42,aw),(44,wf),(45,aw),(47,uq),(48,vf),(49,aw),(52,uv),(53,wc),(54,aw),(56,vD),(57,aw),(59,uD),(60,vN),(61,aw),(63,tL),(64,aw),(66,vm),(67,vR),(68,aw),(71,vt),(72,vx),(73,aw),(76,uP),(77,vF),(78,aw),(80,ve),(81,aw),(83,tX),(84,uI),(85,aw),(87,vC),(88,aw),(90,vO),(91,vA),(92,aw),(94,vg),(95,aw),(97,uF),(98,vw),(99,aw),(102,pO),(103,oV),(104,aw),(106,qF),(107,aw),(109,qy),(110,oO),(111,aw),(114,pY),(115,qH),(116,aw),(119,pL),(120,qc),(121,aw),(123,pM),(124,aw),(126,pD),(127,oX),(128,aw),(130,qz),(131,aw),(133,qu),(134,qp),(135,aw),(138,qK),(139,pN),(140,aw),(143,pc),(144,pd),(145,aw),(148,qB),(149,pR),(150,aw),(153,qe),(154,pj),(155,aw),(158,oT),(159,oW),(160,aw),(163,qg),(164,pQ),(165,aw),(168,qD),(169,pT),(170,aw),(172,qf),(173,aw),(175,pB),(176,ql),(177,aw),(179,qN),(180,aw),(182,qR),(183,oS),(184,aw),(187,pI),(188,pU),(189,aw),(192,qv),(193,qE),(194,aw),(196,pS),(197,aw),(199,pA),(200,oR),(201,aw),(203,qJ),(204,aw),(206,qP),(207,oZ),(208,aw),(211,pW),(212,qb),(213,aw),(215,pG),(216,aw),(218,qw),(219,pH)]
def HA:List Addr:=[2,3,15,16,18,19,21,22,23,25,26,28,29,30,32,33,35,36,37,40,41,42,44,45,47,48,49,52,53,54,56,57,59,60,61,63,64,66,67,68,71,72,73,76,77,78,80,81,83,84,85,87,88,90,91,92,94,95,97,98,99,102,103,104,106,107,109,110,111,114,115,116,119,120,121,123,124,126,127,128,130,131,133,134,135,138,139,140,143,144,145,148,149,150,153,154,155,158,159,160,163,164,165,168,169,170,172,173,175,176,177,179,180,182,183,184,187,188,189,192,193,194,196,197,199,200,201,203,204,206,207,208,211,212,213,215,216,218,219]
theorem zy (P:Params):HA=(HK P).map (·.1):=by kernel_rfl
def qV:Program:={ pE with main:={ pE.main with body:=[top 39] } }
def lo:List Str:=[(sx "PLAIN_KINDS"),(sx "is_whole"),(sx "is_between"),(sx "is_sign_number"),(sx "is_text"),(sx "fields_of"),(sx "field_kinds"),(sx "parts"),(sx "function_of"),(sx "is_value"),(sx "are_values"),(sx "flat_all"),(sx "flat"),(sx "is_room"),(sx "param_kinds"),(sx "param_parts"),(sx "is_part_in"),(sx "in_room"),(sx "_law_feed"),(sx "_law_draw"),(sx "_law_headed"),(sx "_law_sorts"),(sx "_law_put_together"),(sx "_law_all"),(sx "_law_size"),(sx "_law_inputs"),(sx "_law_many"),(sx "_law_room"),(sx "_law_whole"),(sx "_law_is_room"),(sx "_law_is_in"),(sx "_law_odd"),(sx "_law_bent"),(sx "_law_right")]
abbrev rW:RowW:=OpenRow.toRowW (OpenLaw.row PySem.Challenge.rw_everyfork_k23_rooms)
abbrev Xt:Shared→Bool:=fun s=>xlAt qV [] s&&recOk (RowW.records rW) s
abbrev hk:Hook:=kHook HK HA zy
theorem yC:∀ w:World,(fencedOpening treeTable pE w 5000).map (fun s=>(s.heap,s.gens,s.drawn,s.toks))=some (boot_heap w.params,Array.mk [],boot_drawn,boot_toks) :=
 boot_open (by kernel_rfl) (by kernel_rfl) fun s=>by kernel_rfl
theorem yd:∀ w:World,((boot_heap w.params).isNs mainGlobals&&(Array.mk []:Array GenState).size==0,(boot_heap w.params).objs.size,(boot_heap w.params).nsMap mainGlobals "__annotations__")=(true,m0,ann):=fun w=>by kernel_rfl
theorem wU:∀ w:World,(fun os=>((staticsOk (importedModules pE.main.body) (boot_heap w.params) (hz w.params)&&namesBound pE (hz w.params)&&gensDone ⟨hz w.params,#[],⟨0,0,0,0⟩,473,os⟩&&laidKept (boot_heap w.params) (hz w.params)),openSeen qV lo (importedModules pE.main.body) Xt true ⟨hz w.params,#[],⟨0,0,0,0⟩,473,os⟩,hk.obs ⟨hz w.params,#[],⟨0,0,0,0⟩,473,os⟩))=fun _=>(true,openGood qV lo,hk.val w):=fun w=>by kernel_rfl
theorem left:LeftO pE qV lo Xt hk.obs hk.val 5000:=LeftO.of_pieces (M:=(12+(1+(1045+2)))) yC yd zr (by kernel_rfl) wU
end
end HD
namespace L2
open PySem
structure Df (K:Frag) (mg:Str→Option Value) (x:Str) (st:Stmt) (ps:List Str) (f:Addr) (fd:FuncData):Prop where
 F:Fun K x x st f fd
 b:dg K fd ps []
 m:mg x=some (.ref f)
def fdA (K:Frag) (f:Addr):FuncData:=match K.lookup f with | some ⟨_,_,.func d,_⟩=>d | _=>default
abbrev fdO (K:Frag) (f:Addr) (x:Str) (st:Stmt):FuncData:=PySem.W.fnOf x x (defArgs st) (defBody st) (defScope st) .none (fdA K f).kwdefaults (fdA K f).doc (fdA K f).pyModule (fdA K f).annotations (fdA K f).code (fdA K f).closureTuple
abbrev DfE (K:Frag) (x:Str) (f:Addr) (st:Stmt):Prop:=(PySem.W.nsIn K mainGlobals x,K.lookup f,PySem.W.codeIn K (fdA K f).code x,keepIn K (.ref f))=(some (some (.ref f)),some ⟨.type "function",none,.func (fdO K f x st),#[]⟩,true,true)
section
variable {K:Frag} {mg:Str→Option Value} {h:Heap}
theorem bl1 {α:Type} {C:List α→Prop} (h:∀ a,C [a]) (us:List α) (hl:us.length=1):C us:=by
 obtain ⟨a,rfl⟩:=List.length_eq_one_iff.mp hl
 exact h a
theorem blc {α:Type} {n:Nat} {us:List α} (hl:us.length=n+1):∃ a r,us=a::r∧r.length=n:=by
 cases us with
 | nil=>cases hl
 | cons a r=>exact ⟨a,r,rfl,Nat.succ.inj hl⟩
theorem bl2 {α:Type} {C:List α→Prop} (h:∀ a b,C [a,b]) (us:List α) (hl:us.length=2):C us:=by
 obtain ⟨a,r,rfl,e⟩:=blc hl
 exact bl1 (C:=fun r=>C (a::r)) (h a) r e
theorem bl3 {α:Type} {C:List α→Prop} (h:∀ a b c,C [a,b,c]) (us:List α) (hl:us.length=3):C us:=by
 obtain ⟨a,r,rfl,e⟩:=blc hl
 exact bl2 (C:=fun r=>C (a::r)) (h a) r e
theorem bl4 {α:Type} {C:List α→Prop} (h:∀ a b c d,C [a,b,c,d]) (us:List α) (hl:us.length=4):C us:=by
 obtain ⟨a,r,rfl,e⟩:=blc hl
 exact bl3 (C:=fun r=>C (a::r)) (h a) r e
theorem bv (X:K.In h) (G:h.Ns mainGlobals mg) {x:Str} {f:Addr} {st:Stmt} {ps:List Str} (e:DfE K x f st)
  (hb:∀ (kV doc pm:Value) (an:Option Addr) (cdv ct:Value) (us:List Value),us.length=ps.length→bindArgs (PySem.W.fnOf x x (defArgs st) (defBody st) (defScope st) .none kV doc pm an cdv ct) ⟨us,[]⟩=pure (ps.zip us)):Df K mg x st ps f (fdO K f x st):=by
 obtain ⟨e1,e⟩:=Prod.mk.inj e
 obtain ⟨e2,e⟩:=Prod.mk.inj e
 obtain ⟨e3,e4⟩:=Prod.mk.inj e
 have F:Fun K x x st f (fdO K f x st):=yb e2 e3 e4
 exact ⟨F,F.binds hb,mg_of X G e1⟩
theorem Df.cal {P:Program} {w:World} {base:Heap} {x:Str} {st:Stmt} {ps:List Str} {f:Addr} {fd:FuncData} {k:Nat} {sp:Sp} (D:Df K mg x st ps f fd) (o:aU P w K mg base CX0 k f fd ps sp):K6.Cal P w K mg base k x ps sp:=⟨f,fd,o,D.b,D.F.kp,D.m⟩
def yP (K:Frag) (a:Addr):Array Value:=match K.lookup a with | some ⟨_,_,.seq xs _,_⟩=>xs | _=>#[]
abbrev tO (K:Frag) (a:Addr):Obj:=⟨.type "tuple",none,.seq (yP K a) 0,#[]⟩
def vIs:V→Value→Bool
 | .int i,.int j _=>i==j
 | .str z,.str y _=>z==y
 | .ref a,.ref b=>a==b
 | _,_=>false
theorem yS {v:V} {u:Value} (h:vIs v u=true):bq v u:=by
 unfold vIs at h
 split at h
 ·exact ⟨_,by rw [eq_of_beq h]⟩
 ·exact ⟨_,by rw [eq_of_beq h]⟩
 ·show _=_
  rw [eq_of_beq h]
 ·cases h
def nP:List V→List Value→Bool
 | [],[]=>true
 | v::vs,u::us=>vIs v u&&nP vs us
 | _,_=>false
theorem oh:∀ {vs:List V} {us:List Value},nP vs us=true→aQ vs us
 | [],[],_=>.nil
 | v::vs,u::us,h=>by
  simp only [nP,Bool.and_eq_true] at h
  exact .cons (yS h.1) (oh h.2)
 | [],_::_,h=>by cases h
 | _::_,[],h=>by cases h
theorem tq {a:Addr} {xs:List V} (e:K.lookup a=some (tO K a)) (hl:xs.length≤1000) (h:nP xs (yP K a).toList=true):∀ H,SqT K H a xs:=fun H=>by
 have r:=oh h
 have:=aQ.length r
 refine .inr ⟨_,_,0,e,rfl,rfl,?_,r⟩
 have:=aI hl
 rw [← Array.length_toList]
 omega
abbrev TuE (K:Frag) (x:Str) (a:Addr) (xs:List V):Prop:=(PySem.W.nsIn K mainGlobals x,K.lookup a,nP xs (yP K a).toList)=(some (some (.ref a)),some (tO K a),true)
theorem mT (X:K.In h) (G:h.Ns mainGlobals mg) {x:Str} {a:Addr} {xs:List V} (e:TuE K x a xs) (hl:xs.length≤1000):∃ a,mg x=some (.ref a)∧∀ H,SqT K H a xs:=by
 obtain ⟨e1,e⟩:=Prod.mk.inj e
 obtain ⟨e2,e3⟩:=Prod.mk.inj e
 exact ⟨a,mg_of X G e1,tq e2 hl e3⟩
end
end L2
namespace K6
open PySem L2
section
variable {P:Program} {w:World} {K:Frag} {mg:Str→Option Value} {base:Heap} {f g:Addr} {fd gd:FuncData}
theorem rP {k:Nat} {ps:List Str} {sp:Sp} (no:∀ vs H Q E,¬ sp vs H Q E):aU P w K mg base CX0 k f fd ps sp :=
 ⟨fun vs H Q E h=>absurd h (no vs H Q E),fun A outer s H args us vs Q E _ _ _ _ h=>absurd h (no vs H Q E)⟩
theorem nS (T:G0 mg) (F:Fun K "_law_bent" "_law_bent" fQ f fd) (b:dg K fd pBt []) (m:mg "_law_bent"=some (.ref f)) (D1:Cal P w K mg base 2 "_law_odd" ["_law_feed_here"] nG) (D2:Cal P w K mg base 1 "_law_draw" ["_law_feed_here", "_law_many_here"] oJ):∀ n:Nat,aU P w K mg base CX0 (n+3) f fd pBt (kH n)
 | 0=>sf (r0:=1) (spC:=fun _ _ _ _=>False) (by omega) (fun k h=>absurd h (by omega)) T F D1 ⟨f,fd,rP (fun _ _ _ _ h=>h),b,F.kp,m⟩ D2
 | n+1=>sf (r0:=n+3) (spC:=kH n) (by omega) (fun k h=>by cases h; exact fun _ _ _ _ z=>z) T F D1 ⟨f,fd,nS T F b m D1 D2 n,b,F.kp,m⟩ D2
theorem tE (T:G0 mg) (F:Fun K "_law_bent" "_law_bent" fQ f fd) (b:dg K fd pBt []) (m:mg "_law_bent"=some (.ref f)) (D1:Cal P w K mg base 2 "_law_odd" ["_law_feed_here"] nG) (D2:Cal P w K mg base 1 "_law_draw" ["_law_feed_here", "_law_many_here"] oJ):aU P w K mg base CX0 7 f fd pBt rN :=
 aU.ex2 fun n:Fin 5=>(nS T F b m D1 D2 n.val).mono (by have:=n.isLt; omega)
theorem qW (tp:Addr) (T:G0 mg) (F:Fun K "_law_is_in" "_law_is_in" cK f fd) (b:dg K fd qi []) (m:mg "_law_is_in"=some (.ref f)) (D:Cal P w K mg base 1 "_law_whole" ["_law_thing"] (dC tp)):∀ n:Nat,aU P w K mg base CX0 (n+2) f fd qi (lT tp n)
 | 0=>uu (r0:=1) (spC:=fun _ _ _ _=>False) tp (by omega) (fun k h=>absurd h (by omega)) T F ⟨f,fd,rP (fun _ _ _ _ h=>h),b,F.kp,m⟩ D
 | n+1=>uu (r0:=n+2) (spC:=lT tp n) tp (by omega) (fun k h=>by cases h; exact fun _ _ _ _ z=>z) T F ⟨f,fd,qW tp T F b m D n,b,F.kp,m⟩ D
theorem mo (T:G0 mg) (TZ:mg "zip"=none) (TP:GPk K mg) (F:Fun K "flat" "flat" mZ f fd) (b:dg K fd ["program", "kind", "value"] []) (m:mg "flat"=some (.ref f)) {f7:Addr} {fd7:FuncData} (F7:Fun K "flat_all" "flat_all" fi f7 fd7) (b7:dg K fd7 ["program", "kinds", "values"] []) (m7:mg "flat_all"=some (.ref f7)) (D:Cal P w K mg base 2 "field_kinds" ["program", "kind"] gv):∀ n:Nat,aU P w K mg base CX0 (2*n+1) f fd ["program", "kind", "value"] (pJ K n)
 | 0=>rP fun vs H Q E h=>by
  obtain ⟨v,k,u,d,R,_,_,_,hd,_⟩:=h
  exact hd
 | n+1=>wo T TZ TP F D ⟨f7,fd7,jp T TZ TP F7 ⟨f,fd,mo T TZ TP F b m F7 b7 m7 D n,b,F.kp,m⟩,b7,F7.kp,m7⟩
theorem mw (tp:Addr) (T:G0 mg) (TZ:mg "zip"=none) (F:Fun K "is_value" "is_value" cV f fd) (b:dg K fd nV []) (m:mg "is_value"=some (.ref f)) {f7:Addr} {fd7:FuncData} (F7:Fun K "are_values" "are_values" cz f7 fd7) (b7:dg K fd7 nVs []) (m7:mg "are_values"=some (.ref f7)) (DW:Cal P w K mg base 1 "is_whole" ["thing"] (dC tp)) (DT:Cal P w K mg base 2 "is_text" ["thing"] (mJ tp)) (DK:Cal P w K mg base 2 "field_kinds" ["program", "kind"] gv):∀ n:Nat,aU P w K mg base CX0 (2*n+1) f fd nV (jP tp n)
 | 0=>rP fun vs H Q E h=>by
  obtain ⟨v,k,u,d,R,_,_,hd,_⟩:=h
  exact hd
 | n+1=>vq tp T F DW DT DK ⟨f7,fd7,mq tp T TZ F7 ⟨f,fd,mw tp T TZ F b m F7 b7 m7 DW DT DK n,b,F.kp,m⟩,b7,F7.kp,m7⟩
theorem oQ {fb fw:Addr} {db dw:FuncData} (T:G0 mg) (F:Fun K "is_room" "is_room" gn f fd) (Eb:Df K mg "is_between" dD ["thing", "least", "most"] fb db) (Ew:Df K mg "is_whole" dZ ["thing"] fw dw):aU P w K mg base CX0 3 f fd ["thing"] jO :=
 aU.ex2 fun tp=>sO tp T F (Eb.cal (pX tp Eb.F (Ew.cal (nM tp T Ew.F))))
theorem ow {fw:Addr} {dw:FuncData} (T:G0 mg) (F:Fun K "_law_is_room" "_law_is_room" dc f fd) (Ew:Df K mg "_law_whole" eT ["_law_thing"] fw dw):aU P w K mg base CX0 2 f fd ["_law_thing"] jO :=
 aU.ex2 fun tp=>oP tp T F (Ew.cal (lO tp T Ew.F))
theorem sr {f1 f2 f3 f4 f5 f6 f7:Addr} {d1 d2 d3 d4 d5 d6 d7:FuncData} (T:G0 mg) (TZ:mg "zip"=none) (F:Fun K "_law_right" "_law_right" dH f fd) (E1:Df K mg "in_room" eM ["program", "f", "room", "thing"] f1 d1) (E2:Df K mg "are_values" cz nVs f2 d2) (E3:Df K mg "is_value" cV nV f3 d3) (E4:Df K mg "is_whole" dZ ["thing"] f4 d4) (E5:Df K mg "is_text" eU ["thing"] f5 d5) (E6:Df K mg "_law_is_in" cK qi f6 d6) (E7:Df K mg "_law_whole" eT ["_law_thing"] f7 d7)
  (Dpp:Cal P w K mg base 6 "param_parts" ["program", "f"] (yM 4)) (Dpi:Cal P w K mg base 1 "is_part_in" ["room", "sort", "part"] (yH K)) (Dfa:Cal P w K mg base 10 "flat_all" ["program", "kinds", "values"] (gq K 4)) (Dpk:Cal P w K mg base 2 "param_kinds" ["program", "f"] yD) (Dsg:Cal P w K mg base 1 "is_sign_number" ["number"] ph) (DK:Cal P w K mg base 2 "field_kinds" ["program", "kind"] gv):aU P w K mg base CX0 12 f fd ["_law_program", "_law_f", "_law_room_here", "_law_thing"] oI :=
 aU.ex2 fun tp=>by
  have DW:Cal P w K mg base 1 "is_whole" ["thing"] (dC tp):=E4.cal (nM tp T E4.F)
  have DT:Cal P w K mg base 2 "is_text" ["thing"] (mJ tp):=E5.cal (wv tp T E5.F Dsg)
  have DV:Cal P w K mg base 9 "is_value" nV (jP tp 4):=E3.cal (mw tp T TZ E3.F E3.b E3.m E2.F E2.b E2.m DW DT DK 4)
  have DA:Cal P w K mg base 10 "are_values" nVs (iM tp 4):=E2.cal (mq (n:=4) tp T TZ E2.F DV)
  have DI:Cal P w K mg base 11 "in_room" ["program", "f", "room", "thing"] (yG tp 4):=E1.cal (zS (n:=4) tp T TZ E1.F Dpp Dpi Dfa DA Dpk)
  have DL:Cal P w K mg base 6 "_law_is_in" qi (lT tp 4):=E6.cal (qW tp T E6.F E6.b E6.m (E7.cal (lO tp T E7.F)) 4)
  exact uc tp T F DI DL
end
open PySem L2
theorem x1 (P:Params):DfE (HD.HK P) "is_whole" 22 dZ:=by kernel_rfl
theorem x2 (P:Params):DfE (HD.HK P) "is_between" 29 dD:=by kernel_rfl
theorem x3 (P:Params):DfE (HD.HK P) "is_sign_number" 36 cU:=by kernel_rfl
theorem x4 (P:Params):DfE (HD.HK P) "is_text" 41 eU:=by kernel_rfl
theorem x5 (P:Params):DfE (HD.HK P) "fields_of" 48 fV:=by kernel_rfl
theorem x6 (P:Params):DfE (HD.HK P) "field_kinds" 53 cZ:=by kernel_rfl
theorem x7 (P:Params):DfE (HD.HK P) "parts" 60 jK:=by kernel_rfl
theorem x8 (P:Params):DfE (HD.HK P) "function_of" 67 eu:=by kernel_rfl
theorem x9 (P:Params):DfE (HD.HK P) "is_value" 72 cV:=by kernel_rfl
theorem x10 (P:Params):DfE (HD.HK P) "are_values" 77 cz:=by kernel_rfl
theorem x11 (P:Params):DfE (HD.HK P) "flat_all" 84 fi:=by kernel_rfl
theorem x12 (P:Params):DfE (HD.HK P) "flat" 91 mZ:=by kernel_rfl
theorem x13 (P:Params):DfE (HD.HK P) "is_room" 98 gn:=by kernel_rfl
theorem x14 (P:Params):DfE (HD.HK P) "param_kinds" 103 cY:=by kernel_rfl
theorem x15 (P:Params):DfE (HD.HK P) "param_parts" 110 eC:=by kernel_rfl
theorem x16 (P:Params):DfE (HD.HK P) "is_part_in" 115 cO:=by kernel_rfl
theorem x17 (P:Params):DfE (HD.HK P) "in_room" 120 eM:=by kernel_rfl
theorem x18 (P:Params):DfE (HD.HK P) "_law_feed" 127 kZ:=by kernel_rfl
theorem x19 (P:Params):DfE (HD.HK P) "_law_draw" 134 jS:=by kernel_rfl
theorem x20 (P:Params):DfE (HD.HK P) "_law_headed" 139 cJ:=by kernel_rfl
theorem x21 (P:Params):DfE (HD.HK P) "_law_sorts" 144 eR:=by kernel_rfl
theorem x22 (P:Params):DfE (HD.HK P) "_law_put_together" 149 bP:=by kernel_rfl
theorem x23 (P:Params):DfE (HD.HK P) "_law_all" 154 gb:=by kernel_rfl
theorem x24 (P:Params):DfE (HD.HK P) "_law_size" 159 dY:=by kernel_rfl
theorem x25 (P:Params):DfE (HD.HK P) "_law_inputs" 164 cS:=by kernel_rfl
theorem x26 (P:Params):DfE (HD.HK P) "_law_many" 169 io:=by kernel_rfl
theorem x27 (P:Params):DfE (HD.HK P) "_law_room" 176 ld:=by kernel_rfl
theorem x28 (P:Params):DfE (HD.HK P) "_law_whole" 183 eT:=by kernel_rfl
theorem x29 (P:Params):DfE (HD.HK P) "_law_is_room" 188 dc:=by kernel_rfl
theorem x30 (P:Params):DfE (HD.HK P) "_law_is_in" 193 cK:=by kernel_rfl
theorem x31 (P:Params):DfE (HD.HK P) "_law_odd" 200 mN:=by kernel_rfl
theorem x32 (P:Params):DfE (HD.HK P) "_law_bent" 207 fQ:=by kernel_rfl
theorem x33 (P:Params):DfE (HD.HK P) "_law_right" 212 dH:=by kernel_rfl
theorem x34 (P:Params):DfE (HD.HK P) "law" 219 rh:=by kernel_rfl
theorem yg {l:PySem.W.OpenLaw} {w:World} {h:Heap} {mg:Str→Option Value} {fa:Addr} (X:(HD.HK w.params).In h) (G0:h.Ns mainGlobals mg) (hfa:mg "law"=some (.ref fa)) :
  ∃ fd:FuncData,(∀ (s:Shared) (v:Value),BindsTo s fd ⟨[v],[]⟩ [("_law_script",v)])∧∀ base:Heap,(HD.HK w.params).In base→base.Ns mainGlobals mg→aU l.prog w (HD.HK w.params) mg base CX0 13 fa fd ["_law_script"] (uf (HD.HK w.params)):=by
 have E1:=bv X G0 (ps:=["thing"]) (x1 _) fun _ _ _ _ _ _=>bl1 fun _=>rfl
 have E2:=bv X G0 (ps:=["thing", "least", "most"]) (x2 _) fun _ _ _ _ _ _=>bl3 fun _ _ _=>rfl
 have E3:=bv X G0 (ps:=["number"]) (x3 _) fun _ _ _ _ _ _=>bl1 fun _=>rfl
 have E4:=bv X G0 (ps:=["thing"]) (x4 _) fun _ _ _ _ _ _=>bl1 fun _=>rfl
 have E5:=bv X G0 (ps:=["program", "kind"]) (x5 _) fun _ _ _ _ _ _=>bl2 fun _ _=>rfl
 have E6:=bv X G0 (ps:=["program", "kind"]) (x6 _) fun _ _ _ _ _ _=>bl2 fun _ _=>rfl
 have E7:=bv X G0 (ps:=["program", "kind"]) (x7 _) fun _ _ _ _ _ _=>bl2 fun _ _=>rfl
 have E8:=bv X G0 (ps:=["program", "f"]) (x8 _) fun _ _ _ _ _ _=>bl2 fun _ _=>rfl
 have E9:=bv X G0 (ps:=["program", "kind", "thing"]) (x9 _) fun _ _ _ _ _ _=>bl3 fun _ _ _=>rfl
 have E10:=bv X G0 (ps:=["program", "kinds", "thing"]) (x10 _) fun _ _ _ _ _ _=>bl3 fun _ _ _=>rfl
 have E11:=bv X G0 (ps:=["program", "kinds", "values"]) (x11 _) fun _ _ _ _ _ _=>bl3 fun _ _ _=>rfl
 have E12:=bv X G0 (ps:=["program", "kind", "value"]) (x12 _) fun _ _ _ _ _ _=>bl3 fun _ _ _=>rfl
 have E13:=bv X G0 (ps:=["thing"]) (x13 _) fun _ _ _ _ _ _=>bl1 fun _=>rfl
 have E14:=bv X G0 (ps:=["program", "f"]) (x14 _) fun _ _ _ _ _ _=>bl2 fun _ _=>rfl
 have E15:=bv X G0 (ps:=["program", "f"]) (x15 _) fun _ _ _ _ _ _=>bl2 fun _ _=>rfl
 have E16:=bv X G0 (ps:=["room", "sort", "part"]) (x16 _) fun _ _ _ _ _ _=>bl3 fun _ _ _=>rfl
 have E17:=bv X G0 (ps:=["program", "f", "room", "thing"]) (x17 _) fun _ _ _ _ _ _=>bl4 fun _ _ _ _=>rfl
 have E18:=bv X G0 (ps:=["_law_script"]) (x18 _) fun _ _ _ _ _ _=>bl1 fun _=>rfl
 have E19:=bv X G0 (ps:=["_law_feed_here", "_law_many_here"]) (x19 _) fun _ _ _ _ _ _=>bl2 fun _ _=>rfl
 have E20:=bv X G0 (ps:=["_law_feed_here"]) (x20 _) fun _ _ _ _ _ _=>bl1 fun _=>rfl
 have E21:=bv X G0 (ps:=["_law_records", "_law_kind"]) (x21 _) fun _ _ _ _ _ _=>bl2 fun _ _=>rfl
 have E22:=bv X G0 (ps:=["_law_records", "_law_kind", "_law_pieces"]) (x22 _) fun _ _ _ _ _ _=>bl3 fun _ _ _=>rfl
 have E23:=bv X G0 (ps:=["_law_room_here", "_law_sort"]) (x23 _) fun _ _ _ _ _ _=>bl2 fun _ _=>rfl
 have E24:=bv X G0 (ps:=["_law_value"]) (x24 _) fun _ _ _ _ _ _=>bl1 fun _=>rfl
 have E25:=bv X G0 (ps:=["_law_program", "_law_f", "_law_room_here"]) (x25 _) fun _ _ _ _ _ _=>bl3 fun _ _ _=>rfl
 have E26:=bv X G0 (ps:=["_law_program", "_law_f", "_law_room_here"]) (x26 _) fun _ _ _ _ _ _=>bl3 fun _ _ _=>rfl
 have E27:=bv X G0 (ps:=["_law_feed_here", "_law_program", "_law_f", "_law_most"]) (x27 _) fun _ _ _ _ _ _=>bl4 fun _ _ _ _=>rfl
 have E28:=bv X G0 (ps:=["_law_thing"]) (x28 _) fun _ _ _ _ _ _=>bl1 fun _=>rfl
 have E29:=bv X G0 (ps:=["_law_thing"]) (x29 _) fun _ _ _ _ _ _=>bl1 fun _=>rfl
 have E30:=bv X G0 (ps:=["_law_records", "_law_room_here", "_law_kind", "_law_thing"]) (x30 _) fun _ _ _ _ _ _=>bl4 fun _ _ _ _=>rfl
 have E31:=bv X G0 (ps:=["_law_feed_here"]) (x31 _) fun _ _ _ _ _ _=>bl1 fun _=>rfl
 have E32:=bv X G0 (ps:=["_law_feed_here", "_law_thing", "_law_deep"]) (x32 _) fun _ _ _ _ _ _=>bl3 fun _ _ _=>rfl
 have E33:=bv X G0 (ps:=["_law_program", "_law_f", "_law_room_here", "_law_thing"]) (x33 _) fun _ _ _ _ _ _=>bl4 fun _ _ _ _=>rfl
 have E34:=bv X G0 (ps:=["_law_script"]) (x34 _) fun _ _ _ _ _ _=>bl1 fun _=>rfl
 have e:=hfa.symm.trans E34.m
 cases e
 have z:=fun x e=>mg_none_of (n:=x) X G0 e
 have T:K6.G0 mg:=⟨z _ (by kernel_rfl),z _ (by kernel_rfl),z _ (by kernel_rfl),z _ (by kernel_rfl),z _ (by kernel_rfl),z _ (by kernel_rfl),z _ (by kernel_rfl),z _ (by kernel_rfl),z _ (by kernel_rfl),z _ (by kernel_rfl),z _ (by kernel_rfl),z _ (by kernel_rfl)⟩
 have TZ:=z "zip" (by kernel_rfl)
 have TX:GX mg:=⟨z _ (by kernel_rfl),z _ (by kernel_rfl),z _ (by kernel_rfl),z _ (by kernel_rfl)⟩
 have TP:GPk (HD.HK w.params) mg:=mT X G0 (a:=15) (by kernel_rfl) (by decide)
 refine ⟨fdO (HD.HK w.params) 219 "law" rh,fun s v=>.of_eq rfl,fun base _ _=>?_⟩
 have D5:=E5.cal (base:=base) (P:=l.prog) (w:=w) (sY E5.F)
 have D6:=E6.cal (base:=base) (P:=l.prog) (w:=w) (wa E6.F D5)
 have D7:=E7.cal (base:=base) (P:=l.prog) (w:=w) (lP TP E7.F E7.b E7.m D5 4)
 have D8:=E8.cal (base:=base) (P:=l.prog) (w:=w) (zt E8.F)
 have D3:=E3.cal (base:=base) (P:=l.prog) (w:=w) (wz E3.F)
 have D14:=E14.cal (base:=base) (P:=l.prog) (w:=w) (zA E14.F D8)
 have D15:=E15.cal (base:=base) (P:=l.prog) (w:=w) (Aa (n:=4) E15.F D8 D7)
 have D16:=E16.cal (base:=base) (P:=l.prog) (w:=w) (zU T E16.F)
 have D12:=E12.cal (base:=base) (P:=l.prog) (w:=w) (mo T TZ TP E12.F E12.b E12.m E11.F E11.b E11.m D6 4)
 have D11:=E11.cal (base:=base) (P:=l.prog) (w:=w) (jp (n:=4) T TZ TP E11.F D12)
 have D13:=E13.cal (base:=base) (P:=l.prog) (w:=w) (oQ T E13.F E2 E1)
 have D29:=E29.cal (base:=base) (P:=l.prog) (w:=w) (ow T E29.F E28)
 have D33:=E33.cal (base:=base) (P:=l.prog) (w:=w) (sr T TZ E33.F E17 E10 E9 E1 E4 E30 E28 D15 D16 D11 D14 D3 D6)
 have D18:=E18.cal (base:=base) (P:=l.prog) (w:=w) (zj T E18.F)
 have D19:=E19.cal (base:=base) (P:=l.prog) (w:=w) (zO T E19.F)
 have D31:=E31.cal (base:=base) (P:=l.prog) (w:=w) (yq T E31.F D19)
 have D32:=E32.cal (base:=base) (P:=l.prog) (w:=w) (tE T E32.F E32.b E32.m D31 D19)
 have D21:=E21.cal (base:=base) (P:=l.prog) (w:=w) (lU T E21.F E21.b E21.m 4)
 have D22:=E22.cal (base:=base) (P:=l.prog) (w:=w) (rS T E22.F E22.b E22.m 4)
 have D23:=E23.cal (base:=base) (P:=l.prog) (w:=w) (xW T E23.F)
 have D24:=E24.cal (base:=base) (P:=l.prog) (w:=w) (wn T TX E24.F)
 have D26:=E26.cal (base:=base) (P:=l.prog) (w:=w) (wI T E26.F D21)
 have D25:=E25.cal (base:=base) (P:=l.prog) (w:=w) (sZ T TX E25.F D21 D23 D24 D22)
 have D27:=E27.cal (base:=base) (P:=l.prog) (w:=w) (wY T TX E27.F D26 D19)
 have D20:=E20.cal (base:=base) (P:=l.prog) (w:=w) (sX T E20.F D19)
 exact ya T E34.F D33 D31 D32 D19 D25 D29 D13 D27 D20 D18
theorem walk {l:PySem.W.OpenLaw} {q:Program} {loose:List Str} {XP:(Str→Option Value)→Heap→Prop} {YP:World→Heap→Prop} {d:DefRec} (hn:l.most=some 63) (hdf:d.params.defaults=[])
  (hY:∀ (w:World) (h:Heap),YP w h→(HD.HK w.params).In h) (hd:d.name = "law"):PySem.W.WalkO q loose XP YP l.row.toRowW d [] (fun f vs=>PySem.call f vs) :=
 L2.walk_of (K:=HD.HK) (n:=63) (k:=13) (x := "_law_script") (CX:=fun _=>CX0) (sp:=fun w=>uf (HD.HK w.params)) hn (by decide) hdf ⟨rfl,by decide,by decide,rfl⟩ hY (fun w mg fa h KX G hmg=>yg KX G (hd ▸ hmg)) (fun _ _ a ns hl _ hS=>⟨a,ns,rfl,hS,fun _=>rfl⟩) fun _ _ _ _ _ z=>z
end K6
open PySem PySem.W PyProof.Rows
set_option maxHeartbeats 0 in
theorem wD:PySem.Challenge.rw_everyfork_k23_rooms.wellSaid=true:=by
 unfold OpenLaw.wellSaid
 iterate 18 refine look_both ?_ (by decide +kernel)
 unfold OpenRow.wellSaid
 iterate 2 refine look_both ?_ (by decide +kernel)
 unfold OpenRow.partSaid
 iterate 13 refine look_both ?_ (by decide +kernel)
 unfold looksOpen
 iterate 5 refine look_both ?_ (by decide +kernel)
 decide +kernel
set_option maxRecDepth 100000 in
set_option maxHeartbeats 0 in
theorem PySem.Challenge.cw_everyfork_k23_rooms_holds : PySem.Challenge.rw_everyfork_k23_rooms.Holds := by
 refine holds_law wD fun said=>?_
 refine holds_open (q:=HD.qV) (loose:=HD.lo) (Xt:=HD.Xt) (XP:=XL HD.qV []) (Yf:=Hook.obs HD.hk) (Ya:=Hook.val HD.hk) (YP:=Hook.says HD.hk) (N:=5000) HD.left (Hook.of HD.hk) (Hook.keeps HD.hk)
  (fun s e=>xl_of s (Bool.and_eq_true_iff.mp e).1) XL.keeps (by rfl) (by rfl) (by rfl) (fun s e=>recFacts_of (Bool.and_eq_true_iff.mp e).2) (by rfl) said (by decide +kernel) ⟨rfl,rfl,rfl,rfl,rfl,by decide +kernel⟩ ?hw
  (K6.walk (l:=PySem.Challenge.rw_everyfork_k23_rooms) rfl rfl (fun w h Y=>kIn_of Y) rfl)
 case hw=>w_witness2